/- Package schema's checker: checkStates. -/
import Derived.Test.YtmbpclknhkbbkaaGreatB17
set_option linter.unusedSimpArgs false
set_option linter.unusedVariables false
set_option maxHeartbeats 4000000
set_option maxRecDepth 100000
namespace Go.Proofs.YtmbpclknhkbbkaaGreat
open Go.RowKit
def lastG (xs:List Sta):Nat→ByteArray→Option Int
 | 0=>fun _=>none
 | k+1=>match xs[k]? with|some x=>fun s=>if s=x.name then some (k:Int) else lastG xs k s|none=>lastG xs k
theorem lastG_lt (xs:List Sta):∀(k:Nat)(s:ByteArray)(j:Int),lastG xs k s=some j→0≤j∧j<k
 | 0,s,j,h=>by simp[lastG] at h
 | k+1,s,j,h=>by
  rw[lastG] at h
  cases hx:xs[k]? with
  | none=>
   rw[hx] at h
   have:=lastG_lt xs k s j h
   omega
  | some x=>
   rw[hx] at h
   simp only at h
   by_cases e:s=x.name
   ·rw[if_pos e] at h
    have:=Option.some.inj h
    omega
   ·rw[if_neg e] at h
    have:=lastG_lt xs k s j h
    omega
def stsE (hh:ByteArray→Bool)(wd:Rf→Int)(nb:ByteArray→Bool):List Sta→List ByteArray→Option (Int × ByteArray)
 |[],_=>none
 | x :: xs,seen=>if newE x.name seen≠0 then some (newE x.name seen,sWord++x.name) else if stateE hh wd nb x≠0 then some (stateE hh wd nb x,sWord++x.name) else stsE hh wd nb xs (x.name :: seen)
theorem sts_step {hh:ByteArray→Bool}{wd:Rf→Int}{nb:ByteArray→Bool}{xs:List Sta}{k:Nat}{x:Sta}(hk:xs[k]?=some x)(seen:List ByteArray):stsE hh wd nb (xs.drop k) seen=if newE x.name seen≠0 then some (newE x.name seen,sWord++x.name) else if stateE hh wd nb x≠0 then some (stateE hh wd nb x,sWord++x.name) else stsE hh wd nb (xs.drop (k+1)) (x.name :: seen):=by
 obtain⟨h,e⟩:=List.getElem?_eq_some_iff.1 hk
 rw[List.drop_eq_getElem_cons h,e,stsE]
def statesE (hh:ByteArray→Bool)(wd:Rf→Int)(xs:List Sta):Option (Int × ByteArray):=
 if 32<xs.length then some (74,⟨#[115,116,97,116,101]⟩) else match stsE hh wd (nextB (lastG xs xs.length)) xs [] with
  | some r=>some r
  | none=>loopsE (lastG xs xs.length) xs
theorem checkStates_any (w0 w:World)(cb hb wb m:Nat)(g:Rf→Option Int)(hns:List ByteArray)(v v0 v1 v3 v4 v5 ac tb:Value)(th:ByteArray)(xs:List Sta)(hr:StaRow w0 v xs)(hw:Below w0.heap.size w0 w)(hcb:w0.heap.size≤cb)
  (hB:Blk w cb (ChkC v0 v1 v v3 v4 v5 th (.map (some wb)) (.map (some hb)) ac tb) 110) (hH:SetT w hb hns) (hW:MapR w wb m g):
  Calls Tryz.prog 67 #[.pointer (some ⟨cb,0,none⟩)] w fun e w'=>Kept (fun k=>k=cb) w w'∧Fnd (statesE (hasT hns) (fun r=>(g r).getD 0) xs) e∧(e=.returned (.tuple #[])→∃ th',Blk w' cb (ChkC v0 v1 v v3 v4 v5 th' (.map (some wb)) (.map (some hb)) ac tb) 110):=by
 obtain⟨ad,cap,rfl,_⟩:=hr.1.slice
 have hlen:xs.length*104≤140737488351232:=hr.2
 have HR:Hid (StaRow w0 (.slice ad xs.length cap) xs):=hr
 have HW0:Hid (Bl w0 w):=hw
 have c6:=hB.cell 6 (v:=.string th) rfl
 have f6:=hB.frozen 6
 have hhb:hb≠cb:=fun e=>by
  subst e
  obtain⟨n,f,⟨f',⟨es,clock,h1,_⟩,_⟩,_⟩:=hH
  unfold Blk at hB;rw[h1] at hB;cases hB
 have hwb:wb≠cb:=fun e=>by
  subst e
  obtain⟨f',⟨es,clock,h1,_⟩,_⟩:=hW
  unfold Blk at hB;rw[h1] at hB;cases hB
 have HRR : Hid (statesE (hasT hns) (fun r => (g r).getD 0) xs = if 32 < xs.length then some (74, ⟨#[115, 116, 97, 116, 101]⟩) else match stsE (hasT hns) (fun r => (g r).getD 0) (nextB (lastG xs xs.length)) xs [] with
   | some r => some r
   | none => loopsE (lastG xs xs.length) xs) := rfl
 generalize statesE (hasT hns) (fun r=>(g r).getD 0) xs=R at*
 obtain⟨n,hn⟩:∃ n,n=xs.length:=⟨_,rfl⟩
 have HN:Hid (n=xs.length):=hn
 rw[← hn] at HR hlen HRR hB ⊢
 clear hn hr hw
 have HQ1:Hid (Blk (w.setCell ⟨cb,6,none⟩ (.string ⟨#[115,116,97,116,101]⟩)) cb (ChkC v0 v1 (.slice ad n cap) v3 v4 v5 ⟨#[115,116,97,116,101]⟩ (.map (some wb)) (.map (some hb)) ac tb) 110):=hB.set 6 (.string ⟨#[115,116,97,116,101]⟩)
 have HK1:Hid (Kept (fun k=>k=cb) w (w.setCell ⟨cb,6,none⟩ (.string ⟨#[115,116,97,116,101]⟩))):=Kept.set (S:=fun k=>k=cb) (Kept.refl _ _) rfl _
 have HH1:Hid (SetT (w.setCell ⟨cb,6,none⟩ (.string ⟨#[115,116,97,116,101]⟩)) hb hns):=hH.kept HK1.out hhb
 have HM1:Hid (MapR (w.setCell ⟨cb,6,none⟩ (.string ⟨#[115,116,97,116,101]⟩)) wb m g):=hW.kept HK1.out hwb
 have hcl:=hB.lt
 clear hB hH hW
 have hmm:=@run_makeMap Tryz.prog
 go_enter Tryz.func67,Tryz.ntmps67
 go_upto_region 1 with fail
 generalize (w.setCell ⟨cb,6,none⟩ (.string ⟨#[115,116,97,116,101]⟩))=W1 at HQ1 HK1 HH1 HM1 ⊢
 have d2:=HQ1.out.cell 2 (v:=.slice ad n cap) rfl
 have CN:Hid (∀ b r,Cs 145 #[.pointer (some ⟨cb,0,none⟩),.bool b,.int .i64 r] W1 fun e w'=>w'=W1∧((b=true∧e=.returned (.tuple #[]))∨(b=false∧e=.panicked [pf r ⟨#[115,116,97,116,101]⟩]))):=need_two (HQ1.out.cell 6 rfl)
 go_wp2_with fail
 refine(CN.out _ _).mono ?_
 rintro e w2 ⟨hw2,hh⟩
 obtain rfl:=Eq.symm hw2
 rcases hh with⟨hq,rfl⟩|⟨hq,rfl⟩
 case inr=>
  have HE:Hid (R=some (74,⟨#[115,116,97,116,101]⟩)):=by show _=_;rw[HRR.out,if_pos (by simp at hq;omega)]
  clear hq
  go_wp2
  exact⟨rfl,HK1.out,.inr ⟨_,_,HE.out,rfl⟩,fun h=>by cases h⟩
 case inl=>
  have hn32:n≤32:=by simp at hq;omega
  have HR2:Hid (R=match stsE (hasT hns) (fun r=>(g r).getD 0) (nextB (lastG xs n)) xs [] with|some r=>some r|none=>loopsE (lastG xs n) xs):=by show _=_;rw[HRR.out,if_neg (by omega)]
  clear hq HRR CN
  go_upto_region 4 with fail
  have HA:Hid (Bl W1 (W1.alloc (.map #[] 0))):=(Below.refl _ _).alloc (Nat.le_refl _) _
  have HT0:Hid (MapT (W1.alloc (.map #[] 0)) W1.heap.size 0 (lastG xs 0)):=MapT.new W1
  have hwl:=HK1.out.size
  have hcl1:=HQ1.out.lt
  have hhl:=HH1.out.lt
  have hml:=HM1.out.lt
  obtain⟨ab,hab⟩:∃ ab,ab=W1.heap.size:=⟨_,rfl⟩
  rw[← hab] at HT0 hwl hcl1 hhl hml ⊢
  generalize (W1.alloc (.map #[] 0))=W2 at HA HT0 ⊢
  have HQ2:Hid (Blk W2 cb (ChkC v0 v1 (.slice ad n cap) v3 v4 v5 ⟨#[115,116,97,116,101]⟩ (.map (some wb)) (.map (some hb)) ac tb) 110):=HQ1.out.below HA.out
  have HK2:Hid (Kept (fun k=>k=cb) w W2):=HK1.out.trans (Kept.of_below HA.out)
  have HH2:Hid (SetT W2 hb hns):=HH1.out.below HA.out
  have HM2:Hid (MapR W2 wb m g):=HM1.out.below HA.out
  clear hab HA HQ1 HK1 HH1 HM1 d2 c6 f6
  go_wp2_with fail
  go_loopw [25] (fun i wr=>∃(k:Nat) (m1:Nat),k≤n∧i=.int .i64 k∧Kept (fun k=>k=cb) w wr∧Blk wr cb (ChkC v0 v1 (.slice ad n cap) v3 v4 v5 ⟨#[115,116,97,116,101]⟩ (.map (some wb)) (.map (some hb)) ac tb) 110∧SetT wr hb hns∧MapR wr wb m g∧MapT wr ab m1 (lastG xs k)) (fun i _=>n - (intOf i).toNat)
  case atStart=>exact⟨0,0,by omega,rfl,HK2.out,HQ2.out,HH2.out,HM2.out,HT0.out⟩
  case round=>
   obtain⟨k,m1,hk,rfl,hkk,hq,hh,hm,ht⟩:=hrel
   have HK3:Hid (Kept (fun k=>k=cb) w wr):=hkk
   have HQ3:Hid (Blk wr cb (ChkC v0 v1 (.slice ad n cap) v3 v4 v5 ⟨#[115,116,97,116,101]⟩ (.map (some wb)) (.map (some hb)) ac tb) 110):=hq
   have HH3:Hid (SetT wr hb hns):=hh
   have HM3:Hid (MapR wr wb m g):=hm
   have HT3:Hid (MapT wr ab m1 (lastG xs k)):=ht
   have HBw0:Hid (Bl w0 wr):=HW0.out.trans (hkk.below HW0.out.size (fun k e=>by omega))
   have htl:=ht.lt
   clear hkk hq hh hm ht
   by_cases hlt:k<n
   ·obtain⟨y,hy⟩:=gE HN.out hlt
    obtain⟨b,o,cs,rfl,_,hcc,vc,rfl,hok,hcr⟩:=HR.out.1.at hy
    obtain⟨ca,cc,rfl,_⟩:=hcr.1.slice
    have q0:wr.cell? ⟨b,o+k*6,none⟩=some (.string y.name):=by have:=pres_below HBw0.out _ _ (hcc 0 _ rfl);simpa using this
    have q1:wr.cell? ⟨b,o+k*6+1,none⟩=some (.string y.header):=by have:=pres_below HBw0.out _ _ (hcc 1 _ rfl);simpa using this
    have q2:wr.cell? ⟨b,o+k*6+2,none⟩=some (.string y.on.head):=by have:=pres_below HBw0.out _ _ (hcc 2 _ rfl);simpa using this
    have q3:wr.cell? ⟨b,o+k*6+3,none⟩=some (.string y.on.name):=by have:=pres_below HBw0.out _ _ (hcc 3 _ rfl);simpa using this
    have q4:wr.cell? ⟨b,o+k*6+4,none⟩=some (.slice ca y.cases.length cc):=by have:=pres_below HBw0.out _ _ (hcc 4 _ rfl);simpa using this
    have q5:wr.cell? ⟨b,o+k*6+5,none⟩=some (.string y.next):=by have:=pres_below HBw0.out _ _ (hcc 5 _ rfl);simpa using this
    have HE1:Hid (lastG xs (k+1)=fun s=>if s=y.name then some (k:Int) else lastG xs k s):=by show _=_;rw[lastG,hy]
    clear hcc
    go_upto_region 7 with fail
    have HA:Hid (Bl wr (wr.alloc (.cells #[.string y.name,.string y.header,.string y.on.head,.string y.on.name,.slice ca y.cases.length cc,.string y.next] 98))):=(Below.refl _ _).alloc (Nat.le_refl _) _
    have HX:Hid (Blk (wr.alloc (.cells #[.string y.name,.string y.header,.string y.on.head,.string y.on.name,.slice ca y.cases.length cc,.string y.next] 98)) wr.heap.size #[.string y.name,.string y.header,.string y.on.head,.string y.on.name,.slice ca y.cases.length cc,.string y.next] 98):=Blk.new _ _ _
    generalize (wr.alloc _)=W3 at HA HX ⊢
    have HT4:Hid (MapT W3 ab m1 (lastG xs k)):=HT3.out.below HA.out
    have x0:=HX.out.cell 0 (v:=.string y.name) rfl
    obtain⟨W4,hput,ht4,hgr⟩:=HT4.out.put (s:=y.name) (c:=(k:Int)) hok.1
    have hk4:Kept (fun k=>k=ab) W3 W4:=⟨hgr.os,hgr.tape,hgr.output,hgr.size,fun k hk hs=>hgr.block k hk (fun e=>hs (Option.some.inj e))⟩
    have HK4:Hid (Kept (fun k=>k=cb) w W4):=Kept.new (HK3.out.trans (Kept.of_below HA.out)) hk4 hwl
    have HQ4:Hid (Blk W4 cb (ChkC v0 v1 (.slice (some ⟨b,o,none⟩) n cap) v3 v4 v5 ⟨#[115,116,97,116,101]⟩ (.map (some wb)) (.map (some hb)) ac tb) 110):=(HQ3.out.below HA.out).kept hk4 (by show ¬ _=_;omega)
    have HH4:Hid (SetT W4 hb hns):=(HH3.out.below HA.out).kept hk4 (by show ¬ _=_;omega)
    have HM4:Hid (MapR W4 wb m g):=(HM3.out.below HA.out).kept hk4 (by show ¬ _=_;omega)
    have HT5:Hid (MapT W4 ab (if(lastG xs k y.name).isSome=true then m1 else m1+1) (lastG xs (k+1))):=by show MapT _ _ _ _;rw[HE1.out];exact ht4
    clear q0 q1 q2 q3 q4 q5 ht4 hgr hk4 HT4 HX HA HQ3
    go_wp2
    exact⟨⟨k+1,_,by omega,by go_num,HK4.out,HQ4.out,HH4.out,HM4.out,HT5.out⟩,by simp only[intOf];omega⟩
   ·have e:k=n:=by omega
    subst e
    clear HQ2 HK2 HH2 HM2 HT0
    generalize hGA:lastG xs k=ga at*
    have HGA:Hid (∀ s j,ga s=some j→0≤j∧j<32):=by
     show ∀ s j,_→_
     intro s j h
     have:=lastG_lt xs k s j (by rw[hGA];exact h)
     omega
    clear hGA
    go_upto_region 10 with fail
    have HA:Hid (Bl wr (wr.alloc (.map #[] 0))):=(Below.refl _ _).alloc (Nat.le_refl _) _
    have HS0:Hid (SetT (wr.alloc (.map #[] 0)) wr.heap.size []):=SetT.new wr
    have hwl2:=HK3.out.size
    have hcl2:=HQ3.out.lt
    have hhl2:=HH3.out.lt
    have hml2:=HM3.out.lt
    obtain⟨sb,hsb⟩:∃ sb,sb=wr.heap.size:=⟨_,rfl⟩
    rw[← hsb] at HS0 hwl2 hcl2 hhl2 hml2 htl ⊢
    generalize (wr.alloc (.map #[] 0))=W3 at HA HS0 ⊢
    have HK4:Hid (Kept (fun k=>k=cb) w W3):=HK3.out.trans (Kept.of_below HA.out)
    have HQ4:Hid (Blk W3 cb (ChkC v0 v1 (.slice ad k cap) v3 v4 v5 ⟨#[115,116,97,116,101]⟩ (.map (some wb)) (.map (some hb)) ac tb) 110):=HQ3.out.below HA.out
    have HH4:Hid (SetT W3 hb hns):=HH3.out.below HA.out
    have HM4:Hid (MapR W3 wb m g):=HM3.out.below HA.out
    have HT4:Hid (MapT W3 ab m1 ga):=HT3.out.below HA.out
    clear hsb HA HK3 HQ3 HH3 HM3 HT3 HBw0 hmm
    have H0:Hid (stsE (hasT hns) (fun r=>(g r).getD 0) (nextB ga) (xs.drop 0) []=stsE (hasT hns) (fun r=>(g r).getD 0) (nextB ga) xs []):=rfl
    obtain⟨SE,hSE⟩:∃ SE,SE=stsE (hasT hns) (fun r=>(g r).getD 0) (nextB ga) xs []:=⟨_,rfl⟩
    rw[← hSE] at H0 HR2
    clear hSE
    go_wp2_with fail
    obtain⟨wo,hwo⟩:∃ wo,wo=wr:=⟨_,rfl⟩
    subst hwo
    go_loopw [38] (fun i wr=>∃(f:Nat) (seen:List ByteArray) (th':ByteArray),f≤k∧i=.int .i64 f∧Kept (fun k=>k=cb) w wr∧Blk wr cb (ChkC v0 v1 (.slice ad k cap) v3 v4 v5 th' (.map (some wb)) (.map (some hb)) ac tb) 110∧SetT wr hb hns∧MapR wr wb m g∧MapT wr ab m1 ga∧SetT wr sb seen∧stsE (hasT hns) (fun r=>(g r).getD 0) (nextB ga) (xs.drop f) seen=SE) (fun i _=>k - (intOf i).toNat)
    case atStart=>exact⟨0,[],_,by omega,rfl,HK4.out,HQ4.out,HH4.out,HM4.out,HT4.out,HS0.out,H0.out⟩
    case round=>
     obtain⟨f,seen,th',hf,rfl,hkk,hq,hh,hm,ht,hs,hd⟩:=hrel
     have HK3:Hid (Kept (fun k=>k=cb) w wr):=hkk
     have HQ3:Hid (Blk wr cb (ChkC v0 v1 (.slice ad k cap) v3 v4 v5 th' (.map (some wb)) (.map (some hb)) ac tb) 110):=hq
     have HH3:Hid (SetT wr hb hns):=hh
     have HM3:Hid (MapR wr wb m g):=hm
     have HT3:Hid (MapT wr ab m1 ga):=ht
     have HS3:Hid (SetT wr sb seen):=hs
     have HD3:Hid (stsE (hasT hns) (fun r=>(g r).getD 0) (nextB ga) (xs.drop f) seen=SE):=hd
     have HBw0:Hid (Bl w0 wr):=HW0.out.trans (hkk.below HW0.out.size (fun k e=>by omega))
     have hsl:=hs.lt
     clear hkk hq hh hm ht hs hd
     by_cases hflt:f<k
     ·obtain⟨y,hy⟩:=gE HN.out hflt
      obtain⟨b,o,cs,rfl,_,hcc,vc,rfl,hok,hcr⟩:=HR.out.1.at hy
      obtain⟨ca,cc,rfl,_⟩:=hcr.1.slice
      have HCR:Hid (CasRow w0 (.slice ca y.cases.length cc) y.cases):=hcr
      have q0:wr.cell? ⟨b,o+f*6,none⟩=some (.string y.name):=by have:=pres_below HBw0.out _ _ (hcc 0 _ rfl);simpa using this
      have q1:wr.cell? ⟨b,o+f*6+1,none⟩=some (.string y.header):=by have:=pres_below HBw0.out _ _ (hcc 1 _ rfl);simpa using this
      have q2:wr.cell? ⟨b,o+f*6+2,none⟩=some (.string y.on.head):=by have:=pres_below HBw0.out _ _ (hcc 2 _ rfl);simpa using this
      have q3:wr.cell? ⟨b,o+f*6+3,none⟩=some (.string y.on.name):=by have:=pres_below HBw0.out _ _ (hcc 3 _ rfl);simpa using this
      have q4:wr.cell? ⟨b,o+f*6+4,none⟩=some (.slice ca y.cases.length cc):=by have:=pres_below HBw0.out _ _ (hcc 4 _ rfl);simpa using this
      have q5:wr.cell? ⟨b,o+f*6+5,none⟩=some (.string y.next):=by have:=pres_below HBw0.out _ _ (hcc 5 _ rfl);simpa using this
      have HQ5:Hid (Blk wr cb (ChkC v0 v1 (.slice (some ⟨b,o,none⟩) k cap) v3 v4 v5 th' (.map (some wb)) (.map (some hb)) ac tb) 110):=HQ3.out
      have e6:=HQ5.out.cell 6 (v:=.string th') rfl
      have g6:=HQ5.out.frozen 6
      have hcl3:=HQ5.out.lt
      have hnm:y.name.size≤140737488351232:=hok.1
      clear hcc HQ3
      go_upto_region 14 with fail
      have HKz:Hid (Kept (fun k=>k=cb) wr ((wr.setCell ⟨cb,6,none⟩ (.string (⟨#[115,116,97,116,101,32]⟩++y.name))).alloc (.cells #[.string y.name,.string y.header,.string y.on.head,.string y.on.name,.slice ca y.cases.length cc,.string y.next] 98))):=Kept.alloc (Kept.set (S:=fun k=>k=cb) (Kept.refl _ _) rfl _) _
      have HQ6:Hid (Blk ((wr.setCell ⟨cb,6,none⟩ (.string (⟨#[115,116,97,116,101,32]⟩++y.name))).alloc (.cells #[.string y.name,.string y.header,.string y.on.head,.string y.on.name,.slice ca y.cases.length cc,.string y.next] 98)) cb (ChkC v0 v1 (.slice (some ⟨b,o,none⟩) k cap) v3 v4 v5 (sWord++y.name) (.map (some wb)) (.map (some hb)) ac tb) 110):=Blk.below (HQ5.out.set 6 (.string (sWord++y.name))) ((Below.refl _ _).alloc (Nat.le_refl _) _)
      have HX6:Hid (Blk ((wr.setCell ⟨cb,6,none⟩ (.string (⟨#[115,116,97,116,101,32]⟩++y.name))).alloc (.cells #[.string y.name,.string y.header,.string y.on.head,.string y.on.name,.slice ca y.cases.length cc,.string y.next] 98)) wr.heap.size #[.string y.name,.string y.header,.string y.on.head,.string y.on.name,.slice ca y.cases.length cc,.string y.next] 98):=by
       have:=Blk.new (wr.setCell ⟨cb,6,none⟩ (.string (⟨#[115,116,97,116,101,32]⟩++y.name))) #[.string y.name,.string y.header,.string y.on.head,.string y.on.name,.slice ca y.cases.length cc,.string y.next] 98
       rw[size_set] at this
       exact this
      generalize ((wr.setCell ⟨cb,6,none⟩ (.string (⟨#[115,116,97,116,101,32]⟩++y.name))).alloc (.cells #[.string y.name,.string y.header,.string y.on.head,.string y.on.name,.slice ca y.cases.length cc,.string y.next] 98))=W5 at HKz HQ6 HX6 ⊢
      have HK6:Hid (Kept (fun k=>k=cb) w W5):=HK3.out.trans HKz.out
      have HH6:Hid (SetT W5 hb hns):=HH3.out.kept HKz.out hhb
      have HM6:Hid (MapR W5 wb m g):=HM3.out.kept HKz.out hwb
      have HT6:Hid (MapT W5 ab m1 ga):=HT3.out.kept HKz.out (by show ¬ _=_;omega)
      have HS6:Hid (SetT W5 sb seen):=HS3.out.kept HKz.out (by show ¬ _=_;omega)
      obtain⟨xb,hxb⟩:∃ xb,xb=wr.heap.size:=⟨_,rfl⟩
      rw[← hxb] at HX6 hsl ⊢
      clear hxb q0 q1 q2 q3 q4 q5 e6 g6 HKz HK3 HQ5 HH3 HM3 HT3 HS3 HBw0
      have x0:=HX6.out.cell 0 (v:=.string y.name) rfl
      have CNN:Hid (Cs 146 #[.pointer (some ⟨cb,0,none⟩),.string y.name,.map (some sb)] W5 fun e w'=>Kept (fun k=>k=sb) W5 w'∧Res (newE y.name seen) (sWord++y.name) e∧(newE y.name seen=0→SetT w' sb (y.name :: seen))):=needNew_any HS6.out y.name hok.1 _ (HQ6.out.cell 6 rfl)
      have HD4:Hid ((if newE y.name seen≠0 then some (newE y.name seen,sWord++y.name) else if stateE (hasT hns) (fun r=>(g r).getD 0) (nextB ga) y≠0 then some (stateE (hasT hns) (fun r=>(g r).getD 0) (nextB ga) y,sWord++y.name) else stsE (hasT hns) (fun r=>(g r).getD 0) (nextB ga) (xs.drop (f+1)) (y.name :: seen))=SE):=by show _=_;rw[← HD3.out,sts_step hy]
      clear HD3
      go_wp2_with fail
      refine CNN.out.mono ?_
      rintro e W6 ⟨hk6,hres,hset⟩
      have HK7:Hid (Kept (fun k=>k=cb) w W6):=Kept.new HK6.out hk6 (by omega)
      have HQ7:Hid (Blk W6 cb (ChkC v0 v1 (.slice (some ⟨b,o,none⟩) k cap) v3 v4 v5 (sWord++y.name) (.map (some wb)) (.map (some hb)) ac tb) 110):=HQ6.out.kept hk6 (by show ¬ _=_;omega)
      have HX7:Hid (Blk W6 xb #[.string y.name,.string y.header,.string y.on.head,.string y.on.name,.slice ca y.cases.length cc,.string y.next] 98):=HX6.out.kept hk6 (by show ¬ _=_;omega)
      have HH7:Hid (SetT W6 hb hns):=HH6.out.kept hk6 (by show ¬ _=_;omega)
      have HM7:Hid (MapR W6 wb m g):=HM6.out.kept hk6 (by show ¬ _=_;omega)
      have HT7:Hid (MapT W6 ab m1 ga):=HT6.out.kept hk6 (by show ¬ _=_;omega)
      have HBw6:Hid (Bl w0 W6):=HW0.out.trans (HK7.out.below HW0.out.size (fun k e=>by omega))
      have HST:Hid (newE y.name seen=0→SetT W6 sb (y.name :: seen)):=hset
      clear hk6 hset CNN HK6 HQ6 HX6 HH6 HM6 HT6 HS6 x0
      rcases hres with⟨hE,rfl⟩|⟨hE,rfl⟩
      case inr=>
       have HE:Hid (R=some (newE y.name seen,sWord++y.name)):=by
        show _=_
        have h:=HD4.out
        rw[if_pos hE] at h
        rw[HR2.out,← h]
       clear hE
       go_wp2
       exact⟨rfl,HK7.out,.inr ⟨_,_,HE.out,rfl⟩,fun h=>by cases h⟩
      case inl=>
       have HS7:Hid (SetT W6 sb (y.name :: seen)):=HST.out hE
       have HD5:Hid ((if stateE (hasT hns) (fun r=>(g r).getD 0) (nextB ga) y≠0 then some (stateE (hasT hns) (fun r=>(g r).getD 0) (nextB ga) y,sWord++y.name) else stsE (hasT hns) (fun r=>(g r).getD 0) (nextB ga) (xs.drop (f+1)) (y.name :: seen))=SE):=by
        show _=_
        have h:=HD4.out
        rw[if_neg (by simpa using hE)] at h
        exact h
       have CS:Hid (Cs 150 #[.pointer (some ⟨cb,0,none⟩),.agg #[.string y.name,.string y.header,.string y.on.head,.string y.on.name,.slice ca y.cases.length cc,.string y.next],.map (some ab)] W6 fun e w'=>Bl W6 w'∧Res (stateE (hasT hns) (fun r=>(g r).getD 0) (nextB ga) y) (sWord++y.name) e):=checkState_any W6 cb hb wb ab m m1 g ga hns _ _ _ _ _ _ _ _ _ y _ ⟨_,rfl,hok,HCR.out.pres (pres_below HBw6.out)⟩ HQ7.out HH7.out HM7.out HT7.out
       generalize stateE (hasT hns) (fun r=>(g r).getD 0) (nextB ga) y=sE at*
       obtain⟨x0,x1,x2,x3,x4,x5⟩:=HX7.out.c6
       clear hE HST HD4
       go_wp2_with fail
       refine CS.out.mono ?_
       rintro e W7 ⟨hb7,hres⟩
       have HK8:Hid (Kept (fun k=>k=cb) w W7):=HK7.out.trans (Kept.of_below hb7)
       have HQ8:=hblk HQ7 hb7
       have HH8:Hid (SetT W7 hb hns):=HH7.out.below hb7
       have HM8:Hid (MapR W7 wb m g):=HM7.out.below hb7
       have HT8:Hid (MapT W7 ab m1 ga):=HT7.out.below hb7
       have HS8:Hid (SetT W7 sb (y.name :: seen)):=HS7.out.below hb7
       clear hb7 CS x0 x1 x2 x3 x4 x5
       rcases hres with⟨hE,rfl⟩|⟨hE,rfl⟩
       case inr=>
        have HE:Hid (R=some (sE,sWord++y.name)):=by
         show _=_
         have h:=HD5.out
         rw[if_pos hE] at h
         rw[HR2.out,← h]
        clear hE
        go_wp2
        exact⟨rfl,HK8.out,.inr ⟨_,_,HE.out,rfl⟩,fun h=>by cases h⟩
       case inl=>
        have HD6:Hid (stsE (hasT hns) (fun r=>(g r).getD 0) (nextB ga) (xs.drop (f+1)) (y.name :: seen)=SE):=by
         show _=_
         have h:=HD5.out
         rw[if_neg (by simpa using hE)] at h
         exact h
        clear hE HD5
        go_wp2
        exact⟨⟨f+1,_,_,by omega,by go_num,HK8.out,HQ8.out,HH8.out,HM8.out,HT8.out,HS8.out,HD6.out⟩,by simp only[intOf];omega⟩
     ·have e:f=k:=by omega
      subst e
      have HE0:Hid (R=loopsE ga xs):=by
       have h1:=HN.out
       have h2:=HD3.out
       rw[List.drop_of_length_le (by omega),stsE] at h2
       show _=_
       rw[HR2.out,← h2]
      have CL:Hid (Cs 151 #[.pointer (some ⟨cb,0,none⟩),.map (some ab)] wr fun e w'=>Kept (fun k=>k=cb) wr w'∧Fnd (loopsE ga xs) e∧(e=.returned (.tuple #[])→∃ th',Blk w' cb (ChkC v0 v1 (.slice ad f cap) v3 v4 v5 th' (.map (some wb)) (.map (some hb)) ac tb) 110)):=checkLoops_any w0 wr cb ab m1 ga _ _ _ _ _ _ _ _ _ _ _ xs (by have h:=HR.out;exact h) HBw0.out hcb (by rw[← HN.out];exact hn32) HQ3.out HT3.out HGA.out
      generalize loopsE ga xs=lE at*
      clear HD3 HR2
      go_wp2_with fail
      refine CL.out.mono ?_
      rintro e W7 ⟨hk7,hfd,hq7⟩
      have HK8:Hid (Kept (fun k=>k=cb) w W7):=HK3.out.trans hk7
      have HQ8:Hid (e=.returned (.tuple #[])→∃ th',Blk W7 cb (ChkC v0 v1 (.slice ad f cap) v3 v4 v5 th' (.map (some wb)) (.map (some hb)) ac tb) 110):=hq7
      clear hk7 hq7 CL
      rcases hfd with⟨hE,rfl⟩|⟨c,th2,hE,rfl⟩
      ·have HE:Hid (R=none):=by show _=_;rw[HE0.out,hE]
       clear hE
       go_wp2
       first|go_end0|refine bodyPost_ret (results_none rfl _ _ _) rfl ?_
       exact⟨HK8.out,.inl ⟨HE.out,rfl⟩,fun _=>HQ8.out (by trivial)⟩
      ·have HE:Hid (R=some (c,th2)):=by show _=_;rw[HE0.out,hE]
       clear hE
       go_wp2
       exact⟨rfl,HK8.out,.inr ⟨_,_,HE.out,rfl⟩,fun h=>by cases h⟩
end Go.Proofs.YtmbpclknhkbbkaaGreat
