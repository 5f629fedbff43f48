/- Package schema's checker: checkActions. -/
import Derived.Test.YtmbpclknhkbbkaaGreatB28
set_option linter.unusedSimpArgs false
set_option linter.unusedVariables false
set_option maxHeartbeats 4000000
set_option maxRecDepth 100000
namespace Go.Proofs.YtmbpclknhkbbkaaGreat
open Go.RowKit
def aWord:ByteArray:=⟨#[97,99,116,105,111,110,32]⟩
def stpsE (hh:ByteArray→Bool)(W:Rf→Int)(ps:List Fld):List Stp→Int
 |[]=>0
 | x :: xs=>if stepE hh W ps x≠0 then stepE hh W ps x else stpsE hh W ps xs
theorem stps_step {hh:ByteArray→Bool}{W:Rf→Int}{ps:List Fld}{xs:List Stp}{k:Nat}{x:Stp}(hk:xs[k]?=some x):stpsE hh W ps (xs.drop k)=if stepE hh W ps x≠0 then stepE hh W ps x else stpsE hh W ps (xs.drop (k+1)):=by
 obtain⟨h,e⟩:=List.getElem?_eq_some_iff.1 hk
 rw[List.drop_eq_getElem_cons h,e,stpsE]
def actsE (hh:ByteArray→Bool)(W:Rf→Int):List Actn→List ByteArray→Option (Int × ByteArray)
 |[],_=>none
 | a :: l,seen=>
  if newE a.name seen≠0 then some (newE a.name seen,aWord++a.name)
  else if ¬(a.params.length≤8∧a.steps.length≤32) then some (74,aWord++a.name)
  else if fldsE a.params []≠0 then some (fldsE a.params [],aWord++a.name)
  else if stpsE hh W a.params a.steps≠0 then some (stpsE hh W a.params a.steps,aWord++a.name)
  else actsE hh W l (a.name :: seen)
theorem acts_step {hh:ByteArray→Bool}{W:Rf→Int}{l:List Actn}{i:Nat}{a:Actn}(hk:l[i]?=some a)(seen:List ByteArray):actsE hh W (l.drop i) seen=
  if newE a.name seen≠0 then some (newE a.name seen,aWord++a.name)
  else if ¬(a.params.length≤8∧a.steps.length≤32) then some (74,aWord++a.name)
  else if fldsE a.params []≠0 then some (fldsE a.params [],aWord++a.name)
  else if stpsE hh W a.params a.steps≠0 then some (stpsE hh W a.params a.steps,aWord++a.name)
  else actsE hh W (l.drop (i+1)) (a.name :: seen):=by
 obtain⟨h',e⟩:=List.getElem?_eq_some_iff.1 hk
 rw[List.drop_eq_getElem_cons h',e,actsE]
def actionsE (hh:ByteArray→Bool)(W:Rf→Int)(l:List Actn):Option (Int × ByteArray):=if 64<l.length then some (74,⟨#[97,99,116,105,111,110]⟩) else actsE hh W l []
theorem mapBlk {w:World}{b:Nat}{xs:List ByteArray}(h:SetT w b xs){cs:Array Value}{t:TypeId}{c:Nat}(hB:Blk w c cs t):b≠c:=fun e=>by
 subst e
 obtain⟨n,f,⟨f',⟨es,clock,h1,_⟩,_⟩,_⟩:=h
 unfold Blk at hB;rw[h1] at hB;cases hB
theorem mapBlkR {w:World}{b m:Nat}{g:Rf→Option Int}(h:MapR w b m g){cs:Array Value}{t:TypeId}{c:Nat}(hB:Blk w c cs t):b≠c:=fun e=>by
 subst e
 obtain⟨f',⟨es,clock,h1,_⟩,_⟩:=h
 unfold Blk at hB;rw[h1] at hB;cases hB
theorem checkActions_any (w0 w:World)(cb hb wb m:Nat)(g:Rf→Option Int)(hns:List ByteArray)(v v0 v1 v2 v4 v5 ac tb:Value)(th:ByteArray)(xs:List Actn)(hr:ActRow w0 v xs)(hw:Below w0.heap.size w0 w)(hcb:w0.heap.size≤cb)
  (hB:Blk w cb (ChkC v0 v1 v2 v v4 v5 th (.map (some wb)) (.map (some hb)) ac tb) 110) (hH:SetT w hb hns) (hW:MapR w wb m g):
  Calls Tryz.prog 68 #[.pointer (some ⟨cb,0,none⟩)] w fun e w'=>Kept (fun k=>k=cb) w w'∧Fnd (actionsE (hasT hns) (fun r=>(g r).getD 0) xs) e∧
   (e=.returned (.tuple #[])→∃ b th',w.heap.size≤b∧Blk w' cb (ChkC v0 v1 v2 v v4 v5 th' (.map (some wb)) (.map (some hb)) (.map (some b)) tb) 110∧SetT w' b (xs.map (·.name)).reverse):=by
 obtain⟨ad,cap,rfl,_⟩:=hr.1.slice
 have hlen:xs.length*64≤140737488351232:=hr.2
 have HR:Hid (ActRow w0 (.slice ad xs.length cap) xs):=hr
 have HW0:Hid (Bl w0 w):=hw
 have c6:=hB.cell 6 (v:=.string th) rfl
 have f6:=hB.frozen 6
 have hhb:hb≠cb:=mapBlk hH hB
 have hwb:wb≠cb:=mapBlkR hW hB
 have HRR:Hid (actionsE (hasT hns) (fun r=>(g r).getD 0) xs=if 64<xs.length then some (74,⟨#[97,99,116,105,111,110]⟩) else actsE (hasT hns) (fun r=>(g r).getD 0) xs []):=rfl
 generalize actionsE (hasT hns) (fun r=>(g r).getD 0) xs=R at*
 obtain⟨n,hn⟩:∃ n,n=xs.length:=⟨_,rfl⟩
 have HN:Hid (n=xs.length):=hn
 rw[← hn] at HR hlen HRR hB ⊢
 clear hn hr hw
 have HQ1:Hid (Blk (w.setCell ⟨cb,6,none⟩ (.string ⟨#[97,99,116,105,111,110]⟩)) cb (ChkC v0 v1 v2 (.slice ad n cap) v4 v5 ⟨#[97,99,116,105,111,110]⟩ (.map (some wb)) (.map (some hb)) ac tb) 110):=hB.set 6 (.string ⟨#[97,99,116,105,111,110]⟩)
 have HK1:Hid (Kept (fun k=>k=cb) w (w.setCell ⟨cb,6,none⟩ (.string ⟨#[97,99,116,105,111,110]⟩))):=Kept.set (S:=fun k=>k=cb) (Kept.refl _ _) rfl _
 have HH1:Hid (SetT (w.setCell ⟨cb,6,none⟩ (.string ⟨#[97,99,116,105,111,110]⟩)) hb hns):=hH.kept HK1.out hhb
 have HM1:Hid (MapR (w.setCell ⟨cb,6,none⟩ (.string ⟨#[97,99,116,105,111,110]⟩)) wb m g):=hW.kept HK1.out hwb
 have hcl:=hB.lt
 clear hB hH hW
 have hmm:=@run_makeMap Tryz.prog
 go_enter Tryz.func68,Tryz.ntmps68
 go_upto_region 1 with fail
 generalize (w.setCell ⟨cb,6,none⟩ (.string ⟨#[97,99,116,105,111,110]⟩))=W1 at HQ1 HK1 HH1 HM1 ⊢
 have d3:=HQ1.out.cell 3 (v:=.slice ad n cap) rfl
 have CN:Hid (∀ b r,Cs 145 #[.pointer (some ⟨cb,0,none⟩),.bool b,.int .i64 r] W1 fun e w'=>w'=W1∧((b=true∧e=.returned (.tuple #[]))∨(b=false∧e=.panicked [pf r ⟨#[97,99,116,105,111,110]⟩]))):=need_two (HQ1.out.cell 6 rfl)
 go_wp2_with fail
 refine(CN.out _ _).mono ?_
 rintro e w2 ⟨hw2,hh⟩
 obtain rfl:=Eq.symm hw2
 rcases hh with⟨hq,rfl⟩|⟨hq,rfl⟩
 case inr=>
  have HE:Hid (R=some (74,⟨#[97,99,116,105,111,110]⟩)):=by show _=_;rw[HRR.out,if_pos (by simp at hq;omega)]
  clear hq
  go_wp2
  exact⟨rfl,HK1.out,.inr ⟨_,_,HE.out,rfl⟩,fun h=>by cases h⟩
 case inl=>
  have hn64:n≤64:=by simp at hq;omega
  have H0:Hid (actsE (hasT hns) (fun r=>(g r).getD 0) (xs.drop 0) []=R):=by show _=_;rw[HRR.out,if_neg (by omega)];rfl
  clear hq HRR CN c6 f6
  have d9:=(HQ1.out.below ((Below.refl _ _).alloc (Nat.le_refl _) (.map #[] 0))).cell 9 (v:=ac) rfl
  have f9:=(HQ1.out.below ((Below.refl _ _).alloc (Nat.le_refl _) (.map #[] 0))).frozen 9
  have hlt:=HQ1.out.lt
  go_upto_region 3 with fail
  have HQ2:Hid (Blk ((W1.setCell ⟨cb,9,none⟩ (.map (some W1.heap.size))).alloc (.map #[] 0)) cb (ChkC v0 v1 v2 (.slice ad n cap) v4 v5 ⟨#[97,99,116,105,111,110]⟩ (.map (some wb)) (.map (some hb)) (.map (some W1.heap.size)) tb) 110):=Blk.below (HQ1.out.set 9 (.map (some W1.heap.size))) ((Below.refl _ _).alloc (Nat.le_refl _) _)
  have HS2:Hid (SetT ((W1.setCell ⟨cb,9,none⟩ (.map (some W1.heap.size))).alloc (.map #[] 0)) W1.heap.size []):=by
   have:=SetT.new (W1.setCell ⟨cb,9,none⟩ (.map (some W1.heap.size)))
   rw[size_set] at this
   exact this
  have HKz:Hid (Kept (fun k=>k=cb) W1 ((W1.setCell ⟨cb,9,none⟩ (.map (some W1.heap.size))).alloc (.map #[] 0))):=Kept.alloc (Kept.set (S:=fun k=>k=cb) (Kept.refl _ _) rfl _) _
  have hw1:=HK1.out.size
  have hhl:=HH1.out.lt
  have hml:=HM1.out.lt
  obtain⟨mb,hmb⟩:∃ mb,mb=W1.heap.size:=⟨_,rfl⟩
  rw[← hmb] at HQ2 HS2 HKz hlt hw1 hhl hml ⊢
  generalize ((W1.setCell ⟨cb,9,none⟩ (.map (some mb))).alloc (.map #[] 0))=W2 at HQ2 HS2 HKz ⊢
  have HK2:Hid (Kept (fun k=>k=cb) w W2):=HK1.out.trans HKz.out
  have HH2:Hid (SetT W2 hb hns):=HH1.out.kept HKz.out hhb
  have HM2:Hid (MapR W2 wb m g):=HM1.out.kept HKz.out hwb
  clear HQ1 HK1 HH1 HM1 HKz d3 d9 f9 hmb hmm
  have d3:=HQ2.out.cell 3 (v:=.slice ad n cap) rfl
  go_wp2_with fail
  go_loopw [28] (fun i wr=>∃(k:Nat) (seen:List ByteArray) (th':ByteArray),k≤n∧seen=((xs.take k).map (·.name)).reverse∧i=.int .i64 k∧Kept (fun k=>k=cb) w wr∧SetT wr mb seen∧Blk wr cb (ChkC v0 v1 v2 (.slice ad n cap) v4 v5 th' (.map (some wb)) (.map (some hb)) (.map (some mb)) tb) 110∧SetT wr hb hns∧MapR wr wb m g∧actsE (hasT hns) (fun r=>(g r).getD 0) (xs.drop k) seen=R) (fun i _=>n - (intOf i).toNat)
  case atStart=>exact⟨0,[],_,by omega,rfl,rfl,HK2.out,HS2.out,HQ2.out,HH2.out,HM2.out,H0.out⟩
  case round=>
   obtain⟨k,seen,th',hk,hsl,rfl,hkr,hset,hblk,hhd,hmr,hd⟩:=hrel
   have HK:Hid (Kept (fun k=>k=cb) w wr):=hkr
   have HS:Hid (SetT wr mb seen):=hset
   have HH:Hid (SetT wr hb hns):=hhd
   have HM:Hid (MapR wr wb m g):=hmr
   have HD:Hid (actsE (hasT hns) (fun r=>(g r).getD 0) (xs.drop k) seen=R):=hd
   have HBw0:Hid (Bl w0 wr):=HW0.out.trans (hkr.below HW0.out.size (fun k e=>by omega))
   have hmw:mb<wr.heap.size:=hset.lt
   have hsw:=hkr.size
   clear hkr hset hhd hmr hd
   by_cases hlt2:k<n
   ·obtain⟨y,hy⟩:=gE HN.out hlt2
    obtain⟨b,o,cs,rfl,_,hcc,vp,vs,rfl,hok,hpr,hsr⟩:=HR.out.1.at hy
    obtain⟨pa,pc,rfl,_⟩:=hpr.1.slice
    obtain⟨sa,sc,rfl,_⟩:=hsr.1.slice
    have q0:wr.cell? ⟨b,o+k*3,none⟩=some (.string y.name):=by have:=pres_below HBw0.out _ _ (hcc 0 _ rfl);simpa using this
    have q1:wr.cell? ⟨b,o+k*3+1,none⟩=some (.slice pa y.params.length pc):=by have:=pres_below HBw0.out _ _ (hcc 1 _ rfl);simpa using this
    have q2:wr.cell? ⟨b,o+k*3+2,none⟩=some (.slice sa y.steps.length sc):=by have:=pres_below HBw0.out _ _ (hcc 2 _ rfl);simpa using this
    have HQ:Hid (Blk wr cb (ChkC v0 v1 v2 (.slice (some ⟨b,o,none⟩) n cap) v4 v5 th' (.map (some wb)) (.map (some hb)) (.map (some mb)) tb) 110):=hblk
    have e6:=HQ.out.cell 6 (v:=.string th') rfl
    have g6:=HQ.out.frozen 6
    have hcl2:=HQ.out.lt
    have hnm:y.name.size≤140737488351232:=hok
    have HPR:Hid (FldRow w0 (.slice pa y.params.length pc) y.params):=hpr
    have HSR:Hid (StpRow w0 (.slice sa y.steps.length sc) y.steps):=hsr
    have hpl:y.params.length*24≤140737488351232:=hpr.2
    have hsl2:y.steps.length*144≤140737488351232:=hsr.2
    have HD1 : Hid ((if newE y.name seen ≠ 0 then some (newE y.name seen, aWord ++ y.name)
      else if ¬ (y.params.length ≤ 8 ∧ y.steps.length ≤ 32) then some (74, aWord ++ y.name)
      else if fldsE y.params [] ≠ 0 then some (fldsE y.params [], aWord ++ y.name)
      else if stpsE (hasT hns) (fun r => (g r).getD 0) y.params y.steps ≠ 0 then some (stpsE (hasT hns) (fun r => (g r).getD 0) y.params y.steps, aWord ++ y.name)
      else actsE (hasT hns) (fun r => (g r).getD 0) (xs.drop (k + 1)) (y.name :: seen)) = R) := by show _ = _; rw [← HD.out, acts_step hy]
    clear hcc hblk hpr hsr HD d3 HQ2 HK2 HS2 HH2 HM2
    go_upto_region 7 with fail
    have HKz:Hid (Kept (fun k=>k=cb) wr ((wr.setCell ⟨cb,6,none⟩ (.string (⟨#[97,99,116,105,111,110,32]⟩++y.name))).alloc (.cells #[.string y.name,.slice pa y.params.length pc,.slice sa y.steps.length sc] 65))):=Kept.alloc (Kept.set (S:=fun k=>k=cb) (Kept.refl _ _) rfl _) _
    have HQ1:Hid (Blk ((wr.setCell ⟨cb,6,none⟩ (.string (⟨#[97,99,116,105,111,110,32]⟩++y.name))).alloc (.cells #[.string y.name,.slice pa y.params.length pc,.slice sa y.steps.length sc] 65)) cb (ChkC v0 v1 v2 (.slice (some ⟨b,o,none⟩) n cap) v4 v5 (aWord++y.name) (.map (some wb)) (.map (some hb)) (.map (some mb)) tb) 110):=Blk.below (HQ.out.set 6 (.string (aWord++y.name))) ((Below.refl _ _).alloc (Nat.le_refl _) _)
    have HX1:Hid (Blk ((wr.setCell ⟨cb,6,none⟩ (.string (⟨#[97,99,116,105,111,110,32]⟩++y.name))).alloc (.cells #[.string y.name,.slice pa y.params.length pc,.slice sa y.steps.length sc] 65)) wr.heap.size #[.string y.name,.slice pa y.params.length pc,.slice sa y.steps.length sc] 65):=by
     have:=Blk.new (wr.setCell ⟨cb,6,none⟩ (.string (⟨#[97,99,116,105,111,110,32]⟩++y.name))) #[.string y.name,.slice pa y.params.length pc,.slice sa y.steps.length sc] 65
     rw[size_set] at this
     exact this
    generalize ((wr.setCell ⟨cb,6,none⟩ (.string (⟨#[97,99,116,105,111,110,32]⟩++y.name))).alloc (.cells #[.string y.name,.slice pa y.params.length pc,.slice sa y.steps.length sc] 65))=W at HKz HQ1 HX1 ⊢
    have HK1:Hid (Kept (fun k=>k=cb) w W):=HK.out.trans HKz.out
    have HS1:Hid (SetT W mb seen):=HS.out.kept HKz.out (by show ¬ _=_;omega)
    have HH1:Hid (SetT W hb hns):=HH.out.kept HKz.out hhb
    have HM1:Hid (MapR W wb m g):=HM.out.kept HKz.out hwb
    obtain⟨xb,hxb⟩:∃ xb,xb=wr.heap.size:=⟨_,rfl⟩
    rw[← hxb] at HX1 hmw hsw ⊢
    clear hxb q0 q1 q2 e6 g6 HKz HK HS HH HM HQ HBw0
    obtain⟨pl,hpl'⟩:∃ pl,pl=y.params.length:=⟨_,rfl⟩
    obtain⟨sl,hsl'⟩:∃ sl,sl=y.steps.length:=⟨_,rfl⟩
    have HPL:Hid (pl=y.params.length):=hpl'
    have HSL:Hid (sl=y.steps.length):=hsl'
    rw[← hpl'] at HX1 HPR hpl HD1 ⊢
    rw[← hsl'] at HX1 HSR hsl2 HD1 ⊢
    clear hpl' hsl'
    have r0:=HX1.out.cell 0 (v:=.string y.name) rfl
    have r9:=HQ1.out.cell 9 (v:=.map (some mb)) rfl
    have CNN:Hid (∀ k,Cs 146 #[.pointer (some ⟨cb,0,none⟩),.string y.name,.map (some mb)] (W.drewN k) fun e w'=>Kept (fun k=>k=mb) (W.drewN k) w'∧Res (newE y.name seen) (aWord++y.name) e∧(newE y.name seen=0→SetT w' mb (y.name :: seen))):=fun k=>needNew_any (w:=W.drewN k) HS1.out y.name hok _ (HQ1.out.cell 6 rfl)
    refine region_last_lit (by kernel_rfl) (by kernel_rfl) (by kernel_rfl) rfl ?_
    simp only[swapLast,stand]
    repeat (go_big_quiet_step (fail))
    refine wpQuiet_nil ?_
    intro wq hwq
    obtain⟨kq,hwq⟩:=hwq
    subst hwq
    unfold Oper.wp
    go_simp
    refine(CNN.out kq).mono ?_
    rintro e W3 ⟨hk3,hres,hset⟩
    have HK3:Hid (Kept (fun k=>k=cb) w W3):=Kept.new (HK1.out.drewN kq) hk3 (by omega)
    have HQ3:Hid (Blk W3 cb (ChkC v0 v1 v2 (.slice (some ⟨b,o,none⟩) n cap) v4 v5 (aWord++y.name) (.map (some wb)) (.map (some hb)) (.map (some mb)) tb) 110):=Blk.kept (w:=W.drewN kq) HQ1.out hk3 (by show ¬ _=_;omega)
    have HX3:Hid (Blk W3 xb #[.string y.name,.slice pa pl pc,.slice sa sl sc] 65):=Blk.kept (w:=W.drewN kq) HX1.out hk3 (by show ¬ _=_;omega)
    have HH3:Hid (SetT W3 hb hns):=SetT.kept (w:=W.drewN kq) HH1.out hk3 (by show ¬ _=_;omega)
    have HM3:Hid (MapR W3 wb m g):=MapR.kept (w:=W.drewN kq) HM1.out hk3 (by show ¬ _=_;omega)
    have HBw3:Hid (Bl w0 W3):=HW0.out.trans (HK3.out.below HW0.out.size (fun k e=>by omega))
    have HST:Hid (newE y.name seen=0→SetT W3 mb (y.name :: seen)):=hset
    clear hk3 hset CNN HK1 HQ1 HX1 HH1 HM1 HS1 r0 r9
    rcases hres with⟨hE,rfl⟩|⟨hE,rfl⟩
    case inr=>
     have HE:Hid (R=some (newE y.name seen,aWord++y.name)):=by
      show _=_
      have h:=HD1.out
      rw[if_pos hE] at h
      exact h.symm
     clear hE
     exact⟨rfl,HK3.out,.inr ⟨_,_,HE.out,rfl⟩,fun h=>by cases h⟩
    case inl=>
     have HS3:Hid (SetT W3 mb (y.name :: seen)):=HST.out hE
     have HD2 : Hid ((if ¬ (pl ≤ 8 ∧ sl ≤ 32) then some (74, aWord ++ y.name)
       else if fldsE y.params [] ≠ 0 then some (fldsE y.params [], aWord ++ y.name)
       else if stpsE (hasT hns) (fun r => (g r).getD 0) y.params y.steps ≠ 0 then some (stpsE (hasT hns) (fun r => (g r).getD 0) y.params y.steps, aWord ++ y.name)
       else actsE (hasT hns) (fun r => (g r).getD 0) (xs.drop (k + 1)) (y.name :: seen)) = R) := by
      show _=_
      have h:=HD1.out
      rw[if_neg (by simpa using hE)] at h
      exact h
     clear hE HST HD1
     have x1:=HX3.out.cell 1 (v:=.slice pa pl pc) rfl
     have x2:=HX3.out.cell 2 (v:=.slice sa sl sc) rfl
     have CN:Hid (∀ b r,Cs 145 #[.pointer (some ⟨cb,0,none⟩),.bool b,.int .i64 r] W3 fun e w'=>w'=W3∧((b=true∧e=.returned (.tuple #[]))∨(b=false∧e=.panicked [pf r (aWord++y.name)]))):=need_two (HQ3.out.cell 6 rfl)
     by_cases h8:pl≤8
     case neg=>
      have h8':decide ((pl:Int)≤8)=false:=by simp;omega
      have HE:Hid (R=some (74,aWord++y.name)):=by show _=_;rw[← HD2.out,if_pos (by omega)]
      clear h8 HD2
      go_wp2_with fail
      refine(CN.out _ _).mono ?_
      rintro e w2 ⟨hw2,hh⟩
      obtain rfl:=Eq.symm hw2
      rcases hh with⟨hq,rfl⟩|⟨hq,rfl⟩
      ·cases hq
      ·go_wp2
       exact⟨rfl,HK3.out,.inr ⟨_,_,HE.out,rfl⟩,fun h=>by cases h⟩
     case pos=>
      have h8':(pl:Int)≤8:=by omega
      go_wp2_with fail
      refine(CN.out _ _).mono ?_
      rintro e w2 ⟨hw2,hh⟩
      obtain rfl:=Eq.symm hw2
      rcases hh with⟨hq,rfl⟩|⟨hq,rfl⟩
      case inr=>
       have HE:Hid (R=some (74,aWord++y.name)):=by show _=_;rw[← HD2.out,if_pos (by simp at hq;omega)]
       clear hq
       go_wp2
       exact⟨rfl,HK3.out,.inr ⟨_,_,HE.out,rfl⟩,fun h=>by cases h⟩
      case inl=>
       have HD3 : Hid ((if fldsE y.params [] ≠ 0 then some (fldsE y.params [], aWord ++ y.name)
         else if stpsE (hasT hns) (fun r => (g r).getD 0) y.params y.steps ≠ 0 then some (stpsE (hasT hns) (fun r => (g r).getD 0) y.params y.steps, aWord ++ y.name)
         else actsE (hasT hns) (fun r => (g r).getD 0) (xs.drop (k + 1)) (y.name :: seen)) = R) := by
        show _=_
        have h:=HD2.out
        rw[if_neg (by simp at hq;omega)] at h
        exact h
       clear hq HD2 CN
       have CF:Hid (Cs 147 #[.pointer (some ⟨cb,0,none⟩),.slice pa pl pc] W3 fun e w'=>Bl W3 w'∧Res (fldsE y.params []) (aWord++y.name) e):=checkFields_any cb _ y.params _ (HPR.out.pres (pres_below HBw3.out)) _ (HQ3.out.cell 6 rfl)
       generalize fldsE y.params []=fe at*
       go_wp2_with fail
       refine CF.out.mono ?_
       rintro e W4 ⟨hb4,hres⟩
       have HK4:Hid (Kept (fun k=>k=cb) w W4):=HK3.out.trans (Kept.of_below hb4)
       have HQ4:=hblk HQ3 hb4
       have HX4:=hblk HX3 hb4
       have HH4:Hid (SetT W4 hb hns):=HH3.out.below hb4
       have HM4:Hid (MapR W4 wb m g):=HM3.out.below hb4
       have HS4:Hid (SetT W4 mb (y.name :: seen)):=HS3.out.below hb4
       clear hb4 CF x1 x2 HK3 HQ3 HX3 HH3 HM3 HS3 HBw3
       rcases hres with⟨hE,rfl⟩|⟨hE,rfl⟩
       case inr=>
        have HE:Hid (R=some (fe,aWord++y.name)):=by
         show _=_
         have h:=HD3.out
         rw[if_pos hE] at h
         exact h.symm
        clear hE
        go_wp2
        exact⟨rfl,HK4.out,.inr ⟨_,_,HE.out,rfl⟩,fun h=>by cases h⟩
       case inl=>
        have HD4 : Hid ((if stpsE (hasT hns) (fun r => (g r).getD 0) y.params y.steps ≠ 0 then some (stpsE (hasT hns) (fun r => (g r).getD 0) y.params y.steps, aWord ++ y.name)
          else actsE (hasT hns) (fun r => (g r).getD 0) (xs.drop (k + 1)) (y.name :: seen)) = R) := by
         show _=_
         have h:=HD3.out
         rw[if_neg (by simpa using hE)] at h
         exact h
        clear hE HD3
        have x1:=HX4.out.cell 1 (v:=.slice pa pl pc) rfl
        have x2:=HX4.out.cell 2 (v:=.slice sa sl sc) rfl
        have H0:Hid (stpsE (hasT hns) (fun r=>(g r).getD 0) y.params (y.steps.drop 0)=stpsE (hasT hns) (fun r=>(g r).getD 0) y.params y.steps):=rfl
        obtain⟨SE,hSE⟩:∃ SE,SE=stpsE (hasT hns) (fun r=>(g r).getD 0) y.params y.steps:=⟨_,rfl⟩
        rw[← hSE] at H0 HD4
        clear hSE
        go_wp2_with fail
        obtain⟨wo,hwo⟩:∃ wo,wo=wr:=⟨_,rfl⟩
        subst hwo
        go_loopw [65] (fun i wr=>∃(f:Nat),f≤sl∧i=.int .i64 f∧Kept (fun k=>k=cb) w wr∧Blk wr cb (ChkC v0 v1 v2 (.slice (some ⟨b,o,none⟩) n cap) v4 v5 (aWord++y.name) (.map (some wb)) (.map (some hb)) (.map (some mb)) tb) 110∧Blk wr xb #[.string y.name,.slice pa pl pc,.slice sa sl sc] 65∧SetT wr hb hns∧MapR wr wb m g∧SetT wr mb (y.name :: seen)∧stpsE (hasT hns) (fun r=>(g r).getD 0) y.params (y.steps.drop f)=SE) (fun i _=>sl - (intOf i).toNat)
        case atStart=>exact⟨0,by omega,rfl,HK4.out,HQ4.out,HX4.out,HH4.out,HM4.out,HS4.out,H0.out⟩
        case round=>
         obtain⟨f,hf,rfl,hkr,hq5,hx5,hh5,hm5,hs5,hd5⟩:=hrel
         have HK5:Hid (Kept (fun k=>k=cb) w wr):=hkr
         have HQ5:Hid (Blk wr cb (ChkC v0 v1 v2 (.slice (some ⟨b,o,none⟩) n cap) v4 v5 (aWord++y.name) (.map (some wb)) (.map (some hb)) (.map (some mb)) tb) 110):=hq5
         have HX5:Hid (Blk wr xb #[.string y.name,.slice pa pl pc,.slice sa sl sc] 65):=hx5
         have HH5:Hid (SetT wr hb hns):=hh5
         have HM5:Hid (MapR wr wb m g):=hm5
         have HS5:Hid (SetT wr mb (y.name :: seen)):=hs5
         have HD5:Hid (stpsE (hasT hns) (fun r=>(g r).getD 0) y.params (y.steps.drop f)=SE):=hd5
         have HBw5:Hid (Bl w0 wr):=HW0.out.trans (hkr.below HW0.out.size (fun k e=>by omega))
         have hxl5:=hx5.lt
         clear hkr hq5 hx5 hh5 hm5 hs5 hd5 x1 x2
         by_cases hflt:f<sl
         ·obtain⟨x,hx⟩:=gE HSL.out hflt
          obtain⟨b2,o2,cs,rfl,_,hcc,rfl,hxok⟩:=HSR.out.1.at hx
          have q0:wr.cell? ⟨b2,o2+f*12,none⟩=some (.int .i64 x.kind):=by have:=pres_below HBw5.out _ _ (hcc 0 _ rfl);simpa using this
          have q1:wr.cell? ⟨b2,o2+f*12+1,none⟩=some (.string x.to.head):=by have:=pres_below HBw5.out _ _ (hcc 1 _ rfl);simpa using this
          have q2:wr.cell? ⟨b2,o2+f*12+2,none⟩=some (.string x.to.name):=by have:=pres_below HBw5.out _ _ (hcc 2 _ rfl);simpa using this
          have q3:wr.cell? ⟨b2,o2+f*12+3,none⟩=some (.int .i64 x.op):=by have:=pres_below HBw5.out _ _ (hcc 3 _ rfl);simpa using this
          have q4:wr.cell? ⟨b2,o2+f*12+4,none⟩=some (.string x.a.ref.head):=by have:=pres_below HBw5.out _ _ (hcc 4 _ rfl);simpa using this
          have q5:wr.cell? ⟨b2,o2+f*12+5,none⟩=some (.string x.a.ref.name):=by have:=pres_below HBw5.out _ _ (hcc 5 _ rfl);simpa using this
          have q6:wr.cell? ⟨b2,o2+f*12+6,none⟩=some (.int .u64 (hiOf x.a.const)):=by have:=pres_below HBw5.out _ _ (hcc 6 _ rfl);simpa using this
          have q7:wr.cell? ⟨b2,o2+f*12+7,none⟩=some (.int .u64 (loOf x.a.const)):=by have:=pres_below HBw5.out _ _ (hcc 7 _ rfl);simpa using this
          have q8:wr.cell? ⟨b2,o2+f*12+8,none⟩=some (.string x.b.ref.head):=by have:=pres_below HBw5.out _ _ (hcc 8 _ rfl);simpa using this
          have q9:wr.cell? ⟨b2,o2+f*12+9,none⟩=some (.string x.b.ref.name):=by have:=pres_below HBw5.out _ _ (hcc 9 _ rfl);simpa using this
          have q10:wr.cell? ⟨b2,o2+f*12+10,none⟩=some (.int .u64 (hiOf x.b.const)):=by have:=pres_below HBw5.out _ _ (hcc 10 _ rfl);simpa using this
          have q11:wr.cell? ⟨b2,o2+f*12+11,none⟩=some (.int .u64 (loOf x.b.const)):=by have:=pres_below HBw5.out _ _ (hcc 11 _ rfl);simpa using this
          have HX6:Hid (Blk wr xb #[.string y.name,.slice pa pl pc,.slice (some ⟨b2,o2,none⟩) sl sc] 65):=HX5.out
          have HD6:Hid ((if stepE (hasT hns) (fun r=>(g r).getD 0) y.params x≠0 then stepE (hasT hns) (fun r=>(g r).getD 0) y.params x else stpsE (hasT hns) (fun r=>(g r).getD 0) y.params (y.steps.drop (f+1)))=SE):=by show _=_;rw[← HD5.out,stps_step hx]
          clear hcc HX5 HD5
          go_upto_region 13 with fail
          have HA:Hid (Bl wr (wr.alloc (.cells (StpC x) 167))):=(Below.refl _ _).alloc (Nat.le_refl _) _
          have HY:Hid (Blk (wr.alloc (.cells (StpC x) 167)) wr.heap.size (StpC x) 167):=Blk.new _ _ _
          generalize (wr.alloc _)=W5 at HA HY ⊢
          obtain⟨yb,hyb⟩:∃ yb,yb=wr.heap.size:=⟨_,rfl⟩
          rw[← hyb] at HY ⊢
          clear hyb q0 q1 q2 q3 q4 q5 q6 q7 q8 q9 q10 q11
          have HK7:Hid (Kept (fun k=>k=cb) w W5):=HK5.out.trans (Kept.of_below HA.out)
          have HQ7:Hid (Blk W5 cb (ChkC v0 v1 v2 (.slice (some ⟨b,o,none⟩) n cap) v4 v5 (aWord++y.name) (.map (some wb)) (.map (some hb)) (.map (some mb)) tb) 110):=HQ5.out.below HA.out
          have HX7:Hid (Blk W5 xb #[.string y.name,.slice pa pl pc,.slice (some ⟨b2,o2,none⟩) sl sc] 65):=HX6.out.below HA.out
          have HH7:Hid (SetT W5 hb hns):=HH5.out.below HA.out
          have HM7:Hid (MapR W5 wb m g):=HM5.out.below HA.out
          have HS7:Hid (SetT W5 mb (y.name :: seen)):=HS5.out.below HA.out
          have HBw7:Hid (Bl w0 W5):=HBw5.out.trans (HA.out.mono HBw5.out.size)
          obtain⟨y0,y1,y2,y3,y4,y5,y6,y7,y8,y9,y10,y11⟩:=HY.out.c12
          have x1:=HX7.out.cell 1 (v:=.slice pa pl pc) rfl
          have CS:Hid (Cs 152 #[.pointer (some ⟨cb,0,none⟩),.agg (StpC x),.slice pa pl pc] W5 fun e w'=>Bl W5 w'∧Res (stepE (hasT hns) (fun r=>(g r).getD 0) y.params x) (aWord++y.name) e):=checkStep_any W5 cb wb hb m g hns _ _ _ _ _ _ _ _ _ _ y.params x hxok (HPR.out.pres (pres_below HBw7.out)) HQ7.out HM7.out HH7.out
          clear HA HK5 HQ5 HX6 HH5 HM5 HS5 HBw5
          generalize stepE (hasT hns) (fun r=>(g r).getD 0) y.params x=sE at*
          go_wp2_with fail
          refine CS.out.mono ?_
          rintro e W6 ⟨hb6,hres⟩
          have HK8:Hid (Kept (fun k=>k=cb) w W6):=HK7.out.trans (Kept.of_below hb6)
          have HQ8:=hblk HQ7 hb6
          have HX8:=hblk HX7 hb6
          have HH8:Hid (SetT W6 hb hns):=HH7.out.below hb6
          have HM8:Hid (MapR W6 wb m g):=HM7.out.below hb6
          have HS8:Hid (SetT W6 mb (y.name :: seen)):=HS7.out.below hb6
          clear hb6 CS y0 y1 y2 y3 y4 y5 y6 y7 y8 y9 y10 y11 x1 HK7 HQ7 HX7 HH7 HM7 HS7 HBw7 HY
          rcases hres with⟨hE,rfl⟩|⟨hE,rfl⟩
          case inr=>
           have HE:Hid (R=some (sE,aWord++y.name)):=by
            show _=_
            have h:=HD6.out
            rw[if_pos hE] at h
            have h2:=HD4.out
            rw[← h,if_pos hE] at h2
            exact h2.symm
           clear hE
           go_wp2
           exact⟨rfl,HK8.out,.inr ⟨_,_,HE.out,rfl⟩,fun h=>by cases h⟩
          case inl=>
           have HD7:Hid (stpsE (hasT hns) (fun r=>(g r).getD 0) y.params (y.steps.drop (f+1))=SE):=by
            show _=_
            have h:=HD6.out
            rw[if_neg (by simpa using hE)] at h
            exact h
           clear hE HD6
           go_wp2
           exact⟨⟨f+1,by omega,by go_num,HK8.out,HQ8.out,HX8.out,HH8.out,HM8.out,HS8.out,HD7.out⟩,by simp only[intOf];omega⟩
         ·have e:f=sl:=by omega
          subst e
          have HE:Hid (R=actsE (hasT hns) (fun r=>(g r).getD 0) (xs.drop (k+1)) (y.name :: seen)):=by
           have h1:=HSL.out
           have h2:=HD5.out
           rw[List.drop_of_length_le (by omega),stpsE] at h2
           show _=_
           rw[← HD4.out,if_neg (by rw[← h2];simp)]
          have HT:Hid (y.name :: seen=((xs.take (k+1)).map (·.name)).reverse):=by
           show _=_
           rw[List.take_add_one,hy,hsl];simp
          clear HD5 HD4
          go_wp2
          exact⟨⟨k+1,y.name :: seen,_,by omega,HT.out,by go_num,HK5.out,HS5.out,HQ5.out,HH5.out,HM5.out,HE.out.symm⟩,by simp only[intOf];omega⟩
   ·have e:k=n:=by omega
    subst e
    have HE:Hid (R=none):=by
     have h1:=HN.out
     have h2:=HD.out
     rw[List.drop_of_length_le (by omega),actsE] at h2
     exact h2.symm
    have HS3:Hid (SetT wr mb (xs.map (·.name)).reverse):=by
     have:=HS.out
     rw[hsl,List.take_of_length_le (by rw[← HN.out];exact Nat.le_refl _)] at this
     exact this
    have HQ:Hid (Blk wr cb (ChkC v0 v1 v2 (.slice ad k cap) v4 v5 th' (.map (some wb)) (.map (some hb)) (.map (some mb)) tb) 110):=hblk
    clear hblk HD
    go_wp2
    first|go_end0|refine bodyPost_ret (results_none rfl _ _ _) rfl ?_
    exact⟨HK.out,.inl ⟨HE.out,rfl⟩,fun _=>⟨mb,th',hw1,HQ.out,HS3.out⟩⟩
end Go.Proofs.YtmbpclknhkbbkaaGreat
