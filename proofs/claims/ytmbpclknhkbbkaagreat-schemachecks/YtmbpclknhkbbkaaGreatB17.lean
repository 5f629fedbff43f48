/- Package schema's checker: checkLoops. -/
import Derived.Test.YtmbpclknhkbbkaaGreatB01
set_option linter.unusedSimpArgs false
set_option linter.unusedVariables false
set_option maxHeartbeats 4000000
set_option maxRecDepth 100000
namespace Go.Proofs.YtmbpclknhkbbkaaGreat
open Go.RowKit
def Mat (w:World)(b:Nat)(M:Nat→Nat→Bool):Prop:=∃ cs,Blk w b cs 232∧cs.size=1024∧∀ i j,i<32→j<32→cs[i*32+j]?=some (.bool (M i j))
def setM (M:Nat→Nat→Bool)(i j:Nat)(v:Bool):Nat→Nat→Bool:=fun a b=>if a=i∧b=j then v else M a b
theorem Mat.lt {w:World}{b:Nat}{M:Nat→Nat→Bool}(h:Mat w b M):b<w.heap.size:=by obtain⟨cs,h,_⟩:=h;exact h.lt
theorem Mat.kept {S:Nat→Prop}{w w':World}{b:Nat}{M:Nat→Nat→Bool}(h:Mat w b M)(hk:Kept S w w')(hb:¬ S b):Mat w' b M:=by obtain⟨cs,h,r⟩:=h;exact⟨cs,h.kept hk hb,r⟩
theorem Mat.below {w w':World}{b:Nat}{M:Nat→Nat→Bool}(h:Mat w b M)(hk:Below w.heap.size w w'):Mat w' b M:=by obtain⟨cs,h,r⟩:=h;exact⟨cs,h.below hk,r⟩
theorem Mat.get {w:World}{b:Nat}{M:Nat→Nat→Bool}(h:Mat w b M){i j:Nat}(hi:i<32)(hj:j<32):w.cell? ⟨b,i*32+j,none⟩=some (.bool (M i j)):=by obtain⟨cs,h,_,r⟩:=h;exact h.cell _ (r i j hi hj)
theorem Mat.frozen {w:World}{b:Nat}{M:Nat→Nat→Bool}(h:Mat w b M)(o:Nat):w.frozen? ⟨b,o,none⟩=false:=by obtain⟨cs,h,_⟩:=h;exact h.frozen _
theorem Mat.set {w:World}{b:Nat}{M:Nat→Nat→Bool}(h:Mat w b M){i j:Nat}(hi:i<32)(hj:j<32)(v:Bool):Mat (w.setCell ⟨b,i*32+j,none⟩ (.bool v)) b (setM M i j v):=by
 obtain⟨cs,h,hs,r⟩:=h
 refine⟨_,h.set _ _,by simpa using hs,fun a c ha hc=>?_⟩
 unfold setM
 by_cases e:a=i∧c=j
 ·obtain⟨rfl,rfl⟩:=e
  rw[if_pos ⟨rfl,rfl⟩,Array.getElem?_setIfInBounds_self_of_lt (by rw[hs];omega)]
 ·rw[if_neg e,Array.getElem?_setIfInBounds_ne (by omega)]
  exact r a c ha hc
def goF (g:ByteArray→Option Int)(i:Nat)(M:Nat→Nat→Bool)(nx:ByteArray):Nat→Nat→Bool:=match g nx with
 | some j=>setM M i j.toNat true
 | none=>M
theorem goesTo_any {w:World}{pb ib mb ab n i:Nat}{g:ByteArray→Option Int}{M:Nat→Nat→Bool}(hp:Blk w pb #[.map (some ab)] 108)(hi:Blk w ib #[.int .i64 i] 3)(hm:Mat w mb M)(hA:MapT w ab n g)(hil:i<32)(hg:∀ s j,g s=some j→0≤j∧j<32)(nx:ByteArray)(hn:Okt nx):
  Calls Tryz.prog 203 #[.string nx,.pointer (some ⟨pb,0,none⟩),.pointer (some ⟨mb,0,none⟩),.pointer (some ⟨ib,0,none⟩)] w fun e w'=>e=.returned (.tuple #[])∧Kept (fun k=>k=mb) w w'∧Mat w' mb (goF g i M nx):=by
 have p0:=hp.cell 0 (v:=.map (some ab)) rfl
 have i0:=hi.cell 0 (v:=.int .i64 i) rfl
 have L:=hA.look hn
 have HM:Hid (Mat w mb M):=hm
 have HG:Hid (goF g i M nx=match g nx with|some j=>setM M i j.toNat true|none=>M):=rfl
 have hgn:=hg nx
 generalize g nx=o at*
 cases o with
 | none=>
  simp only[Option.getD_none,Option.isSome_none] at L
  have HE:Hid (goF g i M nx=M):=HG.out
  clear hp hi hm hA hg hgn HG
  go_enter Tryz.func203,Tryz.ntmps203
  go_wp2
  first|go_end0|refine bodyPost_ret (results_none rfl _ _ _) rfl ?_
  exact⟨rfl,Kept.refl _ _,by rw[HE.out];exact HM.out⟩
 | some j=>
  obtain⟨h0,h1⟩:=hgn j rfl
  obtain⟨j,rfl⟩:=Int.eq_ofNat_of_zero_le h0
  simp only[Option.getD_some,Option.isSome_some] at L
  have hjl:j<32:=by omega
  have HE:Hid (goF g i M nx=setM M i j true):=HG.out
  have c0:=hm.get hil hjl
  have f0:=hm.frozen (i*32+j)
  have hi1:(i:Int)<32:=by omega
  have hj1:(j:Int)<32:=by omega
  have hi2:¬(i:Int)<0:=by omega
  have hj2:¬(j:Int)<0:=by omega
  clear hp hi hm hA hg hgn HG h0 h1
  generalize M i j=v at*
  go_enter Tryz.func203,Tryz.ntmps203
  go_wp2
  first|go_end0|refine bodyPost_ret (results_none rfl _ _ _) rfl ?_
  refine⟨rfl,Kept.set (S:=fun k=>k=mb) (Kept.refl _ _) rfl _,?_⟩
  rw[HE.out]
  exact HM.out.set hil hjl true
theorem zc232:Tryz.zeroCells232=Array.replicate 1024 (.bool false):=by kernel_rfl
theorem Mat.new (w:World):Mat (w.alloc (.cells Tryz.zeroCells232 232)) w.heap.size (fun _ _=>false):=by
 refine⟨_,Blk.new _ _ _,by rw[zc232];simp,fun i j hi hj=>?_⟩
 have:i*32+j<1024:=by omega
 rw[zc232];simp[this]
def cL (g:ByteArray→Option Int)(i:Nat)(cs:List Cas):Nat→(Nat→Nat→Bool)→Nat→Nat→Bool
 | 0,M=>M
 | k+1,M=>match cs[k]? with|some c=>goF g i (cL g i cs k M) c.next|none=>cL g i cs k M
def rowF (g:ByteArray→Option Int)(i:Nat)(x:Sta)(M:Nat→Nat→Bool):Nat→Nat→Bool:=goF g i (cL g i x.cases x.cases.length M) x.next
def eL (g:ByteArray→Option Int)(xs:List Sta):Nat→Nat→Nat→Bool
 | 0=>fun _ _=>false
 | k+1=>match xs[k]? with|some x=>rowF g k x (eL g xs k)|none=>eL g xs k
def stepW (k i j:Nat)(M:Nat→Nat→Bool):Nat→Nat→Bool:=setM M i j (M i j||(M i k&&M k j))
def jL (k i:Nat):Nat→(Nat→Nat→Bool)→Nat→Nat→Bool
 | 0,M=>M
 | j+1,M=>stepW k i j (jL k i j M)
def iL (n k:Nat):Nat→(Nat→Nat→Bool)→Nat→Nat→Bool
 | 0,M=>M
 | i+1,M=>jL k i n (iL n k i M)
def bL (n:Nat):Nat→(Nat→Nat→Bool)→Nat→Nat→Bool
 | 0,M=>M
 | k+1,M=>iL n k n (bL n k M)
def sWord:ByteArray:=⟨#[115,116,97,116,101,32]⟩
def firstL (M:Nat→Nat→Bool):List Sta→Nat→Option (Int × ByteArray)
 |[],_=>none
 | x :: xs,i=>if M i i=true then some (78,sWord++x.name) else firstL M xs (i+1)
theorem first_step {M:Nat→Nat→Bool}{xs:List Sta}{k:Nat}{x:Sta}(hk:xs[k]?=some x):firstL M (xs.drop k) k=if M k k=true then some (78,sWord++x.name) else firstL M (xs.drop (k+1)) (k+1):=by
 obtain⟨h,e⟩:=List.getElem?_eq_some_iff.1 hk
 rw[List.drop_eq_getElem_cons h,e,firstL]
def loopsE (g:ByteArray→Option Int)(xs:List Sta):Option (Int × ByteArray):=firstL (bL xs.length xs.length (eL g xs xs.length)) xs 0
theorem checkLoops_any (w0 w:World)(cb ab m:Nat)(g:ByteArray→Option Int)(v v0 v1 v3 v4 v5 wd hd ac tb:Value)(th:ByteArray)(xs:List Sta)(hr:StaRow w0 v xs)(hw:Below w0.heap.size w0 w)(hcb:w0.heap.size≤cb)(hn32:xs.length≤32)
  (hB:Blk w cb (ChkC v0 v1 v v3 v4 v5 th wd hd ac tb) 110) (hA:MapT w ab m g) (hg:∀ s j,g s=some j→0≤j∧j<32):
  Calls Tryz.prog 151 #[.pointer (some ⟨cb,0,none⟩),.map (some ab)] w fun e w'=>Kept (fun k=>k=cb) w w'∧Fnd (loopsE g xs) e∧(e=.returned (.tuple #[])→∃ th',Blk w' cb (ChkC v0 v1 v v3 v4 v5 th' wd hd ac tb) 110):=by
 obtain⟨ad,cap,rfl,_⟩:=hr.1.slice
 have HR:Hid (StaRow w0 (.slice ad xs.length cap) xs):=hr
 have HW0:Hid (Bl w0 w):=hw
 have HGm:Hid (∀ s j,g s=some j→0≤j∧j<32):=hg
 have HQw:Hid (Blk w cb (ChkC v0 v1 (.slice ad xs.length cap) v3 v4 v5 th wd hd ac tb) 110):=hB
 have HAw:Hid (MapT w ab m g):=hA
 have HLE:Hid (loopsE g xs=firstL (bL xs.length xs.length (eL g xs xs.length)) xs 0):=rfl
 generalize loopsE g xs=R at*
 obtain⟨n,hn⟩:∃ n,n=xs.length:=⟨_,rfl⟩
 have HN:Hid (n=xs.length):=hn
 rw[← hn] at HR HQw hn32 HLE ⊢
 clear hn hr hw hg hB hA
 have c2:=HQw.out.cell 2 (v:=.slice ad n cap) rfl
 have hcl:=HQw.out.lt
 have hmf:=mf
 go_enter Tryz.func151,Tryz.ntmps151
 go_upto_region 3 with fail
 have HA:Hid (Bl w ((w.alloc (.cells #[.map (some ab)] 108)).alloc (.cells Tryz.zeroCells232 232))):=((Below.refl _ _).alloc (Nat.le_refl _) _).alloc (by simp) _
 have HP:Hid (Blk ((w.alloc (.cells #[.map (some ab)] 108)).alloc (.cells Tryz.zeroCells232 232)) w.heap.size #[.map (some ab)] 108):=(Blk.new w _ 108).below ((Below.refl _ _).alloc (Nat.le_refl _) _)
 have HM:Hid (Mat ((w.alloc (.cells #[.map (some ab)] 108)).alloc (.cells Tryz.zeroCells232 232)) (w.heap.size+1) (eL g xs 0)):=by
  have:=Mat.new (w.alloc (.cells #[.map (some ab)] 108))
  show Mat _ _ (fun _ _=>false)
  simpa using this
 generalize ((w.alloc _).alloc _)=W0 at HA HP HM ⊢
 obtain⟨pb,hpb⟩:∃ pb,pb=w.heap.size:=⟨_,rfl⟩
 have hpw:w.heap.size≤pb:=by omega
 rw[← hpb] at HP HM hcl ⊢
 obtain⟨mb,hmb⟩:∃ mb,mb=pb+1:=⟨_,rfl⟩
 have hpm:pb<mb:=by omega
 rw[← hmb] at HM ⊢
 clear hpb hmb c2
 go_wp2_with fail
 -- the states' ways
 go_loopw [23] (fun i wr=>∃(k:Nat),k≤n∧i=.int .i64 k∧Below w.heap.size w wr∧Blk wr pb #[.map (some ab)] 108∧Mat wr mb (eL g xs k)) (fun i _=>n - (intOf i).toNat)
 case atStart=>exact⟨0,by omega,rfl,HA.out,HP.out,HM.out⟩
 case round=>
  obtain⟨k,hk,rfl,hb,hp,hm⟩:=hrel
  by_cases hlt:k<n
  ·have hbw0:Below w0.heap.size w0 wr:=HW0.out.trans (hb.mono HW0.out.size)
   obtain⟨y,hy⟩:=gE HN.out hlt
   obtain⟨b,o,cs,rfl,_,hcc,vc,rfl,hok,hcr⟩:=HR.out.1.at hy
   obtain⟨ca,cc,rfl,_⟩:=hcr.1.slice
   have q0:wr.cell? ⟨b,o+k*6,none⟩=some (.string y.name):=by have:=pres_below hbw0 _ _ (hcc 0 _ rfl);simpa using this
   have q1:wr.cell? ⟨b,o+k*6+1,none⟩=some (.string y.header):=by have:=pres_below hbw0 _ _ (hcc 1 _ rfl);simpa using this
   have q2:wr.cell? ⟨b,o+k*6+2,none⟩=some (.string y.on.head):=by have:=pres_below hbw0 _ _ (hcc 2 _ rfl);simpa using this
   have q3:wr.cell? ⟨b,o+k*6+3,none⟩=some (.string y.on.name):=by have:=pres_below hbw0 _ _ (hcc 3 _ rfl);simpa using this
   have q4:wr.cell? ⟨b,o+k*6+4,none⟩=some (.slice ca y.cases.length cc):=by have:=pres_below hbw0 _ _ (hcc 4 _ rfl);simpa using this
   have q5:wr.cell? ⟨b,o+k*6+5,none⟩=some (.string y.next):=by have:=pres_below hbw0 _ _ (hcc 5 _ rfl);simpa using this
   have hcl2:y.cases.length*48≤140737488351232:=hcr.2
   have HBr:Hid (Bl w wr):=hb
   have HPr:Hid (Blk wr pb #[.map (some ab)] 108):=hp
   have HMr:Hid (Mat wr mb (eL g xs k)):=hm
   have HCR:Hid (CasRow w0 (.slice ca y.cases.length cc) y.cases):=hcr
   have hml:=hm.lt
   have HE1:Hid (eL g xs (k+1)=rowF g k y (eL g xs k)):=by show _=_;rw[eL,hy]
   clear hb hp hm hcc hbw0 hcr
   go_upto_region 7 with fail
   have HAl:Hid (Bl wr ((wr.alloc (.cells #[.int .i64 (k:Int)] 3)).alloc (.cells #[.string y.name,.string y.header,.string y.on.head,.string y.on.name,.slice ca y.cases.length cc,.string y.next] 98))):=((Below.refl _ _).alloc (Nat.le_refl _) _).alloc (by simp) _
   have HI:Hid (Blk ((wr.alloc (.cells #[.int .i64 (k:Int)] 3)).alloc (.cells #[.string y.name,.string y.header,.string y.on.head,.string y.on.name,.slice ca y.cases.length cc,.string y.next] 98)) wr.heap.size #[.int .i64 (k:Int)] 3):=(Blk.new wr _ 3).below ((Below.refl _ _).alloc (Nat.le_refl _) _)
   have HX:Hid (Blk ((wr.alloc (.cells #[.int .i64 (k:Int)] 3)).alloc (.cells #[.string y.name,.string y.header,.string y.on.head,.string y.on.name,.slice ca y.cases.length cc,.string y.next] 98)) (wr.heap.size+1) #[.string y.name,.string y.header,.string y.on.head,.string y.on.name,.slice ca y.cases.length cc,.string y.next] 98):=by
    have:=Blk.new (wr.alloc (.cells #[.int .i64 (k:Int)] 3)) #[.string y.name,.string y.header,.string y.on.head,.string y.on.name,.slice ca y.cases.length cc,.string y.next] 98
    show Blk _ _ _ _
    simpa using this
   generalize ((wr.alloc _).alloc _)=W1 at HAl HI HX ⊢
   obtain⟨ib,hib⟩:∃ ib,ib=wr.heap.size:=⟨_,rfl⟩
   rw[← hib] at HI HX hml ⊢
   obtain⟨xb,hxb⟩:∃ xb,xb=ib+1:=⟨_,rfl⟩
   have hix:ib<xb:=by omega
   rw[← hxb] at HX ⊢
   have HB1:Hid (Bl w W1):=bst HBr.out HAl.out (Nat.le_refl _)
   have HP1:Hid (Blk W1 pb #[.map (some ab)] 108):=HPr.out.below HAl.out
   have HM1:Hid (Mat W1 mb (cL g k y.cases 0 (eL g xs k))):=HMr.out.below HAl.out
   clear hib hxb q0 q1 q2 q3 q4 q5 HBr HPr HMr HAl
   generalize hME:eL g xs k=ME at*
   clear hME
   have x4:=HX.out.cell 4 (v:=.slice ca y.cases.length cc) rfl
   obtain⟨cl,hcl⟩:∃ cl,cl=y.cases.length:=⟨_,rfl⟩
   have HCL:Hid (cl=y.cases.length):=hcl
   rw[← hcl] at x4 hcl2 HX HCR
   clear hcl
   go_wp2_with fail
   obtain⟨wo,hwo⟩:∃ wo,wo=wr:=⟨_,rfl⟩
   subst hwo
   go_loopw [32] (fun i wr=>∃(c:Nat),c≤cl∧i=.int .i64 c∧Below w.heap.size w wr∧Blk wr pb #[.map (some ab)] 108∧Blk wr ib #[.int .i64 (k:Int)] 3∧Blk wr xb #[.string y.name,.string y.header,.string y.on.head,.string y.on.name,.slice ca cl cc,.string y.next] 98∧Mat wr mb (cL g k y.cases c ME)) (fun i _=>cl - (intOf i).toNat)
   case atStart=>exact⟨0,by omega,rfl,HB1.out,HP1.out,HI.out,HX.out,HM1.out⟩
   case round=>
    obtain⟨c0,hc,rfl,hb,hp,hi,hx,hm⟩:=hrel
    have HB2:Hid (Bl w wr):=hb
    have HP2:Hid (Blk wr pb #[.map (some ab)] 108):=hp
    have HI2:Hid (Blk wr ib #[.int .i64 (k:Int)] 3):=hi
    have HX2:Hid (Blk wr xb #[.string y.name,.string y.header,.string y.on.head,.string y.on.name,.slice ca cl cc,.string y.next] 98):=hx
    have HM2:Hid (Mat wr mb (cL g k y.cases c0 ME)):=hm
    have HBw0:Hid (Bl w0 wr):=HW0.out.trans (hb.mono HW0.out.size)
    have hxl:=hx.lt
    have hml2:=hm.lt
    clear hb hp hi hx hm x4
    by_cases hclt:c0<cl
    ·obtain⟨c,hcy⟩:=gE HCL.out hclt
     obtain⟨b2,o2,cs,rfl,_,hcc,rfl,hy1,hy2,hy3⟩:=HCR.out.1.at hcy
     have q0:wr.cell? ⟨b2,o2+c0*5,none⟩=some (.int .u64 (hiOf c.value)):=by have:=pres_below HBw0.out _ _ (hcc 0 _ rfl);simpa using this
     have q1:wr.cell? ⟨b2,o2+c0*5+1,none⟩=some (.int .u64 (loOf c.value)):=by have:=pres_below HBw0.out _ _ (hcc 1 _ rfl);simpa using this
     have q2:wr.cell? ⟨b2,o2+c0*5+2,none⟩=some (.int .u64 (hiOf c.mask)):=by have:=pres_below HBw0.out _ _ (hcc 2 _ rfl);simpa using this
     have q3:wr.cell? ⟨b2,o2+c0*5+3,none⟩=some (.int .u64 (loOf c.mask)):=by have:=pres_below HBw0.out _ _ (hcc 3 _ rfl);simpa using this
     have q4:wr.cell? ⟨b2,o2+c0*5+4,none⟩=some (.string c.next):=by have:=pres_below HBw0.out _ _ (hcc 4 _ rfl);simpa using this
     clear hcc
     have HE2:Hid (cL g k y.cases (c0+1) ME=goF g k (cL g k y.cases c0 ME) c.next):=by show _=_;rw[cL,hcy]
     go_upto_region 10 with fail
     have HAl:Hid (Bl wr (wr.alloc (.cells #[.int .u64 (hiOf c.value),.int .u64 (loOf c.value),.int .u64 (hiOf c.mask),.int .u64 (loOf c.mask),.string c.next] 165))):=(Below.refl _ _).alloc (Nat.le_refl _) _
     have HC:Hid (Blk (wr.alloc (.cells #[.int .u64 (hiOf c.value),.int .u64 (loOf c.value),.int .u64 (hiOf c.mask),.int .u64 (loOf c.mask),.string c.next] 165)) wr.heap.size #[.int .u64 (hiOf c.value),.int .u64 (loOf c.value),.int .u64 (hiOf c.mask),.int .u64 (loOf c.mask),.string c.next] 165):=Blk.new _ _ _
     generalize (wr.alloc _)=W2 at HAl HC ⊢
     obtain⟨yb,hyb⟩:∃ yb,yb=wr.heap.size:=⟨_,rfl⟩
     rw[← hyb] at HC hxl hml2 ⊢
     clear hyb q0 q1 q2 q3 q4
     have HB3:Hid (Bl w W2):=bst HB2.out HAl.out (Nat.le_refl _)
     have HP3:Hid (Blk W2 pb #[.map (some ab)] 108):=HP2.out.below HAl.out
     have HI3:Hid (Blk W2 ib #[.int .i64 (k:Int)] 3):=HI2.out.below HAl.out
     have HX3:=HX2.out.below HAl.out
     have HX3:Hid (Blk W2 xb #[.string y.name,.string y.header,.string y.on.head,.string y.on.name,.slice (some ⟨b2,o2,none⟩) cl cc,.string y.next] 98):=HX3
     have HM3:Hid (Mat W2 mb (cL g k y.cases c0 ME)):=HM2.out.below HAl.out
     have e4:=HC.out.cell 4 (v:=.string c.next) rfl
     have CG:Hid (Cs 203 #[.string c.next,.pointer (some ⟨pb,0,none⟩),.pointer (some ⟨mb,0,none⟩),.pointer (some ⟨ib,0,none⟩)] W2 fun e w'=>e=.returned (.tuple #[])∧Kept (fun k=>k=mb) W2 w'∧Mat w' mb (goF g k (cL g k y.cases c0 ME) c.next)):=goesTo_any HP3.out HI3.out HM3.out (HAw.out.below HB3.out) (by omega) HGm.out c.next hy3
     clear HAl HB2 HP2 HI2 HX2 HM2
     go_wp2_with fail
     refine CG.out.mono ?_
     rintro e W3 ⟨rfl,hk3,hm3⟩
     have HB4:Hid (Bl w W3):=keptBelow HB3.out hk3 (by omega)
     have HP4:Hid (Blk W3 pb #[.map (some ab)] 108):=HP3.out.kept hk3 (by show ¬ _=_;omega)
     have HI4:Hid (Blk W3 ib #[.int .i64 (k:Int)] 3):=HI3.out.kept hk3 (by show ¬ _=_;omega)
     have HX4:Hid (Blk W3 xb #[.string y.name,.string y.header,.string y.on.head,.string y.on.name,.slice (some ⟨b2,o2,none⟩) cl cc,.string y.next] 98):=HX3.out.kept hk3 (by show ¬ _=_;omega)
     have HM4:Hid (Mat W3 mb (cL g k y.cases (c0+1) ME)):=by show Mat _ _ _;rw[HE2.out];exact hm3
     clear hk3 hm3 CG e4 HC
     go_wp2
     exact⟨⟨c0+1,by omega,by go_num,HB4.out,HP4.out,HI4.out,HX4.out,HM4.out⟩,by simp only[intOf];omega⟩
    ·have e:c0=cl:=by omega
     subst e
     have x5:=HX2.out.cell 5 (v:=.string y.next) rfl
     have CG:Hid (Cs 203 #[.string y.next,.pointer (some ⟨pb,0,none⟩),.pointer (some ⟨mb,0,none⟩),.pointer (some ⟨ib,0,none⟩)] wr fun e w'=>e=.returned (.tuple #[])∧Kept (fun k=>k=mb) wr w'∧Mat w' mb (goF g k (cL g k y.cases c0 ME) y.next)):=goesTo_any HP2.out HI2.out HM2.out (HAw.out.below HB2.out) (by omega) HGm.out y.next hok.2.2.2.2
     go_wp2_with fail
     refine CG.out.mono ?_
     rintro e W3 ⟨rfl,hk3,hm3⟩
     have HB4:Hid (Bl w W3):=keptBelow HB2.out hk3 (by omega)
     have HP4:Hid (Blk W3 pb #[.map (some ab)] 108):=HP2.out.kept hk3 (by show ¬ _=_;omega)
     have HM4:Hid (Mat W3 mb (eL g xs (k+1))):=by
      show Mat _ _ _
      rw[HE1.out]
      unfold rowF
      rw[← HCL.out]
      exact hm3
     clear hk3 hm3 CG x5
     go_wp2
     exact⟨⟨k+1,by omega,by go_num,HB4.out,HP4.out,HM4.out⟩,by simp only[intOf];omega⟩
  ·have e:k=n:=by omega
   subst e
   have HBr:Hid (Bl w wr):=hb
   have HM0:Hid (Mat wr mb (bL k 0 (eL g xs k))):=hm
   clear hb hp hm
   generalize hME:eL g xs k=ME at*
   have HLE2:Hid (R=firstL (bL k k ME) xs 0):=HLE.out
   clear hME HLE
   go_wp2_with fail
   obtain⟨wo,hwo⟩:∃ wo,wo=wr:=⟨_,rfl⟩
   subst hwo
   go_loopw [48] (fun i wr=>∃(c:Nat),c≤k∧i=.int .i64 c∧Below w.heap.size w wr∧Mat wr mb (bL k c ME)) (fun i _=>k - (intOf i).toNat)
   case atStart=>exact⟨0,by omega,rfl,HBr.out,HM0.out⟩
   case round=>
    obtain⟨c,hc,rfl,hb,hm⟩:=hrel
    have HB1:Hid (Bl w wr):=hb
    clear hb
    by_cases hclt:c<k
    ·have HM1:Hid (Mat wr mb (iL k c 0 (bL k c ME))):=hm
     clear hm
     have HE1:Hid (bL k (c+1) ME=iL k c k (bL k c ME)):=by show _=_;rw[bL]
     generalize bL k c ME=MB at*
     go_wp2_with fail
     obtain⟨wo2,hwo2⟩:∃ wo,wo=wr:=⟨_,rfl⟩
     subst hwo2
     go_loopw [53] (fun i wr=>∃(d:Nat),d≤k∧i=.int .i64 d∧Below w.heap.size w wr∧Mat wr mb (iL k c d MB)) (fun i _=>k - (intOf i).toNat)
     case atStart=>exact⟨0,by omega,rfl,HB1.out,HM1.out⟩
     case round=>
      obtain⟨d,hdk,rfl,hb,hm⟩:=hrel
      have HB2:Hid (Bl w wr):=hb
      clear hb
      by_cases hdlt:d<k
      ·have HM2:Hid (Mat wr mb (jL c d 0 (iL k c d MB))):=hm
       clear hm
       have HE2:Hid (iL k c (d+1) MB=jL c d k (iL k c d MB)):=by show _=_;rw[iL]
       generalize iL k c d MB=MI at*
       go_wp2_with fail
       obtain⟨wo3,hwo3⟩:∃ wo,wo=wr:=⟨_,rfl⟩
       subst hwo3
       go_loopw [58] (fun i wr=>∃(f:Nat),f≤k∧i=.int .i64 f∧Below w.heap.size w wr∧Mat wr mb (jL c d f MI)) (fun i _=>k - (intOf i).toNat)
       case atStart=>exact⟨0,by omega,rfl,HB2.out,HM2.out⟩
       case round=>
        obtain⟨f,hf,rfl,hb,hm⟩:=hrel
        have HB3:Hid (Bl w wr):=hb
        have HM3:Hid (Mat wr mb (jL c d f MI)):=hm
        have hml:=hm.lt
        clear hb
        by_cases hflt:f<k
        ·have HE3:Hid (jL c d (f+1) MI=setM (jL c d f MI) d f (jL c d f MI d f||(jL c d f MI d c&&jL c d f MI c f))):=by show _=_;rw[jL];rfl
         generalize jL c d f MI=MJ at*
         have c1:=hm.get (i:=d) (j:=f) (by omega) (by omega)
         have c2:=hm.get (i:=d) (j:=c) (by omega) (by omega)
         have c3:=hm.get (i:=c) (j:=f) (by omega) (by omega)
         have f1:=hm.frozen (d*32+f)
         have i1:(c:Int)<32:=by omega
         have i2:(d:Int)<32:=by omega
         have i3:(f:Int)<32:=by omega
         have i4:¬(c:Int)<0:=by omega
         have i5:¬(d:Int)<0:=by omega
         have i6:¬(f:Int)<0:=by omega
         have HF:Hid (∀(kq:Nat) (v:Bool),v=(MJ d f||(MJ d c&&MJ c f))→Bl w ((wr.drewN kq).setCell ⟨mb,d*32+f,none⟩ (.bool v))∧Mat ((wr.drewN kq).setCell ⟨mb,d*32+f,none⟩ (.bool v)) mb (jL c d (f+1) MI)):=by
          show ∀(kq:Nat) (v:Bool),_→_
          intro kq v hv
          refine⟨keptBelow (w:=w) (wr:=wr.drewN kq) (ab:=mb) ⟨HB3.out.os,HB3.out.tape,HB3.out.output,HB3.out.size,HB3.out.block⟩ (Kept.set (S:=fun k=>k=mb) (Kept.refl _ _) rfl _) (by omega),?_⟩
          rw[HE3.out,← hv]
          exact Mat.set (w:=wr.drewN kq) HM3.out (by omega) (by omega) v
         clear hm HE3 HM3 HB3
         generalize MJ d f=va at*
         generalize MJ d c=vb at*
         generalize MJ c f=vc at*
         go_upto_region 23 with fail
         cases va with
         | true=>
          refine region_last_lit (by kernel_rfl) (by kernel_rfl) (by kernel_rfl) rfl ?_
          simp only[swapLast,stand]
          repeat (go_big_quiet_step (fail))
          refine wpQuiet_nil ?_
          intro wq hwq
          obtain⟨kq,hwq⟩:=hwq
          subst hwq
          unfold Oper.wp
          go_simp
          have HG:Hid (Bl w ((wr.drewN kq).setCell ⟨mb,d*32+f,none⟩ (.bool true))∧Mat ((wr.drewN kq).setCell ⟨mb,d*32+f,none⟩ (.bool true)) mb (jL c d (f+1) MI)):=HF.out kq true rfl
          generalize ((wr.drewN kq).setCell ⟨mb,d*32+f,none⟩ (.bool true))=WQ at HG ⊢
          clear HF c1 c2 c3 f1
          go_wp2
          exact⟨⟨f+1,by omega,by go_num,HG.out.1,HG.out.2⟩,by simp only[intOf];omega⟩
         | false=>
          cases vb with
          | false=>
           refine region_last_lit (by kernel_rfl) (by kernel_rfl) (by kernel_rfl) rfl ?_
           simp only[swapLast,stand]
           repeat (go_big_quiet_step (fail))
           refine wpQuiet_nil ?_
           intro wq hwq
           obtain⟨kq,hwq⟩:=hwq
           subst hwq
           unfold Oper.wp
           go_simp
           have HG:Hid (Bl w ((wr.drewN kq).setCell ⟨mb,d*32+f,none⟩ (.bool false))∧Mat ((wr.drewN kq).setCell ⟨mb,d*32+f,none⟩ (.bool false)) mb (jL c d (f+1) MI)):=HF.out kq false rfl
           generalize ((wr.drewN kq).setCell ⟨mb,d*32+f,none⟩ (.bool false))=WQ at HG ⊢
           clear HF c1 c2 c3 f1
           go_wp2
           exact⟨⟨f+1,by omega,by go_num,HG.out.1,HG.out.2⟩,by simp only[intOf];omega⟩
          | true=>
           cases vc with
           | false=>
            refine region_last_lit (by kernel_rfl) (by kernel_rfl) (by kernel_rfl) rfl ?_
            simp only[swapLast,stand]
            repeat (go_big_quiet_step (fail))
            refine wpQuiet_nil ?_
            intro wq hwq
            obtain⟨kq,hwq⟩:=hwq
            subst hwq
            unfold Oper.wp
            go_simp
            have HG:Hid (Bl w ((wr.drewN kq).setCell ⟨mb,d*32+f,none⟩ (.bool false))∧Mat ((wr.drewN kq).setCell ⟨mb,d*32+f,none⟩ (.bool false)) mb (jL c d (f+1) MI)):=HF.out kq false rfl
            generalize ((wr.drewN kq).setCell ⟨mb,d*32+f,none⟩ (.bool false))=WQ at HG ⊢
            clear HF c1 c2 c3 f1
            go_wp2
            exact⟨⟨f+1,by omega,by go_num,HG.out.1,HG.out.2⟩,by simp only[intOf];omega⟩
           | true=>
            refine region_last_lit (by kernel_rfl) (by kernel_rfl) (by kernel_rfl) rfl ?_
            simp only[swapLast,stand]
            repeat (go_big_quiet_step (fail))
            refine wpQuiet_nil ?_
            intro wq hwq
            obtain⟨kq,hwq⟩:=hwq
            subst hwq
            unfold Oper.wp
            go_simp
            have HG:Hid (Bl w ((wr.drewN kq).setCell ⟨mb,d*32+f,none⟩ (.bool true))∧Mat ((wr.drewN kq).setCell ⟨mb,d*32+f,none⟩ (.bool true)) mb (jL c d (f+1) MI)):=HF.out kq true rfl
            generalize ((wr.drewN kq).setCell ⟨mb,d*32+f,none⟩ (.bool true))=WQ at HG ⊢
            clear HF c1 c2 c3 f1
            go_wp2
            exact⟨⟨f+1,by omega,by go_num,HG.out.1,HG.out.2⟩,by simp only[intOf];omega⟩
        ·have e:f=k:=by omega
         subst e
         have HM4:Hid (Mat wr mb (iL f c (d+1) MB)):=by show Mat _ _ _;rw[HE2.out];exact HM3.out
         clear hm HM3
         go_wp2
         exact⟨⟨d+1,by omega,by go_num,HB3.out,HM4.out⟩,by simp only[intOf];omega⟩
      ·have e:d=k:=by omega
       subst e
       have HM4:Hid (Mat wr mb (bL d (c+1) ME)):=by show Mat _ _ _;rw[HE1.out];exact hm
       clear hm
       go_wp2
       exact⟨⟨c+1,by omega,by go_num,HB2.out,HM4.out⟩,by simp only[intOf];omega⟩
    ·have e:c=k:=by omega
     subst e
     have HM1:Hid (Mat wr mb (bL c c ME)):=hm
     clear hm
     generalize bL c c ME=MF at*
     have HQ1:Hid (Blk wr cb (ChkC v0 v1 (.slice ad c cap) v3 v4 v5 th wd hd ac tb) 110):=HQw.out.below HB1.out
     have HK1:Hid (Kept (fun k=>k=cb) w wr):=Kept.of_below HB1.out
     have H0:Hid (firstL MF (xs.drop 0) 0=R):=by show _=_;rw[HLE2.out];rfl
     have hml:=HM1.out.lt
     clear HLE2
     go_wp2_with fail
     obtain⟨wo2,hwo2⟩:∃ wo,wo=wr:=⟨_,rfl⟩
     subst hwo2
     go_loopw [89] (fun i wr=>∃(f:Nat) (th':ByteArray),f≤c∧i=.int .i64 f∧Kept (fun k=>k=cb) w wr∧Mat wr mb MF∧Blk wr cb (ChkC v0 v1 (.slice ad c cap) v3 v4 v5 th' wd hd ac tb) 110∧firstL MF (xs.drop f) f=R) (fun i _=>c - (intOf i).toNat)
     case atStart=>exact⟨0,th,by omega,rfl,HK1.out,HM1.out,HQ1.out,H0.out⟩
     case round=>
      obtain⟨f,th',hf,rfl,hk1,hm,hq,hd1⟩:=hrel
      have HK2:Hid (Kept (fun k=>k=cb) w wr):=hk1
      have HM2:Hid (Mat wr mb MF):=hm
      have HD2:Hid (firstL MF (xs.drop f) f=R):=hd1
      have HBw0:Hid (Bl w0 wr):=HW0.out.trans (hk1.below HW0.out.size (fun k e=>by omega))
      have hsw:=hk1.size
      clear hk1 hm hd1
      by_cases hflt:f<c
      ·obtain⟨y,hy⟩:=gE HN.out hflt
       obtain⟨b,o,cs,rfl,_,hcc,vc,rfl,hok,hcr⟩:=HR.out.1.at hy
       obtain⟨ca,cc,rfl,_⟩:=hcr.1.slice
       have q0:wr.cell? ⟨b,o+f*6,none⟩=some (.string y.name):=by have:=pres_below HBw0.out _ _ (hcc 0 _ rfl);simpa using this
       have q1:wr.cell? ⟨b,o+f*6+1,none⟩=some (.string y.header):=by have:=pres_below HBw0.out _ _ (hcc 1 _ rfl);simpa using this
       have q2:wr.cell? ⟨b,o+f*6+2,none⟩=some (.string y.on.head):=by have:=pres_below HBw0.out _ _ (hcc 2 _ rfl);simpa using this
       have q3:wr.cell? ⟨b,o+f*6+3,none⟩=some (.string y.on.name):=by have:=pres_below HBw0.out _ _ (hcc 3 _ rfl);simpa using this
       have q4:wr.cell? ⟨b,o+f*6+4,none⟩=some (.slice ca y.cases.length cc):=by have:=pres_below HBw0.out _ _ (hcc 4 _ rfl);simpa using this
       have q5:wr.cell? ⟨b,o+f*6+5,none⟩=some (.string y.next):=by have:=pres_below HBw0.out _ _ (hcc 5 _ rfl);simpa using this
       have HQ2:Hid (Blk wr cb (ChkC v0 v1 (.slice (some ⟨b,o,none⟩) c cap) v3 v4 v5 th' wd hd ac tb) 110):=hq
       have e6:=HQ2.out.cell 6 (v:=.string th') rfl
       have g6:=HQ2.out.frozen 6
       have hcl2:=HQ2.out.lt
       have hnm:y.name.size≤140737488351232:=hok.1
       clear hcc hq
       go_upto_region 31 with fail
       have HQ3:Hid (Blk ((wr.setCell ⟨cb,6,none⟩ (.string (⟨#[115,116,97,116,101,32]⟩++y.name))).alloc (.cells #[.string y.name,.string y.header,.string y.on.head,.string y.on.name,.slice ca y.cases.length cc,.string y.next] 98)) cb (ChkC v0 v1 (.slice (some ⟨b,o,none⟩) c cap) v3 v4 v5 (sWord++y.name) wd hd ac tb) 110):=Blk.below (HQ2.out.set 6 (.string (sWord++y.name))) ((Below.refl _ _).alloc (Nat.le_refl _) _)
       have HK3:Hid (Kept (fun k=>k=cb) w ((wr.setCell ⟨cb,6,none⟩ (.string (⟨#[115,116,97,116,101,32]⟩++y.name))).alloc (.cells #[.string y.name,.string y.header,.string y.on.head,.string y.on.name,.slice ca y.cases.length cc,.string y.next] 98))):=Kept.alloc (Kept.set (S:=fun k=>k=cb) HK2.out rfl _) _
       have HM3:Hid (Mat ((wr.setCell ⟨cb,6,none⟩ (.string (⟨#[115,116,97,116,101,32]⟩++y.name))).alloc (.cells #[.string y.name,.string y.header,.string y.on.head,.string y.on.name,.slice ca y.cases.length cc,.string y.next] 98)) mb MF):=HM2.out.kept (S:=fun k=>k=cb) (Kept.alloc (Kept.set (S:=fun k=>k=cb) (Kept.refl _ _) rfl _) _) (by show ¬ _=_;omega)
       generalize ((wr.setCell ⟨cb,6,none⟩ (.string (⟨#[115,116,97,116,101,32]⟩++y.name))).alloc (.cells #[.string y.name,.string y.header,.string y.on.head,.string y.on.name,.slice ca y.cases.length cc,.string y.next] 98))=W3 at HQ3 HK3 HM3 ⊢
       clear q0 q1 q2 q3 q4 q5 e6 g6 HQ2 HK2 HM2
       have c1:=HM3.out.get (i:=f) (j:=f) (by omega) (by omega)
       have i1:(f:Int)<32:=by omega
       have i2:¬(f:Int)<0:=by omega
       have CN:Hid (∀ b r,Cs 145 #[.pointer (some ⟨cb,0,none⟩),.bool b,.int .i64 r] W3 fun e w'=>w'=W3∧((b=true∧e=.returned (.tuple #[]))∨(b=false∧e=.panicked [pf r (sWord++y.name)]))):=need_two (HQ3.out.cell 6 rfl)
       have HD3:Hid ((if MF f f=true then some (78,sWord++y.name) else firstL MF (xs.drop (f+1)) (f+1))=R):=by show _=_;rw[← HD2.out,first_step hy]
       clear HD2
       generalize MF f f=vf at*
       go_wp2_with fail
       refine(CN.out _ _).mono ?_
       rintro e w2 ⟨hw2,hh⟩
       obtain rfl:=Eq.symm hw2
       rcases hh with⟨hq,rfl⟩|⟨hq,rfl⟩
       case inr=>
        have hv:vf=true:=by simpa using hq
        have HE:Hid (R=some (78,sWord++y.name)):=by show _=_;rw[← HD3.out,if_pos hv]
        clear hq hv
        go_wp2
        exact⟨rfl,HK3.out,.inr ⟨_,_,HE.out,rfl⟩,fun h=>by cases h⟩
       case inl=>
        have hv:vf=false:=by simpa using hq
        have HE:Hid (firstL MF (xs.drop (f+1)) (f+1)=R):=by show _=_;rw[← HD3.out,if_neg (by rw[hv];decide)]
        clear hq hv
        go_wp2
        exact⟨⟨f+1,_,by omega,by go_num,HK3.out,HM3.out,HQ3.out,HE.out⟩,by simp only[intOf];omega⟩
      ·have e:f=c:=by omega
       subst e
       have HE:Hid (R=none):=by
        have h1:=HN.out
        have h2:=HD2.out
        rw[List.drop_of_length_le (by omega),firstL] at h2
        exact h2.symm
       have HQ2:Hid (Blk wr cb (ChkC v0 v1 (.slice ad f cap) v3 v4 v5 th' wd hd ac tb) 110):=hq
       clear hq HD2
       go_wp2
       first|go_end0|refine bodyPost_ret (results_none rfl _ _ _) rfl ?_
       exact⟨HK2.out,.inl ⟨HE.out,rfl⟩,fun _=>⟨th',HQ2.out⟩⟩
end Go.Proofs.YtmbpclknhkbbkaaGreat
