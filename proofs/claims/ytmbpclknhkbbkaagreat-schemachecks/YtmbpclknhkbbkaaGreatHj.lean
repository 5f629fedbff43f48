/- The document's actions. -/
import Derived.Test.YtmbpclknhkbbkaaGreatHhz
import Derived.Test.YtmbpclknhkbbkaaGreatHcz
set_option linter.unusedSimpArgs false
set_option linter.unusedVariables false
set_option maxHeartbeats 8000000
set_option maxRecDepth 100000
namespace Go.Proofs.YtmbpclknhkbbkaaGreat
open Go.RowKit
def stpsD (s:Sch)(ps:List Fld):List Stp→Int
 |[]=>0
 | x :: xs=>if stepD s ps x≠0 then stepD s ps x else stpsD s ps xs
theorem stpsD_step {s:Sch}{ps:List Fld}{xs:List Stp}{k:Nat}{x:Stp}(hk:xs[k]?=some x):stpsD s ps (xs.drop k)=if stepD s ps x≠0 then stepD s ps x else stpsD s ps (xs.drop (k+1)):=by
 obtain⟨h,e⟩:=List.getElem?_eq_some_iff.1 hk
 rw[List.drop_eq_getElem_cons h,e,stpsD]
def actsD (s:Sch):List Actn→List ByteArray→Option (Int × ByteArray)
 |[],_=>none
 | a :: l,seen=>if newE a.name seen≠0 then some (newE a.name seen,aWord++a.name)
  else if ¬(a.params.length≤8∧a.steps.length≤32) then some (74,aWord++a.name)
  else if fldsE a.params []≠0 then some (fldsE a.params [],aWord++a.name)
  else if stpsD s a.params a.steps≠0 then some (stpsD s a.params a.steps,aWord++a.name)
  else actsD s l (a.name :: seen)
theorem actsD_step {s:Sch}{l:List Actn}{k:Nat}{a:Actn}(hk:l[k]?=some a)(seen:List ByteArray):actsD s (l.drop k) seen=if newE a.name seen≠0 then some (newE a.name seen,aWord++a.name)
  else if ¬(a.params.length≤8∧a.steps.length≤32) then some (74,aWord++a.name)
  else if fldsE a.params []≠0 then some (fldsE a.params [],aWord++a.name)
  else if stpsD s a.params a.steps≠0 then some (stpsD s a.params a.steps,aWord++a.name)
  else actsD s (l.drop (k+1)) (a.name :: seen):=by
 obtain⟨h,e⟩:=List.getElem?_eq_some_iff.1 hk
 rw[List.drop_eq_getElem_cons h,e,actsD]
def actionsD (s:Sch):Option (Int × ByteArray):=if 64<s.actions.length then some (74,⟨#[97,99,116,105,111,110]⟩) else actsD s s.actions []
theorem ractions_any (v:Value)(s:Sch)(w:World)(hs:SchIs w v s):Calls Tryz.prog 74 #[v] w fun e w'=>e=.returned (fndV (actionsD s))∧Below w.heap.size w w':=by
 obtain⟨v0,v1,v2,v3,v4,v5,rfl,_,_,_,h0,_⟩:=id hs
 obtain⟨ad,cap,rfl,_⟩:=h0.1.slice
 have hlen:s.actions.length*64≤140737488351232:=h0.2
 have H:Hid (Sb w w.heap.size v0 v1 v2 (.slice ad s.actions.length cap) v4 v5 s (w.alloc (.cells #[v0,v1,v2,.slice ad s.actions.length cap,v4,v5] 34))):=sb_new hs
 have HR:Hid (ActRow w (.slice ad s.actions.length cap) s.actions):=h0
 clear hs h0
 have HE:Hid (actionsD s=if 64<s.actions.length then some (74,⟨#[97,99,116,105,111,110]⟩) else actsD s s.actions []):=rfl
 generalize actionsD s=R at*
 obtain⟨n,hn⟩:∃ n,n=s.actions.length:=⟨_,rfl⟩
 have HL:Hid (n=s.actions.length):=hn
 rw[← hn] at H HR HE hlen ⊢
 clear hn
 go_enter Tryz.func74,Tryz.ntmps74
 go_upto_region 1 with fail
 generalize (w.alloc _)=W0 at H ⊢
 obtain⟨xb,hxb⟩:∃ xb,xb=w.heap.size:=⟨_,rfl⟩
 rw[← hxb] at H ⊢
 clear hxb
 obtain⟨_,_,_,x3,_⟩:=H.out.c
 by_cases h64:64<n
 ·have h':decide ((64:Int)<n)=true:=decide_eq_true (by omega)
  rw[if_pos h64] at HE
  go_wp2
  refine bodyPost_ret (v:=.tuple #[.int .i64 74,.string ⟨#[97,99,116,105,111,110]⟩]) (by simp[results,Tryz.results74,go_sem]) rfl ⟨by rw[HE.out];rfl,H.out.bel⟩
 have h':decide ((64:Int)<n)=false:=decide_eq_false (by omega)
 have H0:Hid (actsD s (s.actions.drop 0) (snN (·.name) s.actions 0)=R):=by show _=_;rw[HE.out,if_neg h64];rfl
 clear HE
 go_wp2_with fail
 clear x3
 go_loopw [4] (fun i wr=>∃ k:Nat,k≤n∧i=.int .i64 k∧Aside (Sb w xb v0 v1 v2 (.slice ad n cap) v4 v5 s wr)∧Aside (actsD s (s.actions.drop k) (snN (·.name) s.actions k)=R)) (fun i _=>n - (intOf i).toNat)
 case atStart=>exact⟨0,by omega,rfl,H.out,H0.out⟩
 case round=>
  clear H0 H
  obtain⟨k,hk,rfl,hS,hd⟩:=hrel
  have H:Hid (Sb w xb v0 v1 v2 (.slice ad n cap) v4 v5 s wr):=hS.out
  have HD:Hid (actsD s (s.actions.drop k) (snN (·.name) s.actions k)=R):=hd.out
  clear hS hd
  obtain⟨_,_,_,x3,_⟩:=H.out.c
  by_cases hlt:k<n
  ·obtain⟨y,hy⟩:=gE HL.out hlt
   obtain⟨b,o,cs,rfl,_,hc,hI⟩:=HR.out.1.at hy
   obtain⟨fv,sv,rfl,hok,hfr,hsr⟩:=hI
   obtain⟨fa,fc,rfl,hfc⟩:=hfr.1.slice
   obtain⟨pa,pc,rfl,hpc⟩:=hsr.1.slice
   have HF:Hid (FldRow w (.slice fa y.params.length fc) y.params):=hfr
   have HP:Hid (StpRow w (.slice pa y.steps.length pc) y.steps):=hsr
   have hnm:y.name.size≤140737488351232:=hok
   have hpl:y.steps.length*144≤140737488351232:=by have:=hsr.2;unfold Len at this;omega
   have HS : Hid (R = if newE y.name (snN (·.name) s.actions k) ≠ 0 then some (newE y.name (snN (·.name) s.actions k), aWord ++ y.name)
 else if ¬ (y.params.length ≤ 8 ∧ y.steps.length ≤ 32) then some (74, aWord ++ y.name)
 else if fldsE y.params [] ≠ 0 then some (fldsE y.params [], aWord ++ y.name)
 else if stpsD s y.params y.steps ≠ 0 then some (stpsD s y.params y.steps, aWord ++ y.name)
 else actsD s (s.actions.drop (k + 1)) (snN (·.name) s.actions (k + 1))) := by
    show _=_
    rw[← HD.out,actsD_step hy,sn_succ hy]
   have HW:Hid (newE y.name (snN (·.name) s.actions k)=if nameB y.name.data.toList=false then 70 else if decide (actAt s y.name<(k:Int))=true then 71 else 0):=by
    show _=_
    unfold newE actAt
    rw[idx_seen (fun y:Actn=>y.name) hy]
   have CN:Hid (∀ V,Cs 18 #[.string y.name] V fun e w'=>e=.returned (.bool (nameB y.name.data.toList))∧w'=V):=fun V=>risName_any y.name hok V
   have CFd:Hid (∀ V,Bl w V→Cs 157 #[.slice fa y.params.length fc] V fun e w'=>e=.returned (.int .i64 (fldsE y.params []))∧Bl V w'):=fun V h=>rfields_any _ y.params V (HF.out.pres (pres_below h))
   have CS:Hid (∀ V x,Sb w xb v0 v1 v2 (.slice (some ⟨b,o,none⟩) n cap) v4 v5 s V→StpOk x→Cs 161 #[.agg #[v0,v1,v2,.slice (some ⟨b,o,none⟩) n cap,v4,v5],.slice fa y.params.length fc,.agg (StpC x)] V fun e w'=>e=.returned (.int .i64 (stepD s y.params x))∧Bl V w'):=fun V x h hx=>rstep_any _ s _ y.params x V h.sch (HF.out.pres (pres_below h.bel)) hx
   have q0:wr.cell? ⟨b,o+k*3,none⟩=some (.string y.name):=by have:=pres_below H.out.bel _ _ (hc 0 _ rfl);simpa using this
   have q1:wr.cell? ⟨b,o+k*3+1,none⟩=some (.slice fa y.params.length fc):=by have:=pres_below H.out.bel _ _ (hc 1 _ rfl);simpa using this
   have q2:wr.cell? ⟨b,o+k*3+2,none⟩=some (.slice pa y.steps.length pc):=by have:=pres_below H.out.bel _ _ (hc 2 _ rfl);simpa using this
   have hdl:decide ((k:Int)<n)=true:=decide_eq_true (by omega)
   have CA:Hid (∀ V,Sb w xb v0 v1 v2 (.slice (some ⟨b,o,none⟩) n cap) v4 v5 s V→Cs 130 #[.agg #[v0,v1,v2,.slice (some ⟨b,o,none⟩) n cap,v4,v5],.string y.name] V fun e w'=>e=.returned (.int .i64 (actAt s y.name))∧Bl V w'):=fun V h=>ractAt_any _ s y.name V h.sch
   obtain⟨nx,hnx⟩:∃ nx,nx=actsD s (s.actions.drop (k+1)) (snN (·.name) s.actions (k+1)):=⟨_,rfl⟩
   have HNX:Hid (nx=actsD s (s.actions.drop (k+1)) (snN (·.name) s.actions (k+1))):=hnx
   rw[← hnx] at HS
   clear hnx hc hy hok hfr hsr HD
   generalize actAt s y.name=m0 at*
   generalize newE y.name (snN (·.name) s.actions k)=ne at*
   generalize nameB y.name.data.toList=nb at*
   obtain⟨fe,hfe⟩:∃ fe,fe=fldsE y.params []:=⟨_,rfl⟩
   rw[← hfe] at HS CFd
   clear hfe
   obtain⟨sd,hsd⟩:∃ sd,sd=stpsD s y.params y.steps:=⟨_,rfl⟩
   have HSD:Hid (stpsD s y.params (y.steps.drop 0)=sd):=hsd.symm
   rw[← hsd] at HS
   clear hsd
   obtain⟨m,hm⟩:∃ m,m=y.params.length:=⟨_,rfl⟩
   obtain⟨l,hl⟩:∃ l,l=y.steps.length:=⟨_,rfl⟩
   have HLL:Hid (l=y.steps.length):=hl
   rw[← hl] at HP q2 hpl HS
   rw[← hm] at HS HF q1 CFd CS
   clear hm hl hfc hpc
   go_upto_region 7 with fail
   have HA:Hid (Sb w xb v0 v1 v2 (.slice (some ⟨b,o,none⟩) n cap) v4 v5 s (wr.alloc (.cells #[.string y.name,.slice fa m fc,.slice pa l pc] 65))∧Blk (wr.alloc (.cells #[.string y.name,.slice fa m fc,.slice pa l pc] 65)) wr.heap.size #[.string y.name,.slice fa m fc,.slice pa l pc] 65):=⟨H.out.more _,Blk.new _ _ _⟩
   clear q0 q1 q2 x3 H
   generalize (wr.alloc _)=V0 at HA ⊢
   obtain⟨yb,hyb⟩:∃ yb,yb=wr.heap.size:=⟨_,rfl⟩
   rw[← hyb] at HA ⊢
   clear hyb
   have y0:=HA.out.2.cell 0 (v:=.string y.name) rfl
   go_wp2_with fail
   refine(CN.out _).mono ?_
   rintro e wq ⟨rfl,hwq⟩
   rw[hwq]
   clear CN hwq wq
   cases nb with
   | false=>
    rw[if_pos rfl] at HW
    go_wp2
    refine bodyPost_ret (v:=.tuple #[.int .i64 70,.string (⟨#[97,99,116,105,111,110,32]⟩++y.name)]) (by simp[results,Tryz.results74,go_sem]) rfl ⟨by rw[HS.out,HW.out];rfl,HA.out.1.bel⟩
   | true=>
    rw[if_neg (by simp)] at HW
    obtain⟨x0,x1,x2,x3,x4,x5⟩:=HA.out.1.c
    go_wp2_with fail
    refine(CA.out _ HA.out.1).mono ?_
    rintro e V1 ⟨rfl,hb⟩
    have HA1:Hid (Sb w xb v0 v1 v2 (.slice (some ⟨b,o,none⟩) n cap) v4 v5 s V1∧Blk V1 yb #[.string y.name,.slice fa m fc,.slice pa l pc] 65):=⟨HA.out.1.below hb,HA.out.2.below hb⟩
    clear hb HA x0 x1 x2 x3 x4 x5 y0 CA
    by_cases hm:m0<(k:Int)
    ·have hm':decide (m0<(k:Int))=true:=decide_eq_true hm
     rw[hm',if_pos rfl] at HW
     go_wp2
     refine bodyPost_ret (v:=.tuple #[.int .i64 71,.string (⟨#[97,99,116,105,111,110,32]⟩++y.name)]) (by simp[results,Tryz.results74,go_sem]) rfl ⟨by rw[HS.out,HW.out];rfl,HA1.out.1.bel⟩
    have hm':decide (m0<(k:Int))=false:=decide_eq_false hm
    rw[hm',if_neg (by simp)] at HW
    have y1:=HA1.out.2.cell 1 (v:=.slice fa m fc) rfl
    have y2:=HA1.out.2.cell 2 (v:=.slice pa l pc) rfl
    by_cases hf1:m≤8
    case neg=>
     have h1':decide ((8:Int)<m)=true:=decide_eq_true (by omega)
     have HS2:Hid (R=some (74,aWord++y.name)):=by show _=_;rw[HS.out,HW.out,if_neg (by simp),if_pos (by omega)]
     go_wp2
     refine bodyPost_ret (v:=.tuple #[.int .i64 74,.string (⟨#[97,99,116,105,111,110,32]⟩++y.name)]) (by simp[results,Tryz.results74,go_sem]) rfl ⟨by rw[HS2.out];rfl,HA1.out.1.bel⟩
    have h1':decide ((8:Int)<m)=false:=decide_eq_false (by omega)
    by_cases hf2:l≤32
    case neg=>
     have h2':decide ((32:Int)<l)=true:=decide_eq_true (by omega)
     have HS2:Hid (R=some (74,aWord++y.name)):=by show _=_;rw[HS.out,HW.out,if_neg (by simp),if_pos (by omega)]
     go_wp2
     refine bodyPost_ret (v:=.tuple #[.int .i64 74,.string (⟨#[97,99,116,105,111,110,32]⟩++y.name)]) (by simp[results,Tryz.results74,go_sem]) rfl ⟨by rw[HS2.out];rfl,HA1.out.1.bel⟩
    have h2':decide ((32:Int)<l)=false:=decide_eq_false (by omega)
    have HS2:Hid (R=if fe≠0 then some (fe,aWord++y.name) else if sd≠0 then some (sd,aWord++y.name) else nx):=by show _=_;rw[HS.out,HW.out,if_neg (by simp),if_neg (by omega)]
    clear HS HW
    go_wp2_with fail
    refine(CFd.out _ HA1.out.1.bel).mono ?_
    rintro e V2 ⟨rfl,hb⟩
    have HA2:Hid (Sb w xb v0 v1 v2 (.slice (some ⟨b,o,none⟩) n cap) v4 v5 s V2∧Blk V2 yb #[.string y.name,.slice fa m fc,.slice pa l pc] 65):=⟨HA1.out.1.below hb,HA1.out.2.below hb⟩
    clear hb HA1 y1 y2 CFd
    by_cases hE:fe=0
    case neg=>
     have hE':(fe==0)=false:=by simpa using hE
     rw[if_pos hE] at HS2
     go_wp2
     refine bodyPost_ret (v:=.tuple #[.int .i64 fe,.string (⟨#[97,99,116,105,111,110,32]⟩++y.name)]) (by simp[results,Tryz.results74,go_sem]) rfl ⟨by rw[HS2.out];rfl,HA2.out.1.bel⟩
    subst hE
    rw[if_neg (by simp)] at HS2
    go_wp2_with fail
    go_loopw [9] (fun i wq=>∃(j:Nat),j≤l∧i=.int .i64 j∧Aside (Sb w xb v0 v1 v2 (.slice (some ⟨b,o,none⟩) n cap) v4 v5 s wq∧Blk wq yb #[.string y.name,.slice fa m fc,.slice pa l pc] 65)∧Aside (stpsD s y.params (y.steps.drop j)=sd)) (fun i _=>l - (intOf i).toNat)
    case atStart=>exact⟨0,by omega,rfl,HA2.out,HSD.out⟩
    case round=>
     clear HSD HA2
     obtain⟨j,hj,rfl,hS,hd⟩:=hrel
     have HB:Hid (Sb w xb v0 v1 v2 (.slice (some ⟨b,o,none⟩) n cap) v4 v5 s wr∧Blk wr yb #[.string y.name,.slice fa m fc,.slice pa l pc] 65):=hS.out
     have HSD:Hid (stpsD s y.params (y.steps.drop j)=sd):=hd.out
     clear hd hS
     have y2:=HB.out.2.cell 2 (v:=.slice pa l pc) rfl
     by_cases hjl:j<l
     ·obtain⟨x,hx⟩:=gE HLL.out hjl
      obtain⟨b2,o2,cs2,rfl,_,hc2,rfl,hxok⟩:=HP.out.1.at hx
      have hdj:decide ((j:Int)<l)=true:=decide_eq_true (by omega)
      have hin:(0:Int)≤(j:Int)∧(j:Int)<(l:Int):=by omega
      have HST:Hid (sd=if stepD s y.params x≠0 then stepD s y.params x else stpsD s y.params (y.steps.drop (j+1))):=by show _=_;rw[← HSD.out,stpsD_step hx]
      have CX:Hid (∀ z:Grown wr,Cs 161 #[.agg #[v0,v1,v2,.slice (some ⟨b,o,none⟩) n cap,v4,v5],.slice fa m fc,.agg (StpC x)] (gw z) fun e w'=>e=.returned (.int .i64 (stepD s y.params x))∧Below (gw z).heap.size (gw z) w'):=fun z=>CS.out _ x (HB.out.1.below (gw_below z)) hxok
      have HV:Hid (∀ j' u,(StpC x)[j']?=some u→wr.cell? ⟨b2,o2+j*12+j',none⟩=some u):=fun j' u hu=>pres_below HB.out.1.bel _ _ (hc2 j' u hu)
      obtain⟨X0,X1,X2,X3,X4,X5⟩:=HB.out.1.c
      have X0':=gw_cell X0
      have X1':=gw_cell X1
      have X2':=gw_cell X2
      have X3':=gw_cell X3
      have X4':=gw_cell X4
      have X5':=gw_cell X5
      have Y1':∀ z:Grown wr,(gw z).cell? ⟨yb,1,none⟩=some (.slice fa m fc):=gw_cell (HB.out.2.cell 1 rfl)
      have Y2':∀ z:Grown wr,(gw z).cell? ⟨yb,2,none⟩=some (.slice (some ⟨b2,o2,none⟩) l pc):=gw_cell y2
      have r0:∀ z:Grown wr,(gw z).cell? ⟨b2,o2+j*12,none⟩=some (.int .i64 x.kind):=gw_cell (by have:=HV.out 0 _ rfl;simpa using this)
      have r1:∀ z:Grown wr,(gw z).cell? ⟨b2,o2+j*12+1,none⟩=some (.string x.to.head):=gw_cell (by have:=HV.out 1 _ rfl;simpa using this)
      have r2:∀ z:Grown wr,(gw z).cell? ⟨b2,o2+j*12+2,none⟩=some (.string x.to.name):=gw_cell (by have:=HV.out 2 _ rfl;simpa using this)
      have r3:∀ z:Grown wr,(gw z).cell? ⟨b2,o2+j*12+3,none⟩=some (.int .i64 x.op):=gw_cell (by have:=HV.out 3 _ rfl;simpa using this)
      have r4:∀ z:Grown wr,(gw z).cell? ⟨b2,o2+j*12+4,none⟩=some (.string x.a.ref.head):=gw_cell (by have:=HV.out 4 _ rfl;simpa using this)
      have r5:∀ z:Grown wr,(gw z).cell? ⟨b2,o2+j*12+5,none⟩=some (.string x.a.ref.name):=gw_cell (by have:=HV.out 5 _ rfl;simpa using this)
      have r6:∀ z:Grown wr,(gw z).cell? ⟨b2,o2+j*12+6,none⟩=some (.int .u64 (hiOf x.a.const)):=gw_cell (by have:=HV.out 6 _ rfl;simpa using this)
      have r7:∀ z:Grown wr,(gw z).cell? ⟨b2,o2+j*12+7,none⟩=some (.int .u64 (loOf x.a.const)):=gw_cell (by have:=HV.out 7 _ rfl;simpa using this)
      have r8:∀ z:Grown wr,(gw z).cell? ⟨b2,o2+j*12+8,none⟩=some (.string x.b.ref.head):=gw_cell (by have:=HV.out 8 _ rfl;simpa using this)
      have r9:∀ z:Grown wr,(gw z).cell? ⟨b2,o2+j*12+9,none⟩=some (.string x.b.ref.name):=gw_cell (by have:=HV.out 9 _ rfl;simpa using this)
      have r10:∀ z:Grown wr,(gw z).cell? ⟨b2,o2+j*12+10,none⟩=some (.int .u64 (hiOf x.b.const)):=gw_cell (by have:=HV.out 10 _ rfl;simpa using this)
      have r11:∀ z:Grown wr,(gw z).cell? ⟨b2,o2+j*12+11,none⟩=some (.int .u64 (loOf x.b.const)):=gw_cell (by have:=HV.out 11 _ rfl;simpa using this)
      clear hc2 hx HSD HV X0 X1 X2 X3 X4 X5
      obtain⟨se,hse⟩:∃ se,se=stepD s y.params x:=⟨_,rfl⟩
      rw[← hse] at CX HST
      clear hse hxok
      go_upto_region 21 with fail
      refine region_grows (by kernel_rfl) (by kernel_rfl) ?_
      repeat (go_big_quiet_step ((go_at_call 161;exact calls_gw (CX.out _))))
      refine wpQuiet_nil ?_
      intro wq hwq
      obtain⟨zq,hwq⟩:=hwq
      subst hwq
      have HB2:Hid (Sb w xb v0 v1 v2 (.slice (some ⟨b,o,none⟩) n cap) v4 v5 s (gw zq)∧Blk (gw zq) yb #[.string y.name,.slice fa m fc,.slice (some ⟨b2,o2,none⟩) l pc] 65):=⟨HB.out.1.below (gw_below zq),HB.out.2.below (gw_below zq)⟩
      clear CX HB y2 X0' X1' X2' X3' X4' X5' Y1' Y2' r0 r1 r2 r3 r4 r5 r6 r7 r8 r9 r10 r11
      generalize gw zq=V3 at HB2 ⊢
      by_cases h5:se=0
      ·subst h5
       rw[if_neg (by simp)] at HST
       go_wp2
       exact⟨⟨j+1,by omega,by go_num,HB2.out,HST.out.symm⟩,by simp only[intOf];omega⟩
      ·have h5':(se==0)=false:=by simpa using h5
       rw[if_pos h5] at HST
       rw[HST.out,if_pos h5] at HS2
       go_wp2
       refine bodyPost_ret (v:=.tuple #[.int .i64 se,.string (⟨#[97,99,116,105,111,110,32]⟩++y.name)]) (by simp[results,Tryz.results74,go_sem]) rfl ⟨by rw[HS2.out];rfl,HB2.out.1.bel⟩
     ·have e:j=l:=by omega
      subst e
      have HC:Hid (sd=0):=by
       show _=_
       rw[← HSD.out,List.drop_of_length_le (by rw[← HLL.out];omega)];rfl
      have hdj:decide ((j:Int)<j)=false:=decide_eq_false (by omega)
      have HS3:Hid (R=nx):=by show _=_;rw[HS2.out,if_neg (by rw[HC.out];simp)]
      clear HSD
      go_wp2
      exact⟨⟨k+1,by omega,by go_num,HB.out.1,by show _=_;rw[← HNX.out];exact HS3.out.symm⟩,by simp only[intOf];omega⟩
  ·have e:k=n:=by omega
   subst e
   have HF:Hid (R=none):=by show _=_;rw[← HD.out,List.drop_of_length_le (by rw[← HL.out];omega)];rfl
   have hdl:decide ((k:Int)<k)=false:=decide_eq_false (by omega)
   go_wp2
   refine bodyPost_ret (v:=.tuple #[.int .i64 0,.string ⟨#[]⟩]) (by simp[results,Tryz.results74,go_sem]) rfl ⟨by rw[HF.out];rfl,H.out.bel⟩
end Go.Proofs.YtmbpclknhkbbkaaGreat
