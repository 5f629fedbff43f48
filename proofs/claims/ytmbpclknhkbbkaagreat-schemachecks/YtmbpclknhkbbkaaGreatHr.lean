/- The document's states. -/
import Derived.Test.YtmbpclknhkbbkaaGreatHfz
import Derived.Test.YtmbpclknhkbbkaaGreatHpz
import Derived.Test.YtmbpclknhkbbkaaGreatHcz
set_option linter.unusedSimpArgs false
set_option linter.unusedVariables false
set_option maxHeartbeats 8000000
set_option maxRecDepth 100000
namespace Go.Proofs.YtmbpclknhkbbkaaGreat
open Go.RowKit
def stsD (s:Sch):List Sta→List ByteArray→Option (Int × ByteArray)
 |[],_=>none
 | t :: l,seen=>if newE t.name seen≠0 then some (newE t.name seen,sWord++t.name) else if stateD s t≠0 then some (stateD s t,sWord++t.name) else stsD s l (t.name :: seen)
theorem stsD_step {s:Sch}{l:List Sta}{k:Nat}{t:Sta}(hk:l[k]?=some t)(seen:List ByteArray):stsD s (l.drop k) seen=if newE t.name seen≠0 then some (newE t.name seen,sWord++t.name) else if stateD s t≠0 then some (stateD s t,sWord++t.name) else stsD s (l.drop (k+1)) (t.name :: seen):=by
 obtain⟨h,e⟩:=List.getElem?_eq_some_iff.1 hk
 rw[List.drop_eq_getElem_cons h,e,stsD]
def rndD (s:Sch):List Sta→Nat→Option (Int × ByteArray)
 |[],_=>none
 | x :: xs,i=>if roundD s i=true then some (78,sWord++x.name) else rndD s xs (i+1)
theorem rndD_step {s:Sch}{l:List Sta}{k:Nat}{x:Sta}(hk:l[k]?=some x):rndD s (l.drop k) k=if roundD s k=true then some (78,sWord++x.name) else rndD s (l.drop (k+1)) (k+1):=by
 obtain⟨h,e⟩:=List.getElem?_eq_some_iff.1 hk
 rw[List.drop_eq_getElem_cons h,e,rndD]
def orD (r t:Option (Int × ByteArray)):Option (Int × ByteArray):=match r with
 | some x=>some x
 | none=>t
def statesD (s:Sch):Option (Int × ByteArray):=if 32<s.states.length then some (74,⟨#[115,116,97,116,101]⟩) else orD (stsD s s.states []) (rndD s s.states 0)
theorem rstates_any (v:Value)(s:Sch)(w:World)(hs:SchIs w v s):Calls Tryz.prog 73 #[v] w fun e w'=>e=.returned (fndV (statesD s))∧Below w.heap.size w w':=by
 obtain⟨v0,v1,v2,v3,v4,v5,rfl,_,_,h0,_⟩:=id hs
 obtain⟨ad,cap,rfl,_⟩:=h0.1.slice
 have hlen:s.states.length*104≤140737488351232:=h0.2
 have H:Hid (Sb w w.heap.size v0 v1 (.slice ad s.states.length cap) v3 v4 v5 s (w.alloc (.cells #[v0,v1,.slice ad s.states.length cap,v3,v4,v5] 34))):=sb_new hs
 have HR:Hid (StaRow w (.slice ad s.states.length cap) s.states):=h0
 clear hs h0
 have HE:Hid (statesD s=if 32<s.states.length then some (74,⟨#[115,116,97,116,101]⟩) else orD (stsD s s.states []) (rndD s s.states 0)):=rfl
 generalize statesD s=R at*
 obtain⟨n,hn⟩:∃ n,n=s.states.length:=⟨_,rfl⟩
 have HL:Hid (n=s.states.length):=hn
 rw[← hn] at H HR HE hlen ⊢
 clear hn
 go_enter Tryz.func73,Tryz.ntmps73
 go_upto_region 1 with fail
 generalize (w.alloc _)=W0 at H ⊢
 obtain⟨xb,hxb⟩:∃ xb,xb=w.heap.size:=⟨_,rfl⟩
 rw[← hxb] at H ⊢
 clear hxb
 obtain⟨_,_,x2,_⟩:=H.out.c
 by_cases h32:32<n
 ·have h':decide ((32:Int)<n)=true:=decide_eq_true (by omega)
  rw[if_pos h32] at HE
  go_wp2
  refine bodyPost_ret (v:=.tuple #[.int .i64 74,.string ⟨#[115,116,97,116,101]⟩]) (by simp[results,Tryz.results73,go_sem]) rfl ⟨by rw[HE.out];rfl,H.out.bel⟩
 have h':decide ((32:Int)<n)=false:=decide_eq_false (by omega)
 have H0:Hid (orD (stsD s (s.states.drop 0) (snN (·.name) s.states 0)) (rndD s (s.states.drop 0) 0)=R):=by show _=_;rw[HE.out,if_neg h32];rfl
 clear HE
 go_wp2_with fail
 clear x2
 go_loopw [4] (fun i wr=>∃ k:Nat,k≤n∧i=.int .i64 k∧Aside (Sb w xb v0 v1 (.slice ad n cap) v3 v4 v5 s wr)∧Aside (orD (stsD s (s.states.drop k) (snN (·.name) s.states k)) (rndD s (s.states.drop 0) 0)=R)) (fun i _=>n - (intOf i).toNat)
 case atStart=>exact⟨0,by omega,rfl,H.out,H0.out⟩
 case round=>
  clear H0 H
  obtain⟨k,hk,rfl,hS,hd⟩:=hrel
  have H:Hid (Sb w xb v0 v1 (.slice ad n cap) v3 v4 v5 s wr):=hS.out
  have HD:Hid (orD (stsD s (s.states.drop k) (snN (·.name) s.states k)) (rndD s (s.states.drop 0) 0)=R):=hd.out
  clear hS hd
  obtain⟨_,_,x2,_⟩:=H.out.c
  by_cases hlt:k<n
  ·obtain⟨y,hy⟩:=gE HL.out hlt
   obtain⟨b,o,cs,rfl,_,hc,hI⟩:=HR.out.1.at hy
   have HI:Hid (StaIs w cs y):=hI
   obtain⟨kv,rfl,hok,hkr⟩:=hI
   obtain⟨ka,kc,rfl,_⟩:=hkr.1.slice
   have hnm:y.name.size≤140737488351232:=hok.1
   have HS:Hid (R=orD (if newE y.name (snN (·.name) s.states k)≠0 then some (newE y.name (snN (·.name) s.states k),sWord++y.name) else if stateD s y≠0 then some (stateD s y,sWord++y.name) else stsD s (s.states.drop (k+1)) (snN (·.name) s.states (k+1))) (rndD s (s.states.drop 0) 0)):=by
    show _=_
    rw[← HD.out,stsD_step hy,sn_succ hy]
   have HW:Hid (newE y.name (snN (·.name) s.states k)=if nameB y.name.data.toList=false then 70 else if decide (staAt s y.name<(k:Int))=true then 71 else 0):=by
    show _=_
    unfold newE staAt
    rw[idx_seen (fun y:Sta=>y.name) hy]
   have CN:Hid (∀ V,Cs 18 #[.string y.name] V fun e w'=>e=.returned (.bool (nameB y.name.data.toList))∧w'=V):=fun V=>risName_any y.name hok.1 V
   have CA:Hid (∀ V,Sb w xb v0 v1 (.slice (some ⟨b,o,none⟩) n cap) v3 v4 v5 s V→Cs 158 #[.agg #[v0,v1,.slice (some ⟨b,o,none⟩) n cap,v3,v4,v5],.string y.name] V fun e w'=>e=.returned (.int .i64 (staAt s y.name))∧Bl V w'):=fun V h=>rstaAt_any _ s y.name V h.sch
   have CT:Hid (∀ V,Sb w xb v0 v1 (.slice (some ⟨b,o,none⟩) n cap) v3 v4 v5 s V→Cs 159 #[.agg #[v0,v1,.slice (some ⟨b,o,none⟩) n cap,v3,v4,v5],.agg #[.string y.name,.string y.header,.string y.on.head,.string y.on.name,.slice ka y.cases.length kc,.string y.next]] V fun e w'=>e=.returned (.int .i64 (stateD s y))∧Bl V w'):=fun V h=>rstate_any _ s y _ V h.sch (HI.out.pres (pres_below h.bel))
   have HV:Hid (∀ V,Bl w V→∀ j u,(#[.string y.name,.string y.header,.string y.on.head,.string y.on.name,.slice ka y.cases.length kc,.string y.next]:Array Value)[j]?=some u→V.cell? ⟨b,o+k*6+j,none⟩=some u):=fun V h j u hu=>pres_below h _ _ (hc j u hu)
   obtain⟨nx,hnx⟩:∃ nx,nx=stsD s (s.states.drop (k+1)) (snN (·.name) s.states (k+1)):=⟨_,rfl⟩
   have HNX:Hid (nx=stsD s (s.states.drop (k+1)) (snN (·.name) s.states (k+1))):=hnx
   rw[← hnx] at HS
   clear hnx hc hy hok hkr HD HI
   generalize y.cases.length=kn at*
   generalize staAt s y.name=m0 at*
   generalize newE y.name (snN (·.name) s.states k)=ne at*
   generalize nameB y.name.data.toList=nb at*
   generalize stateD s y=td at*
   have q0:wr.cell? ⟨b,o+k*6,none⟩=some (.string y.name):=by have:=HV.out wr H.out.bel 0 _ rfl;simpa using this
   have hdl:decide ((k:Int)<n)=true:=decide_eq_true (by omega)
   have hin:(0:Int)≤(k:Int)∧(k:Int)<(n:Int):=by omega
   go_wp2_with fail
   refine(CN.out _).mono ?_
   rintro e wq ⟨rfl,hwq⟩
   rw[hwq]
   clear CN hwq wq
   cases nb with
   | false=>
    rw[if_pos rfl] at HW
    go_wp2
    refine bodyPost_ret (v:=.tuple #[.int .i64 70,.string (⟨#[115,116,97,116,101,32]⟩++y.name)]) (by simp[results,Tryz.results73,go_sem]) rfl ⟨by rw[HS.out,HW.out];rfl,H.out.bel⟩
   | true=>
    rw[if_neg (by simp)] at HW
    have K158:Hid (∀ z:Grown wr,Sb w xb v0 v1 (.slice (some ⟨b,o,none⟩) n cap) v3 v4 v5 s (gw z)):=fun z=>H.out.below (gw_below z)
    obtain⟨X0,X1,X2,X3,X4,X5⟩:=H.out.c
    have X0':=gw_cell X0
    have X1':=gw_cell X1
    have X2':=gw_cell X2
    have X3':=gw_cell X3
    have X4':=gw_cell X4
    have X5':=gw_cell X5
    have r0:∀ z:Grown wr,(gw z).cell? ⟨b,o+k*6,none⟩=some (.string y.name):=gw_cell (by have:=HV.out wr H.out.bel 0 _ rfl;simpa using this)
    clear X0 X1 X2 X3 X4 X5 q0 x2
    go_upto_region 10 with fail
    refine region_grows (by kernel_rfl) (by kernel_rfl) ?_
    repeat (go_big_quiet_step ((go_at_call 158;exact calls_gw (CA.out _ (K158.out _)))))
    refine wpQuiet_nil ?_
    intro wq hwq
    obtain⟨zq,hwq⟩:=hwq
    subst hwq
    have H1:Hid (Sb w xb v0 v1 (.slice (some ⟨b,o,none⟩) n cap) v3 v4 v5 s (gw zq)):=H.out.below (gw_below zq)
    clear H K158 CA X0' X1' X2' X3' X4' X5' r0
    generalize gw zq=V1 at H1 ⊢
    by_cases hm:m0<(k:Int)
    ·have hm':decide (m0<(k:Int))=true:=decide_eq_true hm
     rw[hm',if_pos rfl] at HW
     go_wp2
     refine bodyPost_ret (v:=.tuple #[.int .i64 71,.string (⟨#[115,116,97,116,101,32]⟩++y.name)]) (by simp[results,Tryz.results73,go_sem]) rfl ⟨by rw[HS.out,HW.out];rfl,H1.out.bel⟩
    have hm':decide (m0<(k:Int))=false:=decide_eq_false hm
    rw[hm',if_neg (by simp)] at HW
    have K159:Hid (∀ z:Grown V1,Sb w xb v0 v1 (.slice (some ⟨b,o,none⟩) n cap) v3 v4 v5 s (gw z)):=fun z=>H1.out.below (gw_below z)
    obtain⟨X0,X1,X2,X3,X4,X5⟩:=H1.out.c
    have X0':=gw_cell X0
    have X1':=gw_cell X1
    have X2':=gw_cell X2
    have X3':=gw_cell X3
    have X4':=gw_cell X4
    have X5':=gw_cell X5
    have r0:∀ z:Grown V1,(gw z).cell? ⟨b,o+k*6,none⟩=some (.string y.name):=gw_cell (by have:=HV.out V1 H1.out.bel 0 _ rfl;simpa using this)
    have r1:∀ z:Grown V1,(gw z).cell? ⟨b,o+k*6+1,none⟩=some (.string y.header):=gw_cell (by have:=HV.out V1 H1.out.bel 1 _ rfl;simpa using this)
    have r2:∀ z:Grown V1,(gw z).cell? ⟨b,o+k*6+2,none⟩=some (.string y.on.head):=gw_cell (by have:=HV.out V1 H1.out.bel 2 _ rfl;simpa using this)
    have r3:∀ z:Grown V1,(gw z).cell? ⟨b,o+k*6+3,none⟩=some (.string y.on.name):=gw_cell (by have:=HV.out V1 H1.out.bel 3 _ rfl;simpa using this)
    have r4:∀ z:Grown V1,(gw z).cell? ⟨b,o+k*6+4,none⟩=some (.slice ka kn kc):=gw_cell (by have:=HV.out V1 H1.out.bel 4 _ rfl;simpa using this)
    have r5:∀ z:Grown V1,(gw z).cell? ⟨b,o+k*6+5,none⟩=some (.string y.next):=gw_cell (by have:=HV.out V1 H1.out.bel 5 _ rfl;simpa using this)
    clear X0 X1 X2 X3 X4 X5
    go_upto_region 12 with fail
    refine region_grows (by kernel_rfl) (by kernel_rfl) ?_
    repeat (go_big_quiet_step ((go_at_call 159;exact calls_gw (CT.out _ (K159.out _)))))
    refine wpQuiet_nil ?_
    intro wq hwq
    obtain⟨zq,hwq⟩:=hwq
    subst hwq
    have H2:Hid (Sb w xb v0 v1 (.slice (some ⟨b,o,none⟩) n cap) v3 v4 v5 s (gw zq)):=H1.out.below (gw_below zq)
    clear H1 K159 CT X0' X1' X2' X3' X4' X5' r0 r1 r2 r3 r4 r5
    generalize gw zq=V2 at H2 ⊢
    by_cases hE:td=0
    ·subst hE
     have HS2:Hid (R=orD nx (rndD s (s.states.drop 0) 0)):=by show _=_;rw[HS.out,HW.out];rfl
     go_wp2
     exact⟨⟨k+1,by omega,by go_num,H2.out,by show _=_;rw[← HNX.out];exact HS2.out.symm⟩,by simp only[intOf];omega⟩
    ·have hE':(td==0)=false:=by simpa using hE
     have HS2:Hid (R=some (td,sWord++y.name)):=by show _=_;rw[HS.out,HW.out,if_neg (by simp),if_pos hE];rfl
     go_wp2
     refine bodyPost_ret (v:=.tuple #[.int .i64 td,.string (⟨#[115,116,97,116,101,32]⟩++y.name)]) (by simp[results,Tryz.results73,go_sem]) rfl ⟨by rw[HS2.out];rfl,H2.out.bel⟩
  ·have e:k=n:=by omega
   subst e
   have HF:Hid (rndD s (s.states.drop 0) 0=R):=by show _=_;rw[← HD.out,show s.states.drop k=[] from List.drop_of_length_le (by rw[← HL.out];omega)];rfl
   have hdl:decide ((k:Int)<k)=false:=decide_eq_false (by omega)
   clear HD
   have CR:Hid (∀ V i,Sb w xb v0 v1 (.slice ad k cap) v3 v4 v5 s V→i<k→Cs 160 #[.agg #[v0,v1,.slice ad k cap,v3,v4,v5],.int .i64 (i:Nat)] V fun e w'=>e=.returned (.bool (roundD s i))∧Below V.heap.size V w'):=fun V i h hi=>rround_any _ s i V h.sch (by rw[← HL.out];exact hi)
   go_wp2_with fail
   clear x2 hdl
   go_loopw [8] (fun i wq=>∃ j:Nat,j≤k∧i=.int .i64 j∧Aside (Sb w xb v0 v1 (.slice ad k cap) v3 v4 v5 s wq)∧Aside (rndD s (s.states.drop j) j=R)) (fun i _=>k - (intOf i).toNat)
   case atStart=>exact⟨0,by omega,rfl,H.out,HF.out⟩
   case round=>
    clear HF H
    obtain⟨j,hj,rfl,hS,hd⟩:=hrel
    have H:Hid (Sb w xb v0 v1 (.slice ad k cap) v3 v4 v5 s wr):=hS.out
    have HD:Hid (rndD s (s.states.drop j) j=R):=hd.out
    clear hS hd
    obtain⟨x0,x1,x2,x3,x4,x5⟩:=H.out.c
    by_cases hlt:j<k
    ·obtain⟨y,hy⟩:=gE HL.out hlt
     obtain⟨b,o,cs,rfl,_,hc,hI⟩:=HR.out.1.at hy
     obtain⟨kv,rfl,hok,_⟩:=hI
     have hnm:y.name.size≤140737488351232:=hok.1
     have HS:Hid (R=if roundD s j=true then some (78,sWord++y.name) else rndD s (s.states.drop (j+1)) (j+1)):=by show _=_;rw[← HD.out,rndD_step hy]
     have HQ:Hid (∀ V,Bl w V→V.cell? ⟨b,o+j*6,none⟩=some (.string y.name)):=fun V h=>by have:=pres_below h _ _ (hc 0 _ rfl);simpa using this
     have hdl:decide ((j:Int)<k)=true:=decide_eq_true (by omega)
     have hin:(0:Int)≤(j:Int)∧(j:Int)<(k:Int):=by omega
     clear hc hy hok HD
     go_wp2_with fail
     refine(CR.out _ j H.out hlt).mono ?_
     rintro e V1 ⟨rfl,hb⟩
     have H1:Hid (Sb w xb v0 v1 (.slice (some ⟨b,o,none⟩) k cap) v3 v4 v5 s V1):=H.out.below hb
     clear hb H x0 x1 x2 x3 x4 x5
     generalize roundD s j=rd at*
     cases rd with
     | true=>
      rw[if_pos rfl] at HS
      obtain⟨_,_,x2,_⟩:=H1.out.c
      have q0:=HQ.out V1 H1.out.bel
      go_upto_region 20 with fail
      go_quiet (fail)
      go_wp2
      refine bodyPost_ret (v:=.tuple #[.int .i64 78,.string (⟨#[115,116,97,116,101,32]⟩++y.name)]) (by simp[results,Tryz.results73,go_sem]) rfl ⟨by rw[HS.out];rfl,below_drewN H1.out.bel _⟩
     | false=>
      rw[if_neg (by simp)] at HS
      go_wp2
      exact⟨⟨j+1,by omega,by go_num,H1.out,HS.out.symm⟩,by simp only[intOf];omega⟩
    ·have e:j=k:=by omega
     subst e
     have HF:Hid (R=none):=by show _=_;rw[← HD.out,List.drop_of_length_le (by rw[← HL.out];omega)];rfl
     have hdl:decide ((j:Int)<j)=false:=decide_eq_false (by omega)
     go_wp2
     refine bodyPost_ret (v:=.tuple #[.int .i64 0,.string ⟨#[]⟩]) (by simp[results,Tryz.results73,go_sem]) rfl ⟨by rw[HF.out];rfl,H.out.bel⟩
end Go.Proofs.YtmbpclknhkbbkaaGreat
