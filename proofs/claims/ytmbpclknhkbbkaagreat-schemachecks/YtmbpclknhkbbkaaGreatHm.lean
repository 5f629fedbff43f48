/- The document's tables. -/
import Derived.Test.YtmbpclknhkbbkaaGreatHkz
set_option linter.unusedSimpArgs false
set_option linter.unusedVariables false
set_option maxHeartbeats 8000000
set_option maxRecDepth 100000
namespace Go.Proofs.YtmbpclknhkbbkaaGreat
open Go.RowKit
def tblsD (s:Sch):List Tbl→List ByteArray→Option (Int × ByteArray)
 |[],_=>none
 | t :: l,seen=>if newE t.name seen≠0 then some (newE t.name seen,tWord++t.name) else if tableD s t≠0 then some (tableD s t,tWord++t.name) else tblsD s l (t.name :: seen)
theorem tblsD_step {s:Sch}{l:List Tbl}{k:Nat}{t:Tbl}(hk:l[k]?=some t)(seen:List ByteArray):tblsD s (l.drop k) seen=if newE t.name seen≠0 then some (newE t.name seen,tWord++t.name) else if tableD s t≠0 then some (tableD s t,tWord++t.name) else tblsD s (l.drop (k+1)) (t.name :: seen):=by
 obtain⟨h,e⟩:=List.getElem?_eq_some_iff.1 hk
 rw[List.drop_eq_getElem_cons h,e,tblsD]
def tablesD (s:Sch):Option (Int × ByteArray):=if 32<s.tables.length then some (74,⟨#[116,97,98,108,101]⟩) else tblsD s s.tables []
theorem rtables_any (v:Value)(s:Sch)(w:World)(hs:SchIs w v s):Calls Tryz.prog 75 #[v] w fun e w'=>e=.returned (fndV (tablesD s))∧Below w.heap.size w w':=by
 obtain⟨v0,v1,v2,v3,v4,v5,rfl,_,_,_,_,h0,_⟩:=id hs
 obtain⟨ad,cap,rfl,_⟩:=h0.1.slice
 have hlen:s.tables.length*120≤140737488351232:=h0.2
 have H:Hid (Sb w w.heap.size v0 v1 v2 v3 (.slice ad s.tables.length cap) v5 s (w.alloc (.cells #[v0,v1,v2,v3,.slice ad s.tables.length cap,v5] 34))):=sb_new hs
 have HR:Hid (TblRow w (.slice ad s.tables.length cap) s.tables):=h0
 clear hs h0
 have HE:Hid (tablesD s=if 32<s.tables.length then some (74,⟨#[116,97,98,108,101]⟩) else tblsD s s.tables []):=rfl
 generalize tablesD s=R at*
 obtain⟨n,hn⟩:∃ n,n=s.tables.length:=⟨_,rfl⟩
 have HL:Hid (n=s.tables.length):=hn
 rw[← hn] at H HR HE hlen ⊢
 clear hn
 go_enter Tryz.func75,Tryz.ntmps75
 go_upto_region 1 with fail
 generalize (w.alloc _)=W0 at H ⊢
 obtain⟨xb,hxb⟩:∃ xb,xb=w.heap.size:=⟨_,rfl⟩
 rw[← hxb] at H ⊢
 clear hxb
 obtain⟨_,_,_,_,x4,_⟩:=H.out.c
 by_cases h32:32<n
 ·have h':decide ((32:Int)<n)=true:=decide_eq_true (by omega)
  rw[if_pos h32] at HE
  go_wp2
  refine bodyPost_ret (v:=.tuple #[.int .i64 74,.string ⟨#[116,97,98,108,101]⟩]) (by simp[results,Tryz.results75,go_sem]) rfl ⟨by rw[HE.out];rfl,H.out.bel⟩
 have h':decide ((32:Int)<n)=false:=decide_eq_false (by omega)
 have H0:Hid (tblsD s (s.tables.drop 0) (snN (·.name) s.tables 0)=R):=by show _=_;rw[HE.out,if_neg h32];rfl
 clear HE
 go_wp2_with fail
 clear x4
 go_loopw [4] (fun i wr=>∃ k:Nat,k≤n∧i=.int .i64 k∧Aside (Sb w xb v0 v1 v2 v3 (.slice ad n cap) v5 s wr)∧Aside (tblsD s (s.tables.drop k) (snN (·.name) s.tables k)=R)) (fun i _=>n - (intOf i).toNat)
 case atStart=>exact⟨0,by omega,rfl,H.out,H0.out⟩
 case round=>
  clear H0 H
  obtain⟨k,hk,rfl,hS,hd⟩:=hrel
  have H:Hid (Sb w xb v0 v1 v2 v3 (.slice ad n cap) v5 s wr):=hS.out
  have HD:Hid (tblsD s (s.tables.drop k) (snN (·.name) s.tables k)=R):=hd.out
  clear hS hd
  obtain⟨_,_,_,_,x4,_⟩:=H.out.c
  by_cases hlt:k<n
  ·obtain⟨y,hy⟩:=gE HL.out hlt
   obtain⟨b,o,cs,rfl,_,hc,hI⟩:=HR.out.1.at hy
   have HI:Hid (TblIs w cs y):=hI
   obtain⟨kv,av,dv,rfl,hok,hkr,har,hbr⟩:=hI
   obtain⟨ka,kc,rfl,_⟩:=hkr.1.slice
   obtain⟨ta,tc,rfl,_⟩:=har.1.slice
   obtain⟨ba,bc,rfl,_⟩:=hbr.1.slice
   have hnm:y.name.size≤140737488351232:=hok.1
   have HS:Hid (R=if newE y.name (snN (·.name) s.tables k)≠0 then some (newE y.name (snN (·.name) s.tables k),tWord++y.name) else if tableD s y≠0 then some (tableD s y,tWord++y.name) else tblsD s (s.tables.drop (k+1)) (snN (·.name) s.tables (k+1))):=by
    show _=_
    rw[← HD.out,tblsD_step hy,sn_succ hy]
   have HW:Hid (newE y.name (snN (·.name) s.tables k)=if nameB y.name.data.toList=false then 70 else if decide (tblAt s y.name<(k:Int))=true then 71 else 0):=by
    show _=_
    unfold newE tblAt
    rw[idx_seen (fun y:Tbl=>y.name) hy]
   have CN:Hid (∀ V,Cs 18 #[.string y.name] V fun e w'=>e=.returned (.bool (nameB y.name.data.toList))∧w'=V):=fun V=>risName_any y.name hok.1 V
   have CA:Hid (∀ V,Sb w xb v0 v1 v2 v3 (.slice (some ⟨b,o,none⟩) n cap) v5 s V→Cs 131 #[.agg #[v0,v1,v2,v3,.slice (some ⟨b,o,none⟩) n cap,v5],.string y.name] V fun e w'=>e=.returned (.int .i64 (tblAt s y.name))∧Bl V w'):=fun V h=>rtblAt_any _ s y.name V h.sch
   have CT:Hid (∀ V,Sb w xb v0 v1 v2 v3 (.slice (some ⟨b,o,none⟩) n cap) v5 s V→Cs 162 #[.agg #[v0,v1,v2,v3,.slice (some ⟨b,o,none⟩) n cap,v5],.agg #[.string y.name,.slice ka y.keys.length kc,.slice ta y.actions.length tc,.int .i64 y.size,.string y.dflt.action,.slice ba y.dflt.args.length bc,.bool y.fixed]] V fun e w'=>e=.returned (.int .i64 (tableD s y))∧Bl V w'):=fun V h=>rtable_any _ s y _ V h.sch (HI.out.pres (pres_below h.bel))
   have HV:Hid (∀ V,Bl w V→∀ j u,(#[.string y.name,.slice ka y.keys.length kc,.slice ta y.actions.length tc,.int .i64 y.size,.string y.dflt.action,.slice ba y.dflt.args.length bc,.bool y.fixed]:Array Value)[j]?=some u→V.cell? ⟨b,o+k*7+j,none⟩=some u):=fun V h j u hu=>pres_below h _ _ (hc j u hu)
   obtain⟨nx,hnx⟩:∃ nx,nx=tblsD s (s.tables.drop (k+1)) (snN (·.name) s.tables (k+1)):=⟨_,rfl⟩
   have HNX:Hid (nx=tblsD s (s.tables.drop (k+1)) (snN (·.name) s.tables (k+1))):=hnx
   rw[← hnx] at HS
   clear hnx hc hy hok hkr har hbr HD HI
   generalize y.keys.length=kn at*
   generalize y.actions.length=tn at*
   generalize y.dflt.args.length=bn at*
   generalize tblAt s y.name=m0 at*
   generalize newE y.name (snN (·.name) s.tables k)=ne at*
   generalize nameB y.name.data.toList=nb at*
   generalize tableD s y=td at*
   have q0:wr.cell? ⟨b,o+k*7,none⟩=some (.string y.name):=by have:=HV.out wr H.out.bel 0 _ rfl;simpa using this
   have hdl:decide ((k:Int)<n)=true:=decide_eq_true (by omega)
   have hin:(0:Int)≤(k:Int)∧(k:Int)<(n:Int):=by omega
   go_wp2_with fail
   refine(CN.out _).mono ?_
   rintro e wq ⟨rfl,hwq⟩
   rw[hwq]
   clear CN hwq wq
   cases nb with
   | false=>
    rw[if_pos rfl] at HW
    go_wp2
    refine bodyPost_ret (v:=.tuple #[.int .i64 70,.string (⟨#[116,97,98,108,101,32]⟩++y.name)]) (by simp[results,Tryz.results75,go_sem]) rfl ⟨by rw[HS.out,HW.out];rfl,H.out.bel⟩
   | true=>
    rw[if_neg (by simp)] at HW
    have K131:Hid (∀ z:Grown wr,Sb w xb v0 v1 v2 v3 (.slice (some ⟨b,o,none⟩) n cap) v5 s (gw z)):=fun z=>H.out.below (gw_below z)
    obtain⟨X0,X1,X2,X3,X4,X5⟩:=H.out.c
    have X0':=gw_cell X0
    have X1':=gw_cell X1
    have X2':=gw_cell X2
    have X3':=gw_cell X3
    have X4':=gw_cell X4
    have X5':=gw_cell X5
    have r0:∀ z:Grown wr,(gw z).cell? ⟨b,o+k*7,none⟩=some (.string y.name):=gw_cell (by have:=HV.out wr H.out.bel 0 _ rfl;simpa using this)
    clear X0 X1 X2 X3 X4 X5 q0 x4
    go_upto_region 10 with fail
    refine region_grows (by kernel_rfl) (by kernel_rfl) ?_
    repeat (go_big_quiet_step ((go_at_call 131;exact calls_gw (CA.out _ (K131.out _)))))
    refine wpQuiet_nil ?_
    intro wq hwq
    obtain⟨zq,hwq⟩:=hwq
    subst hwq
    have H1:Hid (Sb w xb v0 v1 v2 v3 (.slice (some ⟨b,o,none⟩) n cap) v5 s (gw zq)):=H.out.below (gw_below zq)
    clear H K131 CA X0' X1' X2' X3' X4' X5' r0
    generalize gw zq=V1 at H1 ⊢
    by_cases hm:m0<(k:Int)
    ·have hm':decide (m0<(k:Int))=true:=decide_eq_true hm
     rw[hm',if_pos rfl] at HW
     go_wp2
     refine bodyPost_ret (v:=.tuple #[.int .i64 71,.string (⟨#[116,97,98,108,101,32]⟩++y.name)]) (by simp[results,Tryz.results75,go_sem]) rfl ⟨by rw[HS.out,HW.out];rfl,H1.out.bel⟩
    have hm':decide (m0<(k:Int))=false:=decide_eq_false hm
    rw[hm',if_neg (by simp)] at HW
    have K162:Hid (∀ z:Grown V1,Sb w xb v0 v1 v2 v3 (.slice (some ⟨b,o,none⟩) n cap) v5 s (gw z)):=fun z=>H1.out.below (gw_below z)
    obtain⟨X0,X1,X2,X3,X4,X5⟩:=H1.out.c
    have X0':=gw_cell X0
    have X1':=gw_cell X1
    have X2':=gw_cell X2
    have X3':=gw_cell X3
    have X4':=gw_cell X4
    have X5':=gw_cell X5
    have r0:∀ z:Grown V1,(gw z).cell? ⟨b,o+k*7,none⟩=some (.string y.name):=gw_cell (by have:=HV.out V1 H1.out.bel 0 _ rfl;simpa using this)
    have r1:∀ z:Grown V1,(gw z).cell? ⟨b,o+k*7+1,none⟩=some (.slice ka kn kc):=gw_cell (by have:=HV.out V1 H1.out.bel 1 _ rfl;simpa using this)
    have r2:∀ z:Grown V1,(gw z).cell? ⟨b,o+k*7+2,none⟩=some (.slice ta tn tc):=gw_cell (by have:=HV.out V1 H1.out.bel 2 _ rfl;simpa using this)
    have r3:∀ z:Grown V1,(gw z).cell? ⟨b,o+k*7+3,none⟩=some (.int .i64 y.size):=gw_cell (by have:=HV.out V1 H1.out.bel 3 _ rfl;simpa using this)
    have r4:∀ z:Grown V1,(gw z).cell? ⟨b,o+k*7+4,none⟩=some (.string y.dflt.action):=gw_cell (by have:=HV.out V1 H1.out.bel 4 _ rfl;simpa using this)
    have r5:∀ z:Grown V1,(gw z).cell? ⟨b,o+k*7+5,none⟩=some (.slice ba bn bc):=gw_cell (by have:=HV.out V1 H1.out.bel 5 _ rfl;simpa using this)
    have r6:∀ z:Grown V1,(gw z).cell? ⟨b,o+k*7+6,none⟩=some (.bool y.fixed):=gw_cell (by have:=HV.out V1 H1.out.bel 6 _ rfl;simpa using this)
    clear X0 X1 X2 X3 X4 X5
    go_upto_region 12 with fail
    refine region_grows (by kernel_rfl) (by kernel_rfl) ?_
    repeat (go_big_quiet_step ((go_at_call 162;exact calls_gw (CT.out _ (K162.out _)))))
    refine wpQuiet_nil ?_
    intro wq hwq
    obtain⟨zq,hwq⟩:=hwq
    subst hwq
    have H2:Hid (Sb w xb v0 v1 v2 v3 (.slice (some ⟨b,o,none⟩) n cap) v5 s (gw zq)):=H1.out.below (gw_below zq)
    clear H1 K162 CT X0' X1' X2' X3' X4' X5' r0 r1 r2 r3 r4 r5 r6
    generalize gw zq=V2 at H2 ⊢
    by_cases hE:td=0
    ·subst hE
     have HS2:Hid (R=nx):=by show _=_;rw[HS.out,HW.out];rfl
     go_wp2
     exact⟨⟨k+1,by omega,by go_num,H2.out,by show _=_;rw[← HNX.out];exact HS2.out.symm⟩,by simp only[intOf];omega⟩
    ·have hE':(td==0)=false:=by simpa using hE
     have HS2:Hid (R=some (td,tWord++y.name)):=by show _=_;rw[HS.out,HW.out,if_neg (by simp),if_pos hE]
     go_wp2
     refine bodyPost_ret (v:=.tuple #[.int .i64 td,.string (⟨#[116,97,98,108,101,32]⟩++y.name)]) (by simp[results,Tryz.results75,go_sem]) rfl ⟨by rw[HS2.out];rfl,H2.out.bel⟩
  ·have e:k=n:=by omega
   subst e
   have HF:Hid (R=none):=by show _=_;rw[← HD.out,List.drop_of_length_le (by rw[← HL.out];omega)];rfl
   have hdl:decide ((k:Int)<k)=false:=decide_eq_false (by omega)
   go_wp2
   refine bodyPost_ret (v:=.tuple #[.int .i64 0,.string ⟨#[]⟩]) (by simp[results,Tryz.results75,go_sem]) rfl ⟨by rw[HF.out];rfl,H.out.bel⟩
end Go.Proofs.YtmbpclknhkbbkaaGreat
