/- The document's searches: HeaderAt, Act. -/
import Derived.Test.YtmbpclknhkbbkaaGreatB16
set_option linter.unusedSimpArgs false
set_option linter.unusedVariables false
set_option maxHeartbeats 4000000
set_option maxRecDepth 100000
namespace Go.Proofs.YtmbpclknhkbbkaaGreat
open Go.RowKit
def staAt (s:Sch)(name:ByteArray):Int:=idxF (fun h:Sta=>decide (h.name=name)) s.states 0
def fldAt (l:List Fld)(name:ByteArray):Int:=idxF (fun h:Fld=>decide (h.name=name)) l 0
theorem rhdrAt_any (v:Value)(s:Sch)(name:ByteArray)(w:World)(hs:SchIs w v s):Calls Tryz.prog 129 #[v,.string name] w fun e w'=>e=.returned (.int .i64 (hdrAt s name))∧Below w.heap.size w w':=by
 obtain⟨a0,c0,a1,c1,a2,c2,a3,c3,a4,c4,a5,c5,rfl,h0,h1,h2,h3,h4,h5⟩:=hs.parts
 have hlen:s.headers.length*40≤140737488351232:=h0.2
 have HR:Hid (Row 2 HdrIs w (.slice a0 s.headers.length c0) s.headers):=h0.1
 have HB0:Hid (Bl w (w.alloc (.cells #[.slice a0 s.headers.length c0,.slice a1 s.metas.length c1,.slice a2 s.states.length c2,.slice a3 s.actions.length c3,.slice a4 s.tables.length c4,.slice a5 s.control.length c5] 34))):=(Below.refl _ _).alloc (Nat.le_refl _) _
 obtain⟨R,hR⟩:∃ R,R=hdrAt s name:=⟨_,rfl⟩
 have H0:Hid (idxF (fun h:Hdr=>decide (h.name=name)) (s.headers.drop 0) 0=R):=by rw[hR];rfl
 rw[← hR]
 clear hs h0 h1 h2 h3 h4 h5 hR
 obtain⟨n,hn⟩:∃ n,n=s.headers.length:=⟨_,rfl⟩
 have HL:Hid (n=s.headers.length):=hn
 rw[← hn] at hlen HR HB0 ⊢
 clear hn
 generalize s.headers=xs at*
 go_enter Tryz.func129,Tryz.ntmps129
 go_upto_region 1 with fail
 have p0:=(Blk.new w #[.slice a0 n c0,.slice a1 s.metas.length c1,.slice a2 s.states.length c2,.slice a3 s.actions.length c3,.slice a4 s.tables.length c4,.slice a5 s.control.length c5] 34).cell 0 (v:=.slice a0 n c0) rfl
 have hsz:=(Blk.new w #[.slice a0 n c0,.slice a1 s.metas.length c1,.slice a2 s.states.length c2,.slice a3 s.actions.length c3,.slice a4 s.tables.length c4,.slice a5 s.control.length c5] 34).lt
 generalize (w.alloc _)=W0 at HB0 p0 hsz ⊢
 go_wp2_with fail
 go_loopw [5] (fun i wr=>∃ k:Nat,k≤n∧i=.int .i64 k∧wr=W0∧Aside (idxF (fun h:Hdr=>decide (h.name=name)) (xs.drop k) k=R)) (fun i _=>n - (intOf i).toNat)
 case atStart=>exact⟨0,by omega,rfl,rfl,H0.out⟩
 case round=>
  obtain⟨k,hk,rfl,hwr,hd⟩:=hrel
  obtain rfl:=Eq.symm hwr
  by_cases hlt:k<n
  ·obtain⟨x,hx⟩:=gE HL.out hlt
   obtain⟨b,o,cs,rfl,_,hc,⟨u1,rfl,_⟩⟩:=HR.out.at hx
   have q0:W0.cell? ⟨b,o+k*2,none⟩=some (.string x.name):=by have:=pres_below HB0.out _ _ (hc 0 (.string x.name) rfl);simpa using this
   by_cases hs:x.name=name
   ·subst hs
    have HD:Hid (R=(k:Int)):=by
     show _=_
     rw[← hd.out];exact idx_yes hx (by simp) _
    clear hd hc hx
    go_wp2
    go_ret
    exact⟨by rw[HD.out];rfl,HB0.out⟩
   ·have ht:(x.name.toList==name.toList)=false:=by rw[txt_eq];exact decide_eq_false hs
    have HD:Hid (idxF (fun h:Hdr=>decide (h.name=name)) (xs.drop (k+1)) (k+1)=R):=by
     show _=_
     rw[← hd.out];exact(idx_no hx (by simpa using hs) _).symm
    clear hd hc hx
    go_wp2
    exact⟨⟨k+1,by omega,by go_num,trivial,HD.out⟩,by simp only[intOf];omega⟩
  ·have e:k=n:=by omega
   have HD:Hid (R = -1):=by
    show _=_
    rw[← hd.out,e,HL.out,idx_end]
   clear hd
   subst e
   go_wp2
   go_ret
   exact⟨by rw[HD.out];rfl,HB0.out⟩
theorem ractAt_any (v:Value)(s:Sch)(name:ByteArray)(w:World)(hs:SchIs w v s):Calls Tryz.prog 130 #[v,.string name] w fun e w'=>e=.returned (.int .i64 (actAt s name))∧Below w.heap.size w w':=by
 obtain⟨a0,c0,a1,c1,a2,c2,a3,c3,a4,c4,a5,c5,rfl,h0,h1,h2,h3,h4,h5⟩:=hs.parts
 have hlen:s.actions.length*64≤140737488351232:=h3.2
 have HR:Hid (Row 3 ActIs w (.slice a3 s.actions.length c3) s.actions):=h3.1
 have HB0:Hid (Bl w (w.alloc (.cells #[.slice a0 s.headers.length c0,.slice a1 s.metas.length c1,.slice a2 s.states.length c2,.slice a3 s.actions.length c3,.slice a4 s.tables.length c4,.slice a5 s.control.length c5] 34))):=(Below.refl _ _).alloc (Nat.le_refl _) _
 obtain⟨R,hR⟩:∃ R,R=actAt s name:=⟨_,rfl⟩
 have H0:Hid (idxF (fun h:Actn=>decide (h.name=name)) (s.actions.drop 0) 0=R):=by rw[hR];rfl
 rw[← hR]
 clear hs h0 h1 h2 h3 h4 h5 hR
 obtain⟨n,hn⟩:∃ n,n=s.actions.length:=⟨_,rfl⟩
 have HL:Hid (n=s.actions.length):=hn
 rw[← hn] at hlen HR HB0 ⊢
 clear hn
 generalize s.actions=xs at*
 go_enter Tryz.func130,Tryz.ntmps130
 go_upto_region 1 with fail
 have p0:=(Blk.new w #[.slice a0 s.headers.length c0,.slice a1 s.metas.length c1,.slice a2 s.states.length c2,.slice a3 n c3,.slice a4 s.tables.length c4,.slice a5 s.control.length c5] 34).cell 3 (v:=.slice a3 n c3) rfl
 have hsz:=(Blk.new w #[.slice a0 s.headers.length c0,.slice a1 s.metas.length c1,.slice a2 s.states.length c2,.slice a3 n c3,.slice a4 s.tables.length c4,.slice a5 s.control.length c5] 34).lt
 generalize (w.alloc _)=W0 at HB0 p0 hsz ⊢
 go_wp2_with fail
 go_loopw [5] (fun i wr=>∃ k:Nat,k≤n∧i=.int .i64 k∧wr=W0∧Aside (idxF (fun h:Actn=>decide (h.name=name)) (xs.drop k) k=R)) (fun i _=>n - (intOf i).toNat)
 case atStart=>exact⟨0,by omega,rfl,rfl,H0.out⟩
 case round=>
  obtain⟨k,hk,rfl,hwr,hd⟩:=hrel
  obtain rfl:=Eq.symm hwr
  by_cases hlt:k<n
  ·obtain⟨x,hx⟩:=gE HL.out hlt
   obtain⟨b,o,cs,rfl,_,hc,⟨u1,u2,rfl,_⟩⟩:=HR.out.at hx
   have q0:W0.cell? ⟨b,o+k*3,none⟩=some (.string x.name):=by have:=pres_below HB0.out _ _ (hc 0 (.string x.name) rfl);simpa using this
   by_cases hs:x.name=name
   ·subst hs
    have HD:Hid (R=(k:Int)):=by
     show _=_
     rw[← hd.out];exact idx_yes hx (by simp) _
    clear hd hc hx
    go_wp2
    go_ret
    exact⟨by rw[HD.out];rfl,HB0.out⟩
   ·have ht:(x.name.toList==name.toList)=false:=by rw[txt_eq];exact decide_eq_false hs
    have HD:Hid (idxF (fun h:Actn=>decide (h.name=name)) (xs.drop (k+1)) (k+1)=R):=by
     show _=_
     rw[← hd.out];exact(idx_no hx (by simpa using hs) _).symm
    clear hd hc hx
    go_wp2
    exact⟨⟨k+1,by omega,by go_num,trivial,HD.out⟩,by simp only[intOf];omega⟩
  ·have e:k=n:=by omega
   have HD:Hid (R = -1):=by
    show _=_
    rw[← hd.out,e,HL.out,idx_end]
   clear hd
   subst e
   go_wp2
   go_ret
   exact⟨by rw[HD.out];rfl,HB0.out⟩
theorem rtblAt_any (v:Value)(s:Sch)(name:ByteArray)(w:World)(hs:SchIs w v s):Calls Tryz.prog 131 #[v,.string name] w fun e w'=>e=.returned (.int .i64 (tblAt s name))∧Below w.heap.size w w':=by
 obtain⟨a0,c0,a1,c1,a2,c2,a3,c3,a4,c4,a5,c5,rfl,h0,h1,h2,h3,h4,h5⟩:=hs.parts
 have hlen:s.tables.length*120≤140737488351232:=h4.2
 have HR:Hid (Row 7 TblIs w (.slice a4 s.tables.length c4) s.tables):=h4.1
 have HB0:Hid (Bl w (w.alloc (.cells #[.slice a0 s.headers.length c0,.slice a1 s.metas.length c1,.slice a2 s.states.length c2,.slice a3 s.actions.length c3,.slice a4 s.tables.length c4,.slice a5 s.control.length c5] 34))):=(Below.refl _ _).alloc (Nat.le_refl _) _
 obtain⟨R,hR⟩:∃ R,R=tblAt s name:=⟨_,rfl⟩
 have H0:Hid (idxF (fun h:Tbl=>decide (h.name=name)) (s.tables.drop 0) 0=R):=by rw[hR];rfl
 rw[← hR]
 clear hs h0 h1 h2 h3 h4 h5 hR
 obtain⟨n,hn⟩:∃ n,n=s.tables.length:=⟨_,rfl⟩
 have HL:Hid (n=s.tables.length):=hn
 rw[← hn] at hlen HR HB0 ⊢
 clear hn
 generalize s.tables=xs at*
 go_enter Tryz.func131,Tryz.ntmps131
 go_upto_region 1 with fail
 have p0:=(Blk.new w #[.slice a0 s.headers.length c0,.slice a1 s.metas.length c1,.slice a2 s.states.length c2,.slice a3 s.actions.length c3,.slice a4 n c4,.slice a5 s.control.length c5] 34).cell 4 (v:=.slice a4 n c4) rfl
 have hsz:=(Blk.new w #[.slice a0 s.headers.length c0,.slice a1 s.metas.length c1,.slice a2 s.states.length c2,.slice a3 s.actions.length c3,.slice a4 n c4,.slice a5 s.control.length c5] 34).lt
 generalize (w.alloc _)=W0 at HB0 p0 hsz ⊢
 go_wp2_with fail
 go_loopw [5] (fun i wr=>∃ k:Nat,k≤n∧i=.int .i64 k∧wr=W0∧Aside (idxF (fun h:Tbl=>decide (h.name=name)) (xs.drop k) k=R)) (fun i _=>n - (intOf i).toNat)
 case atStart=>exact⟨0,by omega,rfl,rfl,H0.out⟩
 case round=>
  obtain⟨k,hk,rfl,hwr,hd⟩:=hrel
  obtain rfl:=Eq.symm hwr
  by_cases hlt:k<n
  ·obtain⟨x,hx⟩:=gE HL.out hlt
   obtain⟨b,o,cs,rfl,_,hc,⟨u1,u2,u3,rfl,_⟩⟩:=HR.out.at hx
   have q0:W0.cell? ⟨b,o+k*7,none⟩=some (.string x.name):=by have:=pres_below HB0.out _ _ (hc 0 (.string x.name) rfl);simpa using this
   by_cases hs:x.name=name
   ·subst hs
    have HD:Hid (R=(k:Int)):=by
     show _=_
     rw[← hd.out];exact idx_yes hx (by simp) _
    clear hd hc hx
    go_wp2
    go_ret
    exact⟨by rw[HD.out];rfl,HB0.out⟩
   ·have ht:(x.name.toList==name.toList)=false:=by rw[txt_eq];exact decide_eq_false hs
    have HD:Hid (idxF (fun h:Tbl=>decide (h.name=name)) (xs.drop (k+1)) (k+1)=R):=by
     show _=_
     rw[← hd.out];exact(idx_no hx (by simpa using hs) _).symm
    clear hd hc hx
    go_wp2
    exact⟨⟨k+1,by omega,by go_num,trivial,HD.out⟩,by simp only[intOf];omega⟩
  ·have e:k=n:=by omega
   have HD:Hid (R = -1):=by
    show _=_
    rw[← hd.out,e,HL.out,idx_end]
   clear hd
   subst e
   go_wp2
   go_ret
   exact⟨by rw[HD.out];rfl,HB0.out⟩
theorem rstaAt_any (v:Value)(s:Sch)(name:ByteArray)(w:World)(hs:SchIs w v s):Calls Tryz.prog 158 #[v,.string name] w fun e w'=>e=.returned (.int .i64 (staAt s name))∧Below w.heap.size w w':=by
 obtain⟨a0,c0,a1,c1,a2,c2,a3,c3,a4,c4,a5,c5,rfl,h0,h1,h2,h3,h4,h5⟩:=hs.parts
 have hlen:s.states.length*104≤140737488351232:=h2.2
 have HR:Hid (Row 6 StaIs w (.slice a2 s.states.length c2) s.states):=h2.1
 have HB0:Hid (Bl w (w.alloc (.cells #[.slice a0 s.headers.length c0,.slice a1 s.metas.length c1,.slice a2 s.states.length c2,.slice a3 s.actions.length c3,.slice a4 s.tables.length c4,.slice a5 s.control.length c5] 34))):=(Below.refl _ _).alloc (Nat.le_refl _) _
 obtain⟨R,hR⟩:∃ R,R=staAt s name:=⟨_,rfl⟩
 have H0:Hid (idxF (fun h:Sta=>decide (h.name=name)) (s.states.drop 0) 0=R):=by rw[hR];rfl
 rw[← hR]
 clear hs h0 h1 h2 h3 h4 h5 hR
 obtain⟨n,hn⟩:∃ n,n=s.states.length:=⟨_,rfl⟩
 have HL:Hid (n=s.states.length):=hn
 rw[← hn] at hlen HR HB0 ⊢
 clear hn
 generalize s.states=xs at*
 go_enter Tryz.func158,Tryz.ntmps158
 go_upto_region 1 with fail
 have p0:=(Blk.new w #[.slice a0 s.headers.length c0,.slice a1 s.metas.length c1,.slice a2 n c2,.slice a3 s.actions.length c3,.slice a4 s.tables.length c4,.slice a5 s.control.length c5] 34).cell 2 (v:=.slice a2 n c2) rfl
 have hsz:=(Blk.new w #[.slice a0 s.headers.length c0,.slice a1 s.metas.length c1,.slice a2 n c2,.slice a3 s.actions.length c3,.slice a4 s.tables.length c4,.slice a5 s.control.length c5] 34).lt
 generalize (w.alloc _)=W0 at HB0 p0 hsz ⊢
 go_wp2_with fail
 go_loopw [5] (fun i wr=>∃ k:Nat,k≤n∧i=.int .i64 k∧wr=W0∧Aside (idxF (fun h:Sta=>decide (h.name=name)) (xs.drop k) k=R)) (fun i _=>n - (intOf i).toNat)
 case atStart=>exact⟨0,by omega,rfl,rfl,H0.out⟩
 case round=>
  obtain⟨k,hk,rfl,hwr,hd⟩:=hrel
  obtain rfl:=Eq.symm hwr
  by_cases hlt:k<n
  ·obtain⟨x,hx⟩:=gE HL.out hlt
   obtain⟨b,o,cs,rfl,_,hc,⟨u1,rfl,_⟩⟩:=HR.out.at hx
   have q0:W0.cell? ⟨b,o+k*6,none⟩=some (.string x.name):=by have:=pres_below HB0.out _ _ (hc 0 (.string x.name) rfl);simpa using this
   by_cases hs:x.name=name
   ·subst hs
    have HD:Hid (R=(k:Int)):=by
     show _=_
     rw[← hd.out];exact idx_yes hx (by simp) _
    clear hd hc hx
    go_wp2
    go_ret
    exact⟨by rw[HD.out];rfl,HB0.out⟩
   ·have ht:(x.name.toList==name.toList)=false:=by rw[txt_eq];exact decide_eq_false hs
    have HD:Hid (idxF (fun h:Sta=>decide (h.name=name)) (xs.drop (k+1)) (k+1)=R):=by
     show _=_
     rw[← hd.out];exact(idx_no hx (by simpa using hs) _).symm
    clear hd hc hx
    go_wp2
    exact⟨⟨k+1,by omega,by go_num,trivial,HD.out⟩,by simp only[intOf];omega⟩
  ·have e:k=n:=by omega
   have HD:Hid (R = -1):=by
    show _=_
    rw[← hd.out,e,HL.out,idx_end]
   clear hd
   subst e
   go_wp2
   go_ret
   exact⟨by rw[HD.out];rfl,HB0.out⟩
theorem rfield_any (v:Value)(xs:List Fld)(name:ByteArray)(w:World)(hr:FldRow w v xs):Calls Tryz.prog 208 #[v,.string name] w fun e w'=>e=.returned (.int .i64 (fldAt xs name))∧w'=w:=by
 obtain⟨ad,cap,rfl,_⟩:=hr.1.slice
 have hlen:xs.length*24≤140737488351232:=hr.2
 have HR:Hid (Row 2 (Flat FldC FldOk) w (.slice ad xs.length cap) xs):=hr.1
 obtain⟨R,hR⟩:∃ R,R=fldAt xs name:=⟨_,rfl⟩
 have H0:Hid (idxF (fun h:Fld=>decide (h.name=name)) (xs.drop 0) 0=R):=by rw[hR];rfl
 rw[← hR]
 clear hr hR
 obtain⟨n,hn⟩:∃ n,n=xs.length:=⟨_,rfl⟩
 have HL:Hid (n=xs.length):=hn
 rw[← hn] at hlen HR ⊢
 clear hn
 go_enter Tryz.func208,Tryz.ntmps208
 go_wp2_with fail
 go_loopw [5] (fun i wr=>∃ k:Nat,k≤n∧i=.int .i64 k∧wr=w∧Aside (idxF (fun h:Fld=>decide (h.name=name)) (xs.drop k) k=R)) (fun i _=>n - (intOf i).toNat)
 case atStart=>exact⟨0,by omega,rfl,rfl,H0.out⟩
 case round=>
  obtain⟨k,hk,rfl,hwr,hd⟩:=hrel
  obtain rfl:=Eq.symm hwr
  by_cases hlt:k<n
  ·obtain⟨x,hx⟩:=gE HL.out hlt
   obtain⟨b,o,cs,rfl,_,hc,rfl,_⟩:=HR.out.at hx
   have q0:w.cell? ⟨b,o+k*2,none⟩=some (.string x.name):=by have:=(hc 0 (.string x.name) rfl);simpa using this
   by_cases hs:x.name=name
   ·subst hs
    have HD:Hid (R=(k:Int)):=by
     show _=_
     rw[← hd.out];exact idx_yes hx (by simp) _
    clear hd hc hx
    go_wp2
    go_ret
    exact⟨by rw[HD.out];rfl,rfl⟩
   ·have ht:(x.name.toList==name.toList)=false:=by rw[txt_eq];exact decide_eq_false hs
    have HD:Hid (idxF (fun h:Fld=>decide (h.name=name)) (xs.drop (k+1)) (k+1)=R):=by
     show _=_
     rw[← hd.out];exact(idx_no hx (by simpa using hs) _).symm
    clear hd hc hx
    go_wp2
    exact⟨⟨k+1,by omega,by go_num,trivial,HD.out⟩,by simp only[intOf];omega⟩
  ·have e:k=n:=by omega
   have HD:Hid (R = -1):=by
    show _=_
    rw[← hd.out,e,HL.out,idx_end]
   clear hd
   subst e
   go_wp2
   go_ret
   exact⟨by rw[HD.out];rfl,rfl⟩
theorem hasT_step {xs:List ByteArray}{k:Nat}{x:ByteArray}(hx:xs[k]?=some x)(s:ByteArray):hasT (xs.drop k) s=(decide (s=x)||hasT (xs.drop (k+1)) s):=by
 obtain⟨hlt,e⟩:=List.getElem?_eq_some_iff.1 hx
 rw[List.drop_eq_getElem_cons hlt,e];rfl
theorem rhas_any (v:Value)(xs:List ByteArray)(name:ByteArray)(w:World)(hr:Row 1 (Flat TxtC Okt) w v xs)(hlen:xs.length≤140737488351232):Calls Tryz.prog 89 #[v,.string name] w fun e w'=>e=.returned (.bool (hasT xs name))∧w'=w:=by
 obtain⟨ad,cap,rfl,_⟩:=hr.slice
 have HR:Hid (Row 1 (Flat TxtC Okt) w (.slice ad xs.length cap) xs):=hr
 obtain⟨R,hR⟩:∃ R,R=hasT xs name:=⟨_,rfl⟩
 have H0:Hid (hasT (xs.drop 0) name=R):=by rw[hR];rfl
 rw[← hR]
 clear hr hR
 obtain⟨n,hn⟩:∃ n,n=xs.length:=⟨_,rfl⟩
 have HL:Hid (n=xs.length):=hn
 rw[← hn] at hlen HR ⊢
 clear hn
 go_enter Tryz.func89,Tryz.ntmps89
 go_wp2_with fail
 go_loopw [5] (fun i wr=>∃ k:Nat,k≤n∧i=.int .i64 k∧wr=w∧Aside (hasT (xs.drop k) name=R)) (fun i _=>n - (intOf i).toNat)
 case atStart=>exact⟨0,by omega,rfl,rfl,H0.out⟩
 case round=>
  obtain⟨k,hk,rfl,hwr,hd⟩:=hrel
  obtain rfl:=Eq.symm hwr
  by_cases hlt:k<n
  ·obtain⟨x,hx⟩:=gE HL.out hlt
   obtain⟨b,o,cs,rfl,_,hc,rfl,_⟩:=HR.out.at hx
   have q0:w.cell? ⟨b,o+k,none⟩=some (.string x):=by have:=(hc 0 (.string x) rfl);simpa using this
   by_cases hs:x=name
   ·subst hs
    have HD:Hid (R=true):=by
     show _=_
     rw[← hd.out,hasT_step hx];simp
    clear hd hc hx
    go_wp2
    go_ret
    exact⟨by rw[HD.out];rfl,rfl⟩
   ·have ht:(x.toList==name.toList)=false:=by rw[txt_eq];exact decide_eq_false hs
    have HD:Hid (hasT (xs.drop (k+1)) name=R):=by
     show _=_
     rw[← hd.out,hasT_step hx,decide_eq_false (fun e=>hs e.symm)];rfl
    clear hd hc hx
    go_wp2
    exact⟨⟨k+1,by omega,by go_num,trivial,HD.out⟩,by simp only[intOf];omega⟩
  ·have e:k=n:=by omega
   have HD:Hid (R=false):=by
    show _=_
    rw[← hd.out,e,HL.out,List.drop_length];rfl
   clear hd
   subst e
   go_wp2
   go_ret
   exact⟨by rw[HD.out];rfl,rfl⟩
theorem rkind_any (x:Tbl)(cs:Array Value)(w:World)(hI:TblIs w cs x):Calls Tryz.prog 21 #[.agg cs] w fun e w'=>e=.returned (.int .i64 (kindF x.keys 1))∧Below w.heap.size w w':=by
 obtain⟨v0,v1,v2,rfl,okn,hf,hf1,hf2⟩:=hI
 obtain⟨a1,c1,rfl,_⟩:=hf1.1.slice
 obtain⟨a2,c2,rfl,_⟩:=hf2.1.slice
 obtain⟨ad,cap,rfl,_⟩:=hf.1.slice
 have hlen:x.keys.length*40≤140737488351232:=hf.2
 have HR:Hid (Row 3 (Flat KyC KyOk) w (.slice ad x.keys.length cap) x.keys):=hf.1
 have HB0:Hid (Bl w (w.alloc (.cells #[.string x.name,.slice ad x.keys.length cap,.slice a1 x.actions.length c1,.int .i64 x.size,.string x.dflt.action,.slice a2 x.dflt.args.length c2,.bool x.fixed] 51))):=(Below.refl _ _).alloc (Nat.le_refl _) _
 obtain⟨R,hR⟩:∃ R,R=kindF x.keys 1:=⟨_,rfl⟩
 have H0:Hid (kindF (x.keys.drop 0) 1=R):=by rw[hR];rfl
 rw[← hR]
 clear hf hf1 hf2 okn hR
 obtain⟨n,hn⟩:∃ n,n=x.keys.length:=⟨_,rfl⟩
 have HL:Hid (n=x.keys.length):=hn
 rw[← hn] at hlen HR HB0 ⊢
 clear hn
 generalize x.keys=xs at*
 go_enter Tryz.func21,Tryz.ntmps21
 go_upto_region 1 with fail
 have p1:=(Blk.new w #[.string x.name,.slice ad n cap,.slice a1 x.actions.length c1,.int .i64 x.size,.string x.dflt.action,.slice a2 x.dflt.args.length c2,.bool x.fixed] 51).cell 1 (v:=.slice ad n cap) rfl
 generalize (w.alloc _)=W0 at HB0 p1 ⊢
 go_wp2_with fail
 go_loopw [3,4] (fun t i wr=>∃(k:Nat) (tt:Int),k≤n∧t=.int .i64 tt∧i=.int .i64 k∧wr=W0∧Aside (kindF (xs.drop k) tt=R)) (fun _ i _=>n - (intOf i).toNat)
 case atStart=>exact⟨0,1,by omega,rfl,rfl,rfl,H0.out⟩
 case round=>
  obtain⟨k,tt,hk,rfl,rfl,hwr,hdA⟩:=hrel
  obtain rfl:=Eq.symm hwr
  have hd:=hdA.out
  clear hdA hwr
  have hb:=HB0.out
  by_cases hlt:k<n
  ·obtain⟨y,hy⟩:=gE HL.out hlt
   obtain⟨b,o,cs,rfl,_,hc,rfl,_⟩:=HR.out.at hy
   have q0:W0.cell? ⟨b,o+k*3,none⟩=some (.string y.ref.head):=by have:=pres_below hb _ _ (hc 0 (.string y.ref.head) rfl);simpa using this
   have q1:W0.cell? ⟨b,o+k*3+1,none⟩=some (.string y.ref.name):=by have:=pres_below hb _ _ (hc 1 (.string y.ref.name) rfl);simpa using this
   have q2:W0.cell? ⟨b,o+k*3+2,none⟩=some (.int .i64 y.kind):=by have:=pres_below hb _ _ (hc 2 (.int .i64 y.kind) rfl);simpa using this
   rw[kind_step hy] at hd
   have hsz:=hb.size
   clear hb hc hy H0 q0 q1
   by_cases k3:y.kind=3
   ·rw[k3] at hd q2
    have hD:R=3:=by simpa using hd.symm
    have HD:Hid (R=3):=hD
    clear hD
    clear hd
    go_wp2
    go_ret
    exact⟨by rw[HD.out];rfl,HB0.out⟩
   ·by_cases k4:y.kind=4
    ·rw[k4] at hd q2
     have hD:R=3:=by simpa using hd.symm
     have HD:Hid (R=3):=hD
     clear hD
     clear hd
     go_wp2
     go_ret
     exact⟨by rw[HD.out];rfl,HB0.out⟩
    ·by_cases k2:y.kind=2
     ·rw[k2] at hd q2
      have hD:kindF (xs.drop (k+1)) 2=R:=by simpa using hd
      have HD:Hid (kindF (xs.drop (k+1)) 2=R):=hD
      clear hD
      clear hd
      go_wp2
      exact⟨⟨k+1,2,by omega,rfl,by go_num,trivial,HD.out⟩,by simp only[intOf];omega⟩
     ·have hD:kindF (xs.drop (k+1)) tt=R:=by simpa[k2,k3,k4] using hd
      have HD:Hid (kindF (xs.drop (k+1)) tt=R):=hD
      clear hD
      have k3':(y.kind==3)=false:=by simpa using k3
      have k4':(y.kind==4)=false:=by simpa using k4
      have k2':(y.kind==2)=false:=by simpa using k2
      clear hd
      go_wp2
      exact⟨⟨k+1,tt,by omega,rfl,by go_num,trivial,HD.out⟩,by simp only[intOf];omega⟩
  ·have e:k=n:=by omega
   subst e
   have HD:Hid (R=tt):=by
    have h1:=HL.out
    rw[List.drop_of_length_le (by omega),kindF] at hd
    exact hd.symm
   clear hd
   go_wp2
   go_ret
   exact⟨by rw[HD.out];rfl,hb⟩
theorem rresv_any (s:ByteArray)(w:World):Calls Tryz.prog 80 #[.string s] w fun e w'=>e=.returned (.bool (isResB s.data.toList))∧w'=w:=by
 have hl:s.toList=s.data.toList:=ByteArray.toList_eq s
 have HY:Hid (∀ t,(s.toList==t)=true→t ∈ resL→isResB s.data.toList=true):=fun t h ht=>by rw[hl] at h;exact res_yes ht h
 have HN:Hid ((∀ t,t ∈ resL→(s.toList==t)=false)→isResB s.data.toList=false):=fun h=>by
  unfold isResB
  rw[Bool.eq_false_iff]
  intro hc
  have:=h _ (List.contains_iff_mem.1 hc)
  rw[hl] at this
  simp at this
 clear hl
 generalize isResB s.data.toList=r at*
 go_enter Tryz.func80,Tryz.ntmps80
 go_wp2
 all_goals
  go_ret
  refine⟨?_,rfl⟩
  first
   |(exfalso;simp_all only[Bool.true_eq_false,Bool.false_eq_true];done)
   |(rename_i hq hr;rw[hq] at hr;cases hr;done)
   |(have hy:r=true:=HY.out _ (by assumption) (by decide);rw[hy];rfl)
   | (have hf : r = false := HN.out (by
       intro t ht
       simp only [resL, List.mem_cons, List.not_mem_nil, or_false] at ht
       rcases ht with rfl | rfl | rfl | rfl | rfl | rfl | rfl | rfl | rfl | rfl | rfl | rfl | rfl | rfl | rfl | rfl | rfl | rfl | rfl | rfl | rfl | rfl | rfl | rfl | rfl | rfl | rfl | rfl | rfl <;> assumption)
      rw [hf]; rfl)
   |(exfalso;simp_all;done)
theorem risName_any (s:ByteArray)(hs:s.size≤140737488351232)(w:World):
  Calls Tryz.prog 18 #[.string s] w fun e w'=>e=.returned (.bool (nameB s.data.toList))∧w'=w:=by
 have hlen:s.data.toList.length=s.size:=by simp
 by_cases h0:s.size=0
 ·have q0:((s.size:Int)<1):=by omega
  have E:Hid (nameB s.data.toList=false):=by
   have:s.data.toList=[]:=List.eq_nil_of_length_eq_zero (by omega)
   show _=_;unfold nameB;rw[this];rfl
  generalize nameB s.data.toList=b at*
  clear hlen
  go_enter Tryz.func18,Tryz.ntmps18
  go_wp2
  go_ret
  exact⟨by rw[E.out];rfl,rfl⟩
 have q0:decide ((s.size:Int)<1)=false:=by simp;omega
 have hne:s.data.toList≠[]:=fun h=>h0 (by rw[← hlen,h];rfl)
 by_cases h1:s.size≤32
 rotate_left
 ·have q1:(32:Int)<(s.size:Int):=by omega
  have E:Hid (nameB s.data.toList=false):=by show _=_;unfold nameB;rw[hlen,decide_eq_false h1];simp
  generalize nameB s.data.toList=b at*
  clear hlen h1
  go_enter Tryz.func18,Tryz.ntmps18
  go_wp2
  go_ret
  exact⟨by rw[E.out];rfl,rfl⟩
 have q1:decide ((32:Int)<(s.size:Int))=false:=by simp;omega
 have CR:Hid (∀ w,Cs 80 #[.string s] w fun e w'=>e=.returned (.bool (isResB s.data.toList))∧w'=w):=rresv_any s
 obtain⟨R,hR⟩:∃ R,R=nameB s.data.toList:=⟨_,rfl⟩
 have E:Hid (R=(!isResB s.data.toList&&nmOk true s.data.toList)):=by
  show _=_;rw[hR];unfold nameB;rw[hlen,decide_eq_true h1,List.isEmpty_eq_false_iff.2 hne];simp
 rw[← hR]
 clear hR hne
 have HS:Hid (s.size≠0):=h0
 clear h0 h1
 have H0:Hid (nmOk (0==0) (s.data.toList.drop 0)=nmOk true s.data.toList):=rfl
 generalize nmOk true s.data.toList=NO at*
 generalize isResB s.data.toList=RB at*
 go_enter Tryz.func18,Tryz.ntmps18
 go_wp2
 go_loopw [3] (fun i wr=>∃ k:Nat,k≤s.size∧i=.int .i64 k∧Aside (nmOk (k==0) (s.data.toList.drop k)=NO)∧wr=w) (fun i _=>s.size - (intOf i).toNat)
 case atStart=>exact⟨0,by omega,rfl,H0.out,rfl⟩
 case round=>
  obtain⟨k,hk,rfl,hA,hwr⟩:=hrel
  obtain rfl:=Eq.symm hwr
  by_cases hlt:k<s.size
  ·have A2:Hid (nmOk (k==0) (s[k] :: s.data.toList.drop (k+1))=NO):=by show _=_;rw[← byteAt s hlt];exact hA.out
   have ST:Hid (okI (k==0) (cI s[k])=false→NO=false):=fun h=>by rw[← A2.out,nmOk,h];rfl
   have GO:Hid (okI (k==0) (cI s[k])=true→nmOk ((k+1)==0) (s.data.toList.drop (k+1))=NO):=fun h=>by rw[← A2.out,nmOk,h];simp
   have HO:Hid (okI (k==0) (cI s[k])=((decide (97≤cI s[k])&&decide (cI s[k]≤122))||(!(k==0)&&((decide (48≤cI s[k])&&decide (cI s[k]≤57))||cI s[k]==95)))):=rfl
   clear hA A2
   obtain⟨x,hx⟩:∃ x:Int,x=(s[k].toNat:Int):=⟨_,rfl⟩
   have hz:((k:Int)==0)=(k==0):=by cases k<;>rfl
   generalize hz0:(k==0)=z at*
   have hx':cI s[k]=x:=hx.symm
   rw[hx'] at ST GO HO
   clear hx'
   have HX:Hid (x=(s[k].toNat:Int)):=hx
   clear hx
   have HZ:Hid ((k==0)=z):=hz0
   clear hz0
   have e1:((s[k].toNat:Int))=x:=HX.out.symm
   by_cases a1:97≤x
   ·by_cases a2:x≤122
    ·have b1:48≤x:=by omega
     have b2:decide (x≤57)=false:=by simp;omega
     have b3:(x==95)=false:=by simp;omega
     have d1:decide (97≤x)=true:=by simpa using a1
     have d2:decide (x≤122)=true:=by simpa using a2
     have GO2:=GO.out (by rw[HO.out,d1,d2];rfl)
     have GO3:Hid _:=GO2
     clear GO2 GO ST HO
     go_wp2
     exact⟨⟨k+1,by omega,by go_num,GO3.out,trivial⟩,by simp only[intOf];omega⟩
    ·have b1:48≤x:=by omega
     have b2:decide (x≤57)=false:=by simp;omega
     have b3:(x==95)=false:=by simp;omega
     have d1:decide (97≤x)=true:=by simpa using a1
     have d2:decide (x≤122)=false:=by simpa using a2
     have ST2:Hid (NO=false):=ST.out (by rw[HO.out,d1,d2,b2,b3];simp)
     clear GO ST HO
     cases z
     all_goals
      go_wp2
      go_ret
      exact⟨by rw[E.out,ST2.out];simp,rfl⟩
   ·have d1:decide (97≤x)=false:=by simpa using a1
    by_cases c1:48≤x
    ·have c1':decide (48≤x)=true:=by simpa using c1
     by_cases c2:x≤57
     ·have c2':decide (x≤57)=true:=by simpa using c2
      cases z
      ·have GO3:Hid (nmOk ((k+1)==0) (s.data.toList.drop (k+1))=NO):=GO.out (by rw[HO.out,d1,c1',c2'];rfl)
       clear GO ST HO
       go_wp2
       exact⟨⟨k+1,by omega,by go_num,GO3.out,trivial⟩,by simp only[intOf];omega⟩
      ·have ST2:Hid (NO=false):=ST.out (by rw[HO.out,d1];rfl)
       clear GO ST HO
       go_wp2
       go_ret
       exact⟨by rw[E.out,ST2.out];simp,rfl⟩
     ·have c2':decide (x≤57)=false:=by simpa using c2
      by_cases c3:x=95
      ·have c3':(x==95)=true:=by simpa using c3
       cases z
       ·have GO3:Hid (nmOk ((k+1)==0) (s.data.toList.drop (k+1))=NO):=GO.out (by rw[HO.out,d1,c1',c2',c3'];rfl)
        clear GO ST HO c3
        go_wp2
        exact⟨⟨k+1,by omega,by go_num,GO3.out,trivial⟩,by simp only[intOf];omega⟩
       ·have ST2:Hid (NO=false):=ST.out (by rw[HO.out,d1];rfl)
        clear GO ST HO c3
        go_wp2
        go_ret
        exact⟨by rw[E.out,ST2.out];simp,rfl⟩
      ·have c3':(x==95)=false:=by simpa using c3
       have ST2:Hid (NO=false):=ST.out (by rw[HO.out,d1,c1',c2',c3'];simp)
       clear GO ST HO c3
       cases z
       all_goals
        go_wp2
        go_ret
        exact⟨by rw[E.out,ST2.out];simp,rfl⟩
    ·have c1':decide (48≤x)=false:=by simpa using c1
     have c3':(x==95)=false:=by simp;omega
     have ST2:Hid (NO=false):=ST.out (by rw[HO.out,d1,c1',c3'];simp)
     clear GO ST HO
     cases z
     all_goals
      go_wp2
      go_ret
      exact⟨by rw[E.out,ST2.out];simp,rfl⟩
  ·have e:k=s.size:=by omega
   subst e
   have E2:Hid (NO=true):=by
    show _=_;rw[← hA.out,List.drop_of_length_le (by simp)];cases (s.size==0)<;>rfl
   clear hA
   go_wp2_with (go_at_call 80;refine(CR.out _).mono ?_;rintro e w' ⟨rfl,hw'⟩;obtain rfl:=Eq.symm hw')
   go_ret
   exact⟨by rw[E.out,E2.out];simp,rfl⟩
end Go.Proofs.YtmbpclknhkbbkaaGreat
