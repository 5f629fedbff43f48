/- The document's searches: HeaderAt, ActionAt, TableAt, StateAt, field, has; Kind. The document's Place, width, Width. The document's width, Width. -/
import Derived.Test.YtmbpclknhkbbkaaGreatK21
import Derived.Test.YtmbpclknhkbbkaaGreatK25
import Derived.Test.YtmbpclknhkbbkaaGreatK37
import Derived.Test.YtmbpclknhkbbkaaGreatK23
import Derived.Test.YtmbpclknhkbbkaaGreatK17
set_option linter.unusedSimpArgs false
set_option linter.unusedVariables false
namespace Go.Proofs.YtmbpclknhkbbkaaGreat
open Go.RowKit
set_option linter.unusedVariables false
set_option linter.unusedSimpArgs false

def staAt (s : Sch) (name : ByteArray) : Int := idxF (fun h : Sta => decide (h.name = name)) s.states 0
def fldAt (l : List Fld) (name : ByteArray) : Int := idxF (fun h : Fld => decide (h.name = name)) l 0
set_option maxHeartbeats 1000000 in
theorem rhdrAt_any (v : Value) (s : Sch) (name : ByteArray) (w : World) (hs : SchIs w v s) : Calls Tryz.prog 129 #[v,.string name] w fun e w' => e = .returned (.int .i64 (hdrAt s name)) ∧ Below w.heap.size w w' := by
 obtain ⟨a0,c0,a1,c1,a2,c2,a3,c3,a4,c4,a5,c5,rfl,h0,h1,h2,h3,h4,h5⟩ := hs.parts
 have hlen : s.headers.length * 40 ≤ 140737488351232 := h0.2
 have HR : Hid (Row 2 HdrIs w (.slice a0 s.headers.length c0) s.headers) := h0.1
 have HB0 : Hid (Below w.heap.size w (w.alloc (.cells #[.slice a0 s.headers.length c0,.slice a1 s.metas.length c1,.slice a2 s.states.length c2,.slice a3 s.actions.length c3,.slice a4 s.tables.length c4,.slice a5 s.control.length c5] 34))) := (Below.refl _ _).alloc (Nat.le_refl _) _
 obtain ⟨R,hR⟩ : ∃ R,R = hdrAt s name := ⟨_,rfl⟩
 have H0 : Hid (idxF (fun h : Hdr => decide (h.name = name)) (s.headers.drop 0) 0 = R) := by rw [hR]; rfl
 rw [← hR]
 clear hs h0 h1 h2 h3 h4 h5 hR
 obtain ⟨n,hn⟩ : ∃ n,n = s.headers.length := ⟨_,rfl⟩
 have HL : Hid (n = s.headers.length) := hn
 rw [← hn] at hlen HR HB0 ⊢
 clear hn
 generalize s.headers = xs at *
 go_enter Tryz.func129,Tryz.ntmps129
 go_upto_region 1 with fail
 have p0 := (Blk.new w #[.slice a0 n c0,.slice a1 s.metas.length c1,.slice a2 s.states.length c2,.slice a3 s.actions.length c3,.slice a4 s.tables.length c4,.slice a5 s.control.length c5] 34).cell 0 (v := .slice a0 n c0) rfl
 have hsz := (Blk.new w #[.slice a0 n c0,.slice a1 s.metas.length c1,.slice a2 s.states.length c2,.slice a3 s.actions.length c3,.slice a4 s.tables.length c4,.slice a5 s.control.length c5] 34).lt
 generalize (w.alloc _) = W0 at HB0 p0 hsz ⊢
 go_wp2_with fail
 go_loopw [5] (fun i wr => ∃ k : Nat,k ≤ n ∧ i = .int .i64 k ∧ wr = W0 ∧ Aside (idxF (fun h : Hdr => decide (h.name = name)) (xs.drop k) k = R)) (fun i _ => n - (intOf i).toNat)
 case atStart => exact ⟨0,by omega,rfl,rfl,H0.out⟩
 case round =>
  obtain ⟨k,hk,rfl,hwr,hd⟩ := hrel
  obtain rfl := Eq.symm hwr
  by_cases hlt : k < n
  ·obtain ⟨x,hx⟩ : ∃ x,xs[k]? = some x := ⟨xs[k]'(by rw [← HL.out]; exact hlt),List.getElem?_eq_getElem _⟩
   obtain ⟨b,o,cs,rfl,_,hc,⟨u1,rfl,_⟩⟩ := HR.out.at hx
   have q0 : W0.cell? ⟨b,o + k * 2,none⟩ = some (.string x.name) := by have := pres_below HB0.out _ _ (hc 0 (.string x.name) rfl); simpa using this
   by_cases hs : x.name = name
   ·subst hs
    have HD : Hid (R = (k : Int)) := by
     show _ = _
     rw [← hd.out]; exact idx_yes hx (by simp) _
    clear hd hc hx
    go_wp2
    go_ret
    exact ⟨by rw [HD.out]; rfl,HB0.out⟩
   ·have ht : (x.name.toList == name.toList) = false := by rw [txt_eq]; exact decide_eq_false hs
    have HD : Hid (idxF (fun h : Hdr => decide (h.name = name)) (xs.drop (k + 1)) (k + 1) = R) := by
     show _ = _
     rw [← hd.out]; exact (idx_no hx (by simpa using hs) _).symm
    clear hd hc hx
    go_wp2
    exact ⟨⟨k + 1,by omega,by go_num,trivial,HD.out⟩,by simp only [intOf]; omega⟩
  ·have e : k = n := by omega
   have HD : Hid (R = -1) := by
    show _ = _
    rw [← hd.out,e,HL.out,idx_end]
   clear hd
   subst e
   go_wp2
   go_ret
   exact ⟨by rw [HD.out]; rfl,HB0.out⟩
set_option maxHeartbeats 1000000 in
theorem ractAt_any (v : Value) (s : Sch) (name : ByteArray) (w : World) (hs : SchIs w v s) : Calls Tryz.prog 130 #[v,.string name] w fun e w' => e = .returned (.int .i64 (actAt s name)) ∧ Below w.heap.size w w' := by
 obtain ⟨a0,c0,a1,c1,a2,c2,a3,c3,a4,c4,a5,c5,rfl,h0,h1,h2,h3,h4,h5⟩ := hs.parts
 have hlen : s.actions.length * 64 ≤ 140737488351232 := h3.2
 have HR : Hid (Row 3 ActIs w (.slice a3 s.actions.length c3) s.actions) := h3.1
 have HB0 : Hid (Below w.heap.size w (w.alloc (.cells #[.slice a0 s.headers.length c0,.slice a1 s.metas.length c1,.slice a2 s.states.length c2,.slice a3 s.actions.length c3,.slice a4 s.tables.length c4,.slice a5 s.control.length c5] 34))) := (Below.refl _ _).alloc (Nat.le_refl _) _
 obtain ⟨R,hR⟩ : ∃ R,R = actAt s name := ⟨_,rfl⟩
 have H0 : Hid (idxF (fun h : Actn => decide (h.name = name)) (s.actions.drop 0) 0 = R) := by rw [hR]; rfl
 rw [← hR]
 clear hs h0 h1 h2 h3 h4 h5 hR
 obtain ⟨n,hn⟩ : ∃ n,n = s.actions.length := ⟨_,rfl⟩
 have HL : Hid (n = s.actions.length) := hn
 rw [← hn] at hlen HR HB0 ⊢
 clear hn
 generalize s.actions = xs at *
 go_enter Tryz.func130,Tryz.ntmps130
 go_upto_region 1 with fail
 have p0 := (Blk.new w #[.slice a0 s.headers.length c0,.slice a1 s.metas.length c1,.slice a2 s.states.length c2,.slice a3 n c3,.slice a4 s.tables.length c4,.slice a5 s.control.length c5] 34).cell 3 (v := .slice a3 n c3) rfl
 have hsz := (Blk.new w #[.slice a0 s.headers.length c0,.slice a1 s.metas.length c1,.slice a2 s.states.length c2,.slice a3 n c3,.slice a4 s.tables.length c4,.slice a5 s.control.length c5] 34).lt
 generalize (w.alloc _) = W0 at HB0 p0 hsz ⊢
 go_wp2_with fail
 go_loopw [5] (fun i wr => ∃ k : Nat,k ≤ n ∧ i = .int .i64 k ∧ wr = W0 ∧ Aside (idxF (fun h : Actn => decide (h.name = name)) (xs.drop k) k = R)) (fun i _ => n - (intOf i).toNat)
 case atStart => exact ⟨0,by omega,rfl,rfl,H0.out⟩
 case round =>
  obtain ⟨k,hk,rfl,hwr,hd⟩ := hrel
  obtain rfl := Eq.symm hwr
  by_cases hlt : k < n
  ·obtain ⟨x,hx⟩ : ∃ x,xs[k]? = some x := ⟨xs[k]'(by rw [← HL.out]; exact hlt),List.getElem?_eq_getElem _⟩
   obtain ⟨b,o,cs,rfl,_,hc,⟨u1,u2,rfl,_⟩⟩ := HR.out.at hx
   have q0 : W0.cell? ⟨b,o + k * 3,none⟩ = some (.string x.name) := by have := pres_below HB0.out _ _ (hc 0 (.string x.name) rfl); simpa using this
   by_cases hs : x.name = name
   ·subst hs
    have HD : Hid (R = (k : Int)) := by
     show _ = _
     rw [← hd.out]; exact idx_yes hx (by simp) _
    clear hd hc hx
    go_wp2
    go_ret
    exact ⟨by rw [HD.out]; rfl,HB0.out⟩
   ·have ht : (x.name.toList == name.toList) = false := by rw [txt_eq]; exact decide_eq_false hs
    have HD : Hid (idxF (fun h : Actn => decide (h.name = name)) (xs.drop (k + 1)) (k + 1) = R) := by
     show _ = _
     rw [← hd.out]; exact (idx_no hx (by simpa using hs) _).symm
    clear hd hc hx
    go_wp2
    exact ⟨⟨k + 1,by omega,by go_num,trivial,HD.out⟩,by simp only [intOf]; omega⟩
  ·have e : k = n := by omega
   have HD : Hid (R = -1) := by
    show _ = _
    rw [← hd.out,e,HL.out,idx_end]
   clear hd
   subst e
   go_wp2
   go_ret
   exact ⟨by rw [HD.out]; rfl,HB0.out⟩
set_option maxHeartbeats 1000000 in
theorem rtblAt_any (v : Value) (s : Sch) (name : ByteArray) (w : World) (hs : SchIs w v s) : Calls Tryz.prog 131 #[v,.string name] w fun e w' => e = .returned (.int .i64 (tblAt s name)) ∧ Below w.heap.size w w' := by
 obtain ⟨a0,c0,a1,c1,a2,c2,a3,c3,a4,c4,a5,c5,rfl,h0,h1,h2,h3,h4,h5⟩ := hs.parts
 have hlen : s.tables.length * 120 ≤ 140737488351232 := h4.2
 have HR : Hid (Row 7 TblIs w (.slice a4 s.tables.length c4) s.tables) := h4.1
 have HB0 : Hid (Below w.heap.size w (w.alloc (.cells #[.slice a0 s.headers.length c0,.slice a1 s.metas.length c1,.slice a2 s.states.length c2,.slice a3 s.actions.length c3,.slice a4 s.tables.length c4,.slice a5 s.control.length c5] 34))) := (Below.refl _ _).alloc (Nat.le_refl _) _
 obtain ⟨R,hR⟩ : ∃ R,R = tblAt s name := ⟨_,rfl⟩
 have H0 : Hid (idxF (fun h : Tbl => decide (h.name = name)) (s.tables.drop 0) 0 = R) := by rw [hR]; rfl
 rw [← hR]
 clear hs h0 h1 h2 h3 h4 h5 hR
 obtain ⟨n,hn⟩ : ∃ n,n = s.tables.length := ⟨_,rfl⟩
 have HL : Hid (n = s.tables.length) := hn
 rw [← hn] at hlen HR HB0 ⊢
 clear hn
 generalize s.tables = xs at *
 go_enter Tryz.func131,Tryz.ntmps131
 go_upto_region 1 with fail
 have p0 := (Blk.new w #[.slice a0 s.headers.length c0,.slice a1 s.metas.length c1,.slice a2 s.states.length c2,.slice a3 s.actions.length c3,.slice a4 n c4,.slice a5 s.control.length c5] 34).cell 4 (v := .slice a4 n c4) rfl
 have hsz := (Blk.new w #[.slice a0 s.headers.length c0,.slice a1 s.metas.length c1,.slice a2 s.states.length c2,.slice a3 s.actions.length c3,.slice a4 n c4,.slice a5 s.control.length c5] 34).lt
 generalize (w.alloc _) = W0 at HB0 p0 hsz ⊢
 go_wp2_with fail
 go_loopw [5] (fun i wr => ∃ k : Nat,k ≤ n ∧ i = .int .i64 k ∧ wr = W0 ∧ Aside (idxF (fun h : Tbl => decide (h.name = name)) (xs.drop k) k = R)) (fun i _ => n - (intOf i).toNat)
 case atStart => exact ⟨0,by omega,rfl,rfl,H0.out⟩
 case round =>
  obtain ⟨k,hk,rfl,hwr,hd⟩ := hrel
  obtain rfl := Eq.symm hwr
  by_cases hlt : k < n
  ·obtain ⟨x,hx⟩ : ∃ x,xs[k]? = some x := ⟨xs[k]'(by rw [← HL.out]; exact hlt),List.getElem?_eq_getElem _⟩
   obtain ⟨b,o,cs,rfl,_,hc,⟨u1,u2,u3,rfl,_⟩⟩ := HR.out.at hx
   have q0 : W0.cell? ⟨b,o + k * 7,none⟩ = some (.string x.name) := by have := pres_below HB0.out _ _ (hc 0 (.string x.name) rfl); simpa using this
   by_cases hs : x.name = name
   ·subst hs
    have HD : Hid (R = (k : Int)) := by
     show _ = _
     rw [← hd.out]; exact idx_yes hx (by simp) _
    clear hd hc hx
    go_wp2
    go_ret
    exact ⟨by rw [HD.out]; rfl,HB0.out⟩
   ·have ht : (x.name.toList == name.toList) = false := by rw [txt_eq]; exact decide_eq_false hs
    have HD : Hid (idxF (fun h : Tbl => decide (h.name = name)) (xs.drop (k + 1)) (k + 1) = R) := by
     show _ = _
     rw [← hd.out]; exact (idx_no hx (by simpa using hs) _).symm
    clear hd hc hx
    go_wp2
    exact ⟨⟨k + 1,by omega,by go_num,trivial,HD.out⟩,by simp only [intOf]; omega⟩
  ·have e : k = n := by omega
   have HD : Hid (R = -1) := by
    show _ = _
    rw [← hd.out,e,HL.out,idx_end]
   clear hd
   subst e
   go_wp2
   go_ret
   exact ⟨by rw [HD.out]; rfl,HB0.out⟩
set_option maxHeartbeats 1000000 in
theorem rstaAt_any (v : Value) (s : Sch) (name : ByteArray) (w : World) (hs : SchIs w v s) : Calls Tryz.prog 158 #[v,.string name] w fun e w' => e = .returned (.int .i64 (staAt s name)) ∧ Below w.heap.size w w' := by
 obtain ⟨a0,c0,a1,c1,a2,c2,a3,c3,a4,c4,a5,c5,rfl,h0,h1,h2,h3,h4,h5⟩ := hs.parts
 have hlen : s.states.length * 104 ≤ 140737488351232 := h2.2
 have HR : Hid (Row 6 StaIs w (.slice a2 s.states.length c2) s.states) := h2.1
 have HB0 : Hid (Below w.heap.size w (w.alloc (.cells #[.slice a0 s.headers.length c0,.slice a1 s.metas.length c1,.slice a2 s.states.length c2,.slice a3 s.actions.length c3,.slice a4 s.tables.length c4,.slice a5 s.control.length c5] 34))) := (Below.refl _ _).alloc (Nat.le_refl _) _
 obtain ⟨R,hR⟩ : ∃ R,R = staAt s name := ⟨_,rfl⟩
 have H0 : Hid (idxF (fun h : Sta => decide (h.name = name)) (s.states.drop 0) 0 = R) := by rw [hR]; rfl
 rw [← hR]
 clear hs h0 h1 h2 h3 h4 h5 hR
 obtain ⟨n,hn⟩ : ∃ n,n = s.states.length := ⟨_,rfl⟩
 have HL : Hid (n = s.states.length) := hn
 rw [← hn] at hlen HR HB0 ⊢
 clear hn
 generalize s.states = xs at *
 go_enter Tryz.func158,Tryz.ntmps158
 go_upto_region 1 with fail
 have p0 := (Blk.new w #[.slice a0 s.headers.length c0,.slice a1 s.metas.length c1,.slice a2 n c2,.slice a3 s.actions.length c3,.slice a4 s.tables.length c4,.slice a5 s.control.length c5] 34).cell 2 (v := .slice a2 n c2) rfl
 have hsz := (Blk.new w #[.slice a0 s.headers.length c0,.slice a1 s.metas.length c1,.slice a2 n c2,.slice a3 s.actions.length c3,.slice a4 s.tables.length c4,.slice a5 s.control.length c5] 34).lt
 generalize (w.alloc _) = W0 at HB0 p0 hsz ⊢
 go_wp2_with fail
 go_loopw [5] (fun i wr => ∃ k : Nat,k ≤ n ∧ i = .int .i64 k ∧ wr = W0 ∧ Aside (idxF (fun h : Sta => decide (h.name = name)) (xs.drop k) k = R)) (fun i _ => n - (intOf i).toNat)
 case atStart => exact ⟨0,by omega,rfl,rfl,H0.out⟩
 case round =>
  obtain ⟨k,hk,rfl,hwr,hd⟩ := hrel
  obtain rfl := Eq.symm hwr
  by_cases hlt : k < n
  ·obtain ⟨x,hx⟩ : ∃ x,xs[k]? = some x := ⟨xs[k]'(by rw [← HL.out]; exact hlt),List.getElem?_eq_getElem _⟩
   obtain ⟨b,o,cs,rfl,_,hc,⟨u1,rfl,_⟩⟩ := HR.out.at hx
   have q0 : W0.cell? ⟨b,o + k * 6,none⟩ = some (.string x.name) := by have := pres_below HB0.out _ _ (hc 0 (.string x.name) rfl); simpa using this
   by_cases hs : x.name = name
   ·subst hs
    have HD : Hid (R = (k : Int)) := by
     show _ = _
     rw [← hd.out]; exact idx_yes hx (by simp) _
    clear hd hc hx
    go_wp2
    go_ret
    exact ⟨by rw [HD.out]; rfl,HB0.out⟩
   ·have ht : (x.name.toList == name.toList) = false := by rw [txt_eq]; exact decide_eq_false hs
    have HD : Hid (idxF (fun h : Sta => decide (h.name = name)) (xs.drop (k + 1)) (k + 1) = R) := by
     show _ = _
     rw [← hd.out]; exact (idx_no hx (by simpa using hs) _).symm
    clear hd hc hx
    go_wp2
    exact ⟨⟨k + 1,by omega,by go_num,trivial,HD.out⟩,by simp only [intOf]; omega⟩
  ·have e : k = n := by omega
   have HD : Hid (R = -1) := by
    show _ = _
    rw [← hd.out,e,HL.out,idx_end]
   clear hd
   subst e
   go_wp2
   go_ret
   exact ⟨by rw [HD.out]; rfl,HB0.out⟩
set_option maxHeartbeats 1000000 in
theorem rfield_any (v : Value) (xs : List Fld) (name : ByteArray) (w : World) (hr : FldRow w v xs) : Calls Tryz.prog 208 #[v,.string name] w fun e w' => e = .returned (.int .i64 (fldAt xs name)) ∧ w' = w := by
 obtain ⟨ad,cap,rfl,_⟩ := hr.1.slice
 have hlen : xs.length * 24 ≤ 140737488351232 := hr.2
 have HR : Hid (Row 2 (Flat FldC FldOk) w (.slice ad xs.length cap) xs) := hr.1
 obtain ⟨R,hR⟩ : ∃ R,R = fldAt xs name := ⟨_,rfl⟩
 have H0 : Hid (idxF (fun h : Fld => decide (h.name = name)) (xs.drop 0) 0 = R) := by rw [hR]; rfl
 rw [← hR]
 clear hr hR
 obtain ⟨n,hn⟩ : ∃ n,n = xs.length := ⟨_,rfl⟩
 have HL : Hid (n = xs.length) := hn
 rw [← hn] at hlen HR ⊢
 clear hn
 go_enter Tryz.func208,Tryz.ntmps208
 go_wp2_with fail
 go_loopw [5] (fun i wr => ∃ k : Nat,k ≤ n ∧ i = .int .i64 k ∧ wr = w ∧ Aside (idxF (fun h : Fld => decide (h.name = name)) (xs.drop k) k = R)) (fun i _ => n - (intOf i).toNat)
 case atStart => exact ⟨0,by omega,rfl,rfl,H0.out⟩
 case round =>
  obtain ⟨k,hk,rfl,hwr,hd⟩ := hrel
  obtain rfl := Eq.symm hwr
  by_cases hlt : k < n
  ·obtain ⟨x,hx⟩ : ∃ x,xs[k]? = some x := ⟨xs[k]'(by rw [← HL.out]; exact hlt),List.getElem?_eq_getElem _⟩
   obtain ⟨b,o,cs,rfl,_,hc,rfl,_⟩ := HR.out.at hx
   have q0 : w.cell? ⟨b,o + k * 2,none⟩ = some (.string x.name) := by have := (hc 0 (.string x.name) rfl); simpa using this
   by_cases hs : x.name = name
   ·subst hs
    have HD : Hid (R = (k : Int)) := by
     show _ = _
     rw [← hd.out]; exact idx_yes hx (by simp) _
    clear hd hc hx
    go_wp2
    go_ret
    exact ⟨by rw [HD.out]; rfl,rfl⟩
   ·have ht : (x.name.toList == name.toList) = false := by rw [txt_eq]; exact decide_eq_false hs
    have HD : Hid (idxF (fun h : Fld => decide (h.name = name)) (xs.drop (k + 1)) (k + 1) = R) := by
     show _ = _
     rw [← hd.out]; exact (idx_no hx (by simpa using hs) _).symm
    clear hd hc hx
    go_wp2
    exact ⟨⟨k + 1,by omega,by go_num,trivial,HD.out⟩,by simp only [intOf]; omega⟩
  ·have e : k = n := by omega
   have HD : Hid (R = -1) := by
    show _ = _
    rw [← hd.out,e,HL.out,idx_end]
   clear hd
   subst e
   go_wp2
   go_ret
   exact ⟨by rw [HD.out]; rfl,rfl⟩
theorem hasT_step {xs : List ByteArray} {k : Nat} {x : ByteArray} (hx : xs[k]? = some x) (s : ByteArray) : hasT (xs.drop k) s = (decide (s = x) || hasT (xs.drop (k + 1)) s) := by
 obtain ⟨hlt,e⟩ := List.getElem?_eq_some_iff.1 hx
 rw [List.drop_eq_getElem_cons hlt,e]; rfl
set_option maxHeartbeats 1000000 in
theorem rhas_any (v : Value) (xs : List ByteArray) (name : ByteArray) (w : World) (hr : Row 1 (Flat TxtC Okt) w v xs) (hlen : xs.length ≤ 140737488351232) : Calls Tryz.prog 89 #[v,.string name] w fun e w' => e = .returned (.bool (hasT xs name)) ∧ w' = w := by
 obtain ⟨ad,cap,rfl,_⟩ := hr.slice
 have HR : Hid (Row 1 (Flat TxtC Okt) w (.slice ad xs.length cap) xs) := hr
 obtain ⟨R,hR⟩ : ∃ R,R = hasT xs name := ⟨_,rfl⟩
 have H0 : Hid (hasT (xs.drop 0) name = R) := by rw [hR]; rfl
 rw [← hR]
 clear hr hR
 obtain ⟨n,hn⟩ : ∃ n,n = xs.length := ⟨_,rfl⟩
 have HL : Hid (n = xs.length) := hn
 rw [← hn] at hlen HR ⊢
 clear hn
 go_enter Tryz.func89,Tryz.ntmps89
 go_wp2_with fail
 go_loopw [5] (fun i wr => ∃ k : Nat,k ≤ n ∧ i = .int .i64 k ∧ wr = w ∧ Aside (hasT (xs.drop k) name = R)) (fun i _ => n - (intOf i).toNat)
 case atStart => exact ⟨0,by omega,rfl,rfl,H0.out⟩
 case round =>
  obtain ⟨k,hk,rfl,hwr,hd⟩ := hrel
  obtain rfl := Eq.symm hwr
  by_cases hlt : k < n
  ·obtain ⟨x,hx⟩ : ∃ x,xs[k]? = some x := ⟨xs[k]'(by rw [← HL.out]; exact hlt),List.getElem?_eq_getElem _⟩
   obtain ⟨b,o,cs,rfl,_,hc,rfl,_⟩ := HR.out.at hx
   have q0 : w.cell? ⟨b,o + k,none⟩ = some (.string x) := by have := (hc 0 (.string x) rfl); simpa using this
   by_cases hs : x = name
   ·subst hs
    have HD : Hid (R = true) := by
     show _ = _
     rw [← hd.out,hasT_step hx]; simp
    clear hd hc hx
    go_wp2
    go_ret
    exact ⟨by rw [HD.out]; rfl,rfl⟩
   ·have ht : (x.toList == name.toList) = false := by rw [txt_eq]; exact decide_eq_false hs
    have HD : Hid (hasT (xs.drop (k + 1)) name = R) := by
     show _ = _
     rw [← hd.out,hasT_step hx,decide_eq_false (fun e => hs e.symm)]; rfl
    clear hd hc hx
    go_wp2
    exact ⟨⟨k + 1,by omega,by go_num,trivial,HD.out⟩,by simp only [intOf]; omega⟩
  ·have e : k = n := by omega
   have HD : Hid (R = false) := by
    show _ = _
    rw [← hd.out,e,HL.out,List.drop_length]; rfl
   clear hd
   subst e
   go_wp2
   go_ret
   exact ⟨by rw [HD.out]; rfl,rfl⟩
set_option maxHeartbeats 1000000 in
set_option maxRecDepth 100000 in
theorem rkind_any (x : Tbl) (cs : Array Value) (w : World) (hI : TblIs w cs x) : Calls Tryz.prog 21 #[.agg cs] w fun e w' => e = .returned (.int .i64 (kindF x.keys 1)) ∧ Below w.heap.size w w' := by
 obtain ⟨v0,v1,v2,rfl,okn,hf,hf1,hf2⟩ := hI
 obtain ⟨a1,c1,rfl,_⟩ := hf1.1.slice
 obtain ⟨a2,c2,rfl,_⟩ := hf2.1.slice
 obtain ⟨ad,cap,rfl,_⟩ := hf.1.slice
 have hlen : x.keys.length * 40 ≤ 140737488351232 := hf.2
 have HR : Hid (Row 3 (Flat KyC KyOk) w (.slice ad x.keys.length cap) x.keys) := hf.1
 have HB0 : Hid (Below w.heap.size w (w.alloc (.cells #[.string x.name,.slice ad x.keys.length cap,.slice a1 x.actions.length c1,.int .i64 x.size,.string x.dflt.action,.slice a2 x.dflt.args.length c2,.bool x.fixed] 51))) := (Below.refl _ _).alloc (Nat.le_refl _) _
 obtain ⟨R,hR⟩ : ∃ R,R = kindF x.keys 1 := ⟨_,rfl⟩
 have H0 : Hid (kindF (x.keys.drop 0) 1 = R) := by rw [hR]; rfl
 rw [← hR]
 clear hf hf1 hf2 okn hR
 obtain ⟨n,hn⟩ : ∃ n,n = x.keys.length := ⟨_,rfl⟩
 have HL : Hid (n = x.keys.length) := hn
 rw [← hn] at hlen HR HB0 ⊢
 clear hn
 generalize x.keys = xs at *
 go_enter Tryz.func21,Tryz.ntmps21
 go_upto_region 1 with fail
 have p1 := (Blk.new w #[.string x.name,.slice ad n cap,.slice a1 x.actions.length c1,.int .i64 x.size,.string x.dflt.action,.slice a2 x.dflt.args.length c2,.bool x.fixed] 51).cell 1 (v := .slice ad n cap) rfl
 generalize (w.alloc _) = W0 at HB0 p1 ⊢
 go_wp2_with fail
 go_loopw [3,4] (fun t i wr => ∃ (k : Nat) (tt : Int),k ≤ n ∧ t = .int .i64 tt ∧ i = .int .i64 k ∧ wr = W0 ∧ Aside (kindF (xs.drop k) tt = R)) (fun _ i _ => n - (intOf i).toNat)
 case atStart => exact ⟨0,1,by omega,rfl,rfl,rfl,H0.out⟩
 case round =>
  obtain ⟨k,tt,hk,rfl,rfl,hwr,hdA⟩ := hrel
  obtain rfl := Eq.symm hwr
  have hd := hdA.out
  clear hdA hwr
  have hb := HB0.out
  by_cases hlt : k < n
  ·obtain ⟨y,hy⟩ : ∃ y,xs[k]? = some y := ⟨xs[k]'(by rw [← HL.out]; exact hlt),List.getElem?_eq_getElem _⟩
   obtain ⟨b,o,cs,rfl,_,hc,rfl,_⟩ := HR.out.at hy
   have q0 : W0.cell? ⟨b,o + k * 3,none⟩ = some (.string y.ref.head) := by have := pres_below hb _ _ (hc 0 (.string y.ref.head) rfl); simpa using this
   have q1 : W0.cell? ⟨b,o + k * 3 + 1,none⟩ = some (.string y.ref.name) := by have := pres_below hb _ _ (hc 1 (.string y.ref.name) rfl); simpa using this
   have q2 : W0.cell? ⟨b,o + k * 3 + 2,none⟩ = some (.int .i64 y.kind) := by have := pres_below hb _ _ (hc 2 (.int .i64 y.kind) rfl); simpa using this
   rw [kind_step hy] at hd
   have hsz := hb.size
   clear hb hc hy H0 q0 q1
   by_cases k3 : y.kind = 3
   ·rw [k3] at hd q2
    have hD : R = 3 := by simpa using hd.symm
    have HD : Hid (R = 3) := hD
    clear hD
    clear hd
    go_wp2
    go_ret
    exact ⟨by rw [HD.out]; rfl,HB0.out⟩
   ·by_cases k4 : y.kind = 4
    ·rw [k4] at hd q2
     have hD : R = 3 := by simpa using hd.symm
     have HD : Hid (R = 3) := hD
     clear hD
     clear hd
     go_wp2
     go_ret
     exact ⟨by rw [HD.out]; rfl,HB0.out⟩
    ·by_cases k2 : y.kind = 2
     ·rw [k2] at hd q2
      have hD : kindF (xs.drop (k + 1)) 2 = R := by simpa using hd
      have HD : Hid (kindF (xs.drop (k + 1)) 2 = R) := hD
      clear hD
      clear hd
      go_wp2
      exact ⟨⟨k + 1,2,by omega,rfl,by go_num,trivial,HD.out⟩,by simp only [intOf]; omega⟩
     ·have hD : kindF (xs.drop (k + 1)) tt = R := by simpa [k2,k3,k4] using hd
      have HD : Hid (kindF (xs.drop (k + 1)) tt = R) := hD
      clear hD
      have k3' : (y.kind == 3) = false := by simpa using k3
      have k4' : (y.kind == 4) = false := by simpa using k4
      have k2' : (y.kind == 2) = false := by simpa using k2
      clear hd
      go_wp2
      exact ⟨⟨k + 1,tt,by omega,rfl,by go_num,trivial,HD.out⟩,by simp only [intOf]; omega⟩
  ·have e : k = n := by omega
   subst e
   have HD : Hid (R = tt) := by
    have h1 := HL.out
    rw [List.drop_of_length_le (by omega),kindF] at hd
    exact hd.symm
   clear hd
   go_wp2
   go_ret
   exact ⟨by rw [HD.out]; rfl,hb⟩

theorem fldAt_cases (l : List Fld) (nm : ByteArray) : (fldAt l nm = -1 ∧ l.find? (fun f => decide (f.name = nm)) = none) ∨ ∃ (i : Nat) (f : Fld),l[i]? = some f ∧ fldAt l nm = (i : Int) ∧ l.find? (fun f => decide (f.name = nm)) = some f := by
 rcases idx_cases (fun h : Fld => decide (h.name = nm)) l 0 with ⟨hi,hn⟩ | ⟨i,x,hlt,hx,hp,hi,hn⟩
 ·exact .inl ⟨hi,find_none hn⟩
 ·exact .inr ⟨i,x,hx,by unfold fldAt; rw [hi,Nat.zero_add],find_at hx hp hn⟩
/-- What a reference names: nothing, a field of the metadata, one of a header. -/
inductive Plc (s : Sch) (r : Rf) : Int → Int → Bool → Option Int → Prop
 | plNo (h : (fldsOf s r.head).find? (fun f => decide (f.name = r.name)) = none) : Plc s r 0 0 false none
 | plMeta (k : Nat) (f : Fld) (h : s.metas[k]? = some f) (hf : (fldsOf s r.head).find? (fun f => decide (f.name = r.name)) = some f) : Plc s r (-1) k true (some f.width)
 | plHead (i : Nat) (x : Hdr) (k : Nat) (f : Fld) (hx : s.headers[i]? = some x) (h : x.fields[k]? = some f) (hf : (fldsOf s r.head).find? (fun f => decide (f.name = r.name)) = some f) : Plc s r i k true (some f.width)
set_option maxHeartbeats 2000000 in
theorem place_any (v : Value) (s : Sch) (r : Rf) (w : World) (hs : SchIs w v s) : Calls Tryz.prog 210 #[v,.agg #[.string r.head,.string r.name]] w fun e w' => ∃ a b ok o,e = .returned (.tuple #[.int .i64 a,.int .i64 b,.bool ok]) ∧ Plc s r a b ok o ∧ Below w.heap.size w w' := by
 obtain ⟨a0,c0,a1,c1,a2,c2,a3,c3,a4,c4,a5,c5,rfl,h0,h1,h2,h3,h4,h5⟩ := hs.parts
 have HS : Hid (SchIs w (.agg (bxA s a0 c0 a1 c1 a2 c2 a3 c3 a4 c4 a5 c5)) s) := hs
 have HM : Hid (FldRow w (.slice a1 s.metas.length c1) s.metas) := h1
 have HH : Hid (HdrRow w (.slice a0 s.headers.length c0) s.headers) := h0
 have HB0 : Hid (Below w.heap.size w ((w.alloc (.cells (bxA s a0 c0 a1 c1 a2 c2 a3 c3 a4 c4 a5 c5) 34)).alloc (.cells #[.string r.head,.string r.name] 42))) := ((Below.refl _ _).alloc (Nat.le_refl _) _).alloc (by simp) _
 have HX0 : Hid (Blk ((w.alloc (.cells (bxA s a0 c0 a1 c1 a2 c2 a3 c3 a4 c4 a5 c5) 34)).alloc (.cells #[.string r.head,.string r.name] 42)) w.heap.size (bxA s a0 c0 a1 c1 a2 c2 a3 c3 a4 c4 a5 c5) 34) := (Blk.new _ _ _).below ((Below.refl _ _).alloc (Nat.le_refl _) _)
 have HY0 : Hid (Blk ((w.alloc (.cells (bxA s a0 c0 a1 c1 a2 c2 a3 c3 a4 c4 a5 c5) 34)).alloc (.cells #[.string r.head,.string r.name] 42)) (w.heap.size + 1) #[.string r.head,.string r.name] 42) := by
  have := Blk.new (w.alloc (.cells (bxA s a0 c0 a1 c1 a2 c2 a3 c3 a4 c4 a5 c5) 34)) #[.string r.head,.string r.name] 42
  show Blk _ _ _ _
  simpa using this
 have e0 : r.head.toList.isEmpty = decide (r.head = ⟨#[]⟩) := emp_eq _
 have e1 : (r.head.toList == [109,101,116,97]) = decide (r.head = tMeta) := lit_eq r.head [109,101,116,97]
 have HFO : Hid (fldsOf s r.head = if r.head = ⟨#[]⟩ then [] else if r.head = ⟨#[109,101,116,97]⟩ then s.metas else match s.headers[(hdrAt s r.head).toNat]? with | some h => if hdrAt s r.head < 0 then [] else h.fields | none => []) := rfl
 have HNO : Hid ((fldsOf s r.head).find? (fun f => decide (f.name = r.name)) = none → Plc s r 0 0 false none) := fun h => .plNo h
 clear hs h0 h1 h2 h3 h4 h5
 go_enter Tryz.func210,Tryz.ntmps210
 go_upto_region 1 with fail
 generalize ((w.alloc _).alloc _) = W0 at HB0 HX0 HY0 ⊢
 obtain ⟨xb,hxb⟩ : ∃ xb,xb = w.heap.size := ⟨_,rfl⟩
 obtain ⟨yb,hyb⟩ : ∃ yb,yb = w.heap.size + 1 := ⟨_,rfl⟩
 rw [← hxb] at HX0
 rw [← hyb] at HY0 ⊢
 rw [← hxb]
 clear hxb hyb
 have y0 := HY0.out.cell 0 (v := .string r.head) rfl
 have y1 := HY0.out.cell 1 (v := .string r.name) rfl
 obtain ⟨x0,x1,x2,x3,x4,x5⟩ := HX0.out.c6
 by_cases g0 : r.head = ⟨#[]⟩
 ·have HP : Hid (Plc s r 0 0 false none) := HNO.out (by rw [HFO.out,if_pos g0]; rfl)
  have e0' : r.head.toList.isEmpty = true := by rw [e0]; exact decide_eq_true g0
  clear e0 e1 HFO HNO
  go_wp2
  refine bodyPost_ret (v := .tuple #[.int .i64 0,.int .i64 0,.bool false]) (by simp [results,Tryz.results210,go_sem]) rfl ⟨_,_,_,_,rfl,HP.out,HB0.out⟩
 have e0' : r.head.toList.isEmpty = false := by rw [e0]; exact decide_eq_false g0
 by_cases g1 : r.head = tMeta
 ·have e1' : (r.head.toList == [109,101,116,97]) = true := by rw [e1]; exact decide_eq_true g1
  have HF : Hid (fldsOf s r.head = s.metas) := by show _ = _; rw [HFO.out,if_neg g0,if_pos g1]
  have CF : Hid (∀ W,Below w.heap.size w W → Calls Tryz.prog 208 #[.slice a1 s.metas.length c1,.string r.name] W fun e w' => e = .returned (.int .i64 (fldAt s.metas r.name)) ∧ w' = W) := fun W hb => rfield_any _ s.metas r.name W (HM.out.pres (pres_below hb))
  have HMK : Hid (∀ (k : Nat) (f : Fld),s.metas[k]? = some f → s.metas.find? (fun f => decide (f.name = r.name)) = some f → Plc s r (-1) k true (some f.width)) := fun k f h1 h2 => .plMeta k f h1 (by rw [HF.out]; exact h2)
  rw [HF.out] at HNO
  clear e0 e1 HFO HM HH g1
  rcases fldAt_cases s.metas r.name with ⟨hi,hn⟩ | ⟨k,f,hf,hi,hn⟩
  ·have HP : Hid (Plc s r 0 0 false none) := HNO.out hn
   rw [hi] at CF
   clear HNO HF hi hn HMK
   go_wp2_with (go_at_call 208; refine (CF.out _ HB0.out).mono ?_; rintro e w' ⟨rfl,hw'⟩; obtain rfl := Eq.symm hw')
   refine bodyPost_ret (v := .tuple #[.int .i64 0,.int .i64 0,.bool false]) (by simp [results,Tryz.results210,go_sem]) rfl ⟨_,_,_,_,rfl,HP.out,HB0.out⟩
  ·have HP : Hid (Plc s r (-1) k true (some f.width)) := HMK.out k f hf hn
   rw [hi] at CF
   have hkn : ¬ ((k : Int) < 0) := by omega
   clear HNO HF hi hn HMK hf
   go_wp2_with (go_at_call 208; refine (CF.out _ HB0.out).mono ?_; rintro e w' ⟨rfl,hw'⟩; obtain rfl := Eq.symm hw')
   refine bodyPost_ret (v := .tuple #[.int .i64 (-1),.int .i64 k,.bool true]) (by simp [results,Tryz.results210,go_sem]) rfl ⟨_,_,_,_,rfl,HP.out,HB0.out⟩
 have e1' : (r.head.toList == [109,101,116,97]) = false := by rw [e1]; exact decide_eq_false g1
 have CH : Hid (∀ W,Below w.heap.size w W → Calls Tryz.prog 129 #[.agg (bxA s a0 c0 a1 c1 a2 c2 a3 c3 a4 c4 a5 c5),.string r.head] W fun e w' => e = .returned (.int .i64 (hdrAt s r.head)) ∧ Below W.heap.size W w') := fun W hb => rhdrAt_any _ s r.head W (HS.out.pres (pres_below hb))
 rcases hdrAt_cases s r.head with hh | ⟨i,x,hx,_,hh⟩
 ·have HP : Hid (Plc s r 0 0 false none) := HNO.out (by
    rw [HFO.out, if_neg g0, if_neg g1, hh]
    cases s.headers[(-1 : Int).toNat]? <;> rfl)
  rw [hh] at CH
  clear e0 e1 HFO HNO hh
  go_wp2_with fail
  refine (CH.out _ HB0.out).mono ?_
  rintro e W1 ⟨rfl,hb⟩
  have HB1 : Hid (Below w.heap.size w W1) := bst HB0.out hb
  clear hb
  go_wp2
  refine bodyPost_ret (v := .tuple #[.int .i64 0,.int .i64 0,.bool false]) (by simp [results,Tryz.results210,go_sem]) rfl ⟨_,_,_,_,rfl,HP.out,HB1.out⟩
 have HF : Hid (fldsOf s r.head = x.fields) := by
  show _ = _
  rw [HFO.out,if_neg g0,if_neg g1,hh,Int.toNat_natCast,hx]
  simp only
  rw [if_neg (by omega)]
 rw [hh] at CH
 have HMK : Hid (∀ (k : Nat) (f : Fld),x.fields[k]? = some f → x.fields.find? (fun f => decide (f.name = r.name)) = some f → Plc s r i k true (some f.width)) := fun k f h1 h2 => .plHead i x k f hx h1 (by rw [HF.out]; exact h2)
 rw [HF.out] at HNO
 have hil : i < s.headers.length := (List.getElem?_eq_some_iff.1 hx).1
 obtain ⟨hb,ho,cs,rfl,_,hk,u,rfl,_,hfr⟩ := HH.out.1.at hx
 obtain ⟨fa,fc,rfl,_⟩ := hfr.1.slice
 have HFR : Hid (FldRow w (.slice fa x.fields.length fc) x.fields) := hfr
 have hk1 := hk 1 (.slice fa x.fields.length fc) rfl
 clear e0 e1 HFO hh hfr hx hk HM HS HF
 go_wp2_with fail
 refine (CH.out _ HB0.out).mono ?_
 rintro e W1 ⟨rfl,hb1⟩
 have HB1 : Hid (Below w.heap.size w W1) := bst HB0.out hb1
 have HX1 := hblk HX0 hb1
 have HY1 := hblk HY0 hb1
 have k1 : W1.cell? ⟨hb,ho + i * 2 + 1,none⟩ = some (.slice fa x.fields.length fc) := by have := pres_below HB1.out _ _ hk1; simpa using this
 have CF : Hid (∀ W,Below w.heap.size w W → Calls Tryz.prog 208 #[.slice fa x.fields.length fc,.string r.name] W fun e w' => e = .returned (.int .i64 (fldAt x.fields r.name)) ∧ w' = W) := fun W hb => rfield_any _ x.fields r.name W (HFR.out.pres (pres_below hb))
 clear hb1 HB0 HX0 HY0 CH hk1 HFR HH y0 y1 x0 x1 x2 x3 x4 x5
 have y1 := HY1.out.cell 1 (v := .string r.name) rfl
 have x0 := HX1.out.cell 0 (v := .slice (some ⟨hb,ho,none⟩) s.headers.length c0) rfl
 have hii : (0 : Int) ≤ (i : Int) ∧ (i : Int) < (s.headers.length : Int) := by omega
 have hin : ¬ ((i : Int) < 0) := by omega
 have CQ : Hid (∀ d,Calls Tryz.prog 208 #[.slice fa x.fields.length fc,.string r.name] (W1.drewN d) fun e w' => e = .returned (.int .i64 (fldAt x.fields r.name)) ∧ w' = W1.drewN d) := fun d => CF.out _ (below_drewN HB1.out d)
 clear CF
 rcases fldAt_cases x.fields r.name with ⟨hi,hn⟩ | ⟨k,f,hf,hi,hn⟩
 ·have HP : Hid (Plc s r 0 0 false none) := HNO.out hn
  rw [hi] at CQ
  clear HNO hi hn HMK
  go_upto_region 11 with fail
  go_quiet ((go_at_call 208; refine Calls.quiet_of_same (CQ.out _)))
  go_wp2
  refine bodyPost_ret (v := .tuple #[.int .i64 0,.int .i64 0,.bool false]) (by simp [results,Tryz.results210,go_sem]) rfl ⟨_,_,_,_,rfl,HP.out,below_drewN HB1.out _⟩
 ·have HP : Hid (Plc s r i k true (some f.width)) := HMK.out k f hf hn
  rw [hi] at CQ
  have hkn : ¬ ((k : Int) < 0) := by omega
  clear HNO hi hn HMK hf
  go_upto_region 11 with fail
  go_quiet ((go_at_call 208; refine Calls.quiet_of_same (CQ.out _)))
  go_wp2
  refine bodyPost_ret (v := .tuple #[.int .i64 i,.int .i64 k,.bool true]) (by simp [results,Tryz.results210,go_sem]) rfl ⟨_,_,_,_,rfl,HP.out,below_drewN HB1.out _⟩

/-- The width of what a reference names, whatever it is. -/
def widO (s : Sch) (r : Rf) : Option Int := ((fldsOf s r.head).find? (fun f => decide (f.name = r.name))).map (·.width)
theorem plc_wid {s : Sch} {r : Rf} {a b : Int} {ok : Bool} {o : Option Int} (h : Plc s r a b ok o) : widO s r = o := by
 cases h <;> (rename_i hf; unfold widO; rw [hf]; rfl)
theorem wid_pos (s : Sch) (r : Rf) : widW s r = posW ((widO s r).getD 0) := by
 unfold widW widO
 cases (fldsOf s r.head).find? (fun f => decide (f.name = r.name)) <;> rfl
set_option maxHeartbeats 2000000 in
theorem rwidth_any (v : Value) (s : Sch) (r : Rf) (w : World) (hs : SchIs w v s) : Calls Tryz.prog 165 #[v,.agg #[.string r.head,.string r.name]] w fun e w' => e = .returned (.tuple #[.int .i64 ((widO s r).getD 0),.bool (widO s r).isSome]) ∧ Below w.heap.size w w' := by
 obtain ⟨a0,c0,a1,c1,a2,c2,a3,c3,a4,c4,a5,c5,rfl,h0,h1,h2,h3,h4,h5⟩ := hs.parts
 have HM : Hid (FldRow w (.slice a1 s.metas.length c1) s.metas) := h1
 have HH : Hid (HdrRow w (.slice a0 s.headers.length c0) s.headers) := h0
 have hml : s.metas.length * 24 ≤ 140737488351232 := h1.2
 have hhl : s.headers.length * 40 ≤ 140737488351232 := h0.2
 have HB0 : Hid (Below w.heap.size w ((w.alloc (.cells (bxA s a0 c0 a1 c1 a2 c2 a3 c3 a4 c4 a5 c5) 34)).alloc (.cells #[.string r.head,.string r.name] 42))) := ((Below.refl _ _).alloc (Nat.le_refl _) _).alloc (by simp) _
 have HX0 : Hid (Blk ((w.alloc (.cells (bxA s a0 c0 a1 c1 a2 c2 a3 c3 a4 c4 a5 c5) 34)).alloc (.cells #[.string r.head,.string r.name] 42)) w.heap.size (bxA s a0 c0 a1 c1 a2 c2 a3 c3 a4 c4 a5 c5) 34) := (Blk.new _ _ _).below ((Below.refl _ _).alloc (Nat.le_refl _) _)
 have HY0 : Hid (Blk ((w.alloc (.cells (bxA s a0 c0 a1 c1 a2 c2 a3 c3 a4 c4 a5 c5) 34)).alloc (.cells #[.string r.head,.string r.name] 42)) (w.heap.size + 1) #[.string r.head,.string r.name] 42) := by
  have := Blk.new (w.alloc (.cells (bxA s a0 c0 a1 c1 a2 c2 a3 c3 a4 c4 a5 c5) 34)) #[.string r.head,.string r.name] 42
  show Blk _ _ _ _
  simpa using this
 have CP : Hid (∀ W,Below w.heap.size w W → Calls Tryz.prog 210 #[.agg (bxA s a0 c0 a1 c1 a2 c2 a3 c3 a4 c4 a5 c5),.agg #[.string r.head,.string r.name]] W fun e w' => ∃ a b ok o,e = .returned (.tuple #[.int .i64 a,.int .i64 b,.bool ok]) ∧ Plc s r a b ok o ∧ Below W.heap.size W w') := fun W hb => place_any _ s r W (hs.pres (pres_below hb))
 have HW : Hid (∀ a b ok o,Plc s r a b ok o → widO s r = o) := fun a b ok o h => plc_wid h
 clear hs h0 h1 h2 h3 h4 h5
 generalize widO s r = WO at *
 go_enter Tryz.func165,Tryz.ntmps165
 go_upto_region 1 with fail
 generalize ((w.alloc _).alloc _) = W0 at HB0 HX0 HY0 ⊢
 obtain ⟨xb,hxb⟩ : ∃ xb,xb = w.heap.size := ⟨_,rfl⟩
 obtain ⟨yb,hyb⟩ : ∃ yb,yb = w.heap.size + 1 := ⟨_,rfl⟩
 rw [← hxb] at HX0
 rw [← hyb] at HY0 ⊢
 rw [← hxb]
 clear hxb hyb
 have y0 := HY0.out.cell 0 (v := .string r.head) rfl
 have y1 := HY0.out.cell 1 (v := .string r.name) rfl
 obtain ⟨x0,x1,x2,x3,x4,x5⟩ := HX0.out.c6
 go_wp2_with fail
 refine (CP.out _ HB0.out).mono ?_
 rintro e W1 ⟨a,b,ok,o,rfl,hp,hb1⟩
 have hwo := HW.out a b ok o hp
 subst hwo
 have HB1 : Hid (Below w.heap.size w W1) := bst HB0.out hb1
 have HX1 := hblk HX0 hb1
 clear hb1 HB0 HX0 HY0 CP HW y0 y1 x0 x1 x2 x3 x4 x5
 cases hp with
 | plNo _ =>
  go_wp2
  refine bodyPost_ret (v := .tuple #[.int .i64 0,.bool false]) (by simp [results,Tryz.results165,go_sem]) rfl ⟨rfl,HB1.out⟩
 | plMeta k f hf _ =>
  obtain ⟨b,o,cs,rfl,_,hk,rfl,_⟩ := HM.out.1.at hf
  have hkl : k < s.metas.length := (List.getElem?_eq_some_iff.1 hf).1
  have k1 : W1.cell? ⟨b,o + k * 2 + 1,none⟩ = some (.int .i64 f.width) := by have := pres_below HB1.out _ _ (hk 1 (.int .i64 f.width) rfl); simpa using this
  have x1 := HX1.out.cell 1 (v := .slice (some ⟨b,o,none⟩) s.metas.length c1) rfl
  clear hk hf HM HH
  go_wp2
  refine bodyPost_ret (v := .tuple #[.int .i64 f.width,.bool true]) (by simp [results,Tryz.results165,go_sem]) rfl ⟨rfl,HB1.out⟩
 | plHead i x k f hx hf _ =>
  obtain ⟨b,o,cs,rfl,_,hk,u,rfl,_,hfr⟩ := HH.out.1.at hx
  obtain ⟨fa,fc,rfl,_⟩ := hfr.1.slice
  obtain ⟨b2,o2,cs2,rfl,_,hk2,rfl,_⟩ := hfr.1.at hf
  have hfl : x.fields.length * 24 ≤ 140737488351232 := hfr.2
  have hil : i < s.headers.length := (List.getElem?_eq_some_iff.1 hx).1
  have hkl : k < x.fields.length := (List.getElem?_eq_some_iff.1 hf).1
  have k1 : W1.cell? ⟨b,o + i * 2 + 1,none⟩ = some (.slice (some ⟨b2,o2,none⟩) x.fields.length fc) := by have := pres_below HB1.out _ _ (hk 1 (.slice (some ⟨b2,o2,none⟩) x.fields.length fc) rfl); simpa using this
  have k2 : W1.cell? ⟨b2,o2 + k * 2 + 1,none⟩ = some (.int .i64 f.width) := by have := pres_below HB1.out _ _ (hk2 1 (.int .i64 f.width) rfl); simpa using this
  have x0 := HX1.out.cell 0 (v := .slice (some ⟨b,o,none⟩) s.headers.length c0) rfl
  have hin : ¬ ((i : Int) < 0) := by omega
  clear hk hf HM HH hk2 hfr hx
  go_wp2
  refine bodyPost_ret (v := .tuple #[.int .i64 f.width,.bool true]) (by simp [results,Tryz.results165,go_sem]) rfl ⟨rfl,HB1.out⟩
set_option maxHeartbeats 1000000 in
theorem rWidth_any (v : Value) (s : Sch) (r : Rf) (w : World) (hs : SchIs w v s) : Calls Tryz.prog 81 #[v,.agg #[.string r.head,.string r.name]] w fun e w' => e = .returned (.int .i64 (widW s r)) ∧ Below w.heap.size w w' := by
 obtain ⟨a0,c0,a1,c1,a2,c2,a3,c3,a4,c4,a5,c5,rfl,h0,h1,h2,h3,h4,h5⟩ := hs.parts
 have HB0 : Hid (Below w.heap.size w ((w.alloc (.cells (bxA s a0 c0 a1 c1 a2 c2 a3 c3 a4 c4 a5 c5) 34)).alloc (.cells #[.string r.head,.string r.name] 42))) := ((Below.refl _ _).alloc (Nat.le_refl _) _).alloc (by simp) _
 have HX0 : Hid (Blk ((w.alloc (.cells (bxA s a0 c0 a1 c1 a2 c2 a3 c3 a4 c4 a5 c5) 34)).alloc (.cells #[.string r.head,.string r.name] 42)) w.heap.size (bxA s a0 c0 a1 c1 a2 c2 a3 c3 a4 c4 a5 c5) 34) := (Blk.new _ _ _).below ((Below.refl _ _).alloc (Nat.le_refl _) _)
 have HY0 : Hid (Blk ((w.alloc (.cells (bxA s a0 c0 a1 c1 a2 c2 a3 c3 a4 c4 a5 c5) 34)).alloc (.cells #[.string r.head,.string r.name] 42)) (w.heap.size + 1) #[.string r.head,.string r.name] 42) := by
  have := Blk.new (w.alloc (.cells (bxA s a0 c0 a1 c1 a2 c2 a3 c3 a4 c4 a5 c5) 34)) #[.string r.head,.string r.name] 42
  show Blk _ _ _ _
  simpa using this
 have CP : Hid (∀ W,Below w.heap.size w W → Calls Tryz.prog 165 #[.agg (bxA s a0 c0 a1 c1 a2 c2 a3 c3 a4 c4 a5 c5),.agg #[.string r.head,.string r.name]] W fun e w' => e = .returned (.tuple #[.int .i64 ((widO s r).getD 0),.bool (widO s r).isSome]) ∧ Below W.heap.size W w') := fun W hb => rwidth_any _ s r W (hs.pres (pres_below hb))
 have HW : Hid (widW s r = if (widO s r).getD 0 < 1 ∨ 128 < (widO s r).getD 0 then 0 else (widO s r).getD 0) := wid_pos s r
 clear hs h0 h1 h2 h3 h4 h5
 generalize widW s r = R at *
 generalize (widO s r).getD 0 = x at *
 generalize (widO s r).isSome = ok at *
 go_enter Tryz.func81,Tryz.ntmps81
 go_upto_region 1 with fail
 generalize ((w.alloc _).alloc _) = W0 at HB0 HX0 HY0 ⊢
 obtain ⟨xb,hxb⟩ : ∃ xb,xb = w.heap.size := ⟨_,rfl⟩
 obtain ⟨yb,hyb⟩ : ∃ yb,yb = w.heap.size + 1 := ⟨_,rfl⟩
 rw [← hxb] at HX0
 rw [← hyb] at HY0 ⊢
 rw [← hxb]
 clear hxb hyb
 have y0 := HY0.out.cell 0 (v := .string r.head) rfl
 have y1 := HY0.out.cell 1 (v := .string r.name) rfl
 obtain ⟨x0,x1,x2,x3,x4,x5⟩ := HX0.out.c6
 go_wp2_with fail
 refine (CP.out _ HB0.out).mono ?_
 rintro e W1 ⟨rfl,hb1⟩
 have HB1 : Hid (Below w.heap.size w W1) := bst HB0.out hb1
 clear hb1 HB0 HX0 HY0 CP y0 y1 x0 x1 x2 x3 x4 x5
 by_cases g1 : x < 1
 ·have HR : Hid (R = 0) := by show _ = _; rw [HW.out,if_pos (.inl g1)]
  clear HW
  go_wp2
  go_ret
  exact ⟨by rw [HR.out]; rfl,HB1.out⟩
 have d1 : decide (x < 1) = false := by simpa using g1
 by_cases g2 : 128 < x
 ·have HR : Hid (R = 0) := by show _ = _; rw [HW.out,if_pos (.inr g2)]
  clear HW
  go_wp2
  go_ret
  exact ⟨by rw [HR.out]; rfl,HB1.out⟩
 have d2 : decide (128 < x) = false := by simpa using g2
 have HR : Hid (R = x) := by show _ = _; rw [HW.out,if_neg (fun h => h.elim g1 g2)]
 clear HW
 go_wp2
 go_ret
 exact ⟨by rw [HR.out]; rfl,HB1.out⟩
end Go.Proofs.YtmbpclknhkbbkaaGreat
