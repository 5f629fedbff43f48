/- Package frame's Open: the frame, its mark, or the error. -/
import Derived.Test.YtnpcnflfpmjgiaaDoorFp
namespace Go.Proofs.YtnpcnflfpmjgiaaDoor
open Go.RowKit
set_option linter.unusedVariables false
set_option linter.unusedSimpArgs false

theorem opened_no (s : ByteArray) (hl : s.size ≤ 9223372036854775807) (h : openE s ≠ 0) (w : World) (hT : Tab w) : Calls Tryd.prog 42 #[.string s] w fun e w' => e = .panicked [pe (openE s)] ∧ Below w.heap.size w w' := by
  unfold openE at h ⊢
  by_cases h1 : s.size ≠ 512
  · rw [if_pos h1]; exact opened_size s h1 hl w
  · rw [if_neg h1] at h ⊢
    have hs : s.size = 512 := by simpa using h1
    by_cases h2 : at8 s 0 ≠ at8 s 511
    · rw [if_pos h2]; exact opened_torn s hs h2 w hT
    · rw [if_neg h2] at h ⊢
      have h2' : at8 s 0 = at8 s 511 := by simpa using h2
      by_cases h3 : s.extract 507 511 ≠ sumB (s.extract 1 507)
      · rw [if_pos h3]; exact opened_sum s hs h2' h3 w hT
      · rw [if_neg h3] at h ⊢
        have h3' : s.extract 507 511 = sumB (s.extract 1 507) := Classical.byContradiction h3
        by_cases h4 : numA s 1 2 = 0 ∨ 2147483647 < numA s 10 14 ∨ 491 < numA s 14 16
        · rw [if_pos h4]
          by_cases k1 : numA s 1 2 = 0
          · exact opened_kind s hs h2' h3' k1 w hT
          · by_cases k2 : 2147483647 < numA s 10 14
            · exact opened_index s hs h2' h3' ⟨k1, k2⟩ w hT
            · exact opened_length s hs h2' h3' ⟨k1, by omega, by omega⟩ w hT
        · rw [if_neg h4] at h ⊢
          by_cases h5 : s.extract (16 + numA s 14 16) 507 ≠ zerosB (491 - numA s 14 16)
          · rw [if_pos h5]; exact opened_rest s hs h2' h3' ⟨by omega, by omega, by omega⟩ h5 w hT
          · rw [if_neg h5] at h; exact absurd rfl h
theorem opened_facts {s : ByteArray} (h : openE s = 0) : s.size = 512 ∧ at8 s 0 = at8 s 511 ∧ s.extract 507 511 = sumB (s.extract 1 507) ∧ (numA s 1 2 ≠ 0 ∧ numA s 10 14 ≤ 2147483647 ∧ numA s 14 16 ≤ 491) ∧ s.extract (16 + numA s 14 16) 507 = zerosB (491 - numA s 14 16) := by
  unfold openE at h
  split at h
  · cases h
  · split at h
    · cases h
    · split at h
      · cases h
      · split at h
        · cases h
        · split at h
          · cases h
          · rename_i h1 h2 h3 h4 h5
            exact ⟨by simpa using h1, by simpa using h2, Classical.byContradiction h3, ⟨by omega, by omega, by omega⟩, Classical.byContradiction h5⟩
theorem opened_yes (s : ByteArray) (h : openE s = 0) (w : World) (hT : Tab w) : Calls Tryd.prog 42 #[.string s] w fun e w' => e = .returned (frV (openF s)) ∧ Below w.heap.size w w' := by
  obtain ⟨h1, h2, h3, h4, h5⟩ := opened_facts h
  exact opened_ok s h1 h2 h3 h4 h5 w hT
theorem idle41 (p : Addr) (w : World) : CallsD Tryd.prog 41 #[.pointer (some p)] .returning w fun e u' w' => e = .returned (.tuple #[]) ∧ u' = .returning ∧ w' = w := by
  refine callsD_of_wpS Tryd.func41 rfl fun c₀ cs hu => ?_
  apply wpS_seq
  apply wpS_region
  simp [wpOpsS, go_sem, recoverD, hu, Tryd.ntmps41, Exit.thenS]
  rw [show (#[Value.pointer (some p)] ++ ((Array.replicate 6 undef).setIfInBounds 1 Value.nilIface).setIfInBounds 0 Value.nilIface) = #[Value.pointer (some p), Value.nilIface, Value.nilIface, undef, undef, undef, undef] from rfl]
  refine wpS_of_wp ?_
  go_wp2
  cases c₀
  simp_all [bodyPostS, results, Tryd.results41, Exit.thenS]
theorem assert26 (f : Int) (w : World) : (Instr.typeAssert (.iface 26 (.int .i64 f)) 20 26 false).run Tryd.prog w = .ok (.int .i64 f) w := by kernel_rfl
theorem catch41 (p : Addr) (g f : Int) (w : World) (hc : w.cell? p = some (.int .i64 g)) (hz : w.frozen? p = false) :
    CallsD Tryd.prog 41 #[.pointer (some p)] (.panicking [pe f]) w fun e u' w' => e = .returned (.tuple #[]) ∧ u' = .panicking [{ v := .iface 26 (.int .i64 f), recovered := true }] ∧ w' = w.setCell p (.int .i64 f) := by
  refine callsD_of_wpS Tryd.func41 rfl fun c₀ cs hu => ?_
  unfold pe at hu
  apply wpS_seq
  apply wpS_region
  simp [wpOpsS, go_sem, recoverD, hu, Tryd.ntmps41, Exit.thenS]
  rw [show (#[Value.pointer (some p)] ++ ((Array.replicate 6 undef).setIfInBounds 1 (Value.iface 26 (Value.int IntKind.i64 f))).setIfInBounds 0 (Value.iface 26 (Value.int IntKind.i64 f))) = #[Value.pointer (some p), Value.iface 26 (Value.int IntKind.i64 f), Value.iface 26 (Value.int IntKind.i64 f), undef, undef, undef, undef] from rfl]
  refine wpS_of_wp ?_
  have hta := assert26 f
  go_wp2
  change bodyPostS _ _ _ _ _ _ _ _ _
  simp [bodyPostS, results, Tryd.results41, Exit.thenS]
theorem mk_func5 : ∀ (fn : Fn) (first cap : Array Value) (w : World), (Instr.makeFunc fn first cap).run Tryd.prog w = .ok (.func fn first cap) w := fun _ _ _ _ => rfl
/-- Where Open's answers lie: the frame, the error. -/
structure Ow (w wx : World) (cs : Array Value) (e : Int) : Prop where
  low : Below w.heap.size w wx
  F : Blk wx w.heap.size cs 24
  E : Blk wx (w.heap.size + 1) #[.int .i64 e] 26
def zeroC : Array Value := #[.int .i64 0, .int .u64 0, .int .i64 0, .string ⟨#[]⟩]
theorem Ow.new (w : World) : Ow w ((w.alloc (.cells zeroC 24)).alloc (.cells #[.int .i64 0] 26)) zeroC 0 :=
  ⟨((Below.refl _ _).alloc (Nat.le_refl _) _).alloc (by simp) _, (Blk.new w zeroC 24).below ((Below.refl _ _).alloc (Nat.le_refl _) _), by
    have := Blk.new (w.alloc (.cells zeroC 24)) #[.int .i64 0] 26
    rw [World.size_alloc] at this
    exact this⟩
theorem Ow.below {w a b : World} {cs : Array Value} {e : Int} (h : Ow w a cs e) (hb : Below a.heap.size a b) : Ow w b cs e :=
  ⟨h.low.trans (hb.mono h.low.size), h.F.below hb, h.E.below hb⟩
theorem Ow.drew {w a : World} {cs : Array Value} {e : Int} (h : Ow w a cs e) : Ow w a.drew cs e := ⟨h.low.drew, h.F, h.E⟩
theorem Ow.setE {w a : World} {cs : Array Value} {e : Int} (h : Ow w a cs e) (f : Int) : Ow w (a.setCell ⟨w.heap.size + 1, 0, none⟩ (.int .i64 f)) cs f :=
  ⟨h.low.setCell (p := ⟨w.heap.size + 1, 0, none⟩) (by show w.heap.size ≤ w.heap.size + 1; omega) _, h.F.kept (Kept.set (S := fun k => k = w.heap.size + 1) (Kept.refl _ _) rfl _) (by show ¬ w.heap.size = w.heap.size + 1; omega), h.E.set 0 _⟩
theorem Ow.setF {w a : World} {cs : Array Value} {e : Int} (h : Ow w a cs e) (j : Nat) (v : Value) : Ow w (a.setCell ⟨w.heap.size, j, none⟩ v) (cs.setIfInBounds j v) e :=
  ⟨h.low.setCell (p := ⟨w.heap.size, j, none⟩) (Nat.le_refl _) _, h.F.set j v, h.E.kept (Kept.set (S := fun k => k = w.heap.size) (Kept.refl _ _) rfl _) (by show ¬ w.heap.size + 1 = w.heap.size; omega)⟩
theorem Ow.set4 {w a : World} {x0 x1 x2 x3 : Value} {e : Int} (h : Ow w a #[x0, x1, x2, x3] e) (y0 y1 y2 y3 : Value) :
    Ow w ((((a.setCell ⟨w.heap.size, 0, none⟩ y0).setCell ⟨w.heap.size, 1, none⟩ y1).setCell ⟨w.heap.size, 2, none⟩ y2).setCell ⟨w.heap.size, 3, none⟩ y3) #[y0, y1, y2, y3] e :=
  (((h.setF 0 y0).setF 1 y1).setF 2 y2).setF 3 y3
set_option maxHeartbeats 1000000 in
set_option maxRecDepth 100000 in
theorem open_no (s : ByteArray) (hl : s.size ≤ 9223372036854775807) (h : openE s ≠ 0) (w : World) (hT : Tab w) : Calls Tryd.prog 15 #[.string s] w fun e w' => e = .returned (.tuple #[frV zeroF, .int .i64 0, .int .i64 (openE s)]) ∧ Below w.heap.size w w' := by
  have hmf := mk_func5
  have HC : Hid (∀ w : World, Tab w → Calls Tryd.prog 42 #[.string s] w fun e w' => e = .panicked [pe (openE s)] ∧ Below w.heap.size w w') := fun w hT => opened_no s hl h w hT
  generalize openE s = E at *
  have hO := Ow.new w
  have hT2 := hT.below hO.low
  clear h hl hT
  go_enter_defers Tryd.func15, Tryd.ntmps15
  go_wp2_with fail
  unfold zeroC at *
  generalize (w.alloc (.cells #[.int .i64 0, .int .u64 0, .int .i64 0, .string ⟨#[]⟩] 24)).alloc (.cells #[.int .i64 0] 26) = W at *
  refine (HC.out _ hT2).mono ?_
  rintro e w3 ⟨rfl, hb⟩
  have hO3 := hO.below hb
  have e0 := hO3.E.cell 0 rfl
  have y0 := hO3.E.frozen 0
  clear hO hb HC hT2
  go_wp2
  refine leaves_cons (f := 41) (args := #[.pointer (some ⟨w.heap.size + 1, 0, none⟩)]) (by simp) (by simp [go_sem]) ?_
  refine (catch41 ⟨w.heap.size + 1, 0, none⟩ 0 E _ e0 y0).mono ?_
  rintro e u' w'' ⟨rfl, rfl, rfl⟩
  have hO4 := hO3.setE E
  clear e0 y0 hO3
  generalize w3.setCell ⟨w.heap.size + 1, 0, none⟩ (.int .i64 E) = w4 at *
  have r0 := hO4.F.cell 0 rfl
  have r1 := hO4.F.cell 1 rfl
  have r2 := hO4.F.cell 2 rfl
  have r3 := hO4.F.cell 3 rfl
  have re := hO4.E.cell 0 rfl
  have hL := hO4.low
  simp [Leaves, Go.settle, results, Tryd.results15, go_sem, r0, r1, r2, r3, re, frV, zeroF]
  exact hL
set_option maxHeartbeats 1000000 in
set_option maxRecDepth 100000 in
theorem open_yes (s : ByteArray) (h : openE s = 0) (w : World) (hT : Tab w) : Calls Tryd.prog 15 #[.string s] w fun e w' => e = .returned (.tuple #[frV (openF s), .int .i64 ((at8 s 0).toNat : Int), .int .i64 0]) ∧ Below w.heap.size w w' := by
  have hmf := mk_func5
  have hs : s.size = 512 := (opened_facts h).1
  have a0 : s[0]'(by omega) = at8 s 0 := at8_of _
  have HC : Hid (∀ w : World, Tab w → Calls Tryd.prog 42 #[.string s] w fun e w' => e = .returned (frV (openF s)) ∧ Below w.heap.size w w') := fun w hT => opened_yes s h w hT
  have hO := Ow.new w
  have hT2 := hT.below hO.low
  clear h hT
  generalize openF s = F at *
  obtain ⟨k, n, i, b⟩ := F
  unfold frV at *
  simp only at HC ⊢
  go_enter_defers Tryd.func15, Tryd.ntmps15
  go_wp2_with fail
  unfold zeroC at *
  generalize (w.alloc (.cells #[.int .i64 0, .int .u64 0, .int .i64 0, .string ⟨#[]⟩] 24)).alloc (.cells #[.int .i64 0] 26) = W at *
  refine (HC.out _ hT2).mono ?_
  rintro e w3 ⟨rfl, hb⟩
  have hO3 := hO.below hb
  have f0 := hO3.F.cell 0 rfl
  have f1 := hO3.F.cell 1 rfl
  have f2 := hO3.F.cell 2 rfl
  have f3 := hO3.F.cell 3 rfl
  have z0 := hO3.F.frozen 0
  have z1 := hO3.F.frozen 1
  have z2 := hO3.F.frozen 2
  have z3 := hO3.F.frozen 3
  have hO4 := hO3.set4 (.int .i64 k) (.int .u64 n) (.int .i64 i) (.string b)
  clear hO hb HC hT2 hO3
  go_wp2_with fail
  generalize (((w3.setCell ⟨w.heap.size, 0, none⟩ (.int .i64 k)).setCell ⟨w.heap.size, 1, none⟩ (.int .u64 n)).setCell ⟨w.heap.size, 2, none⟩ (.int .i64 i)).setCell ⟨w.heap.size, 3, none⟩ (.string b) = w4 at *
  clear f0 f1 f2 f3 z0 z1 z2 z3
  have f0 := hO4.F.cell 0 (v := .int .i64 k) rfl
  have f1 := hO4.F.cell 1 (v := .int .u64 n) rfl
  have f2 := hO4.F.cell 2 (v := .int .i64 i) rfl
  have f3 := hO4.F.cell 3 (v := .string b) rfl
  have z0 := hO4.F.frozen 0
  have z1 := hO4.F.frozen 1
  have z2 := hO4.F.frozen 2
  have z3 := hO4.F.frozen 3
  have e0 := hO4.E.cell 0 rfl
  have y0 := hO4.E.frozen 0
  have hO5 := (hO4.set4 (.int .i64 k) (.int .u64 n) (.int .i64 i) (.string b)).setE 0
  have W1 : wrap64 ((at8 s 0).toNat : Int) = ((at8 s 0).toNat : Int) := by have := (at8 s 0).toNat_lt; unfold wrap64; omega
  go_region
  have hO6 := hO5.drew
  clear f0 f1 f2 f3 z0 z1 z2 z3 e0 y0 hO4 hO5
  generalize (((((w4.setCell ⟨w.heap.size, 0, none⟩ (.int .i64 k)).setCell ⟨w.heap.size, 1, none⟩ (.int .u64 n)).setCell ⟨w.heap.size, 2, none⟩ (.int .i64 i)).setCell ⟨w.heap.size, 3, none⟩ (.string b)).setCell ⟨w.heap.size + 1, 0, none⟩ (.int .i64 0)).drew = w6 at *
  go_wp2
  refine leaves_cons (f := 41) (args := #[.pointer (some ⟨w.heap.size + 1, 0, none⟩)]) (by simp) (by simp [go_sem]) ?_
  refine (idle41 ⟨w.heap.size + 1, 0, none⟩ _).mono ?_
  rintro e u' w'' ⟨rfl, rfl, hw⟩
  rw [hw]
  have r0 := hO6.F.cell 0 (v := .int .i64 k) rfl
  have r1 := hO6.F.cell 1 (v := .int .u64 n) rfl
  have r2 := hO6.F.cell 2 (v := .int .i64 i) rfl
  have r3 := hO6.F.cell 3 (v := .string b) rfl
  have re := hO6.E.cell 0 rfl
  have hL := hO6.low
  simp [Leaves, Go.settle, results, Tryd.results15, go_sem, r0, r1, r2, r3, re]
  exact ⟨W1, hL⟩
theorem open_any (s : ByteArray) (hl : s.size ≤ 9223372036854775807) (w : World) (hT : Tab w) : Calls Tryd.prog 15 #[.string s] w fun e w' => e = .returned (.tuple #[frV (openR s), .int .i64 (openM s), .int .i64 (openE s)]) ∧ Below w.heap.size w w' := by
  unfold openR openM
  by_cases h : openE s = 0
  · rw [if_pos h, if_pos h, h]; exact open_yes s h w hT
  · rw [if_neg h, if_neg h]; exact open_no s hl h w hT
end Go.Proofs.YtnpcnflfpmjgiaaDoor
