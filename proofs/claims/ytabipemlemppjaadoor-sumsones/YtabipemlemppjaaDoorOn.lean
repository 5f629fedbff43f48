/- The walk of SumsOnes: whatever the text and the three numbers: true; older memory is as it was. -/
import Derived.Test.YtabipemlemppjaaDoorSl
namespace Go.Proofs.YtabipemlemppjaaDoor
open Go.RowKit
set_option linter.unusedVariables false
set_option linter.unusedSimpArgs false

set_option maxHeartbeats 2000000 in
theorem ones_walk (s : ByteArray) (hs : s.size ≤ 140737488351232) (p q r : Nat) (hp : p ≤ 65535) (hq : q ≤ 65535) (hr : r ≤ 65535) (w : World) (hT : Tab w) :
    Calls Tryd.prog 6 #[.string s, .agg #[.int .u16 p, .int .u16 q, .int .u16 r]] w fun e w' => e = .returned (.bool true) ∧ Below w.heap.size w w' := by
  have CL : Hid (∀ w : World, Tab w → Calls Tryd.prog 9 #[] w fun e w' => e = .returned (.bool true) ∧ Below w.heap.size w w') := live_any
  have C1 : Hid (∀ w : World, Calls Tryd.prog 20 #[.string s] w fun e w' => e = .returned (.int .u16 (onesW s.data.toList)) ∧ w' = w) := ones_any s hs
  have C2 : Hid (∀ w : World, Calls Tryd.prog 21 #[.string s] w fun e w' => e = .returned (.int .u16 (onesW s.data.toList)) ∧ w' = w) := rones_any s hs
  have C3 : Hid (∀ w : World, Calls Tryd.prog 22 #[.int .u16 p, .int .u16 q, .int .u16 r] w fun e w' => e = .returned (.int .u16 (patchN p q r)) ∧ w' = w) := patch_any p q r hp hq hr
  have C4 : Hid (∀ w : World, Calls Tryd.prog 23 #[.int .u16 p, .int .u16 q, .int .u16 r] w fun e w' => e = .returned (.int .u16 (patchN p q r)) ∧ w' = w) := rpatch_any p q r hp hq hr
  have T1 : Tab (w.alloc (.cells #[.int .u16 p, .int .u16 q, .int .u16 r] 38)) := hT.below ((Below.refl _ _).alloc (Nat.le_refl _) _)
  have hB1 : Below w.heap.size w (w.alloc (.cells #[.int .u16 p, .int .u16 q, .int .u16 r] 38)) := (Below.refl _ _).alloc (Nat.le_refl _) _
  have c0 : (w.alloc (.cells #[.int .u16 p, .int .u16 q, .int .u16 r] 38)).cell? ⟨w.heap.size, 0, none⟩ = some (.int .u16 p) := by simp
  have c1 : (w.alloc (.cells #[.int .u16 p, .int .u16 q, .int .u16 r] 38)).cell? ⟨w.heap.size, 1, none⟩ = some (.int .u16 q) := by simp
  have c2 : (w.alloc (.cells #[.int .u16 p, .int .u16 q, .int .u16 r] 38)).cell? ⟨w.heap.size, 2, none⟩ = some (.int .u16 r) := by simp
  have hz : w.heap.size < (w.alloc (.cells #[.int .u16 p, .int .u16 q, .int .u16 r] 38)).heap.size := by simp
  generalize onesW s.data.toList = o at *
  generalize patchN p q r = x at *
  go_enter Tryd.func6, Tryd.ntmps6
  go_wp2_with fail
  generalize w.alloc (.cells #[.int .u16 p, .int .u16 q, .int .u16 r] 38) = W1 at *
  refine (CL.out _ T1).mono ?_
  rintro e w2 ⟨rfl, hb2⟩
  have d0 : w2.cell? ⟨w.heap.size, 0, none⟩ = some (.int .u16 p) := by rw [hb2.cell (p := ⟨w.heap.size, 0, none⟩) hz]; exact c0
  have d1 : w2.cell? ⟨w.heap.size, 1, none⟩ = some (.int .u16 q) := by rw [hb2.cell (p := ⟨w.heap.size, 1, none⟩) hz]; exact c1
  have d2 : w2.cell? ⟨w.heap.size, 2, none⟩ = some (.int .u16 r) := by rw [hb2.cell (p := ⟨w.heap.size, 2, none⟩) hz]; exact c2
  have hB2 : Below w.heap.size w w2 := hB1.trans (hb2.mono (by omega))
  clear c0 c1 c2 hb2 hB1 T1 hT
  go_wp2_with fail
  refine (C1.out _).mono ?_
  rintro e w3 ⟨rfl, rfl⟩
  go_wp2_with fail
  refine (C2.out _).mono ?_
  rintro e w4 ⟨rfl, rfl⟩
  go_wp2_with fail
  refine (C3.out _).mono ?_
  rintro e w5 ⟨rfl, rfl⟩
  go_wp2_with fail
  refine (C4.out _).mono ?_
  rintro e w6 ⟨rfl, rfl⟩
  go_wp2
  go_ret
  exact ⟨by simp, hB2⟩
end Go.Proofs.YtabipemlemppjaaDoor
