/- The document's scale: Weigh, Take, Fine. What is left on it is not said: only that it is a number. -/
import Derived.Test.YtmbpclknhkbbkaaGreatB24
set_option linter.unusedSimpArgs false
set_option linter.unusedVariables false
namespace Go.Proofs.YtmbpclknhkbbkaaGreat
open Go.RowKit
set_option linter.unusedVariables false
set_option linter.unusedSimpArgs false

theorem weigh_any (w : World) : Calls Tryz.prog 92 #[] w fun e w' => e = .returned (.pointer (some ⟨w.heap.size,0,none⟩)) ∧ w' = w.alloc (.cells #[.int .i64 1048576] 205) := by
 go_enter Tryz.func92,Tryz.ntmps92
 go_wp2
 go_ret
 exact ⟨rfl,rfl⟩
theorem fine_any (sb : Nat) (l : Int) (w : World) (hb : Blk w sb #[.int .i64 l] 205) : Calls Tryz.prog 94 #[.pointer (some ⟨sb,0,none⟩)] w fun e w' => e = .returned (.bool (decide (0 ≤ l))) ∧ w' = w := by
 have p0 := hb.cell 0 (v := .int .i64 l) rfl
 have l0 := hb.lt
 clear hb
 go_enter Tryz.func94,Tryz.ntmps94
 go_wp2
 go_ret
 exact ⟨rfl,rfl⟩
set_option maxHeartbeats 1000000 in
theorem take_any (sb : Nat) (l n : Int) (w : World) (hb : Blk w sb #[.int .i64 l] 205) : Calls Tryz.prog 174 #[.pointer (some ⟨sb,0,none⟩),.int .i64 n] w fun e w' => ∃ l' : Int,e = .returned (.bool (decide (0 ≤ l'))) ∧ Blk w' sb #[.int .i64 l'] 205 ∧ Kept (fun k => k = sb) w w' := by
 have HB : Hid (Blk w sb #[.int .i64 l] 205) := hb
 have p0 := hb.cell 0 (v := .int .i64 l) rfl
 have p1 := hb.frozen 0
 have l0 := hb.lt
 clear hb
 by_cases h : 0 ≤ l
 ·have h' : decide (0 ≤ l) = true := decide_eq_true h
  go_enter Tryz.func174,Tryz.ntmps174
  go_wp2
  go_ret
  exact ⟨_,rfl,HB.out.set 0 _,Kept.set (S := fun k => k = sb) (Kept.refl _ _) rfl _⟩
 ·have h' : decide (0 ≤ l) = false := decide_eq_false h
  go_enter Tryz.func174,Tryz.ntmps174
  go_wp2
  go_ret
  exact ⟨l,by rw [h']; rfl,HB.out,Kept.refl _ _⟩
end Go.Proofs.YtmbpclknhkbbkaaGreat
