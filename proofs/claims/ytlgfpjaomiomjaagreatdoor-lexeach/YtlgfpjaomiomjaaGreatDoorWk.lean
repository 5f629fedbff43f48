/- Package value's Parse of a width that has neither Dots nor Colons, and the statements' own examples: they come out as the document says. -/
import Derived.Test.YtlgfpjaomiomjaaGreatDoorWn
import Derived.Test.YtlgfpjaomiomjaaGreatDoorWt
namespace Go.Proofs.YtlgfpjaomiomjaaGreatDoor
open Go.RowKit
set_option linter.unusedVariables false
set_option linter.unusedSimpArgs false

def hasC (wd : Int) : Bool := isW wd && decide (16 ≤ wd) && (wd % 8 == 0)
theorem formHas_colons (wd : Int) (w : World) : Calls Tryz.prog 58 #[.int .i64 5, .int .i64 wd] w fun e w' => e = .returned (.bool (hasC wd)) ∧ w' = w := by
  cases hW : isW wd
  · have E : Hid (hasC wd = false) := by unfold hasC; rw [hW]; rfl
    go_enter Tryz.func58, Tryz.ntmps58
    go_wp2_with (go_at_call 57; refine (isWidth_val hW _).mono ?_; rintro e w' ⟨rfl, rfl⟩)
    go_ret
    exact ⟨by rw [E.out]; rfl, rfl⟩
  · have hb := isW_bounds hW
    by_cases h16 : 16 ≤ wd
    · have E : Hid (hasC wd = (wd % 8 == 0)) := by unfold hasC; rw [hW]; show _ = _; simp [h16]
      go_enter Tryz.func58, Tryz.ntmps58
      go_wp2_with (go_at_call 57; refine (isWidth_val hW _).mono ?_; rintro e w' ⟨rfl, rfl⟩)
      go_ret
      exact ⟨by rw [E.out]; rfl, rfl⟩
    · have E : Hid (hasC wd = false) := by unfold hasC; rw [hW]; show _ = _; simp [h16]
      have h16' : decide (16 ≤ wd) = false := by simpa using h16
      go_enter Tryz.func58, Tryz.ntmps58
      go_wp2_with (go_at_call 57; refine (isWidth_val hW _).mono ?_; rintro e w' ⟨rfl, rfl⟩)
      go_ret
      exact ⟨by rw [E.out]; rfl, rfl⟩
/-- What a text says in a width, by its number alone. -/
def pnN (l : List UInt8) (wd : Int) : Nat × Int := if (fnN l).2 = 0 then (if fitsN (fnN l).1 wd = true then ((fnN l).1, 0) else (0, 11)) else (0, (fnN l).2)

theorem fdN_is (base : Nat) (l : List UInt8) : Is128 (fdN base l).1 := by
  unfold fdN Is128; split
  · decide
  · split
    · decide
    · split
      · assumption
      · decide
theorem fnN_is (l : List UInt8) : Is128 (fnN l).1 := by
  unfold fnN; split
  · exact fdN_is _ _
  · split <;> exact fdN_is _ _

/-- A result's slot, laid at the call's begin and not written since. -/
theorem zslot {w w2 : World} (h : Below (w.heap.size + 1) (w.alloc (.cells #[.int .u64 0, .int .u64 0] 37)) w2) :
    w2.cell? ⟨w.heap.size, 0, none⟩ = some (.int .u64 0) ∧ w2.cell? ⟨w.heap.size, 1, none⟩ = some (.int .u64 0) ∧ w2.frozen? ⟨w.heap.size, 0, none⟩ = false ∧ w2.frozen? ⟨w.heap.size, 1, none⟩ = false := by
  refine ⟨?_, ?_, ?_, ?_⟩
  · rw [h.cell (p := ⟨w.heap.size, 0, none⟩) (by simp)]; simp
  · rw [h.cell (p := ⟨w.heap.size, 1, none⟩) (by simp)]; simp
  · rw [h.frozen (p := ⟨w.heap.size, 0, none⟩) (by simp)]; simp
  · rw [h.frozen (p := ⟨w.heap.size, 1, none⟩) (by simp)]; simp
theorem zbelow {w w2 : World} (h : Below (w.heap.size + 1) (w.alloc (.cells #[.int .u64 0, .int .u64 0] 37)) w2) : Below w.heap.size w w2 :=
  ((Below.refl _ _).alloc (Nat.le_refl _) _).trans (h.mono (by omega))
/-- What the last two words of a value's box hold, and what a store there leaves in it. -/
theorem zresult {w2 : World} {b : Nat} {x y x0 y0 : Value} (h0 : w2.cell? ⟨b, 0, none⟩ = some x0) (h1 : w2.cell? ⟨b, 1, none⟩ = some y0) :
    ((w2.setCell ⟨b, 0, none⟩ x).setCell ⟨b, 1, none⟩ y).cell? ⟨b, 0, none⟩ = some x ∧ ((w2.setCell ⟨b, 0, none⟩ x).setCell ⟨b, 1, none⟩ y).cell? ⟨b, 1, none⟩ = some y := by
  constructor
  · rw [World.cell?_setCell_other _ _ _ _ (by intro e; cases e), World.cell?_setCell_same _ _ _ h0]
  · rw [World.cell?_setCell_same _ _ _ (u := y0)]
    rw [World.cell?_setCell_other _ _ _ _ (by intro e; cases e)]; exact h1
end Go.Proofs.YtlgfpjaomiomjaaGreatDoor
