/- Package lex: small questions about runes; the bytes of a gap, of a word. -/
import Derived.Test.YtlgfpjaomiomjaaGreatDoorKe
import Derived.Test.YtlgfpjaomiomjaaGreatDoorLx
namespace Go.Proofs.YtlgfpjaomiomjaaGreatDoor
open Go.RowKit
set_option linter.unusedVariables false
set_option linter.unusedSimpArgs false

theorem sm_any (r : Int) (w : World) : Calls Tryz.prog 36 #[.int .i32 r] w fun e w' => e = .returned (.bool (smI r)) ∧ w' = w := by
  have H : Hid (∀ b : Bool, smI r = b → Ending.returned (.bool b) = Ending.returned (.bool (smI r))) := fun b h => by rw [h]
  by_cases h1 : 97 ≤ r
  · go_enter Tryz.func36, Tryz.ntmps36
    go_wp2
    go_ret
    exact ⟨H.out _ (by unfold smI; simp [h1]), rfl⟩
  · have d1 : decide (97 ≤ r) = false := by simpa using h1
    go_enter Tryz.func36, Tryz.ntmps36
    go_wp2
    go_ret
    exact ⟨H.out _ (by unfold smI; simp [d1]), rfl⟩
theorem cp_any (r : Int) (w : World) : Calls Tryz.prog 37 #[.int .i32 r] w fun e w' => e = .returned (.bool (cpI r)) ∧ w' = w := by
  have H : Hid (∀ b : Bool, cpI r = b → Ending.returned (.bool b) = Ending.returned (.bool (cpI r))) := fun b h => by rw [h]
  by_cases h1 : 65 ≤ r
  · go_enter Tryz.func37, Tryz.ntmps37
    go_wp2
    go_ret
    exact ⟨H.out _ (by unfold cpI; simp [h1]), rfl⟩
  · have d1 : decide (65 ≤ r) = false := by simpa using h1
    go_enter Tryz.func37, Tryz.ntmps37
    go_wp2
    go_ret
    exact ⟨H.out _ (by unfold cpI; simp [d1]), rfl⟩
theorem dg_any (r : Int) (w : World) : Calls Tryz.prog 38 #[.int .i32 r] w fun e w' => e = .returned (.bool (dgI r)) ∧ w' = w := by
  have H : Hid (∀ b : Bool, dgI r = b → Ending.returned (.bool b) = Ending.returned (.bool (dgI r))) := fun b h => by rw [h]
  by_cases h1 : 48 ≤ r
  · go_enter Tryz.func38, Tryz.ntmps38
    go_wp2
    go_ret
    exact ⟨H.out _ (by unfold dgI; simp [h1]), rfl⟩
  · have d1 : decide (48 ≤ r) = false := by simpa using h1
    go_enter Tryz.func38, Tryz.ntmps38
    go_wp2
    go_ret
    exact ⟨H.out _ (by unfold dgI; simp [d1]), rfl⟩
theorem bl_any (r : Int) (w : World) : Calls Tryz.prog 32 #[.int .i32 r] w fun e w' => e = .returned (.bool (blI r)) ∧ w' = w := by
  have H : Hid (∀ b : Bool, blI r = b → Ending.returned (.bool b) = Ending.returned (.bool (blI r))) := fun b h => by rw [h]
  cases h1 : (r == 32) <;> cases h2 : (r == 9) <;> cases h3 : (r == 10)
  all_goals
    go_enter Tryz.func32, Tryz.ntmps32
    go_wp2
    go_ret
    exact ⟨H.out _ (by unfold blI; simp only [h1, h2, h3]; simp), rfl⟩
theorem pt_any (r : Int) (w : World) : Calls Tryz.prog 35 #[.int .i32 r] w fun e w' => e = .returned (.bool (ptI r)) ∧ w' = w := by
  have H : Hid (∀ b : Bool, ptI r = b → Ending.returned (.bool b) = Ending.returned (.bool (ptI r))) := fun b h => by rw [h]
  have HE : Hid (ptI r = (smI r || cpI r || dgI r || r == 95)) := rfl
  have S := sm_any r
  have C := cp_any r
  have D := dg_any r
  have HS : Hid (∀ w, Calls Tryz.prog 36 #[.int .i32 r] w fun e w' => e = .returned (.bool (smI r)) ∧ w' = w) := S
  have HC : Hid (∀ w, Calls Tryz.prog 37 #[.int .i32 r] w fun e w' => e = .returned (.bool (cpI r)) ∧ w' = w) := C
  have HD : Hid (∀ w, Calls Tryz.prog 38 #[.int .i32 r] w fun e w' => e = .returned (.bool (dgI r)) ∧ w' = w) := D
  clear S C D
  generalize ptI r = p at *
  generalize smI r = a at *
  generalize cpI r = b at *
  generalize dgI r = c at *
  cases a <;> cases b <;> cases c
  all_goals
    go_enter Tryz.func35, Tryz.ntmps35
    go_wp2_with (first | (go_at_call 36; refine (HS.out _).mono ?_; rintro e w' ⟨rfl, rfl⟩) | (go_at_call 37; refine (HC.out _).mono ?_; rintro e w' ⟨rfl, rfl⟩) | (go_at_call 38; refine (HD.out _).mono ?_; rintro e w' ⟨rfl, rfl⟩))
    go_ret
    exact ⟨H.out _ (by rw [HE.out]; simp), rfl⟩
end Go.Proofs.YtlgfpjaomiomjaaGreatDoor
