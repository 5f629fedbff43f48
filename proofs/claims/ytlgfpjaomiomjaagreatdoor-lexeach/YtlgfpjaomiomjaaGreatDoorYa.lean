/- The document's small functions. -/
import Derived.Test.YtlgfpjaomiomjaaGreatDoorNb
import Derived.Deep.RegionWith
namespace Go.Proofs.YtlgfpjaomiomjaaGreatDoor
open Go.RowKit
set_option linter.unusedVariables false
set_option linter.unusedSimpArgs false

theorem rblank_any (c : UInt8) (w : World) : Calls Tryz.prog 22 #[.int .u8 (cI c)] w fun e w' => e = .returned (.bool (blI (cI c))) ∧ w' = w := by
  generalize cI c = r
  have H : Hid (∀ b : Bool, blI r = b → Ending.returned (.bool b) = Ending.returned (.bool (blI r))) := fun b h => by rw [h]
  cases h1 : (r == 32) <;> cases h2 : (r == 9) <;> cases h3 : (r == 10)
  all_goals
    go_enter Tryz.func22, Tryz.ntmps22
    go_wp2
    go_ret
    exact ⟨H.out _ (by unfold blI; simp only [h1, h2, h3]; simp), rfl⟩
theorem rpart_any (c : UInt8) (w : World) : Calls Tryz.prog 23 #[.int .u8 (cI c)] w fun e w' => e = .returned (.bool (ptI (cI c))) ∧ w' = w := by
  have S : Hid (∀ w, Calls Tryz.prog 42 #[.int .u8 (cI c)] w fun e w' => e = .returned (.bool (smI (cI c))) ∧ w' = w) := rsmall_any c
  have D : Hid (∀ w, Calls Tryz.prog 25 #[.int .u8 (cI c)] w fun e w' => e = .returned (.bool (dgI (cI c))) ∧ w' = w) := rdigit_any c
  have H : Hid (∀ b : Bool, (smI (cI c) || cpI (cI c) || dgI (cI c) || cI c == 95) = b → Ending.returned (.bool b) = Ending.returned (.bool (ptI (cI c)))) := fun b h => by rw [← h]; rfl
  have HC : Hid (cpI (cI c) = (decide (65 ≤ cI c) && decide (cI c ≤ 90))) := rfl
  generalize ptI (cI c) = P at *
  generalize smI (cI c) = sm at *
  generalize dgI (cI c) = dg at *
  generalize cpI (cI c) = cp at *
  generalize cI c = r at *
  by_cases h1 : 65 ≤ r
  · by_cases h2 : r ≤ 90
    · have hc : Hid (cp = true) := by show _ = _; rw [HC.out]; simp [h1, h2]
      cases dg <;> cases sm
      all_goals
        go_enter Tryz.func23, Tryz.ntmps23
        go_wp2_with (first | (go_at_call 25; refine (D.out _).mono ?_; rintro e w' ⟨rfl, hw'⟩; obtain rfl := Eq.symm hw') | (go_at_call 42; refine (S.out _).mono ?_; rintro e w' ⟨rfl, hw'⟩; obtain rfl := Eq.symm hw'))
        go_ret
        exact ⟨H.out _ (by rw [hc.out]; simp), rfl⟩
    · have d2 : decide (r ≤ 90) = false := by simpa using h2
      have hc : Hid (cp = false) := by show _ = _; rw [HC.out]; simp [d2]
      cases dg <;> cases sm
      all_goals
        go_enter Tryz.func23, Tryz.ntmps23
        go_wp2_with (first | (go_at_call 25; refine (D.out _).mono ?_; rintro e w' ⟨rfl, hw'⟩; obtain rfl := Eq.symm hw') | (go_at_call 42; refine (S.out _).mono ?_; rintro e w' ⟨rfl, hw'⟩; obtain rfl := Eq.symm hw'))
        go_ret
        exact ⟨H.out _ (by rw [hc.out]; simp), rfl⟩
  · have d1 : decide (65 ≤ r) = false := by simpa using h1
    have hc : Hid (cp = false) := by show _ = _; rw [HC.out]; simp [d1]
    cases dg <;> cases sm
    all_goals
      go_enter Tryz.func23, Tryz.ntmps23
      go_wp2_with (first | (go_at_call 25; refine (D.out _).mono ?_; rintro e w' ⟨rfl, hw'⟩; obtain rfl := Eq.symm hw') | (go_at_call 42; refine (S.out _).mono ?_; rintro e w' ⟨rfl, hw'⟩; obtain rfl := Eq.symm hw'))
      go_ret
      exact ⟨H.out _ (by rw [hc.out]; simp), rfl⟩
/-- What a digit says. -/
def saysN (c : UInt8) : Nat :=
  if 48 ≤ c.toNat ∧ c.toNat ≤ 57 then c.toNat - 48 else if 97 ≤ c.toNat ∧ c.toNat ≤ 102 then c.toNat - 87 else if 65 ≤ c.toNat ∧ c.toNat ≤ 70 then c.toNat - 55 else 99
theorem rsays_any (c : UInt8) (w : World) : Calls Tryz.prog 44 #[.int .u8 (cI c)] w fun e w' => e = .returned (.int .i64 (saysN c : Int)) ∧ w' = w := by
  have hlt : c.toNat < 256 := c.toNat_lt
  have H : Hid (∀ b : Int, (saysN c : Int) = b → Ending.returned (.int .i64 b) = Ending.returned (.int .i64 (saysN c : Int))) := fun b h => by rw [h]
  have HS : Hid (saysN c = if 48 ≤ c.toNat ∧ c.toNat ≤ 57 then c.toNat - 48 else if 97 ≤ c.toNat ∧ c.toNat ≤ 102 then c.toNat - 87 else if 65 ≤ c.toNat ∧ c.toNat ≤ 70 then c.toNat - 55 else 99) := rfl
  unfold cI
  generalize saysN c = S at *
  generalize c.toNat = r at *
  have run : ∀ (b1 b2 b3 b4 b5 b6 : Bool), decide ((48 : Int) ≤ (r : Int)) = b1 → decide ((r : Int) ≤ 57) = b2 → decide ((97 : Int) ≤ (r : Int)) = b3 → decide ((r : Int) ≤ 102) = b4 → decide ((65 : Int) ≤ (r : Int)) = b5 → decide ((r : Int) ≤ 70) = b6 →
      Calls Tryz.prog 44 #[.int .u8 (r : Int)] w fun e w' => e = .returned (.int .i64 (S : Int)) ∧ w' = w := by
    intro b1 b2 b3 b4 b5 b6 h1 h2 h3 h4 h5 h6
    have G : Hid (b1 = decide (48 ≤ r) ∧ b2 = decide (r ≤ 57) ∧ b3 = decide (97 ≤ r) ∧ b4 = decide (r ≤ 102) ∧ b5 = decide (65 ≤ r) ∧ b6 = decide (r ≤ 70)) := by
      refine ⟨?_, ?_, ?_, ?_, ?_, ?_⟩
      all_goals (first | rw [← h1] | rw [← h2] | rw [← h3] | rw [← h4] | rw [← h5] | rw [← h6])
      all_goals (rw [decide_eq_decide]; omega)
    cases b1 <;> cases b2 <;> cases b3 <;> cases b4 <;> cases b5 <;> cases b6
    all_goals first
      | (exfalso; have := G.out; simp at this; omega)
      | (go_enter Tryz.func44, Tryz.ntmps44
         go_wp2
         go_ret
         refine ⟨H.out _ ?_, rfl⟩
         have g := G.out
         have hs := HS.out
         simp only [eq_comm (a := true), eq_comm (a := false), decide_eq_true_eq, decide_eq_false_iff_not] at g
         simp only [g, and_self, and_true, true_and, and_false, false_and, if_true, if_false] at hs
         first | (rw [hs]; omega) | (rw [hs]; go_num) | (rw [hs]; rfl))
  exact run _ _ _ _ _ _ rfl rfl rfl rfl rfl rfl
end Go.Proofs.YtlgfpjaomiomjaaGreatDoor
