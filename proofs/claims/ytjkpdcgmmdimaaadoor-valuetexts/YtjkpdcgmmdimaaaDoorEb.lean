/- The reference's sign, worth, Has. -/
import Derived.Test.YtjkpdcgmmdimaaaDoorDe
import Derived.Test.YtjkpdcgmmdimaaaDoorRc
namespace Go.Proofs.YtjkpdcgmmdimaaaDoor
open Go.RowKit
set_option linter.unusedVariables false
set_option linter.unusedSimpArgs false

theorem sgn_low : ∀ d, d < 10 → ((sgn d).toNat : Int) = 48 + (d : Int) := by decide
theorem sgn_high : ∀ d, d < 16 → 10 ≤ d → ((sgn d).toNat : Int) = 97 + (d : Int) - 10 := by decide
theorem sign_any (d : Nat) (h : d < 16) (w : World) : Calls Tryd.prog 65 #[.int .i64 d] w fun e w' => e = .returned (.int .u8 ((sgn d).toNat : Int)) ∧ w' = w := by
  by_cases h10 : d < 10
  · have E : Hid _ := sgn_low d h10
    have e1 : (d : Int) < 10 := by omega
    have e2 : (48 + (d : Int)) % 256 = 48 + (d : Int) := by omega
    clear h10
    go_enter Tryd.func65, Tryd.ntmps65
    go_wp2
    go_ret
    exact ⟨by rw [E.out]; rfl, rfl⟩
  · have E : Hid _ := sgn_high d h (by omega)
    have e1 : decide ((d : Int) < 10) = false := by simp; omega
    have e2 : (97 + (d : Int) - 10) % 256 = 97 + (d : Int) - 10 := by omega
    clear h10
    go_enter Tryd.func65, Tryd.ntmps65
    go_wp2
    go_ret
    exact ⟨by rw [E.out]; rfl, rfl⟩
def worthI (base : Nat) (c : UInt8) : Int := match worth base c with
  | none => -1
  | some d => d
theorem worth_any (base : Nat) (c : UInt8) (hb : base ≤ 16) (w : World) : Calls Tryd.prog 78 #[.int .u8 (c.toNat : Int), .int .i64 base] w fun e w' => e = .returned (.int .i64 (worthI base c)) ∧ w' = w := by
  have HE : Hid (∀ d, worth base c = some d → worthI base c = d) := fun d h => by unfold worthI; rw [h]
  have HN : Hid (worth base c = none → worthI base c = -1) := fun h => by unfold worthI; rw [h]
  go_enter Tryd.func78, Tryd.ntmps78
  go_wp2
  go_loopw [5] (fun k wr => ∃ d : Nat, d ≤ base ∧ k = .int .i64 d ∧ Aside (∀ i, i < d → sgn i ≠ c) ∧ wr = w) (fun k _ => base - (intOf k).toNat)
  case atStart => exact ⟨0, by omega, rfl, (fun i h => by omega), rfl⟩
  case round =>
    obtain ⟨d, hd, rfl, A, rfl⟩ := hrel
    by_cases hlt : d < base
    · by_cases he : sgn d = c
      · have hw : worth base c = some d := by rw [← he]; exact worth_sgn hb hlt
        have E : Hid _ := HE.out d hw
        have hq : (((sgn d).toNat : Int) == (c.toNat : Int)) = true := by rw [he]; simp
        clear hw he A
        go_wp2_with (go_at_call 65; refine (sign_any d (by omega) _).mono ?_; rintro e w' ⟨rfl, rfl⟩)
        go_ret
        exact ⟨by rw [E.out]; rfl, rfl⟩
      · have hq : (((sgn d).toNat : Int) == (c.toNat : Int)) = false := by
          simp only [beq_eq_false_iff_ne]; intro e; exact he (UInt8.toNat_inj.1 (by omega))
        have A2 : Aside (∀ i, i < d + 1 → sgn i ≠ c) := fun i hi => by
          by_cases e : i = d
          · rw [e]; exact he
          · exact A.out i (by omega)
        clear A he
        go_wp2_with (go_at_call 65; refine (sign_any d (by omega) _).mono ?_; rintro e w' ⟨rfl, rfl⟩)
        exact ⟨⟨d + 1, by omega, by go_num, A2, trivial⟩, by simp only [intOf]; omega⟩
    · obtain rfl : d = base := by omega
      have hw : worth d c = none := by
        cases h : worth d c with
        | none => rfl
        | some k => exact absurd (worth_some h).2 (A.out k (worth_some h).1)
      have E : Hid _ := HN.out hw
      clear hw A
      go_wp2
      go_ret
      exact ⟨by rw [E.out]; rfl, rfl⟩
theorem rhas_any (wd f : Int) (hf : isF f = true) (w : World) : Calls Tryd.prog 63 #[.int .i64 wd, .int .i64 f] w fun e w' => e = .returned (.bool (hasF wd f)) ∧ w' = w := by
  have hcases : f = 1 ∨ f = 2 ∨ f = 3 ∨ f = 4 ∨ f = 5 := by simp [isF] at hf; omega
  clear hf
  rcases hcases with rfl | rfl | rfl | rfl | rfl
  · have E : Hid (hasF wd 1 = isW wd) := by show _ = _; unfold hasF; simp
    go_enter Tryd.func63, Tryd.ntmps63
    go_wp2_with (go_at_call 44; refine (rwidth_any wd _).mono ?_; rintro e w' ⟨rfl, rfl⟩)
    go_ret
    exact ⟨by rw [E.out]; rfl, rfl⟩
  · have E : Hid (hasF wd 2 = isW wd) := by show _ = _; unfold hasF; simp
    go_enter Tryd.func63, Tryd.ntmps63
    go_wp2_with (go_at_call 44; refine (rwidth_any wd _).mono ?_; rintro e w' ⟨rfl, rfl⟩)
    go_ret
    exact ⟨by rw [E.out]; rfl, rfl⟩
  · have E : Hid (hasF wd 3 = isW wd) := by show _ = _; unfold hasF; simp
    go_enter Tryd.func63, Tryd.ntmps63
    go_wp2_with (go_at_call 44; refine (rwidth_any wd _).mono ?_; rintro e w' ⟨rfl, rfl⟩)
    go_ret
    exact ⟨by rw [E.out]; rfl, rfl⟩
  · have E : Hid (hasF wd 4 = (wd == 32)) := by show _ = _; unfold hasF; simp
    go_enter Tryd.func63, Tryd.ntmps63
    go_wp2
    go_ret
    exact ⟨by rw [E.out]; rfl, rfl⟩
  · cases hW : isW wd
    · have E : Hid (hasF wd 5 = false) := by show _ = _; unfold hasF hasC; rw [hW]; simp
      go_enter Tryd.func63, Tryd.ntmps63
      go_wp2_with (go_at_call 44; refine (rwidth_val hW _).mono ?_; rintro e w' ⟨rfl, rfl⟩)
      go_ret
      exact ⟨by rw [E.out]; rfl, rfl⟩
    · have hb := isW_bounds hW
      by_cases h8 : wd % 8 = 0
      · have q8 : (wd % 8 == 0) = true := by simp [h8]
        have E : Hid (hasF wd 5 = decide (8 < wd)) := by
          show _ = _; unfold hasF hasC; rw [hW, q8]; simp; omega
        clear h8
        go_enter Tryd.func63, Tryd.ntmps63
        go_wp2_with (go_at_call 44; refine (rwidth_val hW _).mono ?_; rintro e w' ⟨rfl, rfl⟩)
        go_ret
        exact ⟨by rw [E.out]; rfl, rfl⟩
      · have q8 : (wd % 8 == 0) = false := by simpa using h8
        have E : Hid (hasF wd 5 = false) := by show _ = _; unfold hasF hasC; rw [hW, q8]; simp
        clear h8
        go_enter Tryd.func63, Tryd.ntmps63
        go_wp2_with (go_at_call 44; refine (rwidth_val hW _).mono ?_; rintro e w' ⟨rfl, rfl⟩)
        go_ret
        exact ⟨by rw [E.out]; rfl, rfl⟩
end Go.Proofs.YtjkpdcgmmdimaaaDoor
