/- math/bits.Div64 with a high word of 0, and package value's divide of a number below 2^64: the quotient and what is left. -/
import Derived.Test.YtjkpdcgmmdimaaaDoorWb
import Derived.WalkSmall
namespace Go.Proofs.YtjkpdcgmmdimaaaDoor
open Go.RowKit
set_option linter.unusedVariables false
set_option linter.unusedSimpArgs false

theorem quo_word {a b : Int} (h0 : 0 ≤ a) (h1 : a < 18446744073709551616) (hb : 0 < b) : IntKind.u64.wrap (a.tdiv b) = a / b := by
  rw [Int.tdiv_eq_ediv_of_nonneg h0, IntKind.wrap_u64]
  have h2 : 0 ≤ a / b := Int.ediv_nonneg h0 (by omega)
  have h3 : a / b ≤ a := Int.ediv_le_self b h0
  exact Int.emod_eq_of_lt h2 (by omega)
theorem div64_small (lo y : Int) (h0 : 0 ≤ lo) (h00 : lo < 18446744073709551616) (hy : 0 < y) (w : World) : Calls Tryd.prog 81 #[.int .u64 0, .int .u64 lo, .int .u64 y] w fun e w' => e = .returned (.tuple #[.int .u64 (lo / y), .int .u64 (lo % y)]) ∧ Below w.heap.size w w' := by
  have h1 : (y == 0) = false := by simp; omega
  have h2 : decide (y ≤ 0) = false := by simp; omega
  have E : Hid _ := quo_word h0 h00 hy
  clear h00
  go_enter Tryd.func81, Tryd.ntmps81
  go_wp2
  go_quiet (fail)
  go_wp2
  go_ret2
  exact ⟨by show Ending.returned (.tuple #[.int .u64 (IntKind.u64.wrap (lo.tdiv y)), .int .u64 (lo % y)]) = _; rw [E.out], below_drewN (Below.refl _ _) _⟩

theorem divide_small (n : Nat) (hn : n < 18446744073709551616) (by' : Nat) (hb : 0 < by') (w : World) : Calls Tryd.prog 70 #[B n, .int .u64 by'] w fun e w' => e = .returned (.tuple #[B (n / by'), .int .u64 (n % by' : Nat)]) ∧ Below w.heap.size w w' := by
  have h1 : (((by' : Nat) : Int) == 0) = false := by simp; omega
  have hh : hiOf n = 0 := by unfold hiOf; omega
  have hl : loOf n = n := by unfold loOf; omega
  have hl2 : Hid ((n : Int) < 18446744073709551616) := by show _ < _; omega
  have hq : n / by' < 18446744073709551616 := Nat.lt_of_le_of_lt (Nat.div_le_self n by') hn
  have E1 : Hid (hiOf (n / by') = 0) := by unfold hiOf; rw [Nat.div_eq_of_lt hq]; rfl
  have E2 : Hid (loOf (n / by') = (n : Int) / by') := by
    unfold loOf; show _ = _
    rw [Nat.mod_eq_of_lt hq]; simp
  simp only [B, hh, hl]
  clear hn hq
  go_enter Tryd.func70, Tryd.ntmps70
  go_wp2
  go_quiet (fail)
  go_wp2_with (go_at_call 81; refine (div64_small _ _ (by omega) hl2.out (by omega) _).mono ?_; rintro e w' ⟨rfl, hb1⟩; obtain ⟨hc1, hf1⟩ := bcell hb1; (try simp at hc1); (try simp at hf1))
  refine bodyPost_ret (v := .tuple #[.agg #[.int .u64 (hiOf (n / by')), .int .u64 (loOf (n / by'))], .int .u64 ((n % by' : Nat) : Int)]) ?_ rfl ⟨rfl, ?_⟩
  · rw [E1.out, E2.out]; simp [results, Tryd.results70, go_sem, hc1, hf1]
  · refine Below.setCell (Below.setCell (bstep (below_drewN ?_ _) hb1) ?_ _) ?_ _
    · go_grown
    · simp
    · simp
end Go.Proofs.YtjkpdcgmmdimaaaDoor
