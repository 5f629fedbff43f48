/- The law's own answer: a bit of a number. -/
import Derived.Test.YtgdpplipahhffaaAo
namespace Go.Proofs.Ytgdpplipahhffaa
open Go.RowKit
set_option linter.unusedVariables false
set_option linter.unusedSimpArgs false

theorem test_div (n k : Nat) : n.testBit k = decide (n / 2 ^ k % 2 = 1) := by
  rw [Nat.testBit_eq_decide_div_mod_eq]
theorem test_lo (v : Nat) {i : Nat} (h : i < 64) : (v % 18446744073709551616).testBit i = v.testBit i := by
  rw [show (18446744073709551616 : Nat) = 2 ^ 64 from rfl, Nat.testBit_mod_two_pow, decide_eq_true h, Bool.true_and]
theorem test_hi (v : Nat) {i : Nat} (h : 64 ≤ i) : (v / 18446744073709551616).testBit (i - 64) = v.testBit i := by
  rw [show (18446744073709551616 : Nat) = 2 ^ 64 from rfl, Nat.testBit_div_two_pow, show i - 64 + 64 = i by omega]
set_option maxHeartbeats 2000000 in
theorem rbit_any (v : Nat) (hv : Is128 v) (i : Nat) (hi : i < 128) (w : World) : Calls Try.prog 54 #[B v, .int .i64 i] w fun e w' => e = .returned (.bool (v.testBit i)) ∧ Below w.heap.size w w' := by
  have HB : Hid _ := one_new w #[.int .u64 (hiOf v), .int .u64 (loOf v)] 33
  go_enter Try.func54, Try.ntmps54
  go_upto_region 1 with fail
  generalize (w.alloc _) = w0 at HB ⊢
  have x0 := HB.out.1.cell 0 (v := .int .u64 (hiOf v)) rfl
  have x1 := HB.out.1.cell 1 (v := .int .u64 (loOf v)) rfl
  have HF : Hid (Below w.heap.size w w0) := HB.out.2.1
  clear HB
  by_cases h : 63 < i
  all_goals (
    have h9 : (63 < (i : Int)) ↔ 63 < i := by omega
    go_upto_region 5 with fail
    clear x0 x1
    go_loopw [5, 1] (fun a b wr => ∃ y k : Nat, a = .int .u64 y ∧ b = .int .i64 k ∧ y.testBit k = v.testBit i ∧ y < 18446744073709551616 ∧ k < 64 ∧ wr = w0) (fun a b wr => (intOf b).toNat)
    case atStart =>
      have hv' := hv
      unfold Is128 at hv'
      first
        | exact ⟨v / 18446744073709551616, i - 64, rfl, by go_num, test_hi v (by omega), by omega, by omega, rfl⟩
        | exact ⟨v % 18446744073709551616, i, rfl, rfl, test_lo v (by omega), by omega, by omega, rfl⟩
    case round =>
      obtain ⟨y, k, rfl, rfl, ht, hy, hk, rfl⟩ := hrel
      rcases Nat.eq_zero_or_pos k with rfl | hp
      · have e3 : ((y : Int) % 2 == 1) = v.testBit i := by
          rw [← ht, test_div, Bool.eq_iff_iff]
          simp only [Nat.pow_zero, Nat.div_one, beq_iff_eq, decide_eq_true_eq]
          omega
        go_wp2
        go_ret
        exact ⟨rfl, HF.out⟩
      · have e2 : (IntKind.u64.wrap ((y : Int).tdiv 2)) = ((y / 2 : Nat) : Int) := by
          rw [Int.tdiv_eq_ediv_of_nonneg (by omega), IntKind.wrap_u64]; omega
        have hp' : (0 : Int) < k := by omega
        have ht2 : (y / 2).testBit (k - 1) = v.testBit i := by
          rw [← ht, ← Nat.testBit_succ, Nat.succ_eq_add_one, show k - 1 + 1 = k by omega]
        go_wp2
        go_roundw
        case rel => exact ⟨y / 2, k - 1, by first | rw [e2] | rfl | go_num, by go_num, ht2, by omega, by omega, trivial⟩
        case measure => simp [intOf]; omega)
end Go.Proofs.Ytgdpplipahhffaa
