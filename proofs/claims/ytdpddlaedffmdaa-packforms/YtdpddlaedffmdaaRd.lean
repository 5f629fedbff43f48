/- Mask and Most, of package value and of the reference; the reference's Bit and Compare. -/
import Derived.Test.YtdpddlaedffmdaaRc
import Derived.Test.YtdpddlaedffmdaaWo
namespace Go.Proofs.Ytdpddlaedffmdaa
open Go.RowKit
set_option linter.unusedVariables false
set_option linter.unusedSimpArgs false

/-- What Mask answers: the value and the error's number. -/
def maskR (wd i : Int) : Nat × Int := if isW wd = true then (if 0 ≤ i ∧ i ≤ wd then (maskN wd i, 0) else (0, 1)) else (0, 10)
theorem maskR_no {wd i : Int} (h : isW wd = false) : maskR wd i = (0, 10) := by unfold maskR; rw [h]; rfl
theorem maskR_arg {wd i : Int} (h : isW wd = true) (h' : ¬ (0 ≤ i ∧ i ≤ wd)) : maskR wd i = (0, 1) := by unfold maskR; rw [if_pos h, if_neg h']
theorem maskR_yes {wd i : Int} (h : isW wd = true) (h' : 0 ≤ i ∧ i ≤ wd) : maskR wd i = (maskN wd i, 0) := by unfold maskR; rw [if_pos h, if_pos h']

theorem mask_most {wd : Int} : maskN wd wd = onesN wd.toNat := by
  unfold maskN; rw [show (wd - wd).toNat = 0 by omega]; simp [onesN]
theorem most_all (wd : Int) (w : World) : Calls Try.prog 80 #[.int .i64 wd] w fun e w' => e = .returned (.tuple #[B (maskR wd wd).1, .int .i64 (maskR wd wd).2]) ∧ Below w.heap.size w w' := by
  cases hW : isW wd
  · rw [maskR_no hW]
    go_enter Try.func80, Try.ntmps80
    go_wp2_with (go_at_call 83; refine (isWidth_val hW _).mono ?_; rintro e w' ⟨rfl, rfl⟩)
    refine bodyPost_ret (v := .tuple #[B 0, .int .i64 10]) ?_ rfl ⟨rfl, ?_⟩
    · rw [zero_words]; simp [results, Try.results80, go_sem]
    · go_grown
  · have hb := isW_bounds hW
    rw [maskR_yes hW (by omega), mask_most]; exact most_any wd w hW

/-- What the reference's Mask has set behind k rounds. -/
def maskTo (K k : Nat) : Nat → Bool := fun i => decide (K ≤ i) && decide (i < K + k)
theorem maskTo_step (K k : Nat) : rowV (fun t => if t = K + k then true else maskTo K k t) = rowV (maskTo K (k + 1)) := by
  apply rowV_congr; intro i hi; unfold maskTo
  by_cases e : i = K + k
  · subst e; simp [show K + k < K + (k + 1) by omega]
  · simp only [e, if_false]
    rw [show decide (i < K + (k + 1)) = decide (i < K + k) by rw [Bool.eq_iff_iff]; simp; omega]
theorem maskTo_zero (K : Nat) : rowV (fun _ => false) = rowV (maskTo K 0) := by
  apply rowV_congr; intro i hi; unfold maskTo
  rw [Bool.eq_iff_iff]; simp; try omega
theorem maskTo_take {wd i : Int} (hW : isW wd = true) (h0 : 0 ≤ i) (h1 : i ≤ wd) : takeN (maskTo (128 - wd).toNat i.toNat) = maskN wd i := by
  have hb := isW_bounds hW
  refine take_ext (mask_is (by omega) hb.2 h0 h1) fun j hj => ?_
  unfold maskTo maskN
  rw [Nat.testBit_xor, ones_bit, ones_bit]
  by_cases a : j < wd.toNat <;> by_cases b : j < (wd - i).toNat
  · rw [decide_eq_true a, decide_eq_true b, decide_eq_true (by omega), decide_eq_false (by omega)]; rfl
  · rw [decide_eq_true a, decide_eq_false b, decide_eq_true (by omega), decide_eq_true (by omega)]; rfl
  · omega
  · rw [decide_eq_false a, decide_eq_false b, decide_eq_false (by omega)]; rfl

end Go.Proofs.Ytdpddlaedffmdaa
