/- Mask and Most, of package value and of the reference; the reference's Bit and Compare. -/
import Derived.Test.YtjkpdcgmmdimaaaDoorRc
import Derived.Test.YtjkpdcgmmdimaaaDoorWo
namespace Go.Proofs.YtjkpdcgmmdimaaaDoor
open Go.RowKit
set_option linter.unusedVariables false
set_option linter.unusedSimpArgs false

/-- What Mask answers: the value and the error's number. -/
def maskR (wd i : Int) : Nat × Int := if isW wd = true then (if 0 ≤ i ∧ i ≤ wd then (maskN wd i, 0) else (0, 1)) else (0, 10)
theorem maskR_no {wd i : Int} (h : isW wd = false) : maskR wd i = (0, 10) := by unfold maskR; rw [h]; rfl
theorem maskR_arg {wd i : Int} (h : isW wd = true) (h' : ¬ (0 ≤ i ∧ i ≤ wd)) : maskR wd i = (0, 1) := by unfold maskR; rw [if_pos h, if_neg h']
theorem maskR_yes {wd i : Int} (h : isW wd = true) (h' : 0 ≤ i ∧ i ≤ wd) : maskR wd i = (maskN wd i, 0) := by unfold maskR; rw [if_pos h, if_pos h']

set_option maxHeartbeats 400000 in
theorem mask_all (wd i : Int) (w : World) : Calls Tryd.prog 12 #[.int .i64 wd, .int .i64 i] w fun e w' => e = .returned (.tuple #[B (maskR wd i).1, .int .i64 (maskR wd i).2]) ∧ Below w.heap.size w w' := by
  cases hW : isW wd
  · rw [maskR_no hW]
    go_enter Tryd.func12, Tryd.ntmps12
    go_wp2_with (go_at_call 42; refine (isWidth_val hW _).mono ?_; rintro e w' ⟨rfl, rfl⟩)
    refine bodyPost_ret (v := .tuple #[B 0, .int .i64 10]) ?_ rfl ⟨rfl, ?_⟩
    · rw [zero_words]; simp [results, Tryd.results12, go_sem]
    · go_grown
  · by_cases h : 0 ≤ i ∧ i ≤ wd
    · rw [maskR_yes hW h]; exact mask_any wd i hW h.1 h.2 w
    · rw [maskR_arg hW h]
      by_cases h0 : i < 0
      · go_enter Tryd.func12, Tryd.ntmps12
        go_wp2_with (go_at_call 42; refine (isWidth_val hW _).mono ?_; rintro e w' ⟨rfl, rfl⟩)
        refine bodyPost_ret (v := .tuple #[B 0, .int .i64 1]) ?_ rfl ⟨rfl, ?_⟩
        · rw [zero_words]; simp [results, Tryd.results12, go_sem]
        · go_grown
      · have d0 : decide (i < 0) = false := by simpa using h0
        have d1 : wd < i := by omega
        clear h h0
        go_enter Tryd.func12, Tryd.ntmps12
        go_wp2_with (go_at_call 42; refine (isWidth_val hW _).mono ?_; rintro e w' ⟨rfl, rfl⟩)
        refine bodyPost_ret (v := .tuple #[B 0, .int .i64 1]) ?_ rfl ⟨rfl, ?_⟩
        · rw [zero_words]; simp [results, Tryd.results12, go_sem]
        · go_grown
theorem mask_most {wd : Int} : maskN wd wd = onesN wd.toNat := by
  unfold maskN; rw [show (wd - wd).toNat = 0 by omega]; simp [onesN]
theorem most_all (wd : Int) (w : World) : Calls Tryd.prog 11 #[.int .i64 wd] w fun e w' => e = .returned (.tuple #[B (maskR wd wd).1, .int .i64 (maskR wd wd).2]) ∧ Below w.heap.size w w' := by
  cases hW : isW wd
  · rw [maskR_no hW]
    go_enter Tryd.func11, Tryd.ntmps11
    go_wp2_with (go_at_call 42; refine (isWidth_val hW _).mono ?_; rintro e w' ⟨rfl, rfl⟩)
    refine bodyPost_ret (v := .tuple #[B 0, .int .i64 10]) ?_ rfl ⟨rfl, ?_⟩
    · rw [zero_words]; simp [results, Tryd.results11, go_sem]
    · go_grown
  · have hb := isW_bounds hW
    rw [maskR_yes hW (by omega), mask_most]; exact most_any wd w hW

/-- What the reference's Mask has set behind k rounds. -/
def maskTo (K k : Nat) : Nat → Bool := fun i => decide (K ≤ i) && decide (i < K + k)
theorem maskTo_step (K k : Nat) : rowV (fun t => if t = K + k then true else maskTo K k t) = rowV (maskTo K (k + 1)) := by
  apply rowV_congr; intro i hi; unfold maskTo
  by_cases e : i = K + k
  · subst e; simp [show K + k < K + (k + 1) by omega]
  · simp only [e, if_false]
    rw [show decide (i < K + (k + 1)) = decide (i < K + k) by rw [Bool.eq_iff_iff]; simp; omega]
theorem maskTo_zero (K : Nat) : rowV (fun _ => false) = rowV (maskTo K 0) := by
  apply rowV_congr; intro i hi; unfold maskTo
  rw [Bool.eq_iff_iff]; simp; try omega
theorem maskTo_take {wd i : Int} (hW : isW wd = true) (h0 : 0 ≤ i) (h1 : i ≤ wd) : takeN (maskTo (128 - wd).toNat i.toNat) = maskN wd i := by
  have hb := isW_bounds hW
  refine take_ext (mask_is (by omega) hb.2 h0 h1) fun j hj => ?_
  unfold maskTo maskN
  rw [Nat.testBit_xor, ones_bit, ones_bit]
  by_cases a : j < wd.toNat <;> by_cases b : j < (wd - i).toNat
  · rw [decide_eq_true a, decide_eq_true b, decide_eq_true (by omega), decide_eq_false (by omega)]; rfl
  · rw [decide_eq_true a, decide_eq_false b, decide_eq_true (by omega), decide_eq_true (by omega)]; rfl
  · omega
  · rw [decide_eq_false a, decide_eq_false b, decide_eq_false (by omega)]; rfl

set_option maxHeartbeats 1000000 in
set_option maxRecDepth 100000 in
theorem rmask_yes (wd i : Int) (hW : isW wd = true) (h0 : 0 ≤ i) (h1 : i ≤ wd) (w : World) : Calls Tryd.prog 14 #[.int .i64 wd, .int .i64 i] w fun e w' => e = .returned (.tuple #[B (maskN wd i), .int .i64 0]) ∧ Below w.heap.size w w' := by
  have hb := isW_bounds hW
  have E := maskTo_take hW h0 h1
  obtain ⟨N, rfl⟩ := Int.eq_ofNat_of_zero_le h0
  obtain ⟨K, hK⟩ : ∃ K : Nat, 128 - wd = (K : Int) := ⟨(128 - wd).toNat, by omega⟩
  have hK' : (128 - wd).toNat = K := by omega
  rw [hK', Int.toNat_natCast] at E
  have HE : Hid (takeN (maskTo K N) = maskN wd N) := E
  have K1 : K + N ≤ 128 := by omega
  have d0 : decide ((N : Int) < 0) = false := by simp
  have d1 : decide (wd < (N : Int)) = false := by simp; omega
  clear hK' E
  go_enter Tryd.func14, Tryd.ntmps14
  go_wp2_with (go_at_call 44; refine (rwidth_val hW _).mono ?_; rintro e w' ⟨rfl, rfl⟩)
  rw [zero49]
  have A0 : Arr ((w.alloc (.cells #[.int .u64 0, .int .u64 0] 24)).alloc (.cells (rowV fun _ => false) 49)) (w.heap.size + 1) (maskTo K 0) := Arr.congr (by simpa using Arr.new (w.alloc (.cells #[.int .u64 0, .int .u64 0] 24)) (fun _ => false)) (maskTo_zero K)
  go_loopw [7] (fun i wr => ∃ k : Nat, k ≤ N ∧ i = .int .i64 k ∧ Arr wr (w.heap.size + 1) (maskTo K k) ∧ Wds wr w.heap.size 0 0 ∧ Below w.heap.size w wr) (fun i _ => N - (intOf i).toNat)
  case atStart => exact ⟨0, by omega, rfl, A0, (Wds.new w 0 0).past _, by go_grown⟩
  case round =>
    obtain ⟨k, hk, rfl, A, Z, hB⟩ := hrel
    clear A0
    by_cases hlt : k < N
    · have x1 := A.cell (i := K + k) (by omega)
      have x2 := A.frozen (K + k)
      have k128 : K + k < 128 := by omega
      go_wp2
      refine ⟨⟨k + 1, by omega, by go_num, Arr.congr (A.set (i := K + k) (by omega) true) (maskTo_step K k), Z.other (by simp) _, hB.setCell (by simp) _⟩, by simp only [intOf]; omega⟩
    · obtain rfl : k = N := by omega
      go_wp2_with (first
        | (go_at_call 45; refine (take_any _ _).mono ?_; rw [HE.out]; rintro e w2 ⟨rfl, hb2⟩; obtain ⟨z0, z1, z2, z3⟩ := Z.below hb2 Z.lt; have hB2 := bstep hB hb2)
        | (refine wpList_load_row rfl 49 _ rfl (w.heap.size + 1) rfl 49 _ (0, 0) _ A Tryd.underlying49 rfl (size49 _) ?_))
      refine bodyPost_ret (v := .tuple #[B (maskN wd k), .int .i64 0]) ?_ rfl ⟨rfl, (hB2.setCell (by simp) _).setCell (by simp) _⟩
      obtain ⟨r0, r1⟩ := zresult (x := .int .u64 (hiOf (maskN wd k))) (y := .int .u64 (loOf (maskN wd k))) z0 z1
      simp [results, Tryd.results14, go_sem, r0, r1]
theorem rmask_all (wd i : Int) (w : World) : Calls Tryd.prog 14 #[.int .i64 wd, .int .i64 i] w fun e w' => e = .returned (.tuple #[B (maskR wd i).1, .int .i64 (maskR wd i).2]) ∧ Below w.heap.size w w' := by
  cases hW : isW wd
  · rw [maskR_no hW]
    go_enter Tryd.func14, Tryd.ntmps14
    go_wp2_with (go_at_call 44; refine (rwidth_val hW _).mono ?_; rintro e w' ⟨rfl, rfl⟩)
    refine bodyPost_ret (v := .tuple #[B 0, .int .i64 10]) ?_ rfl ⟨rfl, ?_⟩
    · rw [zero_words]; simp [results, Tryd.results14, go_sem]
    · go_grown
  · by_cases h : 0 ≤ i ∧ i ≤ wd
    · rw [maskR_yes hW h]; exact rmask_yes wd i hW h.1 h.2 w
    · rw [maskR_arg hW h]
      by_cases h0 : i < 0
      · go_enter Tryd.func14, Tryd.ntmps14
        go_wp2_with (go_at_call 44; refine (rwidth_val hW _).mono ?_; rintro e w' ⟨rfl, rfl⟩)
        refine bodyPost_ret (v := .tuple #[B 0, .int .i64 1]) ?_ rfl ⟨rfl, ?_⟩
        · rw [zero_words]; simp [results, Tryd.results14, go_sem]
        · go_grown
      · have d0 : decide (i < 0) = false := by simpa using h0
        have d1 : wd < i := by omega
        clear h h0
        go_enter Tryd.func14, Tryd.ntmps14
        go_wp2_with (go_at_call 44; refine (rwidth_val hW _).mono ?_; rintro e w' ⟨rfl, rfl⟩)
        refine bodyPost_ret (v := .tuple #[B 0, .int .i64 1]) ?_ rfl ⟨rfl, ?_⟩
        · rw [zero_words]; simp [results, Tryd.results14, go_sem]
        · go_grown
end Go.Proofs.YtjkpdcgmmdimaaaDoor
