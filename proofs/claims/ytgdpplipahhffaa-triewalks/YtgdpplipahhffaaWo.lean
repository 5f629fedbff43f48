/- Common, Mask: what each returns, and that memory only grows. -/
import Derived.Test.YtgdpplipahhffaaLo
import Derived.Test.YtgdpplipahhffaaSf
namespace Go.Proofs.Ytgdpplipahhffaa
open Go.RowKit
set_option linter.unusedVariables false
set_option linter.unusedSimpArgs false

theorem zslot {w w2 : World} (h : Below (w.heap.size + 1) (w.alloc (.cells #[.int .u64 0, .int .u64 0] 33)) w2) :
    w2.cell? ⟨w.heap.size, 0, none⟩ = some (.int .u64 0) ∧ w2.cell? ⟨w.heap.size, 1, none⟩ = some (.int .u64 0) ∧ w2.frozen? ⟨w.heap.size, 0, none⟩ = false ∧ w2.frozen? ⟨w.heap.size, 1, none⟩ = false := by
  refine ⟨?_, ?_, ?_, ?_⟩
  · rw [h.cell (p := ⟨w.heap.size, 0, none⟩) (by simp)]; simp
  · rw [h.cell (p := ⟨w.heap.size, 1, none⟩) (by simp)]; simp
  · rw [h.frozen (p := ⟨w.heap.size, 0, none⟩) (by simp)]; simp
  · rw [h.frozen (p := ⟨w.heap.size, 1, none⟩) (by simp)]; simp
theorem zbelow {w w2 : World} (h : Below (w.heap.size + 1) (w.alloc (.cells #[.int .u64 0, .int .u64 0] 33)) w2) : Below w.heap.size w w2 :=
  ((Below.refl _ _).alloc (Nat.le_refl _) _).trans (h.mono (by omega))
/-- What the last two words of a value's box hold, and what a store there leaves in it. -/
theorem zresult {w2 : World} {b : Nat} {x y x0 y0 : Value} (h0 : w2.cell? ⟨b, 0, none⟩ = some x0) (h1 : w2.cell? ⟨b, 1, none⟩ = some y0) :
    ((w2.setCell ⟨b, 0, none⟩ x).setCell ⟨b, 1, none⟩ y).cell? ⟨b, 0, none⟩ = some x ∧ ((w2.setCell ⟨b, 0, none⟩ x).setCell ⟨b, 1, none⟩ y).cell? ⟨b, 1, none⟩ = some y := by
  constructor
  · rw [World.cell?_setCell_other _ _ _ _ (by intro e; cases e), World.cell?_setCell_same _ _ _ h0]
  · rw [World.cell?_setCell_same _ _ _ (u := y0)]
    rw [World.cell?_setCell_other _ _ _ _ (by intro e; cases e)]; exact h1

theorem lead64 (n : Nat) (h : n < 18446744073709551616) (w : World) : Calls Try.prog 93 #[.int .u64 n] w fun e w' => e = .returned (.int .i64 (64 - (Lib.bitLen n : Int))) ∧ w' = w := by
  simpa using Try.bits_LeadingZeros64 n w (by omega) (by omega)
theorem bitLen_le (n : Nat) (h : n < 18446744073709551616) : Lib.bitLen n ≤ 64 := by
  by_cases h0 : n = 0
  · rw [h0, bitLen_zero]; omega
  · obtain ⟨b1, b2, b3⟩ := Lib.bitLenAux_bounds 64 n (by rw [two64]; exact h) h0
    change 2 ^ (Lib.bitLen n - 1) ≤ n at b2
    have : 2 ^ (Lib.bitLen n - 1) < 2 ^ 64 := by rw [two64]; omega
    have := (Nat.pow_lt_pow_iff_right (by decide : 1 < 2)).1 this
    omega

set_option maxHeartbeats 400000 in
theorem leading_any (n : Nat) (hn : Is128 n) (w : World) : Calls Try.prog 92 #[B n] w fun e w' => e = .returned (.int .i64 (128 - (lenN n : Int))) ∧ Below w.heap.size w w' := by
  have hl := hiOf_lt hn
  by_cases h : n / 18446744073709551616 = 0
  · have e0 : hiOf n = 0 := by unfold hiOf; rw [h]; rfl
    have E : Hid (lenN n = Lib.bitLen (n % 18446744073709551616)) := by unfold lenN; rw [if_pos h]; rfl
    have hc : ∀ w, Calls Try.prog 93 #[.int .u64 (loOf n)] w fun e w' => e = .returned (.int .i64 (64 - (Lib.bitLen (n % 18446744073709551616) : Int))) ∧ w' = w := fun w => lead64 _ (by omega) w
    have hle := bitLen_le (n % 18446744073709551616) (by omega)
    generalize Lib.bitLen (n % 18446744073709551616) = L at *
    have HC : Hid (∀ w, Calls Try.prog 93 #[.int .u64 (loOf n)] w fun e w' => e = .returned (.int .i64 (64 - (L : Int))) ∧ w' = w) := hc
    clear hc h
    simp only [B, e0]
    clear e0
    go_enter Try.func92, Try.ntmps92
    go_wp2_with fail
    refine (HC.out _).mono ?_
    rintro e w1 ⟨rfl, rfl⟩
    go_wp2
    go_ret
    exact ⟨by rw [E.out]; exact congrArg (fun x => Ending.returned (.int .i64 x)) (by omega), by go_grown⟩
  · have e0 : (hiOf n != 0) = true := by unfold hiOf; simp; omega
    have E : Hid (lenN n = 64 + Lib.bitLen (n / 18446744073709551616)) := by unfold lenN; rw [if_neg h]; rfl
    have hc : ∀ w, Calls Try.prog 93 #[.int .u64 (hiOf n)] w fun e w' => e = .returned (.int .i64 (64 - (Lib.bitLen (n / 18446744073709551616) : Int))) ∧ w' = w := fun w => lead64 _ (by unfold Is128 at hn; omega) w
    generalize Lib.bitLen (n / 18446744073709551616) = L at *
    have HC : Hid (∀ w, Calls Try.prog 93 #[.int .u64 (hiOf n)] w fun e w' => e = .returned (.int .i64 (64 - (L : Int))) ∧ w' = w) := hc
    clear hc h
    go_enter Try.func92, Try.ntmps92
    go_wp2_with fail
    refine (HC.out _).mono ?_
    rintro e w1 ⟨rfl, rfl⟩
    go_wp2
    go_ret
    exact ⟨by rw [E.out]; exact congrArg (fun x => Ending.returned (.int .i64 x)) (by omega), by go_grown⟩

set_option maxHeartbeats 400000 in
theorem common_any0 (n m : Nat) (hn : Is128 n) (hm : Is128 m) (wd : Int) (w : World) : Calls Try.prog 86 #[B n, B m, .int .i64 wd] w fun e w' => e = .returned (.int .i64 (comN n m wd)) ∧ Below w.heap.size w w' := by
  cases hW : isW wd
  · have E : Hid _ := com_no (n := n) (m := m) hW
    go_enter Try.func86, Try.ntmps86
    go_wp2_with (go_at_call 87; refine (isWidth_val hW _).mono ?_; rintro e w' ⟨rfl, rfl⟩)
    go_ret
    exact ⟨by rw [E.out]; rfl, by go_grown⟩
  · have E : Hid _ := com_yes (n := n) (m := m) hW
    have hb := isW_bounds hW
    have hx := xor_is hn hm
    have hz := cut_is hx wd
    have hle := lenN_le hz (cut_lt (n := n ^^^ m) hW)
    have B0 : Below w.heap.size w ((w.alloc (.cells #[.int .u64 (hiOf n), .int .u64 (loOf n)] 33)).alloc (.cells #[.int .u64 (hiOf m), .int .u64 (loOf m)] 33)) := by go_grown
    go_enter Try.func86, Try.ntmps86
    go_wp2_with (first
      | (go_at_call 87; refine (isWidth_val hW _).mono ?_; rintro e w' ⟨rfl, rfl⟩)
      | (go_at_call 90; refine (xor_any n m hn hm _).mono ?_; rintro e w1 ⟨rfl, hb1⟩)
      | (go_at_call 88; refine (cut_any _ hx wd _).mono ?_; rintro e w2 ⟨rfl, hb2⟩)
      | (go_at_call 92; refine (leading_any _ hz _).mono ?_; rintro e w3 ⟨rfl, hb3⟩))
    go_ret
    refine ⟨?_, bstep (bstep (bstep B0 hb1) hb2) hb3⟩
    rw [E.out]
    exact congrArg (fun x => Ending.returned (.int .i64 x)) (by omega)

theorem mask_is {wd i : Int} (h0 : 0 ≤ wd) (h1 : wd ≤ 128) (h2 : 0 ≤ i) (h3 : i ≤ wd) : Is128 (maskN wd i) := xor_is (ones_is (by omega)) (ones_is (by omega))
set_option maxHeartbeats 400000 in
theorem mask_any (wd i : Int) (hW : isW wd = true) (h0 : 0 ≤ i) (h1 : i ≤ wd) (w : World) : Calls Try.prog 82 #[.int .i64 wd, .int .i64 i] w fun e w' => e = .returned (.tuple #[B (maskN wd i), .int .i64 0]) ∧ Below w.heap.size w w' := by
  have hb := isW_bounds hW
  have d1 : decide (i < 0) = false := by simp; omega
  have d2 : decide (wd < i) = false := by simp; omega
  go_enter Try.func82, Try.ntmps82
  go_wp2_with (go_at_call 87; refine (isWidth_val hW _).mono ?_; rintro e w' ⟨rfl, rfl⟩)
  refine (ones_any wd _ (by omega) (by omega)).mono ?_
  rintro e w1 ⟨rfl, hb1⟩
  go_wp2_with fail
  refine (ones_any (wd - i) _ (by omega) (by omega)).mono ?_
  rintro e w2 ⟨rfl, hb2⟩
  go_wp2_with fail
  refine (xor_any _ _ (ones_is (by omega)) (ones_is (by omega)) _).mono ?_
  rintro e w3 ⟨rfl, hb3⟩
  have zb : Below (w.heap.size + 1) (w.alloc (.cells #[.int .u64 0, .int .u64 0] 33)) w3 := by
    have := bstep (bstep (bstep (Below.refl _ _) hb1) hb2) hb3
    simpa using this
  obtain ⟨p0, p1, p2, p3⟩ := zslot zb
  go_wp2
  refine bodyPost_ret (v := .tuple #[B (maskN wd i), .int .i64 0]) ?_ rfl ⟨rfl, ?_⟩
  · obtain ⟨z0, z1⟩ := zresult (x := .int .u64 (hiOf (maskN wd i))) (y := .int .u64 (loOf (maskN wd i))) p0 p1
    unfold maskN at *
    simp [results, Try.results82, go_sem, z0, z1]
  · exact ((zbelow zb).setCell (Nat.le_refl _) _).setCell (Nat.le_refl _) _

end Go.Proofs.Ytgdpplipahhffaa
