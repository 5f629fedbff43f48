/- The walks of package value's small functions: what each returns, and that memory only grows. Numbers are of 128 bits. -/
import Derived.Test.YtgdpplipahhffaaProg
import Derived.Test.YtgdpplipahhffaaNum
import Derived.WalkKit
import Derived.WalkSpells
import Derived.WalkLawsBesides
import Derived.Handy
import Derived.Laws.Pointers
import Derived.Laws.Externs
import Derived.Laws.StructEq
import Derived.LaidEql
import Derived.Deep.RegionHeld3
import Derived.Deep.QuietTactic
import Derived.BigQuiet
import Derived.RowKit3
import Derived.Outline
namespace Go.Proofs.Ytgdpplipahhffaa
open Go.RowKit
set_option linter.unusedVariables false
set_option linter.unusedSimpArgs false

theorem isW_bounds {n : Int} (h : isW n = true) : 1 ≤ n ∧ n ≤ 128 := by simpa [isW] using h
theorem isW_mk {n : Int} (h : 1 ≤ n) (h' : n ≤ 128) : isW n = true := by simp [isW, h, h']
theorem isW_not {n : Int} (h : isW n = false) : n < 1 ∨ 128 < n := by
  simp [isW] at h; omega

theorem isWidth_any (n : Int) (w : World) : Calls Try.prog 87 #[.int .i64 n] w fun e w' => e = .returned (.bool (isW n)) ∧ w' = w := by
  by_cases h1 : 1 ≤ n
  · go_enter Try.func87, Try.ntmps87
    go_wp2
    go_ret
    exact ⟨by simp [isW, h1], rfl⟩
  · have h1' : decide (1 ≤ n) = false := by simpa using h1
    go_enter Try.func87, Try.ntmps87
    go_wp2
    go_ret
    exact ⟨by rw [show isW n = false by unfold isW; rw [h1', Bool.false_and]]; rfl, rfl⟩

theorem isWidth_val {n : Int} {b : Bool} (h : isW n = b) (w : World) : Calls Try.prog 87 #[.int .i64 n] w fun e w' => e = .returned (.bool b) ∧ w' = w := by
  subst h; exact isWidth_any n w
theorem ones_any (n : Int) (w : World) (h0 : 0 ≤ n) (h1 : n ≤ 128) : Calls Try.prog 91 #[.int .i64 n] w fun e w' => e = .returned (B (onesN n.toNat)) ∧ Below w.heap.size w w' := by
  by_cases h : n ≤ 64
  · obtain ⟨e1, e2⟩ := ones_lo_word h0 h
    have E1 : Hid _ := e1; have E2 : Hid _ := e2; clear e1 e2
    go_enter Try.func91, Try.ntmps91
    go_wp2
    refine bodyPost_ret (v := B (onesN n.toNat)) ?_ rfl ⟨rfl, ?_⟩
    · rw [E1.out]; simp [results, Try.results91, go_sem]; exact E2.out
    · exact (Below.refl _ _).alloc (Nat.le_refl _) _
  · obtain ⟨e1, e2⟩ := ones_hi_word (by omega) h1
    have E1 : Hid _ := e1; have E2 : Hid _ := e2; clear e1 e2
    have h' : 64 < n := by omega
    go_enter Try.func91, Try.ntmps91
    go_wp2
    refine bodyPost_ret (v := B (onesN n.toNat)) ?_ rfl ⟨rfl, ?_⟩
    · rw [E1.out]; simp [results, Try.results91, go_sem]; exact E2.out
    · exact (Below.refl _ _).alloc (Nat.le_refl _) _

theorem and_any (n m : Nat) (hn : Is128 n) (hm : Is128 m) (w : World) : Calls Try.prog 83 #[B n, B m] w fun e w' => e = .returned (B (n &&& m)) ∧ Below w.heap.size w w' := by
  have E1 : Hid _ := and_hi hn hm; have E2 : Hid _ := and_lo n m
  go_enter Try.func83, Try.ntmps83
  go_wp2
  refine bodyPost_ret (v := B (n &&& m)) ?_ rfl ⟨rfl, ?_⟩
  · rw [E1.out, E2.out]; simp [results, Try.results83, go_sem]
  · go_grown
theorem xor_any (n m : Nat) (hn : Is128 n) (hm : Is128 m) (w : World) : Calls Try.prog 90 #[B n, B m] w fun e w' => e = .returned (B (n ^^^ m)) ∧ Below w.heap.size w w' := by
  have E1 : Hid _ := xor_hi hn hm; have E2 : Hid _ := xor_lo n m
  go_enter Try.func90, Try.ntmps90
  go_wp2
  refine bodyPost_ret (v := B (n ^^^ m)) ?_ rfl ⟨rfl, ?_⟩
  · rw [E1.out, E2.out]; simp [results, Try.results90, go_sem]
  · go_grown
theorem bcell {W w1 : World} (hb : Below W.heap.size W w1) : (∀ b o, b < W.heap.size → w1.cell? ⟨b, o, none⟩ = W.cell? ⟨b, o, none⟩) ∧ (∀ b o, b < W.heap.size → w1.frozen? ⟨b, o, none⟩ = W.frozen? ⟨b, o, none⟩) :=
  ⟨fun b o h => hb.cell (p := ⟨b, o, none⟩) h, fun b o h => hb.frozen (p := ⟨b, o, none⟩) h⟩

theorem bstep {W w1 w2 : World} (h : Below W.heap.size W w1) (hb : Below w1.heap.size w1 w2) : Below W.heap.size W w2 := h.trans (hb.mono h.size)
set_option maxHeartbeats 400000 in
theorem cut_any (n : Nat) (hn : Is128 n) (wd : Int) (w : World) : Calls Try.prog 88 #[B n, .int .i64 wd] w fun e w' => e = .returned (B (cutN n wd)) ∧ Below w.heap.size w w' := by
  cases hW : isW wd
  · have E : Hid _ := cut_no (n := n) hW
    go_enter Try.func88, Try.ntmps88
    go_wp2_with (go_at_call 87; refine (isWidth_any _ _).mono ?_; rintro e w' ⟨rfl, rfl⟩)
    refine bodyPost_ret (v := B (cutN n wd)) ?_ rfl ⟨rfl, ?_⟩
    · rw [E.out]; simp [results, Try.results88, go_sem, hiOf, loOf]
    · go_grown
  · have E : Hid _ := cut_yes (n := n) hW
    have hb := isW_bounds hW
    go_enter Try.func88, Try.ntmps88
    go_wp2_with (go_at_call 87; refine (isWidth_any _ _).mono ?_; rintro e w' ⟨rfl, rfl⟩)
    go_region_with (first
      | (go_at_call 91; refine (ones_any _ _ (by omega) (by omega)).mono ?_; rintro e w' ⟨rfl, hb1⟩; obtain ⟨hc1, hf1⟩ := bcell hb1; (try simp at hc1); (try simp at hf1); have za : w.heap.size < w'.heap.size := (by have := hb1.size; simp at this; omega); have zb : w.heap.size + 1 < w'.heap.size := (by have := hb1.size; simp at this; omega))
      | (go_at_call 83; refine (and_any _ _ hn (ones_is (by omega)) _).mono ?_; rintro e w' ⟨rfl, hb2⟩; obtain ⟨hc2, hf2⟩ := bcell hb2))
    all_goals
      go_wp2
      refine bodyPost_ret (v := B (cutN n wd)) ?_ rfl ⟨rfl, ?_⟩
      · rw [E.out, ← and_ones]; simp [results, Try.results88, go_sem, hc2, hf2, hc1, hf1, za, zb]
      · refine Below.setCell (Below.setCell (bstep (bstep ?_ hb1) hb2) ?_ _) ?_ _
        · go_grown
        · simp
        · simp

theorem run_eqW (a b c d : Int) (w : World) : (binOp .eql 33 (.agg #[.int .u64 a, .int .u64 b]) (.agg #[.int .u64 c, .int .u64 d])).run Try.prog w = .ok (.bool ((a == c) && (b == d))) w := by
  have hS : Try.prog.underlying 33 = some (.struct (Try.prog.fieldsOf 33)) := by kernel_rfl
  have hp : Try.prog.stoodInHeld 33 = false := by kernel_rfl
  have u := Try.underlying31
  have h : (Op.equalIn 10000 33 (.agg #[.int .u64 a, .int .u64 b]) (.agg #[.int .u64 c, .int .u64 d])).run Try.prog w = .ok (a == c && b == d) w := by
    rw [show (10000 : Nat) = 9999 + 1 from rfl, run_equalIn_struct w 9999 33 _ _ hS hp]
    simp only [Program.fieldsOf, Try.underlying33]
    go_simp
    by_cases h1 : a = c <;> by_cases h2 : b = d <;> simp [h1, h2]
  simp only [binOp]
  simp [Op.equal, Op.maxDepth, h]
theorem agg_eq (n m : Nat) : (hiOf n == hiOf m && loOf n == loOf m) = decide (n = m) := by
  rw [Bool.eq_iff_iff]; simp [words_eq]
/-- '==' of two values. -/
theorem run_eqB {n m : Nat} {b : Bool} (h : decide (n = m) = b) (w : World) : (binOp .eql 33 (B n) (B m)).run Try.prog w = .ok (.bool b) w := by
  rw [run_eqW, agg_eq, h]

/-- Does a value fit? -/
def fitsN (n : Nat) (w : Int) : Bool := isW w && decide (n < 2 ^ w.toNat)
theorem fits_cut {n : Nat} {w : Int} (h : isW w = true) : decide (cutN n w = n) = fitsN n w := by
  unfold fitsN; rw [cut_yes h, h, Bool.true_and]
  have := Nat.two_pow_pos w.toNat
  rw [Bool.eq_iff_iff]; simp only [decide_eq_true_eq]
  constructor
  · intro e; rw [← e]; exact Nat.mod_lt _ this
  · exact Nat.mod_eq_of_lt
theorem fits_no {n : Nat} {w : Int} (h : isW w = false) : fitsN n w = false := by unfold fitsN; rw [h]; rfl

set_option maxHeartbeats 400000 in
theorem fits_any (n : Nat) (hn : Is128 n) (wd : Int) (w : World) : Calls Try.prog 73 #[B n, .int .i64 wd] w fun e w' => e = .returned (.bool (fitsN n wd)) ∧ Below w.heap.size w w' := by
  cases hW : isW wd
  · have E : Hid _ := fits_no (n := n) hW
    go_enter Try.func73, Try.ntmps73
    go_wp2
    go_quiet ((go_at_call 87; exact Calls.quiet_of_same (isWidth_val hW _)))
    go_wp2
    go_ret
    exact ⟨by rw [E.out]; rfl, below_drewN (by go_grown) _⟩
  · have hq := fun w => run_eqB (fits_cut (n := n) hW) w
    go_enter Try.func73, Try.ntmps73
    go_wp2
    go_region_with (first
      | (go_at_call 87; refine (isWidth_val hW _).mono ?_; rintro e w' ⟨rfl, rfl⟩)
      | (go_at_call 88; refine (cut_any n hn _ _).mono ?_; rintro e w' ⟨rfl, hb1⟩; obtain ⟨hc1, hf1⟩ := bcell hb1; (try simp at hc1)))
    all_goals
      go_wp2
      go_ret
      exact ⟨rfl, bstep (by go_grown) hb1⟩

end Go.Proofs.Ytgdpplipahhffaa
