/- The walks of package value's Add, Sub, Bit, Most: what each returns, and that memory only grows. Numbers are of 128 bits. -/
import Derived.Test.YtjkpdcgmmdimaaaDoorProg
import Derived.Test.YtjkpdcgmmdimaaaDoorNum
import Derived.Test.YtjkpdcgmmdimaaaDoorWa
import Derived.WalkKit
import Derived.WalkSpells
import Derived.WalkLawsBesides
import Derived.Handy
import Derived.Laws.Pointers
import Derived.Laws.Externs
import Derived.Laws.StructEq
import Derived.LaidEql
import Derived.Deep.RegionHeld3
import Derived.Deep.QuietTactic
import Derived.BigQuiet
import Derived.RowKit3
import Derived.Outline
namespace Go.Proofs.YtjkpdcgmmdimaaaDoor
open Go.RowKit
set_option linter.unusedVariables false
set_option linter.unusedSimpArgs false

/-! ### math/bits.Add64, Sub64: the model's own entries -/
theorem add64 (x y c : Int) (hx : 0 ≤ x) (hy : 0 ≤ y) (hc0 : 0 ≤ c) (hc : c ≤ 1) (w : World) : (callFunc 48 #[.int .u64 x, .int .u64 y, .int .u64 c]).run Tryd.prog w =
    .ok (.value (.tuple #[.int .u64 ((x + y + c) % 18446744073709551616), .int .u64 ((x + y + c) / 18446744073709551616)])) w := by
  rw [run_callFunc_extern Tryd.func48 (by kernel_rfl) (by kernel_rfl) (by kernel_rfl) (e := add64Entry) (by kernel_rfl)]
  obtain ⟨x, rfl⟩ := Int.eq_ofNat_of_zero_le hx
  obtain ⟨y, rfl⟩ := Int.eq_ofNat_of_zero_le hy
  obtain ⟨c, rfl⟩ := Int.eq_ofNat_of_zero_le hc0
  rw [run_add64 x y c (by omega) (by omega) (by omega) (by omega)]
  rfl
def sub64E : Array Value → Sem Value := fun args => do
  let (x, y, b) ← Extern.MathBitsCarry.three "Sub64" args
  pure (Extern.MathBitsCarry.pair ((x + Extern.MathBitsCarry.m64 - y - b) % Extern.MathBitsCarry.m64) (if x < y + b then 1 else 0))
theorem run_sub64 (x y b : Nat) (hb : b ≤ 1) (w : World) :
    (sub64E #[.int .u64 x, .int .u64 y, .int .u64 b]).run Tryd.prog w =
      .ok (.tuple #[.int .u64 (((x + 18446744073709551616 - y - b) % 18446744073709551616 : Nat) : Int), .int .u64 ((if x < y + b then 1 else 0 : Nat) : Int)]) w := by
  have : b = 0 ∨ b = 1 := by omega
  rcases this with rfl | rfl <;> rfl
theorem sub64 (x y b : Int) (hx : 0 ≤ x) (hy : 0 ≤ y) (hy' : y < 18446744073709551616) (hb0 : 0 ≤ b) (hb : b ≤ 1) (w : World) : (callFunc 49 #[.int .u64 x, .int .u64 y, .int .u64 b]).run Tryd.prog w =
    .ok (.value (.tuple #[.int .u64 ((x - y - b) % 18446744073709551616), .int .u64 (bor x (y + b))])) w := by
  rw [run_callFunc_extern Tryd.func49 (by kernel_rfl) (by kernel_rfl) (by kernel_rfl) (e := sub64E) (by kernel_rfl)]
  obtain ⟨x, rfl⟩ := Int.eq_ofNat_of_zero_le hx
  obtain ⟨y, rfl⟩ := Int.eq_ofNat_of_zero_le hy
  obtain ⟨b, rfl⟩ := Int.eq_ofNat_of_zero_le hb0
  have e1 : (((x + 18446744073709551616 - y - b) % 18446744073709551616 : Nat) : Int) = ((x : Int) - y - b) % 18446744073709551616 := by omega
  have e2 : ((if x < y + b then 1 else 0 : Nat) : Int) = bor (x : Int) ((y : Int) + b) := by unfold bor; split <;> split <;> omega
  rw [run_sub64 x y b (by omega), ← e1, ← e2]
  rfl
theorem add64_0 (x y : Int) (hx : 0 ≤ x) (hy : 0 ≤ y) (w : World) : (callFunc 48 #[.int .u64 x, .int .u64 y, .int .u64 0]).run Tryd.prog w =
    .ok (.value (.tuple #[.int .u64 ((x + y) % 18446744073709551616), .int .u64 ((x + y) / 18446744073709551616)])) w := by
  simpa using add64 x y 0 hx hy (Int.le_refl 0) (by decide) w
theorem sub64_0 (x y : Int) (hx : 0 ≤ x) (hy : 0 ≤ y) (hy' : y < 18446744073709551616) (w : World) : (callFunc 49 #[.int .u64 x, .int .u64 y, .int .u64 0]).run Tryd.prog w =
    .ok (.value (.tuple #[.int .u64 ((x - y) % 18446744073709551616), .int .u64 (bor x y)])) w := by
  simpa using sub64 x y 0 hx hy hy' (Int.le_refl 0) (by decide) w
theorem bor_01 (x y : Int) : 0 ≤ bor x y ∧ bor x y ≤ 1 := by unfold bor; split <;> decide

def addN (n m : Nat) (w : Int) : Nat := cutN ((n + m) % 340282366920938463463374607431768211456) w
def subN (n m : Nat) (w : Int) : Nat := cutN ((n + (340282366920938463463374607431768211456 - m)) % 340282366920938463463374607431768211456) w
theorem add_is (n m : Nat) (w : Int) : Is128 (addN n m w) := cut_is (mod_is _) w
theorem sub_is (n m : Nat) (w : Int) : Is128 (subN n m w) := cut_is (mod_is _) w

set_option maxHeartbeats 400000 in
theorem add_any (n m : Nat) (hn : Is128 n) (hm : Is128 m) (wd : Int) (w : World) : Calls Tryd.prog 25 #[B n, B m, .int .i64 wd] w fun e w' => e = .returned (B (addN n m wd)) ∧ Below w.heap.size w w' := by
  have k0 : 0 ≤ (loOf n + loOf m) / 18446744073709551616 := by have := loOf_nonneg n; have := loOf_nonneg m; omega
  have k1 : (loOf n + loOf m) / 18446744073709551616 ≤ 1 := by have := loOf_lt n; have := loOf_lt m; omega
  have E : Hid _ := add_words hn hm
  go_enter Tryd.func25, Tryd.ntmps25
  go_wp2_with (first | simp only [add64_0 (loOf n) (loOf m) (loOf_nonneg n) (loOf_nonneg m)] | simp only [add64 (hiOf n) (hiOf m) _ (hiOf_nonneg n) (hiOf_nonneg m) k0 k1] | (go_at_call 24; rw [E.out.1, E.out.2]; refine (cut_any _ (mod_is _) _ _).mono ?_; rintro e w' ⟨rfl, hb1⟩; obtain ⟨hc1, hf1⟩ := bcell hb1; (try simp at hc1); (try simp at hf1)))
  refine bodyPost_ret (v := B (addN n m wd)) ?_ rfl ⟨rfl, ?_⟩
  · unfold addN; simp [results, Tryd.results25, go_sem, hc1, hf1]
  · refine Below.setCell (Below.setCell (bstep ?_ hb1) ?_ _) ?_ _
    · go_grown
    · simp; omega
    · simp; omega

set_option maxHeartbeats 400000 in
theorem sub_any (n m : Nat) (hn : Is128 n) (hm : Is128 m) (wd : Int) (w : World) : Calls Tryd.prog 26 #[B n, B m, .int .i64 wd] w fun e w' => e = .returned (B (subN n m wd)) ∧ Below w.heap.size w w' := by
  obtain ⟨k0, k1⟩ := bor_01 (loOf n) (loOf m)
  have E : Hid _ := sub_words hn hm
  have hl := hiOf_lt hm
  have ll := loOf_lt m
  go_enter Tryd.func26, Tryd.ntmps26
  go_wp2_with (first | simp only [sub64_0 (loOf n) (loOf m) (loOf_nonneg n) (loOf_nonneg m) ll] | simp only [sub64 (hiOf n) (hiOf m) _ (hiOf_nonneg n) (hiOf_nonneg m) hl k0 k1] | (go_at_call 24; rw [E.out.1, E.out.2]; refine (cut_any _ (mod_is _) _ _).mono ?_; rintro e w' ⟨rfl, hb1⟩; obtain ⟨hc1, hf1⟩ := bcell hb1; (try simp at hc1); (try simp at hf1)))
  refine bodyPost_ret (v := B (subN n m wd)) ?_ rfl ⟨rfl, ?_⟩
  · unfold subN; simp [results, Tryd.results26, go_sem, hc1, hf1]
  · refine Below.setCell (Below.setCell (bstep ?_ hb1) ?_ _) ?_ _
    · go_grown
    · simp; omega
    · simp; omega

/-- The i-th highest bit of a width. -/
def bitN (n : Nat) (w i : Int) : Bool := isW w && decide (0 ≤ i) && decide (i < w) && n.testBit (w - 1 - i).toNat
theorem bit_any (n : Nat) (hn : Is128 n) (wd i : Int) (w : World) : Calls Tryd.prog 27 #[B n, .int .i64 wd, .int .i64 i] w fun e w' => e = .returned (.bool (bitN n wd i)) ∧ Below w.heap.size w w' := by
  cases hW : isW wd
  · have E : Hid (bitN n wd i = false) := by unfold bitN; rw [hW]; rfl
    go_enter Tryd.func27, Tryd.ntmps27
    go_wp2_with (go_at_call 42; refine (isWidth_val hW _).mono ?_; rintro e w' ⟨rfl, rfl⟩)
    go_ret
    exact ⟨by rw [E.out]; rfl, by go_grown⟩
  have hb := isW_bounds hW
  by_cases h0 : i < 0
  · have E : Hid (bitN n wd i = false) := by unfold bitN; rw [show decide (0 ≤ i) = false by simp; omega]; show _ = _; simp
    go_enter Tryd.func27, Tryd.ntmps27
    go_wp2_with (go_at_call 42; refine (isWidth_val hW _).mono ?_; rintro e w' ⟨rfl, rfl⟩)
    go_ret
    exact ⟨by rw [E.out]; rfl, by go_grown⟩
  by_cases h1 : wd ≤ i
  · have E : Hid (bitN n wd i = false) := by unfold bitN; rw [show decide (i < wd) = false by simp; omega]; show _ = _; simp
    go_enter Tryd.func27, Tryd.ntmps27
    go_wp2_with (go_at_call 42; refine (isWidth_val hW _).mono ?_; rintro e w' ⟨rfl, rfl⟩)
    go_ret
    exact ⟨by rw [E.out]; rfl, by go_grown⟩
  have E : Hid (bitN n wd i = n.testBit (wd - 1 - i).toNat) := by
    unfold bitN; rw [hW, show decide (0 ≤ i) = true by simp; omega, show decide (i < wd) = true by simp; omega]; show _ = _; simp
  have d1 : decide (i < 0) = false := by simp; omega
  have d2 : decide (wd ≤ i) = false := by simp; omega
  by_cases h2 : 64 ≤ wd - 1 - i
  · have E2 : Hid _ := bit_hi hn (k := (wd - 1 - i - 64).toNat)
    have E3 : Hid (64 + (wd - 1 - i - 64).toNat = (wd - 1 - i).toNat) := by show _ = _; omega
    go_enter Tryd.func27, Tryd.ntmps27
    go_wp2_with (go_at_call 42; refine (isWidth_val hW _).mono ?_; rintro e w' ⟨rfl, rfl⟩)
    go_ret
    exact ⟨by rw [E.out, ← E3.out, ← E2.out]; rfl, by go_grown⟩
  · have E2 : Hid _ := bit_lo n (k := (wd - 1 - i).toNat) (by omega)
    have h2' : wd - 1 - i < 64 := by omega
    go_enter Tryd.func27, Tryd.ntmps27
    go_wp2_with (go_at_call 42; refine (isWidth_val hW _).mono ?_; rintro e w' ⟨rfl, rfl⟩)
    go_ret
    exact ⟨by rw [E.out, ← E2.out]; rfl, by go_grown⟩

theorem most_any (wd : Int) (w : World) (h : isW wd = true) : Calls Tryd.prog 11 #[.int .i64 wd] w fun e w' => e = .returned (.tuple #[B (onesN wd.toNat), .int .i64 0]) ∧ Below w.heap.size w w' := by
  have hb := isW_bounds h
  go_enter Tryd.func11, Tryd.ntmps11
  go_wp2_with (first | (go_at_call 42; refine (isWidth_val h _).mono ?_; rintro e w' ⟨rfl, rfl⟩) | (go_at_call 43; refine (ones_any _ _ (by omega) (by omega)).mono ?_; rintro e w' ⟨rfl, hb1⟩; obtain ⟨hc1, hf1⟩ := bcell hb1; (try simp at hc1); (try simp at hf1)))
  refine bodyPost_ret (v := .tuple #[B (onesN wd.toNat), .int .i64 0]) ?_ rfl ⟨rfl, ?_⟩
  · simp [results, Tryd.results11, go_sem, hc1, hf1]
  · refine Below.setCell (Below.setCell (bstep ?_ hb1) ?_ _) ?_ _
    · go_grown
    · simp
    · simp
end Go.Proofs.YtjkpdcgmmdimaaaDoor
