/- Numbers of 128 bits as two words, plain arithmetic: what the walks of package value lean on. No condition. -/
import Derived.WalkKit
import Derived.Laws.BitsAllLaws
namespace Go.Proofs.Ytgdpplipahhffaa
open Go.RowKit
set_option linter.unusedVariables false

def hiOf (n : Nat) : Int := ((n / 18446744073709551616 : Nat) : Int)
def loOf (n : Nat) : Int := ((n % 18446744073709551616 : Nat) : Int)
abbrev B (n : Nat) : Value := .agg #[.int .u64 (hiOf n), .int .u64 (loOf n)]
def Is128 (n : Nat) : Prop := n < 340282366920938463463374607431768211456
def isW (w : Int) : Bool := decide (1 ≤ w) && decide (w ≤ 128)

theorem two64 : (2 : Nat) ^ 64 = 18446744073709551616 := by decide
theorem two128 : (2 : Nat) ^ 128 = 340282366920938463463374607431768211456 := by decide

theorem hiOf_nonneg (n : Nat) : 0 ≤ hiOf n := by unfold hiOf; omega
theorem loOf_nonneg (n : Nat) : 0 ≤ loOf n := by unfold loOf; omega
theorem loOf_lt (n : Nat) : loOf n < 18446744073709551616 := by unfold loOf; omega
theorem hiOf_lt {n : Nat} (h : Is128 n) : hiOf n < 18446744073709551616 := by unfold hiOf; unfold Is128 at h; omega

/-- Any two words are a number's. -/
theorem words_are {a b : Int} (ha : 0 ≤ a) (ha' : a < 18446744073709551616) (hb : 0 ≤ b) (hb' : b < 18446744073709551616) :
    ∃ n, Is128 n ∧ a = hiOf n ∧ b = loOf n := by
  refine ⟨a.toNat * 18446744073709551616 + b.toNat, ?_, ?_, ?_⟩
  · unfold Is128; omega
  · unfold hiOf; omega
  · unfold loOf; omega

/-- Two numbers are one just if their words are. -/
theorem words_eq (n m : Nat) : (hiOf n = hiOf m ∧ loOf n = loOf m) ↔ n = m := by
  unfold hiOf loOf; omega

theorem and_hi {n m : Nat} (hn : Is128 n) (hm : Is128 m) : bits .and .u64 (hiOf n) (hiOf m) = hiOf (n &&& m) := by
  unfold Is128 at hn hm; unfold hiOf
  rw [u64_and_nat _ _ (by omega) (by omega)]
  congr 1
  rw [← two64]
  apply Nat.eq_of_testBit_eq; intro i
  simp only [Nat.testBit_and, Nat.testBit_div_two_pow]
theorem and_lo (n m : Nat) : bits .and .u64 (loOf n) (loOf m) = loOf (n &&& m) := by
  unfold loOf
  rw [u64_and_nat _ _ (by omega) (by omega)]
  congr 1
  rw [← two64]
  apply Nat.eq_of_testBit_eq; intro i
  simp only [Nat.testBit_and, Nat.testBit_mod_two_pow]
  cases decide (i < 64) <;> simp
theorem or_hi {n m : Nat} (hn : Is128 n) (hm : Is128 m) : bits .or .u64 (hiOf n) (hiOf m) = hiOf (n ||| m) := by
  unfold Is128 at hn hm; unfold hiOf
  rw [u64_or_nat _ _ (by omega) (by omega)]
  congr 1
  rw [← two64]
  apply Nat.eq_of_testBit_eq; intro i
  simp only [Nat.testBit_or, Nat.testBit_div_two_pow]
theorem or_lo (n m : Nat) : bits .or .u64 (loOf n) (loOf m) = loOf (n ||| m) := by
  unfold loOf
  rw [u64_or_nat _ _ (by omega) (by omega)]
  congr 1
  rw [← two64]
  apply Nat.eq_of_testBit_eq; intro i
  simp only [Nat.testBit_or, Nat.testBit_mod_two_pow]
  cases decide (i < 64) <;> simp
theorem xor_hi {n m : Nat} (hn : Is128 n) (hm : Is128 m) : bits .xor .u64 (hiOf n) (hiOf m) = hiOf (n ^^^ m) := by
  unfold Is128 at hn hm; unfold hiOf
  rw [u64_xor_nat _ _ (by omega) (by omega)]
  congr 1
  rw [← two64]
  apply Nat.eq_of_testBit_eq; intro i
  simp only [Nat.testBit_xor, Nat.testBit_div_two_pow]
theorem xor_lo (n m : Nat) : bits .xor .u64 (loOf n) (loOf m) = loOf (n ^^^ m) := by
  unfold loOf
  rw [u64_xor_nat _ _ (by omega) (by omega)]
  congr 1
  rw [← two64]
  apply Nat.eq_of_testBit_eq; intro i
  simp only [Nat.testBit_xor, Nat.testBit_mod_two_pow]
  cases decide (i < 64) <;> simp
theorem and_is {n : Nat} (hn : Is128 n) (m : Nat) : Is128 (n &&& m) := by
  unfold Is128 at *; exact Nat.lt_of_le_of_lt Nat.and_le_left hn
theorem or_is {n m : Nat} (hn : Is128 n) (hm : Is128 m) : Is128 (n ||| m) := by
  unfold Is128 at *; rw [← two128] at *; exact Nat.or_lt_two_pow hn hm
theorem xor_is {n m : Nat} (hn : Is128 n) (hm : Is128 m) : Is128 (n ^^^ m) := by
  unfold Is128 at *; rw [← two128] at *; exact Nat.xor_lt_two_pow hn hm

/-- The value whose k lowest bits are 1. -/
def onesN (k : Nat) : Nat := 2 ^ k - 1
theorem ones_is {k : Nat} (h : k ≤ 128) : Is128 (onesN k) := by
  unfold Is128 onesN; rw [← two128]
  have := Nat.pow_le_pow_right (n := 2) (by decide) h
  have := Nat.two_pow_pos k
  omega
theorem pow_split {k : Nat} (h : k ≤ 64) : 2 ^ k * 2 ^ (64 - k) = 18446744073709551616 := by
  rw [← Nat.pow_add, ← two64]; congr 1; omega
theorem ones_div {k : Nat} (h : k ≤ 64) : 18446744073709551615 / 2 ^ (64 - k) = 2 ^ k - 1 := by
  have e := pow_split h
  have p1 := Nat.two_pow_pos k
  have p2 := Nat.two_pow_pos (64 - k)
  apply Nat.div_eq_of_lt_le
  · have : (2 ^ k - 1) * 2 ^ (64 - k) = 18446744073709551616 - 2 ^ (64 - k) := by rw [Nat.sub_mul, e, Nat.one_mul]
    omega
  · have : (2 ^ k - 1 + 1) * 2 ^ (64 - k) = 18446744073709551616 := by rw [Nat.sub_add_cancel p1, e]
    omega
theorem ones_lo_word {n : Int} (h0 : 0 ≤ n) (h1 : n ≤ 64) : (18446744073709551615 : Int) / 2 ^ (64 - n).toNat = loOf (onesN n.toNat) ∧ (0 : Int) = hiOf (onesN n.toNat) := by
  obtain ⟨k, rfl⟩ := Int.eq_ofNat_of_zero_le h0
  have hk : k ≤ 64 := by omega
  have e : (64 - (k : Int)).toNat = 64 - k := by omega
  have d := ones_div hk
  have hp := Nat.pow_le_pow_right (n := 2) (by decide) hk
  rw [two64] at hp
  have p1 := Nat.two_pow_pos k
  rw [e]
  unfold loOf hiOf onesN
  rw [Int.toNat_natCast]
  constructor
  · rw [Nat.mod_eq_of_lt (by omega), ← d]; simp
  · rw [Nat.div_eq_of_lt (by omega)]; rfl
theorem ones_hi_word {n : Int} (h0 : 64 < n) (h1 : n ≤ 128) : (18446744073709551615 : Int) / 2 ^ (128 - n).toNat = hiOf (onesN n.toNat) ∧ (18446744073709551615 : Int) = loOf (onesN n.toNat) := by
  obtain ⟨k, rfl⟩ := Int.eq_ofNat_of_zero_le (by omega : 0 ≤ n)
  obtain ⟨j, rfl⟩ : ∃ j, k = 64 + j := ⟨k - 64, by omega⟩
  have hk : j ≤ 64 := by omega
  have e : (128 - ((64 + j : Nat) : Int)).toNat = 64 - j := by omega
  have d := ones_div hk
  have p1 := Nat.two_pow_pos j
  rw [e]
  unfold loOf hiOf onesN
  rw [Int.toNat_natCast, Nat.pow_add, two64]
  constructor
  · rw [show (18446744073709551616 * 2 ^ j - 1) / 18446744073709551616 = 2 ^ j - 1 by omega, ← d]; simp
  · omega
theorem and_ones (n k : Nat) : n &&& onesN k = n % 2 ^ k := Nat.and_two_pow_sub_one_eq_mod n k

/-- The value cut to a width. -/
def cutN (n : Nat) (w : Int) : Nat := if isW w = true then n % 2 ^ w.toNat else 0
theorem cut_is {n : Nat} (h : Is128 n) (w : Int) : Is128 (cutN n w) := by
  unfold cutN; split
  · unfold Is128 at *; exact Nat.lt_of_le_of_lt (Nat.mod_le _ _) h
  · unfold Is128; decide
theorem cut_yes {n : Nat} {w : Int} (h : isW w = true) : cutN n w = n % 2 ^ w.toNat := by unfold cutN; rw [if_pos h]
theorem cut_no {n : Nat} {w : Int} (h : isW w = false) : cutN n w = 0 := by unfold cutN; rw [h]; rfl
theorem zero_words : B 0 = .agg #[.int .u64 0, .int .u64 0] := by simp [B, hiOf, loOf]

theorem add_words {n m : Nat} (hn : Is128 n) (hm : Is128 m) :
    ((hiOf n + hiOf m + (loOf n + loOf m) / 18446744073709551616) % 18446744073709551616 = hiOf ((n + m) % 340282366920938463463374607431768211456)) ∧ ((loOf n + loOf m) % 18446744073709551616 = loOf ((n + m) % 340282366920938463463374607431768211456)) := by
  unfold Is128 at hn hm; unfold hiOf loOf; omega
def bor (x y : Int) : Int := if x < y then 1 else 0
theorem sub_words {n m : Nat} (hn : Is128 n) (hm : Is128 m) :
    ((hiOf n - hiOf m - bor (loOf n) (loOf m)) % 18446744073709551616 = hiOf ((n + (340282366920938463463374607431768211456 - m)) % 340282366920938463463374607431768211456)) ∧ ((loOf n - loOf m) % 18446744073709551616 = loOf ((n + (340282366920938463463374607431768211456 - m)) % 340282366920938463463374607431768211456)) := by
  unfold Is128 at hn hm; unfold hiOf loOf bor; split <;> omega
theorem mod_is (n : Nat) : Is128 (n % 340282366920938463463374607431768211456) := by unfold Is128; omega

theorem bool_one (m : Nat) : (((m % 2 : Nat) : Int) == 1) = decide (m % 2 = 1) := by
  rcases Nat.mod_two_eq_zero_or_one m with h | h <;> rw [h] <;> rfl
theorem bit_hi {n : Nat} (hn : Is128 n) {k : Nat} : (bits BinOp.and IntKind.u64 (hiOf n / 2 ^ k) 1 == 1) = n.testBit (64 + k) := by
  unfold Is128 at hn; unfold hiOf
  have e : (((n / 18446744073709551616 : Nat) : Int) / 2 ^ k) = ((n / 18446744073709551616 / 2 ^ k : Nat) : Int) := by simp
  have hl : n / 18446744073709551616 / 2 ^ k ≤ n / 18446744073709551616 := Nat.div_le_self _ _
  have hb : n / 18446744073709551616 / 2 ^ k < 18446744073709551616 := Nat.lt_of_le_of_lt hl (by omega)
  rw [e, show (1 : Int) = ((1 : Nat) : Int) from rfl, u64_and_nat _ _ hb (by decide), nat_mask1]
  rw [show ((1 : Nat) : Int) = 1 from rfl, bool_one, Nat.testBit_eq_decide_div_mod_eq, Nat.pow_add, ← Nat.div_div_eq_div_mul, two64]
theorem bit_lo (n : Nat) {k : Nat} (hk : k < 64) : (bits BinOp.and IntKind.u64 (loOf n / 2 ^ k) 1 == 1) = n.testBit k := by
  unfold loOf
  have e : (((n % 18446744073709551616 : Nat) : Int) / 2 ^ k) = ((n % 18446744073709551616 / 2 ^ k : Nat) : Int) := by simp
  have hl : n % 18446744073709551616 / 2 ^ k ≤ n % 18446744073709551616 := Nat.div_le_self _ _
  have hb : n % 18446744073709551616 / 2 ^ k < 18446744073709551616 := Nat.lt_of_le_of_lt hl (by omega)
  rw [e, show (1 : Int) = ((1 : Nat) : Int) from rfl, u64_and_nat _ _ hb (by decide), nat_mask1]
  rw [show ((1 : Nat) : Int) = 1 from rfl, bool_one]
  have h1 := Nat.testBit_eq_decide_div_mod_eq (x := n % 2 ^ 64) (i := k)
  rw [Nat.testBit_mod_two_pow] at h1
  simp only [hk, decide_true, Bool.true_and] at h1
  rw [h1, two64]
end Go.Proofs.Ytgdpplipahhffaa
