/- Bits in common, masks: plain arithmetic of numbers of 128 bits. -/
import Derived.Test.YtgdpplipahhffaaWb
import Derived.Lib.BitFns
import Derived.Lib.ItoaNum
import Derived.Sort.Walk0
namespace Go.Proofs.Ytgdpplipahhffaa
open Go.RowKit
set_option linter.unusedVariables false

theorem bit_at {n : Nat} {wd : Int} (hW : isW wd = true) {k : Nat} (hk : (k : Int) < wd) : bitN n wd (wd - 1 - k) = n.testBit k := by
  have hb := isW_bounds hW
  unfold bitN; rw [hW, show decide (0 ≤ wd - 1 - (k : Int)) = true by simp; omega, show decide (wd - 1 - (k : Int) < wd) = true by simp; omega]
  rw [show (wd - 1 - (wd - 1 - (k : Int))).toNat = k by omega]; simp
theorem xor_zero_iff (x y : Nat) : x ^^^ y = 0 ↔ x = y := by
  constructor
  · intro h; apply Nat.eq_of_testBit_eq; intro i
    have : (x ^^^ y).testBit i = false := by rw [h]; simp
    rw [Nat.testBit_xor] at this
    revert this; cases x.testBit i <;> cases y.testBit i <;> simp
  · rintro rfl; exact Nat.xor_self x
theorem lt_of_bit {n m : Nat} (i : Nat) (h1 : n.testBit i = false) (h2 : m.testBit i = true) (h : ∀ j, i < j → n.testBit j = m.testBit j) : n < m := by
  have e : n / 2 ^ (i + 1) = m / 2 ^ (i + 1) := by
    apply Nat.eq_of_testBit_eq; intro j
    rw [Nat.testBit_div_two_pow, Nat.testBit_div_two_pow]; exact h _ (by omega)
  have a1 := Nat.div_add_mod n (2 ^ (i + 1))
  have a2 := Nat.div_add_mod m (2 ^ (i + 1))
  have b1 : n % 2 ^ (i + 1) = n % 2 ^ i + 2 ^ i * (n / 2 ^ i % 2) := by rw [Nat.pow_succ, Nat.mod_mul]
  have b2 : m % 2 ^ (i + 1) = m % 2 ^ i + 2 ^ i * (m / 2 ^ i % 2) := by rw [Nat.pow_succ, Nat.mod_mul]
  rw [Nat.testBit_eq_decide_div_mod_eq] at h1 h2
  simp only [decide_eq_false_iff_not, decide_eq_true_eq] at h1 h2
  have h1' : n / 2 ^ i % 2 = 0 := by omega
  rw [h1'] at b1
  rw [h2] at b2
  have c1 := Nat.mod_lt n (Nat.two_pow_pos i)
  rw [e] at a1
  omega

/-- How many bits a number has. -/
def lenN (n : Nat) : Nat := if n / 18446744073709551616 = 0 then Lib.bitLen (n % 18446744073709551616) else 64 + Lib.bitLen (n / 18446744073709551616)
theorem bitLen_zero : Lib.bitLen 0 = 0 := by unfold Lib.bitLen; exact Lib.bitLenAux_zero 64
theorem lenN_zero : lenN 0 = 0 := by unfold lenN; simp [bitLen_zero]
theorem lenN_bounds {n : Nat} (hn : Is128 n) (h0 : n ≠ 0) : 1 ≤ lenN n ∧ 2 ^ (lenN n - 1) ≤ n ∧ n < 2 ^ lenN n := by
  unfold Is128 at hn
  unfold lenN
  by_cases h : n / 18446744073709551616 = 0
  · rw [if_pos h]
    have hlt : n < 18446744073709551616 := by omega
    have e : n % 18446744073709551616 = n := Nat.mod_eq_of_lt hlt
    rw [e]
    exact Lib.bitLenAux_bounds 64 n (by rw [two64]; exact hlt) h0
  · rw [if_neg h]
    obtain ⟨b1, b2, b3⟩ := Lib.bitLenAux_bounds 64 (n / 18446744073709551616) (by rw [two64]; omega) h
    change 1 ≤ Lib.bitLen (n / 18446744073709551616) at b1
    change 2 ^ (Lib.bitLen (n / 18446744073709551616) - 1) ≤ n / 18446744073709551616 at b2
    change n / 18446744073709551616 < 2 ^ Lib.bitLen (n / 18446744073709551616) at b3
    generalize Lib.bitLen (n / 18446744073709551616) = L at *
    refine ⟨by omega, ?_, ?_⟩
    · rw [show 64 + L - 1 = 64 + (L - 1) by omega, Nat.pow_add, two64]
      generalize 2 ^ (L - 1) = p at *
      omega
    · rw [Nat.pow_add, two64]
      generalize 2 ^ L = p at *
      omega
theorem lenN_le {n k : Nat} (hn : Is128 n) (h : n < 2 ^ k) : lenN n ≤ k := by
  by_cases h0 : n = 0
  · rw [h0, lenN_zero]; omega
  · obtain ⟨b1, b2, b3⟩ := lenN_bounds hn h0
    have : 2 ^ (lenN n - 1) < 2 ^ k := by omega
    have := (Nat.pow_lt_pow_iff_right (by decide : 1 < 2)).1 this
    omega
theorem lenN_eq_zero {n : Nat} (hn : Is128 n) : lenN n = 0 ↔ n = 0 := by
  constructor
  · intro h; by_cases h0 : n = 0
    · exact h0
    · have := (lenN_bounds hn h0).1; omega
  · rintro rfl; exact lenN_zero
theorem lenN_top {n : Nat} (hn : Is128 n) (h0 : n ≠ 0) : n.testBit (lenN n - 1) = true := by
  obtain ⟨b1, b2, b3⟩ := lenN_bounds hn h0
  rw [Nat.testBit_eq_decide_div_mod_eq]
  have e : n / 2 ^ (lenN n - 1) = 1 := by
    apply Nat.div_eq_of_lt_le
    · omega
    · have : 2 ^ lenN n = 2 * 2 ^ (lenN n - 1) := by rw [← Nat.pow_succ', show (lenN n - 1).succ = lenN n by omega]
      omega
  rw [e]; rfl
theorem lenN_above {n i : Nat} (hn : Is128 n) (h : lenN n ≤ i) : n.testBit i = false := by
  by_cases h0 : n = 0
  · rw [h0]; simp
  · exact Nat.testBit_lt_two_pow (Nat.lt_of_lt_of_le (lenN_bounds hn h0).2.2 (Nat.pow_le_pow_right (by decide) h))

/-- How many of the highest bits of a width two numbers have in common. -/
def comN (n m : Nat) (wd : Int) : Int := if isW wd = true then wd - lenN (cutN (n ^^^ m) wd) else 0
theorem com_yes {n m : Nat} {wd : Int} (h : isW wd = true) : comN n m wd = wd - lenN (cutN (n ^^^ m) wd) := by unfold comN; rw [if_pos h]
theorem com_no {n m : Nat} {wd : Int} (h : isW wd = false) : comN n m wd = 0 := by unfold comN; rw [h]; rfl
theorem cut_xor {n m : Nat} {wd : Int} (hW : isW wd = true) : cutN (n ^^^ m) wd = cutN n wd ^^^ cutN m wd := by
  rw [cut_yes hW, cut_yes hW, cut_yes hW, Nat.xor_mod_two_pow]
theorem cut_lt {n : Nat} {wd : Int} (hW : isW wd = true) : cutN n wd < 2 ^ wd.toNat := by rw [cut_yes hW]; exact Nat.mod_lt _ (Nat.two_pow_pos _)
theorem com_range {n m : Nat} (hn : Is128 n) (hm : Is128 m) {wd : Int} (hW : isW wd = true) : 0 ≤ comN n m wd ∧ comN n m wd ≤ wd := by
  have := lenN_le (cut_is (xor_is hn hm) wd) (cut_lt (n := n ^^^ m) hW)
  have hb := isW_bounds hW
  rw [com_yes hW]; omega
theorem com_full {n m : Nat} (hn : Is128 n) (hm : Is128 m) {wd : Int} (hW : isW wd = true) : (comN n m wd == wd) = decide (cutN n wd = cutN m wd) := by
  have h := lenN_eq_zero (cut_is (xor_is hn hm) wd)
  rw [cut_xor hW] at h
  rw [com_yes hW, cut_xor hW, Bool.eq_iff_iff]
  simp only [beq_iff_eq, decide_eq_true_eq]
  rw [← xor_zero_iff, ← h]; omega
/-- The value whose i highest bits of a width are 1. -/
def maskN (wd i : Int) : Nat := onesN wd.toNat ^^^ onesN (wd - i).toNat
theorem ones_bit (k i : Nat) : (onesN k).testBit i = decide (i < k) := by unfold onesN; exact Nat.testBit_two_pow_sub_one k i
theorem com_mask {n m : Nat} (hn : Is128 n) (hm : Is128 m) {wd : Int} (hW : isW wd = true) : cutN n wd &&& maskN wd (comN n m wd) = cutN m wd &&& maskN wd (comN n m wd) := by
  have hz := cut_is (xor_is hn hm) wd
  have hl := lenN_le hz (cut_lt (n := n ^^^ m) hW)
  have hb := isW_bounds hW
  apply Nat.eq_of_testBit_eq; intro i
  unfold maskN
  rw [com_yes hW, Nat.testBit_and, Nat.testBit_and, Nat.testBit_xor, ones_bit, ones_bit]
  rw [show (wd - (wd - (lenN (cutN (n ^^^ m) wd) : Int))).toNat = lenN (cutN (n ^^^ m) wd) by omega]
  by_cases hi : i < lenN (cutN (n ^^^ m) wd)
  · rw [decide_eq_true hi, decide_eq_true (by omega : i < wd.toNat)]; simp
  · have := lenN_above hz (Nat.le_of_not_lt hi)
    rw [cut_xor hW, Nat.testBit_xor] at this
    have e : (cutN n wd).testBit i = (cutN m wd).testBit i := by
      revert this; cases (cutN n wd).testBit i <;> cases (cutN m wd).testBit i <;> simp
    rw [e]
/-- As the first number is below the second, the same, above. -/
def cmpN (n m : Nat) : Int := if n < m then -1 else if m < n then 1 else 0
theorem cmp_neg (n m : Nat) : cmpN m n = - cmpN n m := by unfold cmpN; split <;> split <;> omega
theorem cmp_same (n : Nat) : cmpN n n = 0 := by unfold cmpN; simp
/-- Behind the bits in common: the two bits differ, and the order goes by them. -/
theorem com_bit {n m : Nat} (hn : Is128 n) (hm : Is128 m) {wd : Int} (hW : isW wd = true) (hne : comN n m wd < wd) :
    bitN (cutN m wd) wd (comN n m wd) = !(bitN (cutN n wd) wd (comN n m wd)) ∧ cmpN (cutN n wd) (cutN m wd) = if bitN (cutN n wd) wd (comN n m wd) = true then 1 else -1 := by
  have hz := cut_is (xor_is hn hm) wd
  have hl := lenN_le hz (cut_lt (n := n ^^^ m) hW)
  have hb := isW_bounds hW
  have h0 : cutN (n ^^^ m) wd ≠ 0 := by
    intro e; rw [com_yes hW, e, lenN_zero] at hne; omega
  have h1 := (lenN_bounds hz h0).1
  have htop := lenN_top hz h0
  have habove : ∀ i, lenN (cutN (n ^^^ m) wd) - 1 < i → (cutN n wd).testBit i = (cutN m wd).testBit i := fun i hi => by
    have := lenN_above hz (show lenN (cutN (n ^^^ m) wd) ≤ i by omega)
    rw [cut_xor hW, Nat.testBit_xor] at this
    revert this; cases (cutN n wd).testBit i <;> cases (cutN m wd).testBit i <;> simp
  have ec : comN n m wd = wd - 1 - ((lenN (cutN (n ^^^ m) wd) - 1 : Nat) : Int) := by rw [com_yes hW]; omega
  rw [ec, bit_at hW (by omega), bit_at hW (by omega)]
  generalize lenN (cutN (n ^^^ m) wd) - 1 = k at *
  rw [cut_xor hW, Nat.testBit_xor] at htop
  cases hx : (cutN n wd).testBit k <;> cases hy : (cutN m wd).testBit k
  · rw [hx, hy] at htop; cases htop
  · refine ⟨rfl, ?_⟩
    have := lt_of_bit k hx hy habove
    unfold cmpN; rw [if_pos this]; rfl
  · refine ⟨rfl, ?_⟩
    have := lt_of_bit k hy hx (fun j hj => (habove j hj).symm)
    unfold cmpN; rw [if_neg (by omega), if_pos this]; rfl
  · rw [hx, hy] at htop; cases htop

end Go.Proofs.Ytgdpplipahhffaa
