/- A value laid out as 128 bits, and put together again: plain facts on rows of bools and numbers. -/
import Derived.Test.YtjkpdcgmmdimaaaDoorLo
import Derived.Deep.WholeRow
namespace Go.Proofs.YtjkpdcgmmdimaaaDoor
open Go.RowKit
set_option linter.unusedVariables false

/-- A row of 128 bools. -/
def rowV (f : Nat → Bool) : Array Value := ((List.range 128).map fun i => Value.bool (f i)).toArray
theorem rowV_size (f : Nat → Bool) : (rowV f).size = 128 := by simp [rowV]
theorem rowV_get (f : Nat → Bool) {i : Nat} (h : i < 128) : (rowV f)[i]? = some (.bool (f i)) := by simp [rowV, h]
theorem rowV_set (f : Nat → Bool) {i : Nat} (h : i < 128) (b : Bool) : (rowV f).setIfInBounds i (.bool b) = rowV (fun t => if t = i then b else f t) := by
  apply Array.ext_getElem?
  intro t
  rw [Array.getElem?_setIfInBounds]
  by_cases ht : t < 128
  · rw [rowV_get (fun t => if t = i then b else f t) ht]
    by_cases e : i = t
    · subst e; simp [rowV_size, ht]
    · rw [if_neg e, rowV_get _ ht]; simp [show ¬ t = i from fun x => e x.symm]
  · have h1 : ¬ i = t := by omega
    rw [if_neg h1, Array.getElem?_eq_none (by rw [rowV_size]; omega), Array.getElem?_eq_none (by rw [rowV_size]; omega)]
theorem rowV_one (f : Nat → Bool) : (rowV f).all (·.oneCell') = true := by
  rw [Array.all_eq_true]; intro i hi
  have hi' : i < 128 := by rw [rowV_size] at hi; exact hi
  have := rowV_get f hi'
  rw [Array.getElem?_eq_getElem hi] at this
  rw [Option.some.inj this]; rfl
theorem rowV_congr {f g : Nat → Bool} (h : ∀ i, i < 128 → f i = g i) : rowV f = rowV g := by
  unfold rowV
  congr 1
  apply List.map_congr_left
  intro i hi
  rw [h i (by simpa using hi)]

/-- The number that k bits from s on say, the highest first. -/
def pre (f : Nat → Bool) (s : Nat) : Nat → Nat
  | 0 => 0
  | k + 1 => 2 * pre f s k + (f (s + k)).toNat
theorem pre_add (f : Nat → Bool) (s a b : Nat) : pre f s (a + b) = pre f s a * 2 ^ b + pre f (s + a) b := by
  induction b with
  | zero => simp [pre]
  | succ b ih =>
    rw [← Nat.add_assoc]
    simp only [pre]
    rw [ih, Nat.pow_succ, Nat.add_assoc s a b, Nat.mul_add, Nat.add_assoc]
    congr 1
    rw [← Nat.mul_assoc, Nat.mul_comm 2, Nat.mul_assoc, Nat.mul_comm 2]
theorem pre_lt (f : Nat → Bool) (s k : Nat) : pre f s k < 2 ^ k := by
  induction k with
  | zero => simp [pre]
  | succ k ih =>
    rw [pre, Nat.pow_succ]
    have : (f (s + k)).toNat ≤ 1 := Bool.toNat_le _
    omega
theorem pre_bit (f : Nat → Bool) (s k i : Nat) : (pre f s k).testBit i = (decide (i < k) && f (s + (k - 1 - i))) := by
  induction k generalizing i with
  | zero => simp [pre]
  | succ k ih =>
    have h1 : (f (s + k)).toNat ≤ 1 := Bool.toNat_le _
    cases i with
    | zero =>
      rw [pre, Nat.testBit_zero, show (2 * pre f s k + (f (s + k)).toNat) % 2 = (f (s + k)).toNat by omega]
      cases h : f (s + k) <;> simp [h]
    | succ i =>
      rw [pre, Nat.testBit_succ, show (2 * pre f s k + (f (s + k)).toNat) / 2 = pre f s k by omega, ih]
      rw [show k + 1 - 1 - (i + 1) = k - 1 - i by omega]
      by_cases h : i < k
      · simp [h]
      · simp [h]
/-- The number that a row says. -/
def takeN (f : Nat → Bool) : Nat := pre f 0 128
theorem take_is (f : Nat → Bool) : Is128 (takeN f) := by unfold Is128 takeN; rw [← two128]; exact pre_lt f 0 128
theorem take_bit (f : Nat → Bool) (i : Nat) : (takeN f).testBit i = (decide (i < 128) && f (127 - i)) := by
  unfold takeN; rw [pre_bit]; simp
theorem take_words (f : Nat → Bool) : hiOf (takeN f) = ((pre f 0 64 : Nat) : Int) ∧ loOf (takeN f) = ((pre f 64 64 : Nat) : Int) := by
  have e : takeN f = pre f 0 64 * 2 ^ 64 + pre f 64 64 := by unfold takeN; rw [show (128 : Nat) = 64 + 64 from rfl, pre_add]
  have h := pre_lt f 64 64
  rw [two64] at e h
  unfold hiOf loOf; rw [e]; omega
/-- A number's row. -/
def layF (n : Nat) : Nat → Bool := fun i => n.testBit (127 - i)
theorem take_lay {n : Nat} (hn : Is128 n) : takeN (layF n) = n := by
  apply Nat.eq_of_testBit_eq; intro i
  rw [take_bit]; unfold layF
  by_cases h : i < 128
  · simp [h, show 127 - (127 - i) = i by omega]
  · simp [h]; unfold Is128 at hn; rw [← two128] at hn
    exact Nat.testBit_lt_two_pow (Nat.lt_of_lt_of_le hn (Nat.pow_le_pow_right (by decide) (by omega)))
theorem take_ext {f : Nat → Bool} {n : Nat} (hn : Is128 n) (h : ∀ i, i < 128 → f (127 - i) = n.testBit i) : takeN f = n := by
  apply Nat.eq_of_testBit_eq; intro i
  rw [take_bit]
  by_cases hi : i < 128
  · simp [hi, h i hi]
  · simp [hi]; unfold Is128 at hn; rw [← two128] at hn
    exact Nat.testBit_lt_two_pow (Nat.lt_of_lt_of_le hn (Nat.pow_le_pow_right (by decide) (by omega)))
/-- What lay has laid behind k rounds. -/
def layTo (n k : Nat) : Nat → Bool := fun j => ((decide (64 ≤ j + k) && decide (j < 64)) || decide (128 ≤ j + k)) && n.testBit (127 - j)
theorem layTo_step (n k : Nat) (h : k < 64) : rowV (fun t => if t = 127 - k then n.testBit k else (if t = 63 - k then n.testBit (64 + k) else layTo n k t)) = rowV (layTo n (k + 1)) := by
  apply rowV_congr; intro i hi
  unfold layTo
  by_cases e1 : i = 127 - k
  · subst e1; simp [show ¬ 127 - k < 64 by omega, show 128 ≤ 127 - k + (k + 1) by omega, show 127 - (127 - k) = k by omega]
  · by_cases e2 : i = 63 - k
    · subst e2; simp [e1, show 63 - k < 64 by omega, show 64 ≤ 63 - k + (k + 1) by omega, show 127 - (63 - k) = 64 + k by omega]
    · simp only [e1, e2, if_false]
      have a1 : decide (64 ≤ i + (k + 1)) = (decide (64 ≤ i + k)) := by rw [Bool.eq_iff_iff]; simp; omega
      have a2 : (decide (128 ≤ i + (k + 1))) = (decide (128 ≤ i + k)) := by rw [Bool.eq_iff_iff]; simp; omega
      rw [a1, a2]
theorem layTo_zero (n : Nat) : rowV (layTo n 0) = rowV (fun _ => false) := by
  apply rowV_congr; intro i hi; unfold layTo
  by_cases h : i < 64
  · simp [h]; intro h1; omega
  · simp [h]; intro h1; omega
theorem layTo_all (n : Nat) : rowV (layTo n 64) = rowV (layF n) := by
  apply rowV_congr; intro i hi; unfold layTo layF
  by_cases h : i < 64
  · simp [h]
  · simp [h, show 128 ≤ i + 64 by omega]
end Go.Proofs.YtjkpdcgmmdimaaaDoor
