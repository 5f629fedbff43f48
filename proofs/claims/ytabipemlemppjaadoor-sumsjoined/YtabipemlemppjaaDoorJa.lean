/- Linear things of registers, done often. Plain facts. -/
import Derived.Test.YtabipemlemppjaaDoorFu
import Derived.Lib.TrailingZeros
namespace Go.Proofs.YtabipemlemppjaaDoor
open Go.RowKit
set_option linter.unusedVariables false

/-- What makes of registers registers, and of two xored the two made, xored. -/
structure Lin (f : Nat → Nat) : Prop where
  xor : ∀ a b, a < 4294967296 → b < 4294967296 → f (a ^^^ b) = f a ^^^ f b
  lt : ∀ r, r < 4294967296 → f r < 4294967296
theorem xor_lt32 {a b : Nat} (ha : a < 4294967296) (hb : b < 4294967296) : a ^^^ b < 4294967296 := Nat.xor_lt_two_pow (n := 32) ha hb
theorem Lin.zero {f : Nat → Nat} (h : Lin f) : f 0 = 0 := by
  have := h.xor 0 0 (by decide) (by decide)
  rw [Nat.xor_self, Nat.xor_self] at this; exact this
theorem Lin.twice {f : Nat → Nat} (h : Lin f) : Lin (fun r => f (f r)) :=
  ⟨fun a b ha hb => by rw [h.xor a b ha hb, h.xor _ _ (h.lt a ha) (h.lt b hb)], fun r hr => h.lt _ (h.lt r hr)⟩
theorem lin_turns (k : Nat) : Lin (turnsN k) := ⟨fun a b _ _ => turns_xor k a b, fun r h => turns_lt k r h⟩
theorem lin_undos (k : Nat) : Lin (undosN k) := by
  refine ⟨fun a b ha hb => ?_, fun r h => undos_lt k r h⟩
  have h1 : turnsN k (undosN k a ^^^ undosN k b) = a ^^^ b := by rw [turns_xor, turns_undos k a ha, turns_undos k b hb]
  have h2 := undos_turns k (undosN k a ^^^ undosN k b) (xor_lt32 (undos_lt k a ha) (undos_lt k b hb))
  rw [h1] at h2; exact h2
def itr (f : Nat → Nat) : Nat → Nat → Nat
  | 0, r => r
  | n + 1, r => itr f n (f r)
theorem itr_lt {f : Nat → Nat} (h : Lin f) : ∀ (n r : Nat), r < 4294967296 → itr f n r < 4294967296 := by
  intro n; induction n with
  | zero => intro r hr; exact hr
  | succ n ih => intro r hr; exact ih _ (h.lt r hr)
theorem itr_two (f : Nat → Nat) : ∀ (n r : Nat), itr (fun r => f (f r)) n r = itr f (2 * n) r := by
  intro n; induction n with
  | zero => intro r; rfl
  | succ n ih => intro r; rw [show 2 * (n + 1) = 2 * n + 1 + 1 by omega, itr, itr, itr, ih]
theorem itr_odd (f : Nat → Nat) {n : Nat} (h : n % 2 = 1) (r : Nat) : itr (fun r => f (f r)) (n / 2) (f r) = itr f n r := by
  rw [itr_two]; obtain ⟨k, rfl⟩ : ∃ k, n = 2 * k + 1 := ⟨n / 2, by omega⟩
  rw [show (2 * k + 1) / 2 = k by omega, itr]
theorem itr_even (f : Nat → Nat) {n : Nat} (h : n % 2 = 0) (r : Nat) : itr (fun r => f (f r)) (n / 2) r = itr f n r := by
  rw [itr_two]; congr 1; omega
theorem itr_turns (k : Nat) : ∀ (n r : Nat), itr (turnsN k) n r = turnsN (k * n) r := by
  intro n; induction n with
  | zero => intro r; rfl
  | succ n ih => intro r; rw [itr, ih, Nat.mul_succ, Nat.add_comm, turns_add]
/-- A register's lowest bit. -/
theorem low_bit {r : Nat} (h0 : r ≠ 0) (h : r < 4294967296) : r = 2 ^ Lib.ctz 32 r ^^^ (r &&& (r - 1)) ∧ Lib.ctz 32 r < 32 ∧ (r &&& (r - 1)) < r := by
  obtain ⟨m, hm, hk⟩ := Lib.ctzFrom_spec 32 r (by omega) (by simpa using h)
  have e : Lib.ctz 32 r = Lib.ctzFrom 32 r := by unfold Lib.ctz; rw [if_neg h0]
  rw [e]
  generalize Lib.ctzFrom 32 r = t at *
  have hp := Nat.pow_pos (n := t) (show 0 < 2 by decide)
  have e1 : r = 2 ^ (t + 1) * m + 2 ^ t := by rw [hm, Nat.mul_add, Nat.mul_one, Nat.pow_succ, Nat.mul_assoc]
  have e2 : r - 1 = 2 ^ (t + 1) * m + (2 ^ t - 1) := by omega
  have l1 : 2 ^ t < 2 ^ (t + 1) := by rw [Nat.pow_succ]; omega
  have hbit : ∀ i, (r &&& (r - 1)).testBit i = (2 ^ (t + 1) * m).testBit i := fun i => by
    rw [Nat.testBit_and, e2]
    conv => lhs; lhs; rw [e1]
    rw [Nat.testBit_two_pow_mul_add m l1, Nat.testBit_two_pow_mul_add m (show 2 ^ t - 1 < 2 ^ (t + 1) by omega), Nat.testBit_two_pow_mul]
    by_cases hi : i < t + 1
    · rw [if_pos hi, if_pos hi, Nat.testBit_two_pow, Nat.testBit_two_pow_sub_one]
      have : decide (t + 1 ≤ i) = false := by simp; omega
      rw [this]
      by_cases ht : t = i
      · subst ht; simp
      · simp [ht]
    · rw [if_neg hi, if_neg hi]
      have : decide (t + 1 ≤ i) = true := by simp; omega
      rw [this]; simp
  have hand : r &&& (r - 1) = 2 ^ (t + 1) * m := Nat.eq_of_testBit_eq hbit
  refine ⟨?_, hk, by omega⟩
  rw [hand]
  apply Nat.eq_of_testBit_eq
  intro i
  conv => lhs; rw [e1]
  rw [Nat.testBit_two_pow_mul_add m l1, Nat.testBit_xor, Nat.testBit_two_pow, Nat.testBit_two_pow_mul]
  by_cases hi : i < t + 1
  · have : decide (t + 1 ≤ i) = false := by simp; omega
    rw [if_pos hi, this]; simp
  · have h1 : decide (t + 1 ≤ i) = true := by simp; omega
    have h2 : decide (t = i) = false := by simp; omega
    rw [if_neg hi, h1, h2]; simp
/-- The first bits of a register, and the next one. -/
theorem next_bit (r i : Nat) : r % 2 ^ (i + 1) = r % 2 ^ i ^^^ (if r / 2 ^ i % 2 = 1 then 2 ^ i else 0) := by
  apply Nat.eq_of_testBit_eq
  intro j
  rw [Nat.testBit_xor, Nat.testBit_mod_two_pow, Nat.testBit_mod_two_pow]
  have hb : r.testBit i = decide (r / 2 ^ i % 2 = 1) := by rw [Nat.testBit_eq_decide_div_mod_eq]
  by_cases hj : j < i
  · have h1 : decide (j < i + 1) = true := by simp; omega
    have h2 : decide (j < i) = true := by simpa using hj
    rw [h1, h2]
    split
    · rw [Nat.testBit_two_pow, show decide (i = j) = false by simp; omega]; simp
    · simp
  · by_cases e : j = i
    · subst e
      rw [hb]
      split
      · next h => simp [h]
      · next h => simp [h]
    · have h1 : decide (j < i + 1) = false := by simp; omega
      have h2 : decide (j < i) = false := by simp; omega
      rw [h1, h2]
      split
      · rw [Nat.testBit_two_pow, show decide (i = j) = false by simp; omega]; simp
      · simp
theorem lin_next {f : Nat → Nat} (h : Lin f) (r i : Nat) (hi : i < 32) : f (r % 2 ^ (i + 1)) = f (r % 2 ^ i) ^^^ (if r / 2 ^ i % 2 = 1 then f (2 ^ i) else 0) := by
  have p1 : 2 ^ i ≤ 2 ^ 31 := Nat.pow_le_pow_right (by decide) (by omega)
  have p0 := Nat.pow_pos (n := i) (show 0 < 2 by decide)
  have p2 : r % 2 ^ i < 4294967296 := Nat.lt_of_lt_of_le (Nat.mod_lt _ p0) (Nat.le_trans p1 (by decide))
  rw [next_bit]
  split
  · exact h.xor _ _ p2 (Nat.lt_of_le_of_lt p1 (by decide))
  · rw [Nat.xor_zero, Nat.xor_zero]
/-- A linear thing's table, as a block's cells. -/
def linA (f : Nat → Nat) : Array Value := ((List.range 32).map fun i => Value.int .u32 ((f (2 ^ i) : Nat) : Int)).toArray
theorem linA_size (f : Nat → Nat) : (linA f).size = 32 := by simp [linA]
theorem linA_at (f : Nat → Nat) {i : Nat} (h : i < 32) : (linA f)[i]? = some (.int .u32 ((f (2 ^ i) : Nat) : Int)) := by
  simp [linA, List.getElem?_range h]
end Go.Proofs.YtabipemlemppjaaDoor
