/- A value in eight parts of 16 bits, divided by a base: plain numbers. -/
import Derived.Test.YtlgfpjaomiomjaaGreatDoorUa
namespace Go.Proofs.YtlgfpjaomiomjaaGreatDoor
open Go.RowKit
set_option linter.unusedVariables false
set_option linter.unusedSimpArgs false

/-- The j-th part. -/
def lmb (n j : Nat) : Nat := n / 65536 ^ j % 65536
theorem lmb_lt (n j : Nat) : lmb n j < 65536 := Nat.mod_lt _ (by decide)
theorem lmb_div (v base j : Nat) (hb : 0 < base) : (65536 * (v / 65536 ^ (j + 1) % base) + lmb v j) / base = lmb (v / base) j ∧ (65536 * (v / 65536 ^ (j + 1) % base) + lmb v j) % base = v / 65536 ^ j % base := by
  have hN : v / 65536 ^ j = 65536 * (v / 65536 ^ (j + 1)) + lmb v j := by
    unfold lmb
    rw [Nat.pow_succ, ← Nat.div_div_eq_div_mul]
    exact (Nat.div_add_mod (v / 65536 ^ j) 65536).symm
  have hL := lmb_lt v j
  generalize lmb v j = x at *
  have hq : lmb (v / base) j = (v / 65536 ^ j) / base % 65536 := by
    unfold lmb
    rw [Nat.div_div_eq_div_mul, Nat.mul_comm base, ← Nat.div_div_eq_div_mul]
  rw [hq, hN]
  generalize v / 65536 ^ (j + 1) = M
  have hm := Nat.mod_lt M hb
  have hM : 65536 * M + x = base * (65536 * (M / base)) + (65536 * (M % base) + x) := by
    have h1 := Nat.div_add_mod M base
    have h2 : base * (65536 * (M / base)) = 65536 * (base * (M / base)) := Nat.mul_left_comm _ _ _
    rw [h2]; omega
  rw [hM]
  refine ⟨?_, by rw [Nat.mul_add_mod]⟩
  rw [Nat.mul_add_div hb]
  have hlt : (65536 * (M % base) + x) / base < 65536 := by
    rw [Nat.div_lt_iff_lt_mul hb]
    have : 65536 * (M % base) + 65536 ≤ 65536 * base := by omega
    omega
  rw [Nat.mul_add_mod, Nat.mod_eq_of_lt hlt]
/-- The sum of the parts from a place on. -/
def sumFrom (n : Nat) : Nat → Nat → Nat
  | 0, _ => 0
  | k + 1, j => lmb n j + sumFrom n k (j + 1)
theorem sumFrom_le (n : Nat) : ∀ k j, sumFrom n k j ≤ k * 65535
  | 0, j => by simp [sumFrom]
  | k + 1, j => by
    have := sumFrom_le n k (j + 1)
    have := lmb_lt n j
    rw [sumFrom]; omega
theorem pow8 : (65536 : Nat) ^ 8 = 340282366920938463463374607431768211456 := by decide
theorem sum_zero : ∀ (k n : Nat), n < 65536 ^ k → (sumFrom n k 0 = 0 ↔ n = 0) := by
  have shift : ∀ (k n j : Nat), sumFrom n k (j + 1) = sumFrom (n / 65536) k j := by
    intro k
    induction k with
    | zero => intro n j; rfl
    | succ k ih =>
      intro n j
      rw [sumFrom, sumFrom, ih]
      congr 1
      unfold lmb
      rw [Nat.div_div_eq_div_mul, Nat.pow_succ, Nat.mul_comm]
  intro k
  induction k with
  | zero => intro n h; simp [sumFrom]; simp at h; exact h
  | succ k ih =>
    intro n h
    rw [sumFrom, shift]
    have h2 : n / 65536 < 65536 ^ k := by
      rw [Nat.div_lt_iff_lt_mul (by decide), ← Nat.pow_succ]; exact h
    have := ih (n / 65536) h2
    have h3 := Nat.div_add_mod n 65536
    have h4 : lmb n 0 = n % 65536 := by unfold lmb; simp
    rw [h4]
    constructor
    · intro h5
      have h6 : n / 65536 = 0 := this.1 (by omega)
      omega
    · rintro rfl
      have := this.2 (by simp)
      simp at this ⊢; exact this
theorem lmb_lo (n : Nat) {j : Nat} (h : j < 4) : (n % 18446744073709551616) / 65536 ^ j % 65536 = lmb n j := by
  unfold lmb
  rcases (by omega : j = 0 ∨ j = 1 ∨ j = 2 ∨ j = 3) with rfl | rfl | rfl | rfl <;> simp only [Nat.reducePow] <;> omega
theorem lmb_hi (n : Nat) {j : Nat} (h : j < 4) : (n / 18446744073709551616) / 65536 ^ j % 65536 = lmb n (4 + j) := by
  unfold lmb
  rw [Nat.div_div_eq_div_mul, Nat.pow_add]
theorem sign_at : ∀ r, r < 16 → (⟨#[48, 49, 50, 51, 52, 53, 54, 55, 56, 57, 97, 98, 99, 100, 101, 102]⟩ : ByteArray).extract r (r + 1) = ⟨#[sgn r]⟩ := by decide +kernel
end Go.Proofs.YtlgfpjaomiomjaaGreatDoor
