/- Package value's byteAt and dots: a value's bytes, and the text of its four lowest ones. -/
import Derived.Test.YtlgfpjaomiomjaaGreatDoorWg
import Derived.Test.YtlgfpjaomiomjaaGreatDoorWd
namespace Go.Proofs.YtlgfpjaomiomjaaGreatDoor
open Go.RowKit
set_option linter.unusedVariables false
set_option linter.unusedSimpArgs false

/-- The byte of a value that has so many bytes below it. -/
def byteN (n i : Nat) : Nat := n / 256 ^ i % 256
theorem byteN_lt (n i : Nat) : byteN n i < 256 := by unfold byteN; omega
theorem byte_lo (n : Nat) {i : Nat} (h : i < 8) : loOf n / 2 ^ (8 * i) % 256 = ((byteN n i : Nat) : Int) := by
  unfold loOf byteN
  have e : (2 : Nat) ^ (8 * i) = 256 ^ i := by rw [Nat.pow_mul]
  have e2 : (18446744073709551616 : Nat) = 256 ^ i * 256 ^ (8 - i) := by rw [← Nat.pow_add, show i + (8 - i) = 8 by omega]
  have e3 : ((2 : Int) ^ (8 * i)) = ((256 ^ i : Nat) : Int) := by rw [← e]; simp
  rw [e3, ← Int.natCast_ediv, e2, Nat.mod_mul_right_div_self]
  have e4 : (256 : Nat) ^ (8 - i) = 256 * 256 ^ (7 - i) := by rw [show 8 - i = 7 - i + 1 by omega, Nat.pow_succ, Nat.mul_comm]
  have : n / 256 ^ i % 256 ^ (8 - i) % 256 = n / 256 ^ i % 256 := by rw [e4]; exact Nat.mod_mul_right_mod _ _ _
  rw [← this]; simp
theorem byte_hi (n : Nat) (i : Nat) : hiOf n / 2 ^ (8 * i) % 256 = ((byteN n (8 + i) : Nat) : Int) := by
  unfold hiOf byteN
  have e : (2 : Nat) ^ (8 * i) = 256 ^ i := by rw [Nat.pow_mul]
  have e3 : ((2 : Int) ^ (8 * i)) = ((256 ^ i : Nat) : Int) := by rw [← e]; simp
  rw [e3, ← Int.natCast_ediv, Nat.pow_add, ← Nat.div_div_eq_div_mul]
  simp

/-- The text of the k highest of the four lowest bytes. -/
def dpre (n : Nat) : Nat → List UInt8
  | 0 => []
  | k + 1 => dpre n k ++ digs 10 (byteN n (3 - k)) ++ (if k < 3 then [46] else [])
theorem dpre_length (n k : Nat) : (dpre n k).length ≤ 129 * k := by
  induction k with
  | zero => simp [dpre]
  | succ k ih => have := digs_length 10 (byteN n (3 - k)); simp only [dpre, List.length_append]; split <;> simp <;> omega
theorem tenBound (b : Nat) (h : b < 256) : b < 10 ^ 128 := Nat.lt_of_lt_of_le h (by decide)
theorem small_words {b : Nat} (h : b < 18446744073709551616) : B b = .agg #[.int .u64 0, .int .u64 b] := by
  simp only [B, hiOf, loOf, Nat.div_eq_of_lt h, Nat.mod_eq_of_lt h]; rfl
theorem str_app (a b : List UInt8) : (⟨a.toArray⟩ : ByteArray) ++ (⟨b.toArray⟩ : ByteArray) = ⟨(a ++ b).toArray⟩ := by
  apply ByteArray.ext; simp

theorem formHas_dots (wd : Int) (w : World) : Calls Tryz.prog 58 #[.int .i64 4, .int .i64 wd] w fun e w' => e = .returned (.bool (wd == 32)) ∧ w' = w := by
  go_enter Tryz.func58, Tryz.ntmps58
  go_wp2
  go_ret
  exact ⟨rfl, rfl⟩

end Go.Proofs.YtlgfpjaomiomjaaGreatDoor
