/- Package value's digitOf and withDigit: what a sign is worth in a base; a number with a digit behind it. -/
import Derived.Test.YtdpddlaedffmdaaWg
import Derived.Test.YtdpddlaedffmdaaShelf
namespace Go.Proofs.Ytdpddlaedffmdaa
open Go.RowKit
set_option linter.unusedVariables false
set_option linter.unusedSimpArgs false

/-- A number with a digit behind it; whether that needs more than 128 bits. -/
def moreN (n base d : Nat) : Nat := (n * base + d) % 340282366920938463463374607431768211456
def overN (n base d : Nat) : Bool := decide (340282366920938463463374607431768211456 ≤ n * base + d)
theorem more_is (n base d : Nat) : Is128 (moreN n base d) := mod_is _

/-- The words of a product and a digit, as two multiplications and two additions give them. -/
theorem more_words (n base d up lo ov hi : Nat) (hup : up = n % 18446744073709551616 * base / 18446744073709551616) (hlo : lo = n % 18446744073709551616 * base % 18446744073709551616)
    (hov : ov = n / 18446744073709551616 * base / 18446744073709551616) (hhi : hi = n / 18446744073709551616 * base % 18446744073709551616) :
    (((hi : Int) + up + ((lo : Int) + d) / 18446744073709551616) % 18446744073709551616 = hiOf (moreN n base d)) ∧ (((lo : Int) + d) % 18446744073709551616 = loOf (moreN n base d)) ∧
    (((ov : Int) != 0) || ((((hi : Int) + up + ((lo : Int) + d) / 18446744073709551616) / 18446744073709551616) != 0)) = overN n base d := by
  have e : n * base = n / 18446744073709551616 * base * 18446744073709551616 + n % 18446744073709551616 * base := by
    have := Nat.div_add_mod n 18446744073709551616
    rw [Nat.mul_right_comm, ← Nat.add_mul, Nat.mul_comm (n / 18446744073709551616), this]
  unfold moreN overN hiOf loOf
  rw [e]
  generalize n / 18446744073709551616 * base = P at *
  generalize n % 18446744073709551616 * base = Q at *
  refine ⟨by omega, by omega, ?_⟩
  rw [Bool.eq_iff_iff]; simp only [Bool.or_eq_true, bne_iff_ne, ne_eq, decide_eq_true_eq]
  omega

end Go.Proofs.Ytdpddlaedffmdaa
