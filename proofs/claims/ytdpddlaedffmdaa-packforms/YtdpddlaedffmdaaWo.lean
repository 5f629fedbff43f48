/- The walks of package value's Common, Mask, Compare: what each returns, and that memory only grows. -/
import Derived.Test.YtdpddlaedffmdaaLo
import Derived.Test.YtdpddlaedffmdaaShelf
import Derived.Test.YtdpddlaedffmdaaWk
namespace Go.Proofs.Ytdpddlaedffmdaa
open Go.RowKit
set_option linter.unusedVariables false
set_option linter.unusedSimpArgs false

theorem bitLen_le (n : Nat) (h : n < 18446744073709551616) : Lib.bitLen n ≤ 64 := by
  by_cases h0 : n = 0
  · rw [h0, bitLen_zero]; omega
  · obtain ⟨b1, b2, b3⟩ := Lib.bitLenAux_bounds 64 n (by rw [two64]; exact h) h0
    change 2 ^ (Lib.bitLen n - 1) ≤ n at b2
    have : 2 ^ (Lib.bitLen n - 1) < 2 ^ 64 := by rw [two64]; omega
    have := (Nat.pow_lt_pow_iff_right (by decide : 1 < 2)).1 this
    omega

theorem mask_is {wd i : Int} (h0 : 0 ≤ wd) (h1 : wd ≤ 128) (h2 : 0 ≤ i) (h3 : i ≤ wd) : Is128 (maskN wd i) := xor_is (ones_is (by omega)) (ones_is (by omega))
theorem cmp_hi {n m : Nat} (h : hiOf n ≠ hiOf m) : (if hiOf n < hiOf m then -1 else if hiOf m < hiOf n then 1 else 0 : Int) = cmpN n m := by
  unfold hiOf cmpN at *; split <;> split <;> (try split) <;> omega
theorem cmp_lo {n m : Nat} (h : hiOf n = hiOf m) : (if loOf n < loOf m then -1 else if loOf m < loOf n then 1 else 0 : Int) = cmpN n m := by
  unfold hiOf loOf cmpN at *; split <;> split <;> (try split) <;> omega
end Go.Proofs.Ytdpddlaedffmdaa
