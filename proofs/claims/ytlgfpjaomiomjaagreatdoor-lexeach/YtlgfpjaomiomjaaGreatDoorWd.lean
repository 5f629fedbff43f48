/- math/bits.Div64 with a high word of 0, and package value's divide of a number below 2^64: the quotient and what is left. -/
import Derived.Test.YtlgfpjaomiomjaaGreatDoorWb
import Derived.WalkSmall
namespace Go.Proofs.YtlgfpjaomiomjaaGreatDoor
open Go.RowKit
set_option linter.unusedVariables false
set_option linter.unusedSimpArgs false

theorem quo_word {a b : Int} (h0 : 0 ≤ a) (h1 : a < 18446744073709551616) (hb : 0 < b) : IntKind.u64.wrap (a.tdiv b) = a / b := by
  rw [Int.tdiv_eq_ediv_of_nonneg h0, IntKind.wrap_u64]
  have h2 : 0 ≤ a / b := Int.ediv_nonneg h0 (by omega)
  have h3 : a / b ≤ a := Int.ediv_le_self b h0
  exact Int.emod_eq_of_lt h2 (by omega)
end Go.Proofs.YtlgfpjaomiomjaaGreatDoor
