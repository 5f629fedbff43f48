/- The walks of package value's Add, Sub, Bit, Most: what each returns, and that memory only grows. Numbers are of 128 bits. -/
import Derived.Test.YtlgfpjaomiomjaaGreatDoorProg
import Derived.Test.YtlgfpjaomiomjaaGreatDoorNum
import Derived.Test.YtlgfpjaomiomjaaGreatDoorWa
import Derived.WalkKit
import Derived.WalkSpells
import Derived.WalkLawsBesides
import Derived.Handy
import Derived.Laws.Pointers
import Derived.Laws.Externs
import Derived.Laws.StructEq
import Derived.LaidEql
import Derived.Deep.RegionHeld3
import Derived.Deep.QuietTactic
import Derived.BigQuiet
import Derived.RowKit3
import Derived.Outline
namespace Go.Proofs.YtlgfpjaomiomjaaGreatDoor
open Go.RowKit
set_option linter.unusedVariables false
set_option linter.unusedSimpArgs false

/-! ### math/bits.Add64, Sub64: the model's own entries -/
theorem add64 (x y c : Int) (hx : 0 ≤ x) (hy : 0 ≤ y) (hc0 : 0 ≤ c) (hc : c ≤ 1) (w : World) : (callFunc 90 #[.int .u64 x, .int .u64 y, .int .u64 c]).run Tryz.prog w =
    .ok (.value (.tuple #[.int .u64 ((x + y + c) % 18446744073709551616), .int .u64 ((x + y + c) / 18446744073709551616)])) w := by
  rw [run_callFunc_extern Tryz.func90 (by kernel_rfl) (by kernel_rfl) (by kernel_rfl) (e := add64Entry) (by kernel_rfl)]
  obtain ⟨x, rfl⟩ := Int.eq_ofNat_of_zero_le hx
  obtain ⟨y, rfl⟩ := Int.eq_ofNat_of_zero_le hy
  obtain ⟨c, rfl⟩ := Int.eq_ofNat_of_zero_le hc0
  rw [run_add64 x y c (by omega) (by omega) (by omega) (by omega)]
  rfl
def sub64E : Array Value → Sem Value := fun args => do
  let (x, y, b) ← Extern.MathBitsCarry.three "Sub64" args
  pure (Extern.MathBitsCarry.pair ((x + Extern.MathBitsCarry.m64 - y - b) % Extern.MathBitsCarry.m64) (if x < y + b then 1 else 0))
theorem run_sub64 (x y b : Nat) (hb : b ≤ 1) (w : World) :
    (sub64E #[.int .u64 x, .int .u64 y, .int .u64 b]).run Tryz.prog w =
      .ok (.tuple #[.int .u64 (((x + 18446744073709551616 - y - b) % 18446744073709551616 : Nat) : Int), .int .u64 ((if x < y + b then 1 else 0 : Nat) : Int)]) w := by
  have : b = 0 ∨ b = 1 := by omega
  rcases this with rfl | rfl <;> rfl
theorem add64_0 (x y : Int) (hx : 0 ≤ x) (hy : 0 ≤ y) (w : World) : (callFunc 90 #[.int .u64 x, .int .u64 y, .int .u64 0]).run Tryz.prog w =
    .ok (.value (.tuple #[.int .u64 ((x + y) % 18446744073709551616), .int .u64 ((x + y) / 18446744073709551616)])) w := by
  simpa using add64 x y 0 hx hy (Int.le_refl 0) (by decide) w
theorem bor_01 (x y : Int) : 0 ≤ bor x y ∧ bor x y ≤ 1 := by unfold bor; split <;> decide

def addN (n m : Nat) (w : Int) : Nat := cutN ((n + m) % 340282366920938463463374607431768211456) w
def subN (n m : Nat) (w : Int) : Nat := cutN ((n + (340282366920938463463374607431768211456 - m)) % 340282366920938463463374607431768211456) w
theorem add_is (n m : Nat) (w : Int) : Is128 (addN n m w) := cut_is (mod_is _) w
theorem sub_is (n m : Nat) (w : Int) : Is128 (subN n m w) := cut_is (mod_is _) w

/-- The i-th highest bit of a width. -/
def bitN (n : Nat) (w i : Int) : Bool := isW w && decide (0 ≤ i) && decide (i < w) && n.testBit (w - 1 - i).toNat
end Go.Proofs.YtlgfpjaomiomjaaGreatDoor
