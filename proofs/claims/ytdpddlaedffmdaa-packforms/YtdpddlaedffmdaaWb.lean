/- The walks of package value's Add, Sub, Bit, Most: what each returns, and that memory only grows. Numbers are of 128 bits. -/
import Derived.Test.YtdpddlaedffmdaaProg
import Derived.Test.YtdpddlaedffmdaaNum
import Derived.Test.YtdpddlaedffmdaaWa
import Derived.WalkKit
import Derived.WalkSpells
import Derived.WalkLawsBesides
import Derived.Handy
import Derived.Laws.Pointers
import Derived.Laws.Externs
import Derived.Laws.StructEq
import Derived.LaidEql
import Derived.Deep.RegionHeld3
import Derived.Deep.QuietTactic
import Derived.BigQuiet
import Derived.RowKit3
import Derived.Outline
namespace Go.Proofs.Ytdpddlaedffmdaa
open Go.RowKit
set_option linter.unusedVariables false
set_option linter.unusedSimpArgs false

/-! ### math/bits.Add64, Sub64: the model's own entries -/
def sub64E : Array Value → Sem Value := fun args => do
  let (x, y, b) ← Extern.MathBitsCarry.three "Sub64" args
  pure (Extern.MathBitsCarry.pair ((x + Extern.MathBitsCarry.m64 - y - b) % Extern.MathBitsCarry.m64) (if x < y + b then 1 else 0))
theorem run_sub64 (x y b : Nat) (hb : b ≤ 1) (w : World) :
    (sub64E #[.int .u64 x, .int .u64 y, .int .u64 b]).run Try.prog w =
      .ok (.tuple #[.int .u64 (((x + 18446744073709551616 - y - b) % 18446744073709551616 : Nat) : Int), .int .u64 ((if x < y + b then 1 else 0 : Nat) : Int)]) w := by
  have : b = 0 ∨ b = 1 := by omega
  rcases this with rfl | rfl <;> rfl
theorem bor_01 (x y : Int) : 0 ≤ bor x y ∧ bor x y ≤ 1 := by unfold bor; split <;> decide

def addN (n m : Nat) (w : Int) : Nat := cutN ((n + m) % 340282366920938463463374607431768211456) w
def subN (n m : Nat) (w : Int) : Nat := cutN ((n + (340282366920938463463374607431768211456 - m)) % 340282366920938463463374607431768211456) w
theorem add_is (n m : Nat) (w : Int) : Is128 (addN n m w) := cut_is (mod_is _) w
theorem sub_is (n m : Nat) (w : Int) : Is128 (subN n m w) := cut_is (mod_is _) w

/-- The i-th highest bit of a width. -/
def bitN (n : Nat) (w i : Int) : Bool := isW w && decide (0 ≤ i) && decide (i < w) && n.testBit (w - 1 - i).toNat
theorem most_any (wd : Int) (w : World) (h : isW wd = true) : Calls Try.prog 80 #[.int .i64 wd] w fun e w' => e = .returned (.tuple #[B (onesN wd.toNat), .int .i64 0]) ∧ Below w.heap.size w w' := by
  have hb := isW_bounds h
  go_enter Try.func80, Try.ntmps80
  go_wp2_with (first | (go_at_call 83; refine (isWidth_val h _).mono ?_; rintro e w' ⟨rfl, rfl⟩) | (go_at_call 89; refine (ones_any _ _ (by omega) (by omega)).mono ?_; rintro e w' ⟨rfl, hb1⟩; obtain ⟨hc1, hf1⟩ := bcell hb1; (try simp at hc1); (try simp at hf1)))
  refine bodyPost_ret (v := .tuple #[B (onesN wd.toNat), .int .i64 0]) ?_ rfl ⟨rfl, ?_⟩
  · simp [results, Try.results80, go_sem, hc1, hf1]
  · refine Below.setCell (Below.setCell (bstep ?_ hb1) ?_ _) ?_ _
    · go_grown
    · simp
    · simp
end Go.Proofs.Ytdpddlaedffmdaa
