/- The statements' helpers: full, pick, and the head of all statements, awake. -/
import Derived.Test.YtnpcnflfpmjgiaaDoorCh
import Derived.Laws.IdiomStrings
namespace Go.Proofs.YtnpcnflfpmjgiaaDoor
open Go.RowKit
set_option linter.unusedVariables false
set_option linter.unusedSimpArgs false

theorem info5 : (Tryd.prog.info? 5).map (fun i => (i.zero, i.size, i.bytes)) = some (some (.int .u8 0), 1, 1) := by kernel_rfl
/-- A sector of one byte, with others at its ends. -/
def fullL (b e : UInt8) : List UInt8 := ((List.replicate 512 b).set 0 e).set 511 e
def fullB (b e : UInt8) : ByteArray := ⟨(fullL b e).toArray⟩
theorem fullL_length (b e : UInt8) : (fullL b e).length = 512 := by unfold fullL; rw [List.length_set, List.length_set, List.length_replicate]
theorem fullB_size (b e : UInt8) : (fullB b e).size = 512 := by simp [fullB, ByteArray.size, fullL_length]
def by8 (b : UInt8) : Value := .int .u8 (b.toNat : Int)
def fill (b : UInt8) (k : Nat) : List Value := List.replicate k (by8 b) ++ List.replicate (512 - k) (.int .u8 0)
theorem fill_set (b : UInt8) (k : Nat) (hk : k < 512) : (fill b k).set k (by8 b) = fill b (k + 1) := by
  unfold fill
  rw [List.set_append_right _ _ (by simp)]
  have : 512 - k = (512 - (k + 1)) + 1 := by omega
  rw [this, List.replicate_succ]
  simp [List.replicate_succ', List.append_assoc]
theorem fill_full (b : UInt8) : fill b 512 = List.replicate 512 (by8 b) := by unfold fill; rw [Nat.sub_self, List.replicate_zero, List.append_nil]
end Go.Proofs.YtnpcnflfpmjgiaaDoor
