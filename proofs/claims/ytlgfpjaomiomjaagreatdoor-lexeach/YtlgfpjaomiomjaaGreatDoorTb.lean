/- The tables of package lex and of package value, as they lie in memory. -/
import Derived.Test.YtlgfpjaomiomjaaGreatDoorLf
import Derived.Test.YtlgfpjaomiomjaaGreatDoorWg
namespace Go.Proofs.YtlgfpjaomiomjaaGreatDoor
open Go.RowKit
set_option linter.unusedVariables false
set_option linter.unusedSimpArgs false

def resL : List (List UInt8) := [[97, 99, 99, 101, 112, 116], [97, 99, 116, 105, 111, 110], [97, 100, 100], [97, 103, 97, 105, 110], [97, 112, 112, 108, 121], [99, 97, 110], [99, 111, 110, 116, 114, 111, 108], [100, 101, 102, 97, 117, 108, 116], [100, 114, 111, 112], [101, 108, 115, 101], [101, 120, 97, 99, 116], [101, 120, 105, 116], [102, 105, 120, 101, 100], [104, 101, 97, 100, 101, 114], [105, 102], [107, 101, 121], [109, 101, 116, 97], [111, 110], [112, 114, 101, 102, 105, 120], [114, 97, 110, 103, 101], [114, 101, 106, 101, 99, 116], [114, 101, 109, 111, 118, 101], [115, 105, 122, 101], [115, 116, 97, 116, 101], [115, 117, 109], [116, 97, 98, 108, 101], [116, 97, 107, 101], [116, 101, 114, 110, 97, 114, 121], [118, 97, 108, 105, 100]]
def signL : List (List UInt8) := [[61, 61], [33, 61], [60, 61], [123], [125], [40], [41], [59], [58], [44], [46], [61], [60], [43], [45], [38], [124], [94]]
def baseL : List (List UInt8) := [[48, 120], [48, 98]]
def strsA (l : List (List UInt8)) : Array Value := (l.map fun t => Value.string ⟨t.toArray⟩).toArray
/-- A variable's cells. -/
def Var (w : World) (g : Nat) (cs : Array Value) : Prop := ∃ t fr, w.heap[g]? = some (.cells cs t fr)
theorem Var.lt {w : World} {g : Nat} {cs : Array Value} (h : Var w g cs) : g < w.heap.size := by
  obtain ⟨t, fr, h⟩ := h
  exact (Array.getElem?_eq_some_iff.1 h).1
theorem Var.kept {S : Nat → Prop} {w w' : World} {g : Nat} {cs : Array Value} (h : Var w g cs) (hk : Kept S w w') (hs : ¬ S g) : Var w' g cs := by
  have hl := h.lt
  obtain ⟨t, fr, h⟩ := h
  exact ⟨t, fr, (hk.block g hl hs).trans h⟩
structure Tabs (w : World) : Prop where
  six : Tab w
  res : Var w 3 (strsA resL)
  sgs : Var w 0 (strsA signL)
  bas : Var w 2 (strsA baseL)
theorem Tabs.pos {w : World} (h : Tabs w) : 4 < w.heap.size := h.six.pos
theorem Tabs.kept {S : Nat → Prop} {w w' : World} (h : Tabs w) (hk : Kept S w w') (hs : ∀ k, k ≤ 4 → ¬ S k) : Tabs w' where
  six := fun d hd => hk.cell (h.six d hd) (hs 4 (by omega))
  res := h.res.kept hk (hs 3 (by omega))
  sgs := h.sgs.kept hk (hs 0 (by omega))
  bas := h.bas.kept hk (hs 2 (by omega))
theorem Tabs.below {w w' : World} (h : Tabs w) (hb : Below w.heap.size w w') : Tabs w' := h.kept (S := fun _ => False) (Kept.of_below hb) (fun _ _ => id)
theorem strsA_at (l : List (List UInt8)) (k : Nat) (t : List UInt8) (h : l[k]? = some t) : (strsA l)[k]? = some (.string ⟨t.toArray⟩) := by
  unfold strsA; simp [h]
theorem size48 : (Tryz.prog.info? 88).map (·.size) = some (strsA resL).size := by kernel_rfl
theorem size58 : (Tryz.prog.info? 75).map (·.size) = some (strsA signL).size := by kernel_rfl
theorem size70 : (Tryz.prog.info? 84).map (·.size) = some (strsA baseL).size := by kernel_rfl
end Go.Proofs.YtlgfpjaomiomjaaGreatDoor
