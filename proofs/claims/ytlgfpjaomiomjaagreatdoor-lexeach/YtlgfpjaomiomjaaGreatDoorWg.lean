/- Package value's digits: the text of a number in a base from 2 to 16, where dividing it is known; memory only grows. -/
import Derived.Test.YtlgfpjaomiomjaaGreatDoorWb
import Derived.Test.YtlgfpjaomiomjaaGreatDoorTxt
import Derived.WalkSmall
import Derived.Deep.LoopGhost
import Derived.OwnWalk
import Derived.Laws.IdiomStrings
namespace Go.Proofs.YtlgfpjaomiomjaaGreatDoor
open Go.RowKit
set_option linter.unusedVariables false
set_option linter.unusedSimpArgs false

/-- The table of signs lies in memory. -/
def Tab (w : World) : Prop := ∀ d, d < 16 → w.cell? ⟨4, d, none⟩ = some (.int .u8 ((sgn d).toNat : Int))
theorem Tab.below {w w' : World} (h : Tab w) (hb : Below w.heap.size w w') : Tab w' := fun d hd => by
  have hz : 4 < w.heap.size := World.block_lt_of_cell? w ⟨4, d, none⟩ (h d hd)
  rw [hb.cell (p := ⟨4, d, none⟩) hz]; exact h d hd
theorem Tab.pos {w : World} (h : Tab w) : 4 < w.heap.size := World.block_lt_of_cell? w ⟨4, 0, none⟩ (h 0 (by decide))

theorem run_eq0 {q : Nat} {b : Bool} (h : decide (q = 0) = b) (w : World) : (binOp .eql 37 (.agg #[.int .u64 (hiOf q), .int .u64 (loOf q)]) (.agg #[.int .u64 0, .int .u64 0])).run Tryz.prog w = .ok (.bool b) w := by
  have := run_eqB (n := q) (m := 0) h w
  rwa [zero_words] at this
theorem info5 : (Tryz.prog.info? 5).map (fun i => (i.zero, i.size, i.bytes)) = some (some (.int .u8 0), 1, 1) := by kernel_rfl

theorem ownsRow_below {w w1 : World} {base : Nat} {e : TypeId} {size : Nat} {v : Value} {n : Nat} {xs : List Value} (h : w.ownsRow base e size v n xs) (hb : Below w.heap.size w w1) : w1.ownsRow base e size v n xs := by
  obtain ⟨h1, h2⟩ := h
  refine ⟨h1, ?_⟩
  rcases h2 with h2 | ⟨g, cap, cur, a, b, c, d⟩
  · exact .inl h2
  · have hg : g < w.heap.size := (Array.getElem?_eq_some_iff.1 c).1
    exact .inr ⟨g, cap, cur, a, b, by rw [hb.block g hg]; exact c, d⟩

/-- Behind two stores into a box and an append: the box holds what was stored, all older memory is as it was. -/
theorem after_append {w w1 w2 : World} {x0 y0 x y : Value} {o : Obj} {row : Option Nat} (h0 : w1.cell? ⟨w.heap.size, 0, none⟩ = some x0) (h1 : w1.cell? ⟨w.heap.size, 1, none⟩ = some y0)
    (f0 : w1.frozen? ⟨w.heap.size, 0, none⟩ = false) (f1 : w1.frozen? ⟨w.heap.size, 1, none⟩ = false) (hsz : w.heap.size < w1.heap.size) (hb : Below w.heap.size w w1)
    (hg : (((w1.setCell ⟨w.heap.size, 0, none⟩ x).setCell ⟨w.heap.size, 1, none⟩ y).alloc o).grownBy w2 row) (hn : ∀ b, b ≤ w.heap.size → some b ≠ row) :
    w2.cell? ⟨w.heap.size, 0, none⟩ = some x ∧ w2.cell? ⟨w.heap.size, 1, none⟩ = some y ∧ w2.frozen? ⟨w.heap.size, 0, none⟩ = false ∧ w2.frozen? ⟨w.heap.size, 1, none⟩ = false ∧ Below w.heap.size w w2 ∧ w.heap.size < w2.heap.size := by
  have e0 : ((w1.setCell ⟨w.heap.size, 0, none⟩ x).setCell ⟨w.heap.size, 1, none⟩ y).cell? ⟨w.heap.size, 0, none⟩ = some x := by
    rw [World.cell?_setCell_other _ _ _ _ (by intro e; cases e), World.cell?_setCell_same _ _ _ h0]
  have e1 : ((w1.setCell ⟨w.heap.size, 0, none⟩ x).setCell ⟨w.heap.size, 1, none⟩ y).cell? ⟨w.heap.size, 1, none⟩ = some y := by
    rw [World.cell?_setCell_same _ _ _ (u := y0)]
    rw [World.cell?_setCell_other _ _ _ _ (by intro e; cases e)]; exact h1
  have hs : w.heap.size < ((w1.setCell ⟨w.heap.size, 0, none⟩ x).setCell ⟨w.heap.size, 1, none⟩ y).heap.size := by simpa using hsz
  have hs2 := hg.size
  simp only [World.size_alloc, World.size_setCell] at hs2
  have hbk := hg.block w.heap.size (by simp; omega) (hn _ (Nat.le_refl _))
  refine ⟨?_, ?_, ?_, ?_, ?_, by omega⟩
  · rw [World.cell?_of_block (a := ⟨w.heap.size, 0, none⟩) hbk, World.cell?_alloc_past _ _ _ hs]; exact e0
  · rw [World.cell?_of_block (a := ⟨w.heap.size, 1, none⟩) hbk, World.cell?_alloc_past _ _ _ hs]; exact e1
  · rw [World.frozen?_of_block (a := ⟨w.heap.size, 0, none⟩) hbk, World.frozen?_alloc_past _ _ _ hs]; simpa using f0
  · rw [World.frozen?_of_block (a := ⟨w.heap.size, 1, none⟩) hbk, World.frozen?_alloc_past _ _ _ hs]; simpa using f1
  · refine Below.grown (w := ((w1.setCell ⟨w.heap.size, 0, none⟩ x).setCell ⟨w.heap.size, 1, none⟩ y).alloc o) (((hb.setCell (Nat.le_refl _) x).setCell (Nat.le_refl _) y).alloc (by simp; omega) o) hg (by simp; omega) fun k hk => ?_
    exact Nat.le_of_not_lt fun hlt => hn k (by omega) hk.symm

end Go.Proofs.YtlgfpjaomiomjaaGreatDoor
