/- Boxes: where a value of 128 bits lies in memory, and that it stays there. -/
import Derived.Test.YtlgfpjaomiomjaaGreatDoorWa
namespace Go.Proofs.YtlgfpjaomiomjaaGreatDoor
open Go.RowKit

/-- A box holds a value. -/
def Box (w : World) (b n : Nat) : Prop := w.cell? ⟨b, 0, none⟩ = some (.int .u64 (hiOf n)) ∧ w.cell? ⟨b, 1, none⟩ = some (.int .u64 (loOf n))
theorem Box.below {w w' : World} {b n B : Nat} (h : Box w b n) (hb : Below B w w') (hB : b < B) : Box w' b n :=
  ⟨by rw [hb.cell (p := ⟨b, 0, none⟩) hB]; exact h.1, by rw [hb.cell (p := ⟨b, 1, none⟩) hB]; exact h.2⟩
theorem Box.new (w : World) (n : Nat) : Box (w.alloc (.cells #[.int .u64 (hiOf n), .int .u64 (loOf n)] 37)) w.heap.size n := ⟨by simp, by simp⟩
theorem Box.past {w : World} {b n : Nat} (h : Box w b n) (o : Obj) : Box (w.alloc o) b n :=
  ⟨by rw [World.cell?_alloc_lt _ _ _ (World.block_lt_of_cell? w _ h.1)]; exact h.1, by rw [World.cell?_alloc_lt _ _ _ (World.block_lt_of_cell? w _ h.2)]; exact h.2⟩
theorem Box.drew {w : World} {b n : Nat} (h : Box w b n) : Box w.drew b n := h
theorem Box.lt {w : World} {b n : Nat} (h : Box w b n) : b < w.heap.size := World.block_lt_of_cell? w ⟨b, 0, none⟩ h.1

end Go.Proofs.YtlgfpjaomiomjaaGreatDoor
