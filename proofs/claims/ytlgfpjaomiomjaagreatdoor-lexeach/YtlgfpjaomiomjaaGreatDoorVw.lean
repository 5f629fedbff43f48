/- Boxes of two words; how many bytes a width has. -/
import Derived.Test.YtlgfpjaomiomjaaGreatDoorWk
import Derived.Test.YtlgfpjaomiomjaaGreatDoorBox
namespace Go.Proofs.YtlgfpjaomiomjaaGreatDoor
open Go.RowKit
set_option linter.unusedVariables false
set_option linter.unusedSimpArgs false

theorem byteCount_any (wd : Int) (h0 : 0 ≤ wd) (h1 : wd ≤ 128) (w : World) : Calls Tryz.prog 60 #[.int .i64 wd] w fun e w' => e = .returned (.int .i64 ((wd + 7) / 8)) ∧ w' = w := by
  go_enter Tryz.func60, Tryz.ntmps60
  go_wp2
  go_ret
  exact ⟨rfl, rfl⟩

/-- A box of two words, with any words. -/
def Wds (w : World) (b : Nat) (x y : Int) : Prop := w.cell? ⟨b, 0, none⟩ = some (.int .u64 x) ∧ w.cell? ⟨b, 1, none⟩ = some (.int .u64 y) ∧ w.frozen? ⟨b, 0, none⟩ = false ∧ w.frozen? ⟨b, 1, none⟩ = false
theorem Wds.other {w : World} {b : Nat} {x y : Int} (h : Wds w b x y) {a : Addr} (ha : b ≠ a.block) (v : Value) : Wds (w.setCell a v) b x y :=
  ⟨by rw [World.cell?_setCell_other _ _ _ _ (by intro e; exact ha (by rw [e]))]; exact h.1, by rw [World.cell?_setCell_other _ _ _ _ (by intro e; exact ha (by rw [e]))]; exact h.2.1, by simpa using h.2.2.1, by simpa using h.2.2.2⟩
theorem Wds.set0 {w : World} {b : Nat} {x y : Int} (h : Wds w b x y) (z : Int) : Wds (w.setCell ⟨b, 0, none⟩ (.int .u64 z)) b z y :=
  ⟨World.cell?_setCell_same _ _ _ h.1, by rw [World.cell?_setCell_other _ _ _ _ (by intro e; cases e)]; exact h.2.1, by simpa using h.2.2.1, by simpa using h.2.2.2⟩
theorem Wds.set1 {w : World} {b : Nat} {x y : Int} (h : Wds w b x y) (z : Int) : Wds (w.setCell ⟨b, 1, none⟩ (.int .u64 z)) b x z :=
  ⟨by rw [World.cell?_setCell_other _ _ _ _ (by intro e; cases e)]; exact h.1, World.cell?_setCell_same _ _ _ h.2.1, by simpa using h.2.2.1, by simpa using h.2.2.2⟩
theorem Wds.below {w w' : World} {b B : Nat} {x y : Int} (h : Wds w b x y) (hb : Below B w w') (hB : b < B) : Wds w' b x y :=
  ⟨by rw [hb.cell (p := ⟨b, 0, none⟩) hB]; exact h.1, by rw [hb.cell (p := ⟨b, 1, none⟩) hB]; exact h.2.1, by rw [hb.frozen (p := ⟨b, 0, none⟩) hB]; exact h.2.2.1, by rw [hb.frozen (p := ⟨b, 1, none⟩) hB]; exact h.2.2.2⟩
theorem Wds.lt {w : World} {b : Nat} {x y : Int} (h : Wds w b x y) : b < w.heap.size := World.block_lt_of_cell? w ⟨b, 0, none⟩ h.1
theorem Wds.past {w : World} {b : Nat} {x y : Int} (h : Wds w b x y) (o : Obj) : Wds (w.alloc o) b x y :=
  h.below (B := w.heap.size) ((Below.refl _ _).alloc (Nat.le_refl _) o) h.lt
theorem Wds.new (w : World) (x y : Int) : Wds (w.alloc (.cells #[.int .u64 x, .int .u64 y] 37)) w.heap.size x y := ⟨by simp, by simp, by simp, by simp⟩

theorem wrap_in {x : Int} (h0 : 0 ≤ x) (h1 : x < 18446744073709551616) : IntKind.u64.wrap x = x := by rw [IntKind.wrap_u64]; omega
theorem twoT (X : Nat) : ((2 * X + true.toNat : Nat) : Int) = (X : Int) * 2 + 1 := by simp; omega
theorem twoF (X : Nat) : ((2 * X + false.toNat : Nat) : Int) = (X : Int) * 2 := by simp; omega
end Go.Proofs.YtlgfpjaomiomjaaGreatDoor
