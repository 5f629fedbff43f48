/- The reference's lay and take: a value as a row of 128 bits, and back; memory only grows. -/
import Derived.Test.YtjkpdcgmmdimaaaDoorRl
import Derived.Test.YtjkpdcgmmdimaaaDoorBox
import Derived.Test.YtjkpdcgmmdimaaaDoorWk
namespace Go.Proofs.YtjkpdcgmmdimaaaDoor
open Go.RowKit
set_option linter.unusedVariables false
set_option linter.unusedSimpArgs false

theorem zero49 : Tryd.zeroCells49 = rowV (fun _ => false) := by kernel_rfl
theorem info49 : (Tryd.prog.info? 49).map (·.size) = some 128 := by kernel_rfl
theorem size49 (f : Nat → Bool) : (Tryd.prog.info? 49).map (·.size) = some (rowV f).size := by rw [rowV_size]; exact info49
/-- A block holds a row. -/
def Arr (w : World) (b : Nat) (f : Nat → Bool) : Prop := w.heap[b]? = some (.cells (rowV f) 49 (0, 0))
theorem Arr.lt {w : World} {b : Nat} {f : Nat → Bool} (h : Arr w b f) : b < w.heap.size := (Array.getElem?_eq_some_iff.1 h).1
theorem Arr.below {w w' : World} {b B : Nat} {f : Nat → Bool} (h : Arr w b f) (hb : Below B w w') (hB : b < B) : Arr w' b f := (hb.block b hB).trans h
theorem Arr.past {w : World} {b : Nat} {f : Nat → Bool} (h : Arr w b f) (o : Obj) : Arr (w.alloc o) b f := (heap_alloc_old w o h.lt).trans h
theorem Arr.new (w : World) (f : Nat → Bool) : Arr (w.alloc (.cells (rowV f) 49)) w.heap.size f := heap_alloc_new w _
theorem Arr.cell {w : World} {b : Nat} {f : Nat → Bool} (h : Arr w b f) {i : Nat} (hi : i < 128) : w.cell? ⟨b, i, none⟩ = some (.bool (f i)) := by
  rw [cell_of_row w b i _ _ _ h]; exact rowV_get f hi
theorem Arr.frozen {w : World} {b : Nat} {f : Nat → Bool} (h : Arr w b f) (i : Nat) : w.frozen? ⟨b, i, none⟩ = false := frozen_of_row w b i _ _ h
theorem Arr.set {w : World} {b : Nat} {f : Nat → Bool} (h : Arr w b f) {i : Nat} (hi : i < 128) (v : Bool) : Arr (w.setCell ⟨b, i, none⟩ (.bool v)) b (fun t => if t = i then v else f t) := by
  unfold Arr; rw [heap_setCell_same w b i _ _ _ h, rowV_set f hi]
theorem Arr.other {w : World} {b : Nat} {f : Nat → Bool} (h : Arr w b f) {a : Addr} (ha : b ≠ a.block) (v : Value) : Arr (w.setCell a v) b f := (heap_setCell_other w a b v ha).trans h
theorem Arr.congr {w : World} {b : Nat} {f g : Nat → Bool} (h : Arr w b f) (e : rowV f = rowV g) : Arr w b g := by unfold Arr at *; rw [← e]; exact h
theorem Box.other {w : World} {b n : Nat} (h : Box w b n) {a : Addr} (ha : b ≠ a.block) (v : Value) : Box (w.setCell a v) b n :=
  ⟨by rw [World.cell?_setCell_other _ _ _ _ (by intro e; exact ha (by rw [e]))]; exact h.1, by rw [World.cell?_setCell_other _ _ _ _ (by intro e; exact ha (by rw [e]))]; exact h.2⟩

theorem bsetRow {B : Nat} {w wr : World} (h : Below B w wr) {g : Nat} (hg : B ≤ g) (cs : Array Value) : Below B w (wr.setRow g cs) :=
  h.trans ⟨rfl, rfl, rfl, by simp, fun k hk => by simp only [World.setRow, Array.getElem?_modify]; rw [if_neg (by omega)]⟩

set_option maxHeartbeats 1000000 in
set_option maxRecDepth 100000 in
theorem lay_any (n : Nat) (hn : Is128 n) (w : World) : Calls Tryd.prog 47 #[B n] w fun e w' => e = .returned (.agg (rowV (layF n))) ∧ Below w.heap.size w w' := by
  have h0 := hiOf_nonneg n
  have l0 := loOf_nonneg n
  go_enter Tryd.func47, Tryd.ntmps47
  go_wp2_with fail
  rw [zero49]
  go_loopw [4] (fun i wr => ∃ k : Nat, k ≤ 64 ∧ i = .int .i64 k ∧ Box wr w.heap.size n ∧ Arr wr (w.heap.size + 1 + 1) (layTo n k) ∧ Arr wr (w.heap.size + 1) (fun _ => false) ∧ Below w.heap.size w wr) (fun i _ => 64 - (intOf i).toNat)
  case atStart =>
    refine ⟨0, by omega, rfl, ((Box.new w n).past _).past _, ?_, ?_, by go_grown⟩
    · exact Arr.congr (by simpa using Arr.new ((w.alloc (.cells #[.int .u64 (hiOf n), .int .u64 (loOf n)] 24)).alloc (.cells (rowV fun _ => false) 49)) (fun _ => false)) (layTo_zero n).symm
    · exact Arr.past (by simpa using Arr.new (w.alloc (.cells #[.int .u64 (hiOf n), .int .u64 (loOf n)] 24)) (fun _ => false)) _
  case round =>
    obtain ⟨k, hk, rfl, Bx, A, Z, hB⟩ := hrel
    obtain ⟨c0, c1⟩ := id Bx
    by_cases hlt : k < 64
    · have E1 : Hid _ := bit_hi hn (k := k)
      have E2 : Hid _ := bit_lo n hlt
      have x1 := A.cell (i := 63 - k) (by omega)
      have x2 := A.frozen (63 - k)
      have y1 := A.cell (i := 127 - k) (by omega)
      have y2 := A.frozen (127 - k)
      go_wp2
      go_roundw
      case rel =>
        rw [E1.out, E2.out]
        refine ⟨k + 1, by omega, by go_num, (Bx.other (by simp; omega) _).other (by simp; omega) _, ?_, (Z.other (by simp) _).other (by simp) _, (hB.setCell (by simp; omega) _).setCell (by simp; omega) _⟩
        exact Arr.congr ((A.set (i := 63 - k) (by omega) (n.testBit (64 + k))).set (i := 127 - k) (by omega) (n.testBit k)) (layTo_step n k hlt)
      case measure => simp only [intOf]; omega
    · obtain rfl : k = 64 := by omega
      have A' := A.congr (layTo_all n)
      go_wp2_with (first
        | (refine wpList_load_row rfl 49 _ rfl (w.heap.size + 1 + 1) rfl 49 _ (0, 0) _ A' Tryd.underlying49 rfl (size49 _) ?_)
        | (refine wpList_store_row rfl 49 _ _ rfl (w.heap.size + 1) (rowV (layF n)) rfl rfl 49 _ Z (size49 _) (by rw [rowV_size, rowV_size]) (rowV_one _) ?_))
      refine bodyPost_ret (results_cell_row rfl _ _ (w.heap.size + 1) 49 (rowV (layF n)) (0, 0) _ rfl (setRow_heap _ _ _ _ _ _ Z) Tryd.underlying49 rfl (size49 _)) rfl ⟨rfl, bsetRow hB (by omega) _⟩
end Go.Proofs.YtjkpdcgmmdimaaaDoor
