/- Package value's fromDigits: any text in a base from 2 to 16: the value, or the error's number. The table of signs lies in memory; the text is no longer than any text may be. -/
import Derived.Test.YtdpddlaedffmdaaWp
import Derived.Lib.OthersKept
import Derived.Laws.RangeAny
import Derived.WalkSmall
namespace Go.Proofs.Ytdpddlaedffmdaa
open Go.RowKit
set_option linter.unusedVariables false
set_option linter.unusedSimpArgs false

def bigB (a : Nat) : Bool := decide (340282366920938463463374607431768211456 ≤ a)

/-- What holds at the head of each round: the text from p on, with a before it, says what the whole says; the box holds a while it is not too great. -/
def FdAt (base : Nat) (s : ByteArray) (w : World) (g : Value) (wr : World) : Prop :=
  ∃ p a x : Nat, p ≤ s.size ∧ num base (s.data.toList.drop p) a = num base s.data.toList 0 ∧ g = .bool (bigB a) ∧ (bigB a = false → x = a) ∧ Is128 x ∧
    wr.heap[w.heap.size + 2]? = some (.stringIter s p) ∧ wr.cell? ⟨w.heap.size + 1, 0, none⟩ = some (.int .u64 (hiOf x)) ∧ wr.cell? ⟨w.heap.size + 1, 1, none⟩ = some (.int .u64 (loOf x)) ∧
    wr.frozen? ⟨w.heap.size + 1, 0, none⟩ = false ∧ wr.frozen? ⟨w.heap.size + 1, 1, none⟩ = false ∧
    wr.cell? ⟨w.heap.size, 0, none⟩ = some (.int .u64 0) ∧ wr.cell? ⟨w.heap.size, 1, none⟩ = some (.int .u64 0) ∧ wr.frozen? ⟨w.heap.size, 0, none⟩ = false ∧ wr.frozen? ⟨w.heap.size, 1, none⟩ = false ∧
    Below w.heap.size w wr ∧ w.heap.size + 2 < wr.heap.size

theorem byte_at (s : ByteArray) {p : Nat} (h : p < s.size) : s.data.toList.drop p = s[p] :: s.data.toList.drop (p + 1) := by
  have h' : p < s.data.toList.length := by simpa using h
  rw [List.drop_eq_getElem_cons h']; rfl

theorem fd_start (base : Nat) (s : ByteArray) (w : World) : FdAt base s w (.bool false) (((w.alloc (.cells #[.int .u64 0, .int .u64 0] 34)).alloc (.cells #[.int .u64 0, .int .u64 0] 34)).iter s 0) := by
  have e : ((w.alloc (.cells #[.int .u64 0, .int .u64 0] 34)).alloc (.cells #[.int .u64 0, .int .u64 0] 34)).iter s 0 = ((w.alloc (.cells #[.int .u64 0, .int .u64 0] 34)).alloc (.cells #[.int .u64 0, .int .u64 0] 34)).alloc (.stringIter s 0) := rfl
  rw [e]
  have hb : Below (w.heap.size + 2) ((w.alloc (.cells #[.int .u64 0, .int .u64 0] 34)).alloc (.cells #[.int .u64 0, .int .u64 0] 34)) (((w.alloc (.cells #[.int .u64 0, .int .u64 0] 34)).alloc (.cells #[.int .u64 0, .int .u64 0] 34)).alloc (.stringIter s 0)) := (Below.refl _ _).alloc (by simp) _
  refine ⟨0, 0, 0, by omega, rfl, rfl, fun _ => rfl, by unfold Is128; decide, ?_, ?_, ?_, ?_, ?_, ?_, ?_, ?_, ?_, ?_, ?_⟩
  · have := World.iter_heap ((w.alloc (.cells #[.int .u64 0, .int .u64 0] 34)).alloc (.cells #[.int .u64 0, .int .u64 0] 34)) s 0
    simpa [e] using this
  · rw [hb.cell (p := ⟨w.heap.size + 1, 0, none⟩) (by simp)]; simp [hiOf]
  · rw [hb.cell (p := ⟨w.heap.size + 1, 1, none⟩) (by simp)]; simp [loOf]
  · rw [hb.frozen (p := ⟨w.heap.size + 1, 0, none⟩) (by simp)]; simp
  · rw [hb.frozen (p := ⟨w.heap.size + 1, 1, none⟩) (by simp)]; simp
  · rw [hb.cell (p := ⟨w.heap.size, 0, none⟩) (by simp)]; simp
  · rw [hb.cell (p := ⟨w.heap.size, 1, none⟩) (by simp)]; simp
  · rw [hb.frozen (p := ⟨w.heap.size, 0, none⟩) (by simp)]; simp
  · rw [hb.frozen (p := ⟨w.heap.size, 1, none⟩) (by simp)]; simp
  · exact (((Below.refl _ _).alloc (by simp) _).alloc (by simp) _).alloc (by simp; omega) _
  · simp

theorem fd_step (base : Nat) (s : ByteArray) (w w3 : World) (p x d : Nat) (hp : p + 1 ≤ s.size) (hn : num base (s.data.toList.drop (p + 1)) (x * base + d) = num base s.data.toList 0)
    (hit : w3.heap[w.heap.size + 2]? = some (.stringIter s (p + 1))) (c0 : w3.cell? ⟨w.heap.size + 1, 0, none⟩ = some (.int .u64 (hiOf x))) (c1 : w3.cell? ⟨w.heap.size + 1, 1, none⟩ = some (.int .u64 (loOf x)))
    (f0 : w3.frozen? ⟨w.heap.size + 1, 0, none⟩ = false) (f1 : w3.frozen? ⟨w.heap.size + 1, 1, none⟩ = false) (r0 : w3.cell? ⟨w.heap.size, 0, none⟩ = some (.int .u64 0)) (r1 : w3.cell? ⟨w.heap.size, 1, none⟩ = some (.int .u64 0))
    (g0 : w3.frozen? ⟨w.heap.size, 0, none⟩ = false) (g1 : w3.frozen? ⟨w.heap.size, 1, none⟩ = false) (hbel : Below w.heap.size w w3) (hsz : w.heap.size + 2 < w3.heap.size) :
    FdAt base s w (.bool (overN x base d)) ((w3.setCell ⟨w.heap.size + 1, 0, none⟩ (.int .u64 (hiOf (moreN x base d)))).setCell ⟨w.heap.size + 1, 1, none⟩ (.int .u64 (loOf (moreN x base d)))) ∧
    ((w3.setCell ⟨w.heap.size + 1, 0, none⟩ (.int .u64 (hiOf (moreN x base d)))).setCell ⟨w.heap.size + 1, 1, none⟩ (.int .u64 (loOf (moreN x base d)))).iterPos (w.heap.size + 2) = p + 1 := by
  have hi : ((w3.setCell ⟨w.heap.size + 1, 0, none⟩ (.int .u64 (hiOf (moreN x base d)))).setCell ⟨w.heap.size + 1, 1, none⟩ (.int .u64 (loOf (moreN x base d)))).heap[w.heap.size + 2]? = some (.stringIter s (p + 1)) := by
    rw [Below.heap_setCell _ _ _ _ (by simp), Below.heap_setCell _ _ _ _ (by simp)]; exact hit
  refine ⟨⟨p + 1, x * base + d, moreN x base d, hp, hn, rfl, fun h => ?_, more_is _ _ _, hi, ?_, ?_, by simpa using f0, by simpa using f1, ?_, ?_, by simpa using g0, by simpa using g1, ?_, by simpa using hsz⟩, iterPos_of hi⟩
  · unfold bigB at h; simp only [decide_eq_false_iff_not] at h
    exact Nat.mod_eq_of_lt (by omega)
  · rw [World.cell?_setCell_other _ _ _ _ (by intro e; cases e), World.cell?_setCell_same _ _ _ c0]
  · rw [World.cell?_setCell_same _ _ _ (u := .int .u64 (loOf x))]
    rw [World.cell?_setCell_other _ _ _ _ (by intro e; cases e)]; exact c1
  · rw [World.cell?_setCell_other _ _ _ _ (by intro e; injection e with e _ _; omega), World.cell?_setCell_other _ _ _ _ (by intro e; injection e with e _ _; omega)]; exact r0
  · rw [World.cell?_setCell_other _ _ _ _ (by intro e; injection e with e _ _; omega), World.cell?_setCell_other _ _ _ _ (by intro e; injection e with e _ _; omega)]; exact r1
  · exact (hbel.setCell (by simp) _).setCell (by simp) _

end Go.Proofs.Ytdpddlaedffmdaa
