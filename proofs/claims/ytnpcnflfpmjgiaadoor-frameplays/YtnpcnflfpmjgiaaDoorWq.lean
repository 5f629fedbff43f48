/- A disk beside a row of frames and frames in boxes: what calls on the disk leave of all. -/
import Derived.Test.YtnpcnflfpmjgiaaDoorHp
namespace Go.Proofs.YtnpcnflfpmjgiaaDoor
open Go.RowKit
set_option linter.unusedVariables false
set_option linter.unusedSimpArgs false

/-- The cells of frames. -/
def frs (l : List Fr) : List Value := l.flatMap (fun f => [.int .i64 f.kind, .int .u64 f.num, .int .i64 f.idx, .string f.body])
theorem frs_append (l m : List Fr) : frs (l ++ m) = frs l ++ frs m := by simp [frs]
theorem frs_length (l : List Fr) : (frs l).length = l.length * 4 := by
  induction l with
  | nil => rfl
  | cons f l ih => show (_ ++ frs l).length = _; rw [List.length_append, ih]; simp; omega
theorem frs_at (l : List Fr) (i : Nat) (f : Fr) (h : l[i]? = some f) : (frs l)[i * 4]? = some (.int .i64 f.kind) ∧ (frs l)[i * 4 + 1]? = some (.int .u64 f.num) ∧ (frs l)[i * 4 + 2]? = some (.int .i64 f.idx) ∧ (frs l)[i * 4 + 3]? = some (.string f.body) := by
  induction l generalizing i with
  | nil => simp at h
  | cons g l ih =>
    have e : frs (g :: l) = [.int .i64 g.kind, .int .u64 g.num, .int .i64 g.idx, .string g.body] ++ frs l := rfl
    cases i with
    | zero => obtain rfl := Option.some.inj h; exact ⟨rfl, rfl, rfl, rfl⟩
    | succ i =>
      have := ih i (by simpa using h)
      rw [e, show (i + 1) * 4 = i * 4 + 4 by omega]
      refine ⟨?_, ?_, ?_, ?_⟩
      · rw [List.getElem?_append_right (by simp)]; simpa using this.1
      · rw [List.getElem?_append_right (by simp)]; simpa [show i * 4 + 4 + 1 - 4 = i * 4 + 1 by omega] using this.2.1
      · rw [List.getElem?_append_right (by simp)]; simpa [show i * 4 + 4 + 2 - 4 = i * 4 + 2 by omega] using this.2.2.1
      · rw [List.getElem?_append_right (by simp)]; simpa [show i * 4 + 4 + 3 - 4 = i * 4 + 3 by omega] using this.2.2.2
/-- Frames in memory that came as an argument. -/
def FrM (w : World) (bb off : Nat) (l : List Fr) : Prop := ∀ (i : Nat) (f : Fr), l[i]? = some f → w.cell? ⟨bb, off + i * 4, none⟩ = some (.int .i64 f.kind) ∧ w.cell? ⟨bb, off + i * 4 + 1, none⟩ = some (.int .u64 f.num) ∧ w.cell? ⟨bb, off + i * 4 + 2, none⟩ = some (.int .i64 f.idx) ∧ w.cell? ⟨bb, off + i * 4 + 3, none⟩ = some (.string f.body)
theorem FrM.kept {S : Nat → Prop} {w w' : World} {bb off : Nat} {l : List Fr} (h : FrM w bb off l) (hk : Kept S w w') (hn : ¬ S bb) : FrM w' bb off l := fun i f hf => by
  obtain ⟨h0, h1, h2, h3⟩ := h i f hf
  exact ⟨hk.cell h0 hn, hk.cell h1 hn, hk.cell h2 hn, hk.cell h3 hn⟩
/-- A disk, a row of frames, boxes. -/
structure Wl (B b : Nat) (fp : Nat → Prop) (w wx : World) (S : DS) (pv : Value) (l : List Fr) (bs : List (Nat × Fr)) : Prop where
  ex : ∃ fp', Dk B wx b fp' S ∧ (∀ k, fp' k → fp k ∨ w.heap.size ≤ k) ∧ (∀ k, pv.ownBlock = some k → ¬ fp' k) ∧ (∀ x ∈ bs, Blk wx x.1 (frC x.2) 24 ∧ ¬ fp' x.1 ∧ pv.ownBlock ≠ some x.1 ∧ w.heap.size ≤ x.1)
  kept : Kept fp w wx
  row : wx.ownsRow w.heap.size 24 4 pv l.length (frs l)
section
variable {B b : Nat} {fp : Nat → Prop} {w wx : World} {S : DS} {pv : Value} {l : List Fr} {bs : List (Nat × Fr)}
theorem Wl.start (d : Dk B w b fp S) : Wl B b fp w w S (.slice none 0 0) [] [] :=
  ⟨⟨fp, d, fun k h => .inl h, fun k h => by simp [Value.ownBlock] at h, fun x hx => by simp at hx⟩, Kept.refl _ _, World.ownsRow_nil _ _ _ _⟩
theorem Wl.left (h : Wl B b fp w wx S pv l bs) : Left B b fp w S wx := by
  obtain ⟨fp', d, hn, _⟩ := h.ex
  exact ⟨fp', d, h.kept, hn⟩
theorem Wl.blk (h : Wl B b fp w wx S pv l bs) {x : Nat × Fr} (hx : x ∈ bs) : Blk wx x.1 (frC x.2) 24 := by
  obtain ⟨fp', d, _, _, hb⟩ := h.ex
  exact (hb x hx).1
theorem Wl.below (h : Wl B b fp w wx S pv l bs) {wy : World} (hb : Below wx.heap.size wx wy) : Wl B b fp w wy S pv l bs := by
  obtain ⟨fp', d, h1, h2, h3⟩ := h.ex
  exact ⟨⟨fp', d.below hb, h1, h2, fun x hx => ⟨(h3 x hx).1.below hb, (h3 x hx).2⟩⟩, h.kept.trans (Kept.of_below hb), ownsRow_kept (S := fun _ => False) h.row (Kept.of_below hb) (fun _ _ => id)⟩
theorem Wl.less (h : Wl B b fp w wx S pv l bs) {cs : List (Nat × Fr)} (hs : ∀ x ∈ cs, x ∈ bs) : Wl B b fp w wx S pv l cs := by
  obtain ⟨fp', d, h1, h2, h3⟩ := h.ex
  exact ⟨⟨fp', d, h1, h2, fun x hx => h3 x (hs x hx)⟩, h.kept, h.row⟩
/-- A new box. -/
theorem Wl.box (h : Wl B b fp w wx S pv l bs) (f : Fr) : Wl B b fp w (wx.alloc (.cells (frC f) 24)) S pv l ((wx.heap.size, f) :: bs) := by
  have hb : Below wx.heap.size wx (wx.alloc (.cells (frC f) 24)) := (Below.refl _ _).alloc (Nat.le_refl _) _
  have hz := h.kept.size
  have hr := h.row
  obtain ⟨fp', d, h1, h2, h3⟩ := h.ex
  refine ⟨⟨fp', d.below hb, h1, h2, fun x hx => ?_⟩, h.kept.trans (Kept.of_below hb), ownsRow_kept (S := fun _ => False) hr (Kept.of_below hb) (fun _ _ => id)⟩
  rcases List.mem_cons.1 hx with rfl | hx
  · exact ⟨Blk.new _ _ _, fun e => by have := (d.fp _ e).2; omega, fun e => by have := (hr.lt _ e).2; omega, hz⟩
  · exact ⟨(h3 x hx).1.below hb, (h3 x hx).2⟩
/-- A call on the disk. -/
theorem Wl.after (h : Wl B b fp w wx S pv l bs) {P : Program} {F : Nat} {args : Array Value} {E : Ending → Prop} {S' : DS} (C : ∀ fp', Dk B wx b fp' S → Calls P F args wx fun e w' => E e ∧ Left B b fp' wx S' w') :
    Calls P F args wx fun e w' => E e ∧ Wl B b fp w w' S' pv l bs := by
  have hr := h.row
  have hz := h.kept.size
  obtain ⟨fp', d, h1, h2, h3⟩ := h.ex
  refine (C fp' d).mono ?_
  rintro e w' ⟨he, fp2, d2, k2, n2⟩
  refine ⟨he, ⟨fp2, d2, fun k q => ?_, fun k q r => ?_, fun x hx => ?_⟩, ?_, ?_⟩
  · rcases n2 k q with q | q
    · exact h1 k q
    · exact .inr (by omega)
  · rcases n2 k r with r | r
    · exact h2 k q r
    · have := (hr.lt k q).2; omega
  · obtain ⟨b1, b2, b3, b4⟩ := h3 x hx
    refine ⟨b1.kept k2 b2, fun r => ?_, b3, b4⟩
    rcases n2 _ r with r | r
    · exact b2 r
    · have := b1.lt; omega
  · have hk := h.kept
    refine ⟨k2.os.trans hk.os, k2.tape.trans hk.tape, k2.output.trans hk.output, Nat.le_trans hk.size k2.size, fun i hi hs => ?_⟩
    refine (k2.block i (Nat.lt_of_lt_of_le hi hk.size) (fun e => ?_)).trans (hk.block i hi hs)
    rcases h1 i e with q | q
    · exact hs q
    · omega
  · exact ownsRow_kept hr k2 (fun k e => h2 k e)
/-- A frame is put behind the row. -/
theorem Wl.push (h : Wl B b fp w wx S pv l bs) {w6 : World} (f : Fr) (g cap : Nat) (hown : w6.ownsRow w.heap.size 24 4 (.slice (some ⟨g, 0, none⟩) (l.length + 1) cap) (l.length + 1) (frs l ++ [.int .i64 f.kind, .int .u64 f.num, .int .i64 f.idx, .string f.body])) (hgr : wx.grownBy w6 pv.ownBlock) (hwh : pv.ownBlock = some g ∨ g = wx.heap.size) :
    Wl B b fp w w6 S (.slice (some ⟨g, 0, none⟩) (l.length + 1) cap) (l ++ [f]) bs := by
  have hk : Kept (fun k => pv.ownBlock = some k) wx w6 := (Kept.refl _ _).grown hgr (fun k e => e)
  have hr := h.row
  have hz := h.kept.size
  obtain ⟨fp', d, h1, h2, h3⟩ := h.ex
  refine ⟨⟨fp', d.kept hk (fun k q e => h2 k e q), h1, fun k q r => ?_, fun x hx => ?_⟩, ?_, ?_⟩
  · simp [Value.ownBlock] at q
    subst q
    rcases hwh with q | q
    · exact h2 _ q r
    · have := (d.fp _ r).2; omega
  · obtain ⟨b1, b2, b3, b4⟩ := h3 x hx
    refine ⟨b1.kept hk b3, b2, fun e => ?_, b4⟩
    simp [Value.ownBlock] at e
    rcases hwh with q | q
    · exact b3 (e ▸ q)
    · have := b1.lt; omega
  · have hk0 := h.kept
    exact ⟨hk.os.trans hk0.os, hk.tape.trans hk0.tape, hk.output.trans hk0.output, Nat.le_trans hk0.size hk.size, fun i hi hs => (hk.block i (by omega) (fun e => by have := (hr.lt i e).1; omega)).trans (hk0.block i hi hs)⟩
  · rw [List.length_append, frs_append]; exact hown
end
end Go.Proofs.YtnpcnflfpmjgiaaDoor
