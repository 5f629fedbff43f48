/- Two disks beside one another, the program's and the document's: settled, read. -/
import Derived.Test.YtnpcnflfpmjgiaaDoorRg
import Derived.Test.YtnpcnflfpmjgiaaDoorCk
namespace Go.Proofs.YtnpcnflfpmjgiaaDoor
open Go.RowKit
set_option linter.unusedVariables false
set_option linter.unusedSimpArgs false

structure Two (B : Nat) (w : World) (a b : Nat) (fa fb : Nat → Prop) (S T : DS) : Prop where
  da : Dk B w a fa S
  db : Rk B w b fb T
  dis : ∀ k, fa k → ¬ fb k
def TL (B a b : Nat) (fa fb : Nat → Prop) (w : World) (S T : DS) (w' : World) : Prop := ∃ fa' fb', Two B w' a b fa' fb' S T ∧ Kept (fun k => fa k ∨ fb k) w w' ∧ ∀ k, (fa' k ∨ fb' k) → (fa k ∨ fb k) ∨ w.heap.size ≤ k
section
variable {B : Nat} {w w' w'' : World} {a b : Nat} {fa fb : Nat → Prop} {S T S' T' : DS}
theorem Two.kept {K : Nat → Prop} (t : Two B w a b fa fb S T) (hk : Kept K w w') (hn : ∀ k, (fa k ∨ fb k) → ¬ K k) : Two B w' a b fa fb S T := ⟨t.da.kept hk (fun k h => hn k (.inl h)), t.db.kept hk (fun k h => hn k (.inr h)), t.dis⟩
theorem Two.below (t : Two B w a b fa fb S T) (hb : Below w.heap.size w w') : Two B w' a b fa fb S T := ⟨t.da.below hb, t.db.below hb, t.dis⟩
theorem Two.low (t : Two B w a b fa fb S T) : ∀ k, (fa k ∨ fb k) → B ≤ k ∧ k < w.heap.size := fun k h => h.elim (t.da.fp k) (t.db.fp k)
theorem Two.stepA (t : Two B w a b fa fb S T) (h : Left B a fa w S' w') : TL B a b fa fb w S' T w' := by
  obtain ⟨fa', d', hk, hn⟩ := h
  refine ⟨fa', fb, ⟨d', t.db.kept hk (fun k hb ha => t.dis k ha hb), fun k ha hb => ?_⟩, hk.mono (fun k _ h => .inl h), fun k h => ?_⟩
  · rcases hn k ha with h | h
    · exact t.dis k h hb
    · have := (t.db.fp k hb).2; omega
  · rcases h with h | h
    · exact (hn k h).elim (fun x => .inl (.inl x)) .inr
    · exact .inl (.inr h)
theorem Two.stepB (t : Two B w a b fa fb S T) (h : RLeft B b fb w T' w') : TL B a b fa fb w S T' w' := by
  obtain ⟨fb', d', hk, hn⟩ := h
  refine ⟨fa, fb', ⟨t.da.kept hk (fun k ha hb => t.dis k ha hb), d', fun k ha hb => ?_⟩, hk.mono (fun k _ h => .inr h), fun k h => ?_⟩
  · rcases hn k hb with h | h
    · exact t.dis k ha h
    · have := (t.da.fp k ha).2; omega
  · rcases h with h | h
    · exact .inl (.inl h)
    · exact (hn k h).elim (fun x => .inl (.inr x)) .inr
theorem TL.refl (t : Two B w a b fa fb S T) : TL B a b fa fb w S T w := ⟨fa, fb, t, Kept.refl _ _, fun k h => .inl h⟩
theorem TL.trans {fa1 fb1 : Nat → Prop} (hk : Kept (fun k => fa k ∨ fb k) w w') (hn : ∀ k, (fa1 k ∨ fb1 k) → (fa k ∨ fb k) ∨ w.heap.size ≤ k) (h : TL B a b fa1 fb1 w' S T w'') : TL B a b fa fb w S T w'' := by
  obtain ⟨fa2, fb2, t, hk2, hn2⟩ := h
  refine ⟨fa2, fb2, t, ⟨hk2.os.trans hk.os, hk2.tape.trans hk.tape, hk2.output.trans hk.output, Nat.le_trans hk.size hk2.size, fun i hi hs => (hk2.block i (Nat.lt_of_lt_of_le hi hk.size) (fun h => ?_)).trans (hk.block i hi hs)⟩, fun k h => ?_⟩
  · rcases hn i h with x | x
    · exact hs x
    · omega
  · rcases hn2 k h with x | x
    · exact hn k x
    · exact .inr (Nat.le_trans hk.size x)
theorem TL.then (h : TL B a b fa fb w S T w') (hb : Below w'.heap.size w' w'') : TL B a b fa fb w S T w'' := by
  obtain ⟨fa', fb', t, hk, hn⟩ := h
  exact ⟨fa', fb', t.below hb, hk.trans (Kept.of_below hb), hn⟩
theorem TL.start (t : Two B w' a b fa fb S' T') (hb : Below w.heap.size w w') (hl : ∀ k, (fa k ∨ fb k) → k < w.heap.size) (h : TL B a b fa fb w' S T w'') : TL B a b fa fb w S T w'' := TL.trans (Kept.of_below hb) (fun k h => .inl h) h
theorem Below_new (w : World) (o : Obj) : Below w.heap.size w (w.alloc o) := (Below.refl _ _).alloc (Nat.le_refl _) _
end
theorem catL_secs (s : ByteArray) (m : Nat) (hs : s.size = m * 512) : ∀ k, k ≤ m → catL (secs s k) = s.data.toList.take (k * 512) := by
  intro k
  induction k with
  | zero => intro _; simp [secs, catL]
  | succ k ih =>
    intro hk
    rw [secs_succ, catL_snoc, ih (by omega)]
    have e : (sec s k).data.toList = (s.data.toList.take ((k + 1) * 512)).drop (k * 512) := by
      unfold sec
      rw [ByteArray.data_extract]
      simp [List.drop_take]
    rw [e]
    have h2 : s.data.toList.take (k * 512) = (s.data.toList.take ((k + 1) * 512)).take (k * 512) := by rw [List.take_take, show min (k * 512) ((k + 1) * 512) = k * 512 by omega]
    rw [h2, List.take_append_drop]
theorem catB_secs (s : ByteArray) (m : Nat) (hs : s.size = m * 512) : catB (secs s m) = s := by
  have h : s.data.toList.length = s.size := by simp
  unfold catB
  rw [catL_secs s m hs m (Nat.le_refl _), List.take_of_length_le (by omega)]
end Go.Proofs.YtnpcnflfpmjgiaaDoor
