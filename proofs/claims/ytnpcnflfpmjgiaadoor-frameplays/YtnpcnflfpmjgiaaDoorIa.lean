/- A list of pairs of disks. -/
import Derived.Test.YtnpcnflfpmjgiaaDoorDa
namespace Go.Proofs.YtnpcnflfpmjgiaaDoor
open Go.RowKit
set_option linter.unusedVariables false
set_option linter.unusedSimpArgs false

def pcells : List (Nat × Nat) → List Value
  | [] => []
  | p :: l => .pointer (some ⟨p.1, 0, none⟩) :: .pointer (some ⟨p.2, 0, none⟩) :: pcells l
theorem pcells_at (l : List (Nat × Nat)) : ∀ (i : Nat) (p : Nat × Nat), l[i]? = some p → (pcells l)[i * 2]? = some (.pointer (some ⟨p.1, 0, none⟩)) ∧ (pcells l)[i * 2 + 1]? = some (.pointer (some ⟨p.2, 0, none⟩)) := by
  induction l with
  | nil => intro i p h; simp at h
  | cons q l ih =>
    intro i p h
    cases i with
    | zero => simp at h; subst h; exact ⟨rfl, rfl⟩
    | succ i =>
      have := ih i p (by simpa using h)
      rw [show (i + 1) * 2 = i * 2 + 2 by omega]
      exact this
structure Fld (B : Nat) (w : World) (v : Value) (ps : List (Nat × Nat)) (fs gs : Nat → (Nat → Prop)) (Ss : Nat → DS) (m : Nat) : Prop where
  row : w.ownsRow B 43 2 v ps.length (pcells ps)
  two : ∀ (i : Nat) (p : Nat × Nat), ps[i]? = some p → Two B w p.1 p.2 (fs i) (gs i) (Ss i) (Ss i) ∧ (Ss i).wait.length ≤ m
  dis : ∀ (i j k : Nat), i < ps.length → j < ps.length → i ≠ j → (fs i k ∨ gs i k) → ¬ (fs j k ∨ gs j k)
  far : ∀ (i k : Nat), i < ps.length → v.ownBlock = some k → ¬ (fs i k ∨ gs i k)
def All (B : Nat) (w : World) (v : Value) (ps : List (Nat × Nat)) (m : Nat) : Prop := ∃ fs gs Ss, Fld B w v ps fs gs Ss m
theorem Fld.below {B m : Nat} {w w' : World} {v : Value} {ps : List (Nat × Nat)} {fs gs : Nat → (Nat → Prop)} {Ss : Nat → DS} (h : Fld B w v ps fs gs Ss m) (hb : Below w.heap.size w w') : Fld B w' v ps fs gs Ss m :=
  ⟨ownsRow_kept (S := fun _ => False) h.row (Kept.of_below hb) (fun _ _ => id), fun i p hp => ⟨(h.two i p hp).1.below hb, (h.two i p hp).2⟩, h.dis, h.far⟩
theorem All.below {B m : Nat} {w w' : World} {v : Value} {ps : List (Nat × Nat)} (h : All B w v ps m) (hb : Below w.heap.size w w') : All B w' v ps m := by
  obtain ⟨fs, gs, Ss, h⟩ := h
  exact ⟨fs, gs, Ss, h.below hb⟩
theorem Fld.step {B m : Nat} {w w' : World} {v : Value} {ps : List (Nat × Nat)} {fs gs : Nat → (Nat → Prop)} {Ss : Nat → DS} (h : Fld B w v ps fs gs Ss m) (i : Nat) (p : Nat × Nat) (hp : ps[i]? = some p) {S' : DS} (ht : TL B p.1 p.2 (fs i) (gs i) w S' S' w') (hw : S'.wait.length ≤ (Ss i).wait.length + 1) : All B w' v ps (m + 1) := by
  obtain ⟨fa', fb', t', hk, hn⟩ := ht
  have hi : i < ps.length := (List.getElem?_eq_some_iff.1 hp).1
  refine ⟨fun j => if j = i then fa' else fs j, fun j => if j = i then fb' else gs j, fun j => if j = i then S' else Ss j, ⟨ownsRow_kept h.row hk (fun k e => h.far i k hi e), ?_, ?_, ?_⟩⟩
  · intro j q hq
    by_cases e : j = i
    · subst e
      rw [hp] at hq; injection hq with hq; subst hq
      simp only [if_true]
      have := (h.two j p hp).2
      exact ⟨t', by omega⟩
    · simp only [if_neg e]
      have hj : j < ps.length := (List.getElem?_eq_some_iff.1 hq).1
      have := h.two j q hq
      exact ⟨this.1.kept hk (fun k => h.dis j i k hj hi e), by omega⟩
  · intro j l k hj hl hne
    by_cases e : j = i
    · subst e
      simp only [if_true, if_neg (Ne.symm hne)]
      intro h1 h2
      rcases hn k h1 with x | x
      · exact h.dis j l k hj hl hne x h2
      · have := ((h.two l _ (List.getElem?_eq_getElem hl)).1.low k h2).2; omega
    · by_cases e2 : l = i
      · subst e2
        simp only [if_true, if_neg e]
        intro h1 h2
        rcases hn k h2 with x | x
        · exact h.dis j l k hj hl hne h1 x
        · have := ((h.two j _ (List.getElem?_eq_getElem hj)).1.low k h1).2; omega
      · simp only [if_neg e, if_neg e2]
        exact h.dis j l k hj hl hne
  · intro j k hj hv
    by_cases e : j = i
    · subst e
      simp only [if_true]
      intro h1
      rcases hn k h1 with x | x
      · exact h.far j k hj hv x
      · have := (h.row.lt k hv).2; omega
    · simp only [if_neg e]
      exact h.far j k hj hv
theorem TL_low {B a b : Nat} {fa fb : Nat → Prop} {w w' : World} {S T S' T' : DS} (t : Two B w a b fa fb S T) (h : TL B a b fa fb w S' T' w') (hB : B ≤ w.heap.size) : Below B w w' := by
  obtain ⟨_, _, _, hk, _⟩ := h
  exact hk.below hB (fun k h => (t.low k h).1)
end Go.Proofs.YtnpcnflfpmjgiaaDoor
