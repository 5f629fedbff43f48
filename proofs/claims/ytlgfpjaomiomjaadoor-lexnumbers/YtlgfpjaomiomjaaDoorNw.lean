/- The walk of LexNames. -/
import Derived.Test.YtlgfpjaomiomjaaDoorNb
namespace Go.Proofs.YtlgfpjaomiomjaaDoor
open Go.RowKit
set_option linter.unusedVariables false
set_option linter.unusedSimpArgs false

theorem SRow.kept {S : Nat → Prop} {w w' : World} {g : Nat} {l : List (List UInt8)} (h : SRow w g l) (hk : Kept S w w') (hs : ¬ S g) (hg : g < w.heap.size) : SRow w' g l :=
  ⟨fun k t ht => hk.cell (h.1 k t ht) hs, fun k => (hk.frozen (p := ⟨g, k, none⟩) hg hs).trans (h.2 k)⟩
theorem SRow.below {w w' : World} {g : Nat} {l : List (List UInt8)} (h : SRow w g l) (hb : Below w.heap.size w w') (hg : g < w.heap.size) : SRow w' g l := h.kept (S := fun _ => False) (Kept.of_below hb) id hg
/-- Tokens, as LexNames asks it. -/
theorem tok_names (s : ByteArray) (hs : s.size ≤ maxLen) (w : World) (hT : Tabs w) : Calls Tryd.prog 10 #[.string s] w fun e w' => ∃ ad n cap F, e = .returned (.tuple #[.slice ad n cap, .agg (fltA F)]) ∧
    ((nameB s.data.toList = false ∧ ((n : Int) == 1) = false) ∨ (n = 1 ∧ F.1 = 0 ∧ ∃ (g : Nat) (kd : Nat) (tx : ByteArray), ad = some ⟨g, 0, none⟩ ∧ g < w'.heap.size ∧ w'.cell? ⟨g, 0, none⟩ = some (.int .i64 (kd : Int)) ∧ w'.cell? ⟨g, 1, none⟩ = some (.string tx) ∧ nameB s.data.toList = (((kd : Int) == 1) && (tx.toList == s.toList)))) ∧ Below w.heap.size w w' := by
  refine (tokens_any s hs w hT).mono ?_
  rintro e w' ⟨sv, rfl, hrow, hb⟩
  obtain ⟨ad, cap, rfl, hc⟩ := toks_of_row hrow
  refine ⟨ad, _, cap, _, rfl, ?_, hb⟩
  have hnw := name_word s.data.toList
  by_cases h1 : (tokR s.data.toList).1.length = 1
  · right
    have h2 : (tokR s.data.toList).2.1 = 0 := by
      unfold tokR at *
      split at h1
      · simp at h1
      · split at h1
        · rename_i a b; rw [if_neg a, if_pos b]
        · simp at h1
    obtain ⟨t, ht⟩ : ∃ t, (tokR s.data.toList).1[0]? = some t := ⟨_, List.getElem?_eq_getElem (by omega)⟩
    obtain ⟨g, rfl, c0⟩ := hc 0 0 t _ ht rfl
    obtain ⟨g', eg, c1⟩ := hc 0 1 t _ ht rfl
    injection eg with eg
    injection eg with eg
    subst eg
    refine ⟨h1, h2, g, t.kind, ⟨t.text.toArray⟩, rfl, World.block_lt_of_cell? _ _ c0, c0, c1, ?_⟩
    rw [Bool.eq_iff_iff, hnw]
    simp only [Bool.and_eq_true, beq_iff_eq]
    have hx : ((⟨t.text.toArray⟩ : ByteArray).toList = s.toList) ↔ t.text = s.data.toList := by
      rw [ByteArray.toList_eq, ByteArray.toList_eq]
    rw [hx]
    constructor
    · rintro ⟨_, _, t', ht', k', x'⟩
      rw [ht] at ht'
      injection ht' with ht'
      subst ht'
      exact ⟨by omega, x'⟩
    · rintro ⟨a, b⟩
      exact ⟨h1, h2, t, ht, by omega, b⟩
  · left
    refine ⟨?_, by simpa using fun h => h1 (by omega)⟩
    rw [Bool.eq_false_iff]
    intro h
    exact h1 (hnw.1 h).1
/-- Tokens of a reserved word. -/
theorem tok_res (t : List UInt8) (ht : t ∈ resL) (w : World) (hT : Tabs w) : Calls Tryd.prog 10 #[.string ⟨t.toArray⟩] w fun e w' => ∃ g cap F, e = .returned (.tuple #[.slice (some ⟨g, 0, none⟩) 1 cap, .agg (fltA F)]) ∧ F.1 = 0 ∧ g < w'.heap.size ∧ w'.cell? ⟨g, 0, none⟩ = some (.int .i64 2) ∧ Below w.heap.size w w' := by
  obtain ⟨_, h1, h2, h3⟩ := res_words t ht
  have hl : ∀ t ∈ resL, t.length ≤ 7 := by decide
  refine (tokens_any ⟨t.toArray⟩ (by show t.toArray.size ≤ _; have := hl t ht; unfold maxLen; simp; omega) w hT).mono ?_
  rintro e w' ⟨sv, rfl, hrow, hb⟩
  obtain ⟨ad, cap, rfl, hc⟩ := toks_of_row hrow
  change ∀ (i j : Nat) (u : Tk) (v : Value), (tokR t).1[i]? = some u → _ at hc
  cases h4 : (tokR t).1[0]? with
  | none => rw [h4] at h3; cases h3
  | some u =>
    rw [h4] at h3
    simp only [Option.map_some, Option.some.injEq] at h3
    obtain ⟨g, rfl, c0⟩ := hc 0 0 u (.int .i64 2) h4 (by simp [tkV, h3])
    refine ⟨g, cap, (tokR t).2, ?_, h2, World.block_lt_of_cell? _ _ c0, c0, hb⟩
    show Ending.returned (.tuple #[.slice _ (tokR t).1.length cap, _]) = _
    rw [h1]
/-- The lists of reserved words, and where they lie. -/
structure Rws (w wr : World) (b9 b10 b11 : Nat) : Prop where
  want : SRow wr b9 resL
  two : SRow wr b11 resL
  ne1 : b9 ≠ b10
  ne2 : b11 ≠ b10
  lt9 : b9 < wr.heap.size
  lt10 : b10 < wr.heap.size
  lt11 : b11 < wr.heap.size
  low : w.heap.size ≤ b10
  one : ∀ k, k < 29 → ∃ v, wr.cell? ⟨b10, k, none⟩ = some v
  onef : ∀ k, wr.frozen? ⟨b10, k, none⟩ = false
  bel : Below w.heap.size w wr
theorem Rws.set {w wr : World} {b9 b10 b11 : Nat} (h : Rws w wr b9 b10 b11) (k : Nat) (v : Value) : Rws w (wr.setCell ⟨b10, k, none⟩ v) b9 b10 b11 := by
  have hk : Kept (fun k => k = b10) wr (wr.setCell ⟨b10, k, none⟩ v) := Kept.set (S := fun k => k = b10) (Kept.refl _ _) rfl _
  refine ⟨h.want.kept hk h.ne1 h.lt9, h.two.kept hk h.ne2 h.lt11, h.ne1, h.ne2, by simpa using h.lt9, by simpa using h.lt10, by simpa using h.lt11, h.low, fun j hj => ?_, fun j => by simpa using h.onef j, h.bel.setCell h.low _⟩
  obtain ⟨u, hu⟩ := h.one j hj
  by_cases e : j = k
  · subst e; exact ⟨v, World.cell?_setCell_same _ _ _ hu⟩
  · exact ⟨u, by rw [World.cell?_setCell_other _ _ _ _ (by intro x; injection x with _ x _; exact e x.symm)]; exact hu⟩
theorem Rws.below {w wr wx : World} {b9 b10 b11 : Nat} (h : Rws w wr b9 b10 b11) (hb : Below wr.heap.size wr wx) : Rws w wx b9 b10 b11 := by
  have hs := hb.size
  refine ⟨h.want.below hb h.lt9, h.two.below hb h.lt11, h.ne1, h.ne2, Nat.lt_of_lt_of_le h.lt9 hs, Nat.lt_of_lt_of_le h.lt10 hs, Nat.lt_of_lt_of_le h.lt11 hs, h.low, fun j hj => ?_, fun j => ?_, bst h.bel hb (by have := h.bel.size; omega)⟩
  · obtain ⟨u, hu⟩ := h.one j hj
    exact ⟨u, by rw [hb.cell (p := ⟨b10, j, none⟩) h.lt10]; exact hu⟩
  · rw [hb.frozen (p := ⟨b10, j, none⟩) h.lt10]; exact h.onef j
end Go.Proofs.YtlgfpjaomiomjaaDoor
