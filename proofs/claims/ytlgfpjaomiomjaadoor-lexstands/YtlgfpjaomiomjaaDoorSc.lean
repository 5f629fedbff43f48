/- Word by word through a text: plain lists. -/
import Derived.Test.YtlgfpjaomiomjaaDoorSb
namespace Go.Proofs.YtlgfpjaomiomjaaDoor
open Go.RowKit
set_option linter.unusedVariables false
set_option linter.unusedSimpArgs false

abbrev plc (l : List UInt8) (k : Nat) : Nat × Nat := past (1, 1) (l.take k)
/-- The words from the i-th on are those of the text from a place on. -/
structure Stand (l : List UInt8) (ts : List Tk) (i k : Nat) : Prop where
  words : (lexF ((l.drop k).length + 1) (plc l k) (l.drop k)).1 = ts.drop i
  code : (lexF ((l.drop k).length + 1) (plc l k) (l.drop k)).2.1 = 0
  le : k ≤ l.length
theorem stand_first {l : List UInt8} (h : (tokR l).2.1 = 0) : Stand l (tokR l).1 0 0 := by
  obtain ⟨_, h2, h3⟩ := tok_code h
  refine ⟨?_, ?_, by omega⟩
  · rw [h3]; simp only [List.drop_zero]; rfl
  · simp only [List.drop_zero]; exact h2
theorem plc_add (l : List UInt8) (k g : Nat) : past (plc l k) ((l.drop k).take g) = plc l (k + g) := by
  unfold plc
  rw [← past_append, ← List.take_add]
/-- One word more. -/
theorem stand_step {l : List UInt8} {ts : List Tk} {i k : Nat} (h : Stand l ts i k) (hl : l.length ≤ 65536) {t : Tk} (ht : ts[i]? = some t) :
    ∃ g, k + g + t.text.length ≤ l.length ∧ 1 ≤ t.text.length ∧ t.text = (l.drop (k + g)).take t.text.length ∧ (t.line, t.col) = plc l (k + g) ∧ blkB ((l.drop k).take g) false = true ∧ plc l (k + g + t.text.length) = ((plc l (k + g)).1, (plc l (k + g)).2 + t.text.length) ∧
      tokR t.text = ([⟨t.kind, t.text, t.val, 1, 1⟩], (0, 0, 0)) ∧ Stand l ts (i + 1) (k + g + t.text.length) := by
  have hle := h.le
  have hld : (l.drop k).length = l.length - k := List.length_drop
  have hw := h.words
  have hc := h.code
  have hd : ts.drop i = t :: ts.drop (i + 1) := by
    obtain ⟨hi, e⟩ := List.getElem?_eq_some_iff.1 ht
    rw [List.drop_eq_getElem_cons hi, e]
  rw [hd] at hw
  by_cases h0 : (l.drop k).drop (gapL false (l.drop k)) = []
  · rw [lex_end h0] at hw; cases hw
  by_cases he : (firstW ((l.drop k).drop (gapL false (l.drop k)))).e = 0
  rotate_left
  · rw [lex_fault rfl h0 he] at hw; cases hw
  rw [lex_word rfl h0 rfl he rfl] at hw hc
  have hg := gap_le (l.drop k) false
  obtain ⟨t1, t2⟩ := firstW_text _ he
  have t3 := firstW_len _ he
  have hten := first_ten _ he
  have hself := tok_self _ (gap_self (l.drop k) _ rfl) he (by rw [List.length_drop] at t3; omega)
  obtain ⟨m', b1, b2⟩ := blk_gap (l.drop k) false
  have hlt : gapL false (l.drop k) < (l.drop k).length := by
    apply Classical.byContradiction; intro hn
    exact h0 (List.drop_eq_nil_of_le (by omega))
  generalize gapL false (l.drop k) = g at *
  rw [List.drop_drop] at *
  generalize firstW (l.drop (k + g)) = x at *
  injection hw with hw1 hw2
  subst hw1
  rw [List.length_drop] at t3
  have hbm := b2 hlt
  subst hbm
  refine ⟨g, by simp only; omega, t1, t2, ?_, ?_, ?_, hself, ?_, ?_, by simp only; omega⟩
  · rw [← plc_add]
  · unfold blkB; rw [b1]; rfl
  · simp only
    rw [← plc_add l (k + g) x.text.length, ← t2, past_plain _ _ hten]
  · simp only
    have ep : past (past (plc l k) ((l.drop k).take g)) x.text = plc l (k + g + x.text.length) := by
      rw [plc_add, ← plc_add l (k + g) x.text.length, ← t2]
    rw [ep, List.drop_drop] at hw2
    rw [← hw2]
    congr 1
    exact lex_fuel _ _ _ _ (by rw [List.length_drop]; omega) (by rw [List.length_drop, List.length_drop]; omega)
  · simp only
    have ep : past (past (plc l k) ((l.drop k).take g)) x.text = plc l (k + g + x.text.length) := by
      rw [plc_add, ← plc_add l (k + g) x.text.length, ← t2]
    rw [ep, List.drop_drop] at hc
    simp only at hc
    rw [← hc]
    congr 2
    exact lex_fuel _ _ _ _ (by rw [List.length_drop]; omega) (by rw [List.length_drop, List.length_drop]; omega)
theorem stand_last {l : List UInt8} {ts : List Tk} {k : Nat} (h : Stand l ts ts.length k) : blkB (l.drop k) true = true := by
  have hw := h.words
  have hc := h.code
  rw [List.drop_length] at hw
  by_cases h0 : (l.drop k).drop (gapL false (l.drop k)) = []
  · obtain ⟨m', b1, _⟩ := blk_gap (l.drop k) false
    rw [gap_full h0, List.take_length] at b1
    unfold blkB; rw [b1]; simp
  · by_cases he : (firstW ((l.drop k).drop (gapL false (l.drop k)))).e = 0
    · rw [lex_word rfl h0 rfl he rfl] at hw; cases hw
    · rw [lex_fault rfl h0 he] at hc
      exact absurd hc he
/-- Ahead of a place the places are smaller. -/
theorem plc_ahead (l : List UInt8) {k K : Nat} (h : k < K) (hK : K ≤ l.length) : (plc l k).1 < (plc l K).1 ∨ (plc l k).2 < (plc l K).2 := by
  obtain ⟨g, rfl⟩ : ∃ g, K = k + g := ⟨K - k, by omega⟩
  rw [← plc_add l k g]
  have hne : (l.drop k).take g ≠ [] := fun e => by
    have := congrArg List.length e
    rw [List.length_take, List.length_drop] at this
    simp at this; omega
  rcases past_ahead _ (plc l k) hne with h | ⟨_, h⟩
  · exact .inl h
  · exact .inr h
theorem plc_step (s : ByteArray) {k : Nat} (h : k < s.size) : plc s.data.toList (k + 1) = if s[k] = 10 then ((plc s.data.toList k).1 + 1, 1) else ((plc s.data.toList k).1, (plc s.data.toList k).2 + 1) := by
  unfold plc
  have : s.data.toList.take (k + 1) = s.data.toList.take k ++ [s[k]] := by
    rw [List.take_succ_eq_append_getElem (by simpa using h)]; rfl
  rw [this, past_append]
  rfl
theorem plc_bound (l : List UInt8) (k : Nat) : (plc l k).1 ≤ k + 1 ∧ (plc l k).2 ≤ k + 1 := by
  have := past_le (l.take k) (1, 1)
  have h2 : (l.take k).length ≤ k := List.length_take_le _ _
  unfold plc; simp only at this; omega
theorem plc_zero (l : List UInt8) : plc l 0 = (1, 1) := rfl
end Go.Proofs.YtlgfpjaomiomjaaDoor
