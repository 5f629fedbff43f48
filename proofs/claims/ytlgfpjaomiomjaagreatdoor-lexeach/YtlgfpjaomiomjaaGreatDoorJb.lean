/- The walk of LexJoins. -/
import Derived.Test.YtlgfpjaomiomjaaGreatDoorJa
namespace Go.Proofs.YtlgfpjaomiomjaaGreatDoor
open Go.RowKit
set_option linter.unusedVariables false
set_option linter.unusedSimpArgs false

/-- A word's cells. -/
structure At6 (w : World) (g o : Nat) (t : Tk) : Prop where
  c0 : w.cell? ⟨g, o, none⟩ = some (.int .i64 (t.kind : Int))
  c1 : w.cell? ⟨g, o + 1, none⟩ = some (.string ⟨t.text.toArray⟩)
  c2 : w.cell? ⟨g, o + 2, none⟩ = some (.int .u64 (hiOf t.val))
  c3 : w.cell? ⟨g, o + 3, none⟩ = some (.int .u64 (loOf t.val))
  c4 : w.cell? ⟨g, o + 4, none⟩ = some (.int .i64 (t.line : Int))
  c5 : w.cell? ⟨g, o + 5, none⟩ = some (.int .i64 (t.col : Int))
theorem At6.lt {w : World} {g o : Nat} {t : Tk} (h : At6 w g o t) : g < w.heap.size := World.block_lt_of_cell? _ _ h.c0
theorem At6.kept {S : Nat → Prop} {w w' : World} {g o : Nat} {t : Tk} (h : At6 w g o t) (hk : Kept S w w') (hs : ¬ S g) : At6 w' g o t :=
  ⟨hk.cell h.c0 hs, hk.cell h.c1 hs, hk.cell h.c2 hs, hk.cell h.c3 hs, hk.cell h.c4 hs, hk.cell h.c5 hs⟩
theorem At6.below {w w' : World} {g o : Nat} {t : Tk} (h : At6 w g o t) (hb : Below w.heap.size w w') : At6 w' g o t := h.kept (S := fun _ => False) (Kept.of_below hb) id
/-- Where words lie. -/
def Tok6 (w : World) (ad : Option Addr) (ts : List Tk) : Prop := ∀ (i : Nat) (t : Tk), ts[i]? = some t → ∃ g, ad = some ⟨g, 0, none⟩ ∧ At6 w g (i * 6) t
theorem Tok6.below {w w' : World} {ad : Option Addr} {ts : List Tk} (h : Tok6 w ad ts) (hb : Below w.heap.size w w') : Tok6 w' ad ts := fun i t hi => by
  obtain ⟨g, e, h6⟩ := h i t hi
  exact ⟨g, e, h6.below hb⟩
theorem tok6_of_row {w : World} {B : Nat} {sv : Value} {ts : List Tk} (h : w.ownsRow B 39 6 sv ts.length (tcells ts)) : ∃ ad cap, sv = .slice ad ts.length cap ∧ Tok6 w ad ts := by
  rcases h.2 with ⟨rfl, h0⟩ | ⟨g, cap, cur, e, _⟩
  · have : ts = [] := List.length_eq_zero_iff.1 h0
    subst this
    exact ⟨none, 0, rfl, fun i t hi => by simp at hi⟩
  · refine ⟨some ⟨g, 0, none⟩, cap, e, fun i t hi => ⟨g, rfl, ?_⟩⟩
    subst e
    have hi' := (List.getElem?_eq_some_iff.1 hi).1
    have key : ∀ j v, j < 6 → (tkV t)[j]? = some v → w.cell? ⟨g, i * 6 + j, none⟩ = some v := fun j v hj hv => by
      rw [h.cellAt (i * 6 + j) (by omega)]
      exact tcells_at ts i j t v hi hv
    exact ⟨key 0 _ (by omega) rfl, key 1 _ (by omega) rfl, key 2 _ (by omega) rfl, key 3 _ (by omega) rfl, key 4 _ (by omega) rfl, key 5 _ (by omega) rfl⟩
/-- Tokens, its words lying somewhere. -/
theorem tok_six (s : ByteArray) (hs : s.size ≤ maxLen) (w : World) (hT : Tabs w) : Calls Tryz.prog 7 #[.string s] w fun e w' => ∃ ad cap, e = .returned (.tuple #[.slice ad (tokR s.data.toList).1.length cap, .agg (fltA (tokR s.data.toList).2)]) ∧ Tok6 w' ad (tokR s.data.toList).1 ∧ Below w.heap.size w w' := by
  refine (tokens_any s hs w hT).mono ?_
  rintro e w' ⟨sv, rfl, hrow, hb⟩
  obtain ⟨ad, cap, rfl, h6⟩ := tok6_of_row hrow
  exact ⟨ad, cap, rfl, h6, hb⟩
/-- How many words a text has. -/
theorem lex_count : ∀ (f : Nat) (p : Nat × Nat) (l : List UInt8), (lexF f p l).1.length ≤ l.length
  | 0, p, l => by simp [lexF]
  | f + 1, p, l => by
    by_cases h0 : l.drop (gapL false l) = []
    · rw [lex_end h0]; simp
    · by_cases he : (firstW (l.drop (gapL false l))).e = 0
      · rw [lex_word rfl h0 rfl he rfl]
        have h1 := (firstW_text _ he).1
        have h2 := firstW_len _ he
        have ih := lex_count f (past (past p (l.take (gapL false l))) (firstW (l.drop (gapL false l))).text) ((l.drop (gapL false l)).drop (firstW (l.drop (gapL false l))).text.length)
        rw [List.length_drop] at h2
        rw [List.length_drop, List.length_drop] at ih
        simp only [List.length_cons]; omega
      · rw [lex_fault rfl h0 he]; simp
theorem tok_count (l : List UInt8) : (tokR l).1.length ≤ 65536 := by
  unfold tokR
  split
  · simp
  · split
    · have := lex_count (l.length + 1) (1, 1) l
      show (lexF (l.length + 1) (1, 1) l).1.length ≤ _
      omega
    · simp
theorem lex_lines : ∀ (f : Nat) (p : Nat × Nat) (l : List UInt8) (t : Tk), t ∈ (lexF f p l).1 → t.line ≤ p.1 + l.length
  | 0, p, l, t, h => by simp [lexF] at h
  | f + 1, p, l, t, h => by
    by_cases h0 : l.drop (gapL false l) = []
    · rw [lex_end h0] at h; simp at h
    · by_cases he : (firstW (l.drop (gapL false l))).e = 0
      · rw [lex_word rfl h0 rfl he rfl] at h
        have hg := gap_le l false
        have hp := (past_le (l.take (gapL false l)) p).1
        rw [List.length_take] at hp
        rcases List.mem_cons.1 h with rfl | h
        · simp only; omega
        · have ih := lex_lines f _ _ t h
          have h2 := firstW_len _ he
          have hp2 := (past_le (firstW (l.drop (gapL false l))).text (past p (l.take (gapL false l)))).1
          rw [List.length_drop] at h2
          rw [List.length_drop, List.length_drop] at ih
          omega
      · rw [lex_fault rfl h0 he] at h; simp at h
theorem tok_lines (l : List UInt8) (t : Tk) (h : t ∈ (tokR l).1) : t.line ≤ 65537 := by
  unfold tokR at h
  split at h
  · simp at h
  · split at h
    · have := lex_lines (l.length + 1) (1, 1) l t h
      simp only at this; omega
    · simp at h
theorem count_snoc (s : ByteArray) (k : Nat) (h : k < s.size) : (s.data.toList.take (k + 1)).count 10 = (s.data.toList.take k).count 10 + (if s[k] = 10 then 1 else 0) := by
  have : s.data.toList.take (k + 1) = s.data.toList.take k ++ [s[k]] := by
    rw [List.take_succ_eq_append_getElem (by simpa using h)]; rfl
  rw [this, List.count_append]
  by_cases e : s[k] = 10
  · simp [e]
  · simp [e]
end Go.Proofs.YtlgfpjaomiomjaaGreatDoor
