/- All words of a source text: plain lists. -/
import Derived.Test.YtlgfpjaomiomjaaGreatDoorLj
namespace Go.Proofs.YtlgfpjaomiomjaaGreatDoor
open Go.RowKit
set_option linter.unusedVariables false
set_option linter.unusedSimpArgs false

/-- A word with its place. -/
structure Tk where
  kind : Nat
  text : List UInt8
  val : Nat
  line : Nat
  col : Nat
def tkV (t : Tk) : List Value := [.int .i64 (t.kind : Int), .string ⟨t.text.toArray⟩, .int .u64 (hiOf t.val), .int .u64 (loOf t.val), .int .i64 (t.line : Int), .int .i64 (t.col : Int)]
def tcells : List Tk → List Value
  | [] => []
  | t :: ts => tkV t ++ tcells ts
theorem tcells_snoc (t : Tk) : ∀ ts : List Tk, tcells (ts ++ [t]) = tcells ts ++ tkV t
  | [] => by simp [tcells]
  | a :: ts => by rw [List.cons_append, tcells, tcells_snoc t ts, tcells, List.append_assoc]
theorem tkV_length (t : Tk) : (tkV t).length = 6 := rfl
theorem tcells_length : ∀ ts : List Tk, (tcells ts).length = 6 * ts.length
  | [] => rfl
  | t :: ts => by rw [tcells, List.length_append, tkV_length, tcells_length ts, List.length_cons]; omega
theorem tcells_at : ∀ (ts : List Tk) (i j : Nat) (t : Tk) (v : Value), ts[i]? = some t → (tkV t)[j]? = some v → (tcells ts)[i * 6 + j]? = some v
  | [], i, j, t, v, h, _ => by simp at h
  | a :: ts, 0, j, t, v, h, hv => by
    simp at h; subst h
    have hj := (List.getElem?_eq_some_iff.1 hv).1
    rw [tcells, Nat.zero_mul, Nat.zero_add, List.getElem?_append_left hj]; exact hv
  | a :: ts, i + 1, j, t, v, h, hv => by
    rw [tcells, List.getElem?_append_right (by rw [tkV_length]; omega), tkV_length]
    rw [show (i + 1) * 6 + j - 6 = i * 6 + j by omega]
    exact tcells_at ts i j t v (by simpa using h) hv

theorem sign_mem : ∀ t ∈ signL, 1 ≤ t.length := by decide
/-- A word without a fault stands there, and is not empty. -/
theorem firstW_text (l : List UInt8) (h : (firstW l).e = 0) : 1 ≤ (firstW l).text.length ∧ (firstW l).text = l.take (firstW l).text.length := by
  unfold firstW at *
  have hw := wlen_le l
  have key : ∀ x : List UInt8, x = l.take (wlen l) → ¬ wlen l = 0 → 1 ≤ x.length ∧ x = l.take x.length := fun x hx h0 => by
    have hl : x.length = wlen l := by rw [hx, List.length_take]; omega
    exact ⟨by omega, by rw [hl]; exact hx⟩
  split at h
  · rename_i h0
    rw [if_pos h0]
    unfold signW at *
    split at h
    · rename_i t ht
      unfold signOf at ht
      have h1 := List.mem_of_find?_eq_some ht
      have h2 := List.find?_some ht
      refine ⟨sign_mem t h1, ?_⟩
      exact (List.prefix_iff_eq_take.1 (List.isPrefixOf_iff_prefix.1 h2))
    · simp at h
  · rename_i h0
    rw [if_neg h0]
    split at h
    · rename_i hd
      rw [if_pos hd]
      unfold numW at *
      split at h
      · rename_i hp
        rw [if_pos hp]; exact key _ rfl h0
      · simp at h
    · rename_i hd
      rw [if_neg hd]
      unfold lettW at *
      split at h
      · rename_i hp
        rw [if_pos hp]; exact key _ rfl h0
      · rename_i hp
        rw [if_neg hp]
        split at h
        · rename_i hq
          rw [if_pos hq]; exact key _ rfl h0
        · simp at h
theorem firstW_len (l : List UInt8) (h : (firstW l).e = 0) : (firstW l).text.length ≤ l.length := by
  have := (firstW_text l h).2
  have h2 := congrArg List.length this
  rw [List.length_take] at h2; omega
/-- The words, and the fault: its number and its place. -/
def lexF : Nat → Nat × Nat → List UInt8 → List Tk × (Nat × Nat × Nat)
  | 0, _, _ => ([], (0, 0, 0))
  | f + 1, p, l =>
    if l.drop (gapL false l) = [] then ([], (0, 0, 0)) else
    if (firstW (l.drop (gapL false l))).e = 0 then
      (⟨(firstW (l.drop (gapL false l))).kind, (firstW (l.drop (gapL false l))).text, (firstW (l.drop (gapL false l))).val, (past p (l.take (gapL false l))).1, (past p (l.take (gapL false l))).2⟩ ::
        (lexF f (past (past p (l.take (gapL false l))) (firstW (l.drop (gapL false l))).text) ((l.drop (gapL false l)).drop (firstW (l.drop (gapL false l))).text.length)).1,
       (lexF f (past (past p (l.take (gapL false l))) (firstW (l.drop (gapL false l))).text) ((l.drop (gapL false l)).drop (firstW (l.drop (gapL false l))).text.length)).2)
    else ([], ((firstW (l.drop (gapL false l))).e, (past p (l.take (gapL false l))).1, (past p (l.take (gapL false l))).2))
theorem lex_end {f : Nat} {p : Nat × Nat} {l : List UInt8} (h : l.drop (gapL false l) = []) : lexF (f + 1) p l = ([], (0, 0, 0)) := by rw [lexF, if_pos h]
theorem lex_fault {f : Nat} {p : Nat × Nat} {l r : List UInt8} (hr : l.drop (gapL false l) = r) (h : r ≠ []) (he : ¬ (firstW r).e = 0) : lexF (f + 1) p l = ([], ((firstW r).e, (past p (l.take (gapL false l))).1, (past p (l.take (gapL false l))).2)) := by
  subst hr; rw [lexF, if_neg h, if_neg he]
theorem lex_word {f : Nat} {p q : Nat × Nat} {l r : List UInt8} {x : Wd} (hr : l.drop (gapL false l) = r) (h : r ≠ []) (hx : firstW r = x) (he : x.e = 0) (hq : past p (l.take (gapL false l)) = q) :
    lexF (f + 1) p l = (⟨x.kind, x.text, x.val, q.1, q.2⟩ :: (lexF f (past q x.text) (r.drop x.text.length)).1, (lexF f (past q x.text) (r.drop x.text.length)).2) := by
  subst hr; subst hx; subst hq; rw [lexF, if_neg h, if_pos he]
/-- More fuel changes nothing. -/
theorem lex_fuel : ∀ (f g : Nat) (p : Nat × Nat) (l : List UInt8), l.length < f → l.length < g → lexF f p l = lexF g p l
  | 0, g, p, l, h, _ => by omega
  | f + 1, 0, p, l, _, h => by omega
  | f + 1, g + 1, p, l, hf, hg => by
    by_cases h0 : l.drop (gapL false l) = []
    · rw [lex_end h0, lex_end h0]
    · by_cases he : (firstW (l.drop (gapL false l))).e = 0
      · rw [lex_word rfl h0 rfl he rfl, lex_word rfl h0 rfl he rfl]
        have h1 := (firstW_text _ he).1
        have h2 : ((l.drop (gapL false l)).drop (firstW (l.drop (gapL false l))).text.length).length < l.length := by
          have h3 := firstW_len _ he
          rw [List.length_drop] at h3
          rw [List.length_drop, List.length_drop]; omega
        rw [lex_fuel f g _ _ (by omega) (by omega)]
      · rw [lex_fault rfl h0 he, lex_fault rfl h0 he]
def lexL (l : List UInt8) : List Tk × (Nat × Nat × Nat) := lexF (l.length + 1) (1, 1) l
end Go.Proofs.YtlgfpjaomiomjaaGreatDoor
