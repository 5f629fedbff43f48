/- Two texts with a line's end between: plain lists. -/
import Derived.Test.YtlgfpjaomiomjaaGreatDoorLq
namespace Go.Proofs.YtlgfpjaomiomjaaGreatDoor
open Go.RowKit
set_option linter.unusedVariables false
set_option linter.unusedSimpArgs false

theorem go_ten (m : Bool) : goI m 10 = true ∧ remI m 10 = false := by cases m <;> decide
theorem gap_join_all : ∀ (a b : List UInt8) (m : Bool), gapL m a = a.length → gapL m (a ++ 10 :: b) = a.length + 1 + gapL false b
  | [], b, m, h => by
    have h10 : cI 10 = 10 := rfl
    rw [List.nil_append, gap_go (by rw [h10]; exact (go_ten m).1), h10, (go_ten m).2]; simp; omega
  | c :: cs, b, m, h => by
    cases hc : goI m (cI c)
    · rw [gap_stop hc] at h; simp at h
    · rw [gap_go hc] at h
      rw [List.cons_append, gap_go hc, gap_join_all cs b _ (by simpa using h)]
      simp; omega
theorem gap_join_some : ∀ (a b : List UInt8) (m : Bool), gapL m a < a.length → gapL m (a ++ b) = gapL m a
  | [], b, m, h => by simp at h
  | c :: cs, b, m, h => by
    cases hc : goI m (cI c)
    · rw [List.cons_append, gap_stop hc, gap_stop hc]
    · rw [gap_go hc] at h
      rw [List.cons_append, gap_go hc, gap_go hc, gap_join_some cs b _ (by simpa using h)]
theorem pt_ten : ptI (cI 10) = false := by decide
theorem wlen_join : ∀ (r b : List UInt8), wlen (r ++ 10 :: b) = wlen r
  | [], b => wlen_stop pt_ten
  | c :: cs, b => by
    cases hc : ptI (cI c)
    · rw [List.cons_append, wlen_stop hc, wlen_stop hc]
    · rw [List.cons_append, wlen_go hc, wlen_go hc, wlen_join cs b]
theorem prefix_join : ∀ (t r b : List UInt8), (10 : UInt8) ∉ t → t.isPrefixOf (r ++ 10 :: b) = t.isPrefixOf r
  | [], r, b, _ => by simp
  | x :: xs, [], b, h => by
    have hx : x ≠ 10 := fun e => h (by simp [e])
    simp [List.isPrefixOf, hx]
  | x :: xs, y :: ys, b, h => by
    rw [List.cons_append, List.isPrefixOf, List.isPrefixOf, prefix_join xs ys b (fun e => h (by simp [e]))]
theorem find_congr {α : Type} {p q : α → Bool} : ∀ (l : List α), (∀ x ∈ l, p x = q x) → l.find? p = l.find? q
  | [], _ => rfl
  | a :: l, h => by rw [List.find?_cons, List.find?_cons, h a (by simp), find_congr l (fun x hx => h x (by simp [hx]))]
theorem sign_join (r b : List UInt8) : signOf (r ++ 10 :: b) = signOf r := by
  unfold signOf Lib.hasPrefix
  have hn : ∀ t ∈ signL, (10 : UInt8) ∉ t := by decide
  exact find_congr _ (fun t ht => prefix_join t r b (hn t ht))
theorem first_join (r b : List UInt8) (h : r ≠ []) : firstW (r ++ 10 :: b) = firstW r := by
  unfold firstW
  rw [wlen_join]
  have hl := wlen_le r
  have h1 : (r ++ 10 :: b).take (wlen r) = r.take (wlen r) := List.take_append_of_le_length hl
  have h2 : (r ++ 10 :: b).headD 0 = r.headD 0 := by
    cases r with
    | nil => exact absurd rfl h
    | cons c cs => rfl
  have h3 : signW (r ++ 10 :: b) = signW r := by unfold signW; rw [sign_join]
  rw [h1, h2, h3]
theorem gap_full {a : List UInt8} {m : Bool} (h : a.drop (gapL m a) = []) : gapL m a = a.length := by
  have := gap_le a m
  have h2 := List.drop_eq_nil_iff.1 h
  omega
/-- Words of the first text, then those of the second one. -/
theorem lex_join (b : List UInt8) : ∀ (f : Nat) (p : Nat × Nat) (a : List UInt8) (F : Nat), a.length < f → (a ++ 10 :: b).length < F → (lexF f p a).2.1 = 0 →
    lexF F p (a ++ 10 :: b) = ((lexF f p a).1 ++ (lexF (b.length + 1) (past p (a ++ [10])) b).1, (lexF (b.length + 1) (past p (a ++ [10])) b).2)
  | 0, p, a, F, h, _, _ => by omega
  | f + 1, p, a, 0, _, h, _ => by omega
  | f + 1, p, a, F + 1, hf, hF, hc => by
    have hFl : a.length + b.length + 1 < F + 1 := by simp at hF; omega
    by_cases h0 : a.drop (gapL false a) = []
    · have hg := gap_full h0
      have hj := gap_join_all a b false hg
      rw [lex_end h0, List.nil_append]
      have hd : (a ++ 10 :: b).drop (gapL false (a ++ 10 :: b)) = b.drop (gapL false b) := by
        rw [hj]
        have : a ++ 10 :: b = (a ++ [10]) ++ b := by simp
        rw [this, List.drop_append, List.drop_eq_nil_of_le (by simp), List.nil_append]
        congr 1
        simp
      have hp : past p ((a ++ 10 :: b).take (gapL false (a ++ 10 :: b))) = past (past p (a ++ [10])) (b.take (gapL false b)) := by
        rw [hj, ← past_append]
        congr 1
        have : a ++ 10 :: b = (a ++ [10]) ++ b := by simp
        rw [this, List.take_append, List.take_of_length_le (by simp)]
        simp
      rw [show ((lexF (b.length + 1) (past p (a ++ [10])) b).1, (lexF (b.length + 1) (past p (a ++ [10])) b).2) = lexF (b.length + 1) (past p (a ++ [10])) b from rfl]
      by_cases h1 : b.drop (gapL false b) = []
      · rw [lex_end (hd.trans h1), lex_end h1]
      · by_cases he : (firstW (b.drop (gapL false b))).e = 0
        · rw [lex_word hd h1 rfl he hp, lex_word rfl h1 rfl he rfl]
          have h2 := (firstW_text _ he).1
          have h3 := firstW_len _ he
          rw [List.length_drop] at h3
          rw [lex_fuel F b.length _ _ (by rw [List.length_drop, List.length_drop]; omega) (by rw [List.length_drop, List.length_drop]; omega)]
        · rw [lex_fault hd h1 he, lex_fault rfl h1 he, hp]
    · have hlt : gapL false a < a.length := by
        have := gap_le a false
        apply Classical.byContradiction; intro hn
        exact h0 (List.drop_eq_nil_of_le (by omega))
      have hj := gap_join_some a (10 :: b) false hlt
      have hd : (a ++ 10 :: b).drop (gapL false (a ++ 10 :: b)) = a.drop (gapL false a) ++ 10 :: b := by
        rw [hj, List.drop_append_of_le_length (by omega)]
      have hp : past p ((a ++ 10 :: b).take (gapL false (a ++ 10 :: b))) = past p (a.take (gapL false a)) := by
        rw [hj, List.take_append_of_le_length (by omega)]
      by_cases he : (firstW (a.drop (gapL false a))).e = 0
      · have hn : a.drop (gapL false a) ++ 10 :: b ≠ [] := by simp
        have hx := first_join (a.drop (gapL false a)) b h0
        rw [lex_word hd hn hx he hp, lex_word rfl h0 rfl he rfl] at *
        obtain ⟨t1, t2⟩ := firstW_text _ he
        have t3 := firstW_len _ he
        generalize hX : firstW (a.drop (gapL false a)) = X at *
        have e1 : (a.drop (gapL false a) ++ 10 :: b).drop X.text.length = (a.drop (gapL false a)).drop X.text.length ++ 10 :: b := by
          rw [List.drop_append_of_le_length t3]
        have hl2 : ((a.drop (gapL false a)).drop X.text.length).length < a.length := by
          rw [List.length_drop] at t3
          rw [List.length_drop, List.length_drop]; omega
        have ih := lex_join b f (past (past p (a.take (gapL false a))) X.text) ((a.drop (gapL false a)).drop X.text.length) F (by omega) (by simp at hF ⊢; omega) (by simpa using hc)
        have ep : past (past (past p (a.take (gapL false a))) X.text) ((a.drop (gapL false a)).drop X.text.length ++ [10]) = past p (a ++ [10]) := by
          rw [← past_append, ← past_append]
          congr 1
          have e5 : X.text ++ (a.drop (gapL false a)).drop X.text.length = a.drop (gapL false a) := by
            conv => lhs; lhs; rw [t2]
            exact List.take_append_drop _ _
          have e6 := List.take_append_drop (gapL false a) a
          calc _ = (a.take (gapL false a) ++ (X.text ++ (a.drop (gapL false a)).drop X.text.length)) ++ [10] := by simp [List.append_assoc]
            _ = _ := by rw [e5, e6]
        rw [ep] at ih
        rw [e1, ih]
        simp
      · rw [lex_fault rfl h0 he] at hc
        exact absurd hc he
def shiftT (k : Nat) (t : Tk) : Tk := ⟨t.kind, t.text, t.val, t.line + k, t.col⟩
theorem past_shift (k : Nat) : ∀ (a : List UInt8) (p : Nat × Nat), past (p.1 + k, p.2) a = ((past p a).1 + k, (past p a).2)
  | [], p => rfl
  | c :: cs, p => by
    rw [past, past]
    by_cases h : c = 10
    · rw [if_pos h, if_pos h]
      have := past_shift k cs (p.1 + 1, 1)
      simp only at this
      rw [show p.1 + k + 1 = p.1 + 1 + k by omega]; exact this
    · rw [if_neg h, if_neg h]; exact past_shift k cs (p.1, p.2 + 1)
theorem lex_shift (k : Nat) : ∀ (f : Nat) (p : Nat × Nat) (l : List UInt8), (lexF f (p.1 + k, p.2) l).1 = (lexF f p l).1.map (shiftT k) ∧ (lexF f (p.1 + k, p.2) l).2.1 = (lexF f p l).2.1
  | 0, p, l => ⟨rfl, rfl⟩
  | f + 1, p, l => by
    by_cases h0 : l.drop (gapL false l) = []
    · rw [lex_end h0, lex_end h0]; exact ⟨rfl, rfl⟩
    · by_cases he : (firstW (l.drop (gapL false l))).e = 0
      · have hp := past_shift k (l.take (gapL false l)) p
        rw [lex_word rfl h0 rfl he hp, lex_word rfl h0 rfl he rfl]
        have ih := lex_shift k f (past (past p (l.take (gapL false l))) (firstW (l.drop (gapL false l))).text) ((l.drop (gapL false l)).drop (firstW (l.drop (gapL false l))).text.length)
        rw [past_shift k (firstW (l.drop (gapL false l))).text (past p (l.take (gapL false l)))]
        refine ⟨?_, ih.2⟩
        rw [ih.1]; rfl
      · rw [lex_fault rfl h0 he, lex_fault rfl h0 he]; exact ⟨rfl, rfl⟩
theorem tok_code {l : List UInt8} (h : (tokR l).2.1 = 0) : l.length ≤ 65536 ∧ (lexL l).2.1 = 0 ∧ tokR l = ((lexL l).1, (0, 0, 0)) := by
  unfold tokR at *
  split at h
  · simp at h
  · rename_i h1
    split at h
    · rename_i h2
      rw [if_neg h1, if_pos h2]; exact ⟨by omega, h2, rfl⟩
    · rename_i h2; exact absurd h h2
/-- Two texts without a fault, with a line's end between. -/
theorem tok_join {a b : List UInt8} (ha : (tokR a).2.1 = 0) (hb : (tokR b).2.1 = 0) (hl : a.length + b.length + 1 ≤ 65536) :
    tokR (a ++ 10 :: b) = ((tokR a).1 ++ (tokR b).1.map (shiftT (a.count 10 + 1)), (0, 0, 0)) := by
  obtain ⟨_, a2, a3⟩ := tok_code ha
  obtain ⟨_, b2, b3⟩ := tok_code hb
  have hq : past (1, 1) (a ++ [10]) = (1 + (a.count 10 + 1), 1) := by
    rw [past_append]
    simp only [past, if_true]
    rw [past_lines]; simp; omega
  have hj := lex_join b (a.length + 1) (1, 1) a ((a ++ 10 :: b).length + 1) (by omega) (by omega) a2
  rw [hq] at hj
  have hs := lex_shift (a.count 10 + 1) (b.length + 1) (1, 1) b
  have h0 : (lexL (a ++ 10 :: b)).2.1 = 0 := by
    show (lexF ((a ++ 10 :: b).length + 1) (1, 1) (a ++ 10 :: b)).2.1 = 0
    rw [hj]; exact hs.2.trans b2
  have h1 : (lexL (a ++ 10 :: b)).1 = (tokR a).1 ++ (tokR b).1.map (shiftT (a.count 10 + 1)) := by
    show (lexF ((a ++ 10 :: b).length + 1) (1, 1) (a ++ 10 :: b)).1 = _
    rw [hj, a3, b3]
    show _ ++ _ = _
    rw [hs.1]; rfl
  unfold tokR at *
  rw [if_neg (by simp; omega), if_pos h0, h1]
end Go.Proofs.YtlgfpjaomiomjaaGreatDoor
