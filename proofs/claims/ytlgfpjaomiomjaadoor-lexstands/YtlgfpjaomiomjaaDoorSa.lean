/- Each word stands at its place, and is by itself just this word: plain lists. -/
import Derived.Test.YtlgfpjaomiomjaaDoorJb
namespace Go.Proofs.YtlgfpjaomiomjaaDoor
open Go.RowKit
set_option linter.unusedVariables false
set_option linter.unusedSimpArgs false

/-- Blanks and remarks: none, if there is something else; else whether a remark goes on. -/
def blkL : Bool → List UInt8 → Option Bool
  | m, [] => some m
  | m, c :: cs => if goI m (cI c) = true then blkL (remI m (cI c)) cs else none
theorem go_true (r : Int) : goI true r = true := by
  unfold goI remI
  split
  · rfl
  · split
    · rename_i h; subst h; decide
    · rfl
theorem blk_gap : ∀ (l : List UInt8) (m : Bool), ∃ m', blkL m (l.take (gapL m l)) = some m' ∧ (gapL m l < l.length → m' = false)
  | [], m => ⟨m, rfl, by simp⟩
  | c :: cs, m => by
    cases h : goI m (cI c)
    · refine ⟨m, by rw [gap_stop h]; rfl, fun _ => ?_⟩
      cases m
      · rfl
      · rw [go_true] at h; cases h
    · obtain ⟨m', h1, h2⟩ := blk_gap cs (remI m (cI c))
      refine ⟨m', ?_, fun hl => h2 ?_⟩
      · rw [gap_go h, List.take_succ_cons, blkL, if_pos h]; exact h1
      · rw [gap_go h] at hl; simpa using hl
theorem past_ahead (x : List UInt8) (p : Nat × Nat) (h : x ≠ []) : p.1 < (past p x).1 ∨ ((past p x).1 = p.1 ∧ p.2 < (past p x).2) := by
  have hl := List.length_pos_iff.2 h
  have h1 := past_lines x p
  by_cases h0 : x.count 10 = 0
  · right
    rw [past_plain x p h0]; exact ⟨rfl, by simp only; omega⟩
  · left; omega
theorem past_col (x : List UInt8) (p : Nat × Nat) (h : 1 ≤ p.2) : 1 ≤ (past p x).2 := by
  induction x generalizing p with
  | nil => exact h
  | cons c cs ih =>
    rw [past]; apply ih
    split <;> simp
theorem lex_codes : ∀ (f : Nat) (p : Nat × Nat) (l : List UInt8), (lexF f p l).2.1 ≠ 2
  | 0, p, l => by simp [lexF]
  | f + 1, p, l => by
    by_cases h0 : l.drop (gapL false l) = []
    · rw [lex_end h0]; simp
    · by_cases he : (firstW (l.drop (gapL false l))).e = 0
      · rw [lex_word rfl h0 rfl he rfl]; exact lex_codes f _ _
      · rw [lex_fault rfl h0 he]
        simp only
        generalize l.drop (gapL false l) = r
        unfold firstW signW numW lettW
        repeat' split
        all_goals simp
theorem tok_fault {l : List UInt8} (h : (tokR l).2.1 ≠ 0) : (tokR l).1 = [] ∧ decide (65536 < l.length) = decide ((tokR l).2.1 = 2) := by
  unfold tokR at *
  split at h
  · rename_i h1; rw [if_pos h1]; simp [h1]
  · rename_i h1
    split at h
    · simp at h
    · rename_i h2
      rw [if_neg h1, if_neg h2]
      have := lex_codes (l.length + 1) (1, 1) l
      refine ⟨rfl, ?_⟩
      rw [decide_eq_false h1, decide_eq_false]; exact this
theorem gap_self (l : List UInt8) (r : List UInt8) (h : l.drop (gapL false l) = r) : gapL false r = 0 := by
  have key : ∀ (l : List UInt8) (m : Bool), gapL m l < l.length → ∃ c cs, l.drop (gapL m l) = c :: cs ∧ goI false (cI c) = false := by
    intro l
    induction l with
    | nil => intro m h; simp at h
    | cons c cs ih =>
      intro m hl
      cases hc : goI m (cI c)
      · have hm : m = false := by cases m; rfl; rw [go_true] at hc; cases hc
        subst hm
        exact ⟨c, cs, by rw [gap_stop hc]; rfl, hc⟩
      · obtain ⟨d, ds, e1, e2⟩ := ih (remI m (cI c)) (by rw [gap_go hc] at hl; simpa using hl)
        exact ⟨d, ds, by rw [gap_go hc, List.drop_succ_cons]; exact e1, e2⟩
  have hl := gap_le l false
  by_cases hlt : gapL false l < l.length
  · obtain ⟨c, cs, e1, e2⟩ := key l false hlt
    rw [← h, e1, gap_stop e2]
  · rw [← h, List.drop_eq_nil_of_le (by omega)]; rfl
theorem sign_self : ∀ t ∈ signL, signOf t = some t := by decide
theorem wlen_take : ∀ l : List UInt8, wlen (l.take (wlen l)) = wlen l
  | [] => rfl
  | c :: cs => by
    cases h : ptI (cI c)
    · rw [wlen_stop h]; rfl
    · rw [wlen_go h, List.take_succ_cons, wlen_go h, wlen_take cs]
theorem wlen_zero {c : UInt8} {cs : List UInt8} (h : wlen (c :: cs) = 0) : ptI (cI c) = false := by
  cases hc : ptI (cI c)
  · rfl
  · rw [wlen_go hc] at h; simp at h
/-- A word's text, by itself. -/
theorem first_self (r : List UInt8) (h : (firstW r).e = 0) : firstW (firstW r).text = firstW r := by
  obtain ⟨h1, h2⟩ := firstW_text r h
  cases r with
  | nil => rw [h2] at h1; simp at h1
  | cons c cs =>
    by_cases h0 : wlen (c :: cs) = 0
    · have e : firstW (c :: cs) = signW (c :: cs) := by unfold firstW; rw [if_pos h0]
      rw [e] at h ⊢
      unfold signW at h ⊢
      cases hs : signOf (c :: cs) with
      | none => rw [hs] at h; simp at h
      | some t =>
        have ht : t ∈ signL := by unfold signOf at hs; exact List.mem_of_find?_eq_some hs
        have hp : Lib.hasPrefix (c :: cs) t = true := by unfold signOf at hs; exact List.find?_some hs
        have hw : wlen t = 0 := by
          have : ∀ t ∈ signL, wlen t = 0 := by decide
          exact this t ht
        show firstW t = _
        unfold firstW
        rw [if_pos hw]
        unfold signW
        rw [sign_self t ht]
    · have hl := wlen_le (c :: cs)
      have hpt : ptI (cI c) = true := by
        cases hc : ptI (cI c)
        · exact absurd (wlen_stop hc) h0
        · rfl
      have ht : (firstW (c :: cs)).text = (c :: cs).take (wlen (c :: cs)) := by
        unfold firstW at h ⊢
        rw [if_neg h0] at h ⊢
        split at h
        · rename_i hd
          rw [if_pos hd]
          unfold numW at h ⊢
          split at h
          · rename_i hn; rw [if_pos hn]
          · simp at h
        · rename_i hd
          rw [if_neg hd]
          unfold lettW at h ⊢
          split at h
          · rename_i hn; rw [if_pos hn]
          · rename_i hn
            rw [if_neg hn]
            split at h
            · rename_i hm; rw [if_pos hm]
            · simp at h
      rw [ht]
      have hw := wlen_take (c :: cs)
      have hh : ((c :: cs).take (wlen (c :: cs))).headD 0 = c := by rw [wlen_go hpt]; rfl
      unfold firstW
      rw [hw, if_neg h0, if_neg h0, hh, List.headD_cons, List.take_take, Nat.min_self]
theorem first_ten (r : List UInt8) (h : (firstW r).e = 0) : (firstW r).text.count 10 = 0 := by
  have hp : ∀ l : List UInt8, (l.take (wlen l)).count 10 = 0 := fun l => by
    rw [List.count_eq_zero]
    intro hm
    have := wlen_part l 10 hm
    rw [pt_ten] at this; cases this
  have hs : ∀ t ∈ signL, t.count 10 = 0 := by decide
  unfold firstW at *
  split at h
  · rename_i h0
    rw [if_pos h0]
    unfold signW at *
    cases e : signOf r with
    | none => rw [e] at h; simp at h
    | some t => exact hs t (by unfold signOf at e; exact List.mem_of_find?_eq_some e)
  · rename_i h0
    rw [if_neg h0]
    split at h
    · rename_i hd
      rw [if_pos hd]
      unfold numW at *
      split at h
      · rename_i hn; rw [if_pos hn]; exact hp r
      · simp at h
    · rename_i hd
      rw [if_neg hd]
      unfold lettW at *
      split at h
      · rename_i hn; rw [if_pos hn]; exact hp r
      · rename_i hn
        rw [if_neg hn]
        split at h
        · rename_i hm; rw [if_pos hm]; exact hp r
        · simp at h
theorem tok_self (r : List UInt8) (hg : gapL false r = 0) (h : (firstW r).e = 0) (hl : (firstW r).text.length ≤ 65536) : tokR (firstW r).text = ([⟨(firstW r).kind, (firstW r).text, (firstW r).val, 1, 1⟩], (0, 0, 0)) := by
  obtain ⟨h1, h2⟩ := firstW_text r h
  have hne : (firstW r).text ≠ [] := fun e => by rw [e] at h1; simp at h1
  have hgt : gapL false (firstW r).text = 0 := by
    cases r with
    | nil => rw [h2] at h1; simp at h1
    | cons c cs =>
      have hc : goI false (cI c) = false := by
        cases hc : goI false (cI c)
        · rfl
        · rw [gap_go hc] at hg; simp at hg
      obtain ⟨n, hn⟩ : ∃ n, (firstW (c :: cs)).text.length = n + 1 := ⟨_, (Nat.sub_add_cancel h1).symm⟩
      rw [h2, hn, List.take_succ_cons]; exact gap_stop hc
  have hx : lexL (firstW r).text = ([⟨(firstW r).kind, (firstW r).text, (firstW r).val, 1, 1⟩], (0, 0, 0)) := by
    unfold lexL
    rw [lex_word (r := (firstW r).text) (q := (1, 1)) (by rw [hgt]; rfl) hne (first_self r h) h (by rw [hgt]; rfl), List.drop_length]
    cases hf : (firstW r).text.length with
    | zero => omega
    | succ f => rw [lex_end (by rfl)]
  unfold tokR
  rw [if_neg (by omega), hx]; rfl
end Go.Proofs.YtlgfpjaomiomjaaDoor
