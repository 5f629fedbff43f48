/- Numbers with blanks between, and what is no number: plain lists. -/
import Derived.Test.YtlgfpjaomiomjaaDoorUa
namespace Go.Proofs.YtlgfpjaomiomjaaDoor
open Go.RowKit
set_option linter.unusedVariables false
set_option linter.unusedSimpArgs false

/-- Bytes that begin with a digit and go on as a word does. -/
structure Nw (W : List UInt8) : Prop where
  part : ∀ b ∈ W, ptI (cI b) = true
  head : ∃ c cs, W = c :: cs ∧ dgI (cI c) = true
theorem dg_not {c : UInt8} (h : dgI (cI c) = true) : goI false (cI c) = false := by
  unfold dgI at h; unfold cI at *
  simp only [Bool.and_eq_true, decide_eq_true_eq] at h
  unfold goI remI blI
  rw [if_neg (by omega), if_neg (by omega)]
  simp; omega
/-- A text goes on with what is no part of a word. -/
def Sep (R : List UInt8) : Prop := R = [] ∨ ∃ c cs, R = c :: cs ∧ ptI (cI c) = false
theorem wlen_sep : ∀ (W R : List UInt8), (∀ b ∈ W, ptI (cI b) = true) → Sep R → wlen (W ++ R) = W.length
  | [], R, _, h => by
    rcases h with rfl | ⟨c, cs, rfl, hc⟩
    · rfl
    · rw [List.nil_append, wlen_stop hc]; rfl
  | b :: bs, R, hp, h => by
    rw [List.cons_append, wlen_go (hp b (by simp)), wlen_sep bs R (fun x hx => hp x (by simp [hx])) h]; rfl
theorem first_num {W R : List UInt8} (h : Nw W) (hR : Sep R) : firstW (W ++ R) = numW W ∧ gapL false (W ++ R) = 0 ∧ W ++ R ≠ [] := by
  obtain ⟨c, cs, rfl, hd⟩ := h.head
  have hw := wlen_sep (c :: cs) R h.part hR
  refine ⟨?_, gap_stop (dg_not hd), by simp⟩
  unfold firstW
  rw [hw, if_neg (by simp), if_pos (by simpa using hd), List.take_append_of_le_length (by simp), List.take_length]
/-- A number, and what follows. -/
theorem lex_num {W R : List UInt8} {n f : Nat} {p : Nat × Nat} (h : Nw W) (hR : Sep R) (hn : numW W = ⟨3, W, n, 0⟩) :
    lexF (f + 1) p (W ++ R) = (⟨3, W, n, p.1, p.2⟩ :: (lexF f (past p W) R).1, (lexF f (past p W) R).2) := by
  obtain ⟨h1, h2, h3⟩ := first_num h hR
  rw [lex_word (r := W ++ R) (q := p) (x := ⟨3, W, n, 0⟩) (by rw [h2]; rfl) h3 (h1.trans hn) rfl (by rw [h2]; rfl)]
  simp only [List.drop_left]
/-- A blank ahead. -/
theorem lex_blank {c : UInt8} {W R : List UInt8} {n f : Nat} {p : Nat × Nat} (hc : c = 32 ∨ c = 10) (h : Nw W) (hR : Sep R) (hn : numW W = ⟨3, W, n, 0⟩) :
    ∃ q, lexF (f + 1) p (c :: (W ++ R)) = (⟨3, W, n, q.1, q.2⟩ :: (lexF f (past q W) R).1, (lexF f (past q W) R).2) := by
  obtain ⟨h1, h2, h3⟩ := first_num h hR
  have hg : gapL false (c :: (W ++ R)) = 1 := by
    have : goI false (cI c) = true ∧ remI false (cI c) = false := by rcases hc with rfl | rfl <;> decide
    rw [gap_go this.1, this.2, h2]
  refine ⟨past p [c], ?_⟩
  rw [lex_word (r := W ++ R) (q := past p [c]) (x := ⟨3, W, n, 0⟩) (by rw [hg]; rfl) h3 (h1.trans hn) rfl (by rw [hg]; rfl)]
  simp only [List.drop_left]
theorem sep_blank {c : UInt8} (hc : c = 32 ∨ c = 10) (R : List UInt8) : Sep (c :: R) := .inr ⟨c, R, rfl, by rcases hc with rfl | rfl <;> decide⟩
theorem digs_nw {n : Nat} : Nw (digs 10 n) := by
  refine ⟨fun b hb => ?_, ?_⟩
  · obtain ⟨d, hd, rfl⟩ := digs_mem (by decide) hb
    exact (sgn_up d (by omega)).2.2.2.1
  · obtain ⟨c, cs, e⟩ := List.exists_cons_of_ne_nil (digs_ne 10 n)
    refine ⟨c, cs, e, ?_⟩
    obtain ⟨d, hd, rfl⟩ := digs_mem (n := n) (by decide : 0 < 10) (c := c) (by rw [e]; simp)
    have : ∀ d, d < 10 → dgI (cI (sgn d)) = true := by decide
    exact this d hd
theorem pre_nw (c : UInt8) (hc : ptI (cI c) = true) {X : List UInt8} (hX : ∀ b ∈ X, ptI (cI b) = true) : Nw (48 :: c :: X) :=
  ⟨fun b hb => by
    rcases List.mem_cons.1 hb with rfl | hb
    · decide
    · rcases List.mem_cons.1 hb with rfl | hb
      · exact hc
      · exact hX b hb, ⟨48, c :: X, rfl, by decide⟩⟩
theorem digs_pt {base n : Nat} (hb : 0 < base) (hb1 : base ≤ 16) : ∀ b ∈ digs base n, ptI (cI b) = true := fun b h => by
  obtain ⟨d, hd, rfl⟩ := digs_mem hb h
  exact (sgn_up d (by omega)).2.2.2.1
theorem up_pt {base n : Nat} (hb : 0 < base) (hb1 : base ≤ 16) : ∀ b ∈ (digs base n).map upB, ptI (cI b) = true := fun b h => by
  obtain ⟨c, hc, rfl⟩ := List.mem_map.1 h
  obtain ⟨d, hd, rfl⟩ := digs_mem hb hc
  exact (sgn_up d (by omega)).2.2.2.2
/-- The text with the four numbers. -/
def fourL (n : Nat) : List UInt8 := digs 10 n ++ 32 :: (([48, 120] ++ digs 16 n) ++ 10 :: (([48, 120] ++ ([48, 48] ++ (digs 16 n).map upB)) ++ 32 :: (([48, 98] ++ digs 2 n) ++ [])))
theorem four_tok {n : Nat} (hn : Is128 n) : (tokR (fourL n)).2 = (0, 0, 0) ∧ (tokR (fourL n)).1.length = 4 ∧ ∀ (i : Nat) (t : Tk), (tokR (fourL n)).1[i]? = some t → t.kind = 3 ∧ t.val = n := by
  have w1 : Nw (digs 10 n) := digs_nw
  have w2 : Nw ([48, 120] ++ digs 16 n) := pre_nw 120 (by decide) (digs_pt (by decide) (by decide))
  have w3 : Nw ([48, 120] ++ ([48, 48] ++ (digs 16 n).map upB)) := pre_nw 120 (by decide) (X := 48 :: 48 :: (digs 16 n).map upB) (fun b hb => by
    rcases List.mem_cons.1 hb with rfl | h
    · decide
    · rcases List.mem_cons.1 h with rfl | h
      · decide
      · exact up_pt (base := 16) (n := n) (by decide) (by decide) b h)
  have w4 : Nw ([48, 98] ++ digs 2 n) := pre_nw 98 (by decide) (digs_pt (by decide) (by decide))
  have l1 := digs_length 10 n
  have l2 := digs_length 16 n
  have l3 := digs_length 2 n
  have hlen : (fourL n).length ≤ 600 := by unfold fourL; simp; omega
  have hpos : 4 ≤ (fourL n).length := by unfold fourL; simp; omega
  obtain ⟨f, hf⟩ : ∃ f, (fourL n).length + 1 = f + 5 := ⟨(fourL n).length - 4, by omega⟩
  have hx : ∃ a b c d : Tk, lexL (fourL n) = ([a, b, c, d], (0, 0, 0)) ∧ (a.kind = 3 ∧ a.val = n) ∧ (b.kind = 3 ∧ b.val = n) ∧ (c.kind = 3 ∧ c.val = n) ∧ (d.kind = 3 ∧ d.val = n) := by
    unfold lexL
    rw [hf]
    unfold fourL
    rw [lex_num w1 (sep_blank (.inl rfl) _) (num_ten hn)]
    obtain ⟨q1, e1⟩ := lex_blank (f := f + 3) (p := past (1, 1) (digs 10 n)) (.inl rfl) w2 (sep_blank (.inr rfl) (([48, 120] ++ ([48, 48] ++ (digs 16 n).map upB)) ++ 32 :: (([48, 98] ++ digs 2 n) ++ []))) (num_hex hn)
    rw [e1]
    obtain ⟨q2, e2⟩ := lex_blank (f := f + 2) (p := past q1 ([48, 120] ++ digs 16 n)) (.inr rfl) w3 (sep_blank (.inl rfl) (([48, 98] ++ digs 2 n) ++ [])) (num_big hn)
    rw [e2]
    obtain ⟨q3, e3⟩ := lex_blank (f := f + 1) (p := past q2 ([48, 120] ++ ([48, 48] ++ (digs 16 n).map upB))) (.inl rfl) w4 (.inl rfl) (num_bin hn)
    rw [e3, lex_end (by rfl)]
    exact ⟨_, _, _, _, rfl, ⟨rfl, rfl⟩, ⟨rfl, rfl⟩, ⟨rfl, rfl⟩, ⟨rfl, rfl⟩⟩
  obtain ⟨a, b, c, d, e, ha, hb, hc, hd⟩ := hx
  have ht : tokR (fourL n) = ([a, b, c, d], (0, 0, 0)) := by unfold tokR; rw [if_neg (by omega), e]; rfl
  rw [ht]
  refine ⟨rfl, rfl, fun i t hi => ?_⟩
  match i, hi with
  | 0, hi => simp at hi; subst hi; exact ha
  | 1, hi => simp at hi; subst hi; exact hb
  | 2, hi => simp at hi; subst hi; exact hc
  | 3, hi => simp at hi; subst hi; exact hd
  | i + 4, hi => simp at hi
/-- What begins as a number and is none. -/
def BadW (B : List UInt8) : Prop := Nw B ∧ numW B = ⟨0, [], 0, 61⟩
theorem bad_tok {B : List UInt8} (h : BadW B) (R : List UInt8) : tokR (B ++ 32 :: R) = if 65536 < (B ++ 32 :: R).length then ([], (2, 0, 0)) else ([], (61, 1, 1)) := by
  obtain ⟨h1, h2, h3⟩ := first_num h.1 (sep_blank (.inl rfl) R)
  have hx : lexL (B ++ 32 :: R) = ([], (61, 1, 1)) := by
    unfold lexL
    rw [lex_fault (r := B ++ 32 :: R) (by rw [h2]; rfl) h3 (by rw [h1, h.2]; simp), h1, h.2, h2]; rfl
  unfold tokR
  rw [hx]; rfl
def badsL (n : Nat) : List (List UInt8) := [48 :: digs 10 n, digs 10 n ++ [120], digs 10 n ++ [95], [48, 120], [48, 120] ++ digs 16 n ++ [103], [48, 98] ++ digs 2 n ++ [50], [48, 88] ++ digs 16 n,
  [48, 120, 49, 48, 48, 48, 48, 48, 48, 48, 48, 48, 48, 48, 48, 48, 48, 48, 48, 48, 48, 48, 48, 48, 48, 48, 48, 48, 48, 48, 48, 48, 48, 48, 48],
  [51, 52, 48, 50, 56, 50, 51, 54, 54, 57, 50, 48, 57, 51, 56, 52, 54, 51, 52, 54, 51, 51, 55, 52, 54, 48, 55, 52, 51, 49, 55, 54, 56, 50, 49, 49, 52, 53, 54]]
theorem nw_snoc {W : List UInt8} (h : Nw W) (c : UInt8) (hc : ptI (cI c) = true) : Nw (W ++ [c]) := by
  obtain ⟨x, xs, rfl, hx⟩ := h.head
  exact ⟨fun b hb => by
    rcases List.mem_append.1 hb with hb | hb
    · exact h.part b hb
    · simp at hb; subst hb; exact hc, ⟨x, xs ++ [c], rfl, hx⟩⟩
theorem bads_ok {n : Nat} (hn : Is128 n) : ∀ B ∈ badsL n, BadW B := by
  have w1 : Nw (digs 10 n) := digs_nw
  have p10 := digs_pt (n := n) (by decide : 0 < 10) (by decide)
  have p16 := digs_pt (n := n) (by decide : 0 < 16) (by decide)
  have p2 := digs_pt (n := n) (by decide : 0 < 2) (by decide)
  have n120 : (120 : UInt8) ∉ digs 10 n := digs_no (by decide) _ (fun d hd => (sgn_ten d hd).1)
  have n98 : (98 : UInt8) ∉ digs 10 n := digs_no (by decide) _ (fun d hd => (sgn_ten d hd).2)
  have hcut : ∀ (d : List UInt8) (c : UInt8), Lib.lowerB c = c → c ∈ cutL (d ++ [c]) := fun d c hc => by
    unfold cutL Lib.toLowerA
    rw [List.map_append, List.mem_append]
    right
    rw [List.drop_append_of_le_length (by simp)]
    simp [hc]
  intro B hB
  simp only [badsL, List.mem_cons, List.not_mem_nil, or_false] at hB
  rcases hB with rfl | rfl | rfl | rfl | rfl | rfl | rfl | rfl | rfl
  · have h1 : Lib.hasPrefix (48 :: digs 10 n) [48, 120] = false := not_prefix (c := 120) (by simp) (by simp [n120])
    have h2 : Lib.hasPrefix (48 :: digs 10 n) [48, 98] = false := not_prefix (c := 98) (by simp) (by simp [n98])
    refine ⟨⟨fun b hb => ?_, ⟨48, _, rfl, by decide⟩⟩, numW_bad ?_⟩
    · rcases List.mem_cons.1 hb with rfl | hb
      · decide
      · exact p10 b hb
    · rw [plain_same h1 h2, fn_ten h1 h2]
      have := List.length_pos_iff.2 (digs_ne 10 n)
      exact fd_zero (by simp; omega) rfl
  · refine ⟨nw_snoc w1 120 (by decide), numW_bad ?_⟩
    have h2 : Lib.hasPrefix (digs 10 n ++ [120]) [48, 98] = false := not_prefix (c := 98) (by simp) (by simp [n98])
    by_cases h0 : n = 0
    · subst h0; decide +kernel
    · have h1 : Lib.hasPrefix (digs 10 n ++ [120]) [48, 120] = false := by
        obtain ⟨d, d0, d1, hd⟩ := rdig_head (by decide : 2 ≤ 10) 128 n (Nat.lt_of_lt_of_le hn (pow_bound (by decide))) h0
        obtain ⟨c, cs, e⟩ := List.exists_cons_of_ne_nil (digs_ne 10 n)
        have hc : c = sgn d := by
          have h3 : (digs 10 n).head? = some (sgn d) := hd
          rw [e] at h3; simpa using h3
        have hne : c ≠ 48 := fun e2 => by have := sgn_48 d (by omega) (hc.symm.trans e2); omega
        rw [e]
        unfold Lib.hasPrefix
        simp [List.isPrefixOf, Ne.symm hne]
      rw [plain_same h1 h2, fn_ten h1 h2]
      exact fd_bad (c := 120) (by decide) (by simp)
  · refine ⟨nw_snoc w1 95 (by decide), numW_bad ?_⟩
    have h1 : Lib.hasPrefix (digs 10 n ++ [95]) [48, 120] = false := not_prefix (c := 120) (by simp) (by simp [n120])
    have h2 : Lib.hasPrefix (digs 10 n ++ [95]) [48, 98] = false := not_prefix (c := 98) (by simp) (by simp [n98])
    rw [plain_same h1 h2, fn_ten h1 h2]
    exact fd_bad (c := 95) (by decide) (by simp)
  · exact ⟨pre_nw 120 (by decide) (X := []) (by simp), numW_bad (by decide +kernel)⟩
  · rw [List.append_assoc]
    refine ⟨pre_nw 120 (by decide) (X := digs 16 n ++ [103]) (fun b hb => ?_), numW_bad ?_⟩
    · rcases List.mem_append.1 hb with hb | hb
      · exact p16 b hb
      · simp at hb; subst hb; decide
    · rw [plain_hex _ (by simp), fn_hex]
      exact fd_bad (c := 103) (by decide) (hcut _ _ (by decide))
  · rw [List.append_assoc]
    refine ⟨pre_nw 98 (by decide) (X := digs 2 n ++ [50]) (fun b hb => ?_), numW_bad ?_⟩
    · rcases List.mem_append.1 hb with hb | hb
      · exact p2 b hb
      · simp at hb; subst hb; decide
    · rw [plain_bin _ (by simp), fn_bin]
      exact fd_bad (c := 50) (by decide) (hcut _ _ (by decide))
  · refine ⟨pre_nw 88 (by decide) (X := digs 16 n) p16, numW_bad ?_⟩
    have h1 : Lib.hasPrefix ([48, 88] ++ digs 16 n) [48, 120] = false := by
      show List.isPrefixOf [48, 120] (48 :: 88 :: digs 16 n) = false
      simp [List.isPrefixOf]
    have h2 : Lib.hasPrefix ([48, 88] ++ digs 16 n) [48, 98] = false := by
      show List.isPrefixOf [48, 98] (48 :: 88 :: digs 16 n) = false
      simp [List.isPrefixOf]
    rw [plain_same h1 h2, fn_ten h1 h2]
    exact fd_zero (by simp) rfl
  · exact ⟨⟨by decide +kernel, ⟨48, _, rfl, by decide⟩⟩, numW_bad (by decide +kernel)⟩
  · exact ⟨⟨by decide +kernel, ⟨51, _, rfl, by decide⟩⟩, numW_bad (by decide +kernel)⟩
end Go.Proofs.YtlgfpjaomiomjaaDoor
