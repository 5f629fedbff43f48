/- Names, as texts and as words: plain lists. -/
import Derived.Test.YtlgfpjaomiomjaaGreatDoorNa
namespace Go.Proofs.YtlgfpjaomiomjaaGreatDoor
open Go.RowKit
set_option linter.unusedVariables false
set_option linter.unusedSimpArgs false

theorem nmOk_false : ∀ l : List UInt8, nmOk false l = l.all (fun c => smI (cI c) || dgI (cI c) || cI c == 95)
  | [] => rfl
  | c :: cs => by rw [nmOk, nmOk_false cs, List.all_cons]; unfold okI; simp [Bool.or_assoc]
theorem rname_eq (l : List UInt8) : rnameB l = nameB l := by
  cases l with
  | nil => rfl
  | cons c cs =>
    unfold rnameB nameB
    rw [nmOk, nmOk_false]
    unfold okI
    simp only [List.headD_cons, List.all_cons, List.isEmpty_cons, List.length_cons, Bool.not_true, Bool.false_and, Bool.or_false, Bool.not_false, Bool.true_and]
    rw [show decide (1 ≤ cs.length + 1) = true by simp]
    cases smI (cI c) <;> cases isResB (c :: cs) <;> simp
theorem name_parts {l : List UInt8} (h : nameB l = true) : ∃ c cs, l = c :: cs ∧ smI (cI c) = true ∧ (∀ b ∈ l, ptI (cI b) = true) ∧ l.length ≤ 32 := by
  cases l with
  | nil => cases h
  | cons c cs =>
    unfold nameB at h
    rw [nmOk, nmOk_false] at h
    simp only [Bool.and_eq_true, decide_eq_true_eq, List.all_eq_true] at h
    obtain ⟨_, hl, _, h1, h2⟩ := h
    have hs : smI (cI c) = true := by unfold okI at h1; simpa using h1
    refine ⟨c, cs, rfl, hs, fun b hb => ?_, hl⟩
    rcases List.mem_cons.1 hb with rfl | hb
    · unfold ptI; rw [hs]; rfl
    · have := h2 b hb
      unfold ptI
      simp only [Bool.or_eq_true] at this ⊢
      rcases this with (h | h) | h
      · exact .inl (.inl (.inl h))
      · exact .inl (.inr h)
      · exact .inr h
theorem wlen_all : ∀ (l : List UInt8), (∀ b ∈ l, ptI (cI b) = true) → wlen l = l.length
  | [], _ => rfl
  | c :: cs, h => by rw [wlen_go (h c (by simp)), wlen_all cs (fun b hb => h b (by simp [hb]))]; rfl
theorem sm_not {c : UInt8} (h : smI (cI c) = true) : goI false (cI c) = false ∧ dgI (cI c) = false := by
  unfold smI at h; unfold cI at *
  simp only [Bool.and_eq_true, decide_eq_true_eq] at h
  constructor
  · unfold goI remI blI
    rw [if_neg (by omega), if_neg (by omega)]
    simp; omega
  · unfold dgI; simp; omega
theorem lex_nil (f : Nat) (p : Nat × Nat) : lexF f p [] = ([], (0, 0, 0)) := by
  cases f with
  | zero => rfl
  | succ f => exact lex_end rfl
theorem name_tok {l : List UInt8} (h : nameB l = true) : tokR l = ([⟨1, l, 0, 1, 1⟩], (0, 0, 0)) := by
  obtain ⟨c, cs, rfl, hs, hp, hl⟩ := name_parts h
  obtain ⟨g0, d0⟩ := sm_not hs
  have hg : gapL false (c :: cs) = 0 := gap_stop g0
  have hw : wlen (c :: cs) = (c :: cs).length := wlen_all _ hp
  have hf : firstW (c :: cs) = ⟨1, c :: cs, 0, 0⟩ := by
    unfold firstW
    rw [if_neg (by rw [hw]; simp), if_neg (by rw [List.headD_cons, d0]; simp), hw, List.take_length]
    unfold lettW; rw [if_pos h]
  have hx : lexL (c :: cs) = ([⟨1, c :: cs, 0, 1, 1⟩], (0, 0, 0)) := by
    unfold lexL
    rw [lex_word (r := c :: cs) (q := (1, 1)) (x := ⟨1, c :: cs, 0, 0⟩) (by rw [hg]; rfl) (by simp) hf rfl (by rw [hg]; rfl)]
    simp only [List.drop_length, lex_nil]
  unfold tokR
  rw [if_neg (by omega), hx]; rfl
theorem kind_one {l : List UInt8} (h : (firstW l).kind = 1) : nameB (firstW l).text = true := by
  unfold firstW at *
  split at h
  · rename_i h0
    exfalso
    unfold signW at h
    split at h <;> simp at h
  · rename_i h0
    rw [if_neg h0]
    split at h
    · exfalso
      unfold numW at h
      split at h <;> simp at h
    · rename_i hd
      rw [if_neg hd]
      unfold lettW at *
      split at h
      · rename_i hn
        rw [if_pos hn]; exact hn
      · exfalso
        split at h <;> simp at h
/-- A text is a name just if it is one word, of that kind. -/
theorem name_word (l : List UInt8) : nameB l = true ↔ ((tokR l).1.length = 1 ∧ (tokR l).2.1 = 0 ∧ ∃ t, (tokR l).1[0]? = some t ∧ t.kind = 1 ∧ t.text = l) := by
  constructor
  · intro h
    rw [name_tok h]
    exact ⟨rfl, rfl, _, rfl, rfl, rfl⟩
  · rintro ⟨h1, h2, t, ht, hk, hx⟩
    unfold tokR at *
    split at ht
    · simp at ht
    split at ht
    · unfold lexL at ht
      by_cases h0 : l.drop (gapL false l) = []
      · rw [lex_end h0] at ht; simp at ht
      · by_cases he : (firstW (l.drop (gapL false l))).e = 0
        · rw [lex_word rfl h0 rfl he rfl] at ht
          simp only [List.getElem?_cons_zero, Option.some.injEq] at ht
          subst ht
          have := kind_one hk
          simp only at hx
          rw [hx] at this
          exact this
        · rw [lex_fault rfl h0 he] at ht; simp at ht
    · simp at ht
theorem res_words : ∀ t ∈ resL, nameB t = false ∧ (tokR t).1.length = 1 ∧ (tokR t).2.1 = 0 ∧ (tokR t).1[0]?.map (·.kind) = some 2 := by decide +kernel
end Go.Proofs.YtlgfpjaomiomjaaGreatDoor
