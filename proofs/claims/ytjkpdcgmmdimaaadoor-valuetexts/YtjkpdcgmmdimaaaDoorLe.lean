/- Bytes and texts of a width: what is written is read, and what is read is written so. Plain facts. -/
import Derived.Test.YtjkpdcgmmdimaaaDoorLd
namespace Go.Proofs.YtjkpdcgmmdimaaaDoor
open Go.RowKit
set_option linter.unusedVariables false

theorem fits_lt {n : Nat} {wd : Int} (h : fitsN n wd = true) : n < 2 ^ wd.toNat := by unfold fitsN at h; simp at h; exact h.2
theorem bytes_back {n : Nat} {wd : Int} (hn : Is128 n) (hW : isW wd = true) (hf : fitsN n wd = true) : frR (be ((wd + 7) / 8).toNat n) wd = (n, 0) := by
  have hb := isW_bounds hW
  have e : frN (be ((wd + 7) / 8).toNat n) 0 = n := by
    rw [fr_be n _ 0 (by simpa using p256 _ (by omega)), Nat.zero_mul, Nat.zero_add]
    apply Nat.mod_eq_of_lt
    refine Nat.lt_of_lt_of_le (fits_lt hf) ?_
    rw [show (256 : Nat) = 2 ^ 8 by decide, ← Nat.pow_mul]
    exact Nat.pow_le_pow_right (by decide) (by omega)
  have := frR_yes (l := be ((wd + 7) / 8).toNat n) hW (by rw [be_length]; omega) (by rw [e]; exact hf)
  rw [e] at this; exact this

theorem pn_yes {l : List UInt8} {n : Nat} {wd : Int} (h : fnN l = (n, 0)) (hf : fitsN n wd = true) : pnN l wd = (n, 0) := by
  unfold pnN; rw [h]; rw [if_pos rfl, if_pos hf]
theorem fn_dec {n : Nat} (hn : Is128 n) : fnN (digs 10 n) = (n, 0) := by
  have hno : ∀ c, (digs 10 n).take 2 = [48, c] → c ≠ 120 ∧ c ≠ 98 := by
    intro c h
    have hc : c ∈ digs 10 n := List.mem_of_mem_take (i := 2) (by rw [h]; simp)
    obtain ⟨d, hd, rfl⟩ := digs_mem (by decide) hc
    exact ⟨(sgn_not d (by omega)).2.2, sgn_98 d hd⟩
  unfold fnN
  rw [if_neg (fun h => (hno _ h).1 rfl), if_neg (fun h => (hno _ h).2 rfl)]
  exact fd_digs (by decide) (by decide) hn
theorem fn_hex {n : Nat} (hn : Is128 n) : fnN (48 :: 120 :: digs 16 n) = (n, 0) := by
  unfold fnN; rw [if_pos (by simp)]; exact fd_digs (by decide) (by decide) hn
theorem fn_bin {n : Nat} (hn : Is128 n) : fnN (48 :: 98 :: digs 2 n) = (n, 0) := by
  unfold fnN; rw [if_neg (by simp), if_pos (by simp)]; exact fd_digs (by decide) (by decide) hn
theorem hasC_k {wd : Int} (h : hasC wd = true) : isW wd = true ∧ 2 ≤ ((wd + 7) / 8).toNat ∧ ((wd + 7) / 8).toNat ≤ 16 ∧ wd.toNat = 8 * ((wd + 7) / 8).toNat := by
  unfold hasC at h
  simp at h
  obtain ⟨⟨h1, h2⟩, h3⟩ := h
  have hb := isW_bounds h1
  exact ⟨h1, by omega, by omega, by omega⟩
theorem digs_no {base n : Nat} (hb : 0 < base) (hb1 : base ≤ 16) {c : UInt8} (h : c ∈ digs base n) : c ≠ 46 ∧ c ≠ 58 := by
  obtain ⟨d, hd, rfl⟩ := digs_mem hb h
  exact ⟨(sgn_not d (by omega)).1, (sgn_not d (by omega)).2.1⟩
theorem no_58 {l : List UInt8} (h : ∀ c ∈ l, c ≠ 58) : l[2]? ≠ some 58 := fun e => h 58 (List.mem_of_getElem? e) rfl
theorem pr_number {s : ByteArray} {n : Nat} {wd : Int} (hW : isW wd = true) (hf : fitsN n wd = true) (hfn : fnN s.data.toList = (n, 0)) (hc : hasC wd = true → (fcR s.data.toList ((wd + 7) / 8).toNat).2 = false) (hd : ∀ c ∈ s.data.toList, c ≠ 46) : prR s wd = (n, 0) := by
  rw [prR_num hW (fun h => by rw [hc h.1] at h; cases h.2) (fun h => by rw [dotsR_list, dots_not hd] at h; cases h.2)]
  exact pn_yes hfn hf
/-- A text is read as what it was written of. -/
theorem pr_tx {n : Nat} {wd form : Int} (hn : Is128 n) (hW : isW wd = true) (hf : fitsN n wd = true) (hF : isF form = true) (hH : hasF wd form = true) : prR ⟨(txN n wd form).toArray⟩ wd = (n, 0) := by
  have hcases : form = 1 ∨ form = 2 ∨ form = 3 ∨ form = 4 ∨ form = 5 := by simp [isF] at hF; omega
  rcases hcases with rfl | rfl | rfl | rfl | rfl
  · rw [show txN n wd 1 = digs 10 n by unfold txN; rfl]
    refine pr_number hW hf (by simpa using fn_dec hn) (fun hC => ?_) (fun c hc => (digs_no (base := 10) (n := n) (by decide) (by decide) (by simpa using hc)).1)
    exact fc_not (hasC_k hC).2.1 (Or.inl (no_58 fun c hc => (digs_no (base := 10) (n := n) (by decide) (by decide) (by simpa using hc)).2))
  · rw [show txN n wd 2 = 48 :: 120 :: digs 16 n by unfold txN; rfl]
    refine pr_number hW hf (by simpa using fn_hex hn) (fun hC => ?_) (fun c hc => ?_)
    · exact fc_not (hasC_k hC).2.1 (Or.inr ⟨120, by simp, by decide⟩)
    · simp at hc
      rcases hc with rfl | rfl | hc
      · decide
      · decide
      · exact (digs_no (by decide) (by decide) hc).1
  · rw [show txN n wd 3 = 48 :: 98 :: digs 2 n by unfold txN; rfl]
    refine pr_number hW hf (by simpa using fn_bin hn) (fun hC => ?_) (fun c hc => ?_)
    · refine fc_not (hasC_k hC).2.1 (Or.inl (no_58 fun c hc => ?_))
      simp at hc
      rcases hc with rfl | rfl | hc
      · decide
      · decide
      · exact (digs_no (by decide) (by decide) hc).2
    · simp at hc
      rcases hc with rfl | rfl | hc
      · decide
      · decide
      · exact (digs_no (by decide) (by decide) hc).1
  · rw [show txN n wd 4 = dpre n 4 by unfold txN; rfl]
    have h32 : wd = 32 := by unfold hasF at hH; simpa using hH
    subst h32
    have hl : n < 4294967296 := fits_lt hf
    have hd := dots_dpre hl
    have hc : (fcR (dpre n 4) (((32 : Int) + 7) / 8).toNat).2 = false := by
      refine fc_not (by decide) (Or.inl (no_58 fun c hc => ?_))
      rw [dpre_four] at hc
      simp at hc
      rcases hc with hc | rfl | hc | rfl | hc | rfl | hc
      · exact (digs_no (by decide) (by decide) hc).2
      · decide
      · exact (digs_no (by decide) (by decide) hc).2
      · decide
      · exact (digs_no (by decide) (by decide) hc).2
      · decide
      · exact (digs_no (by decide) (by decide) hc).2
    have hdr : dotsR ⟨(dpre n 4).toArray⟩ = (n, true) := by rw [dotsR_list]; simpa using hd
    rw [prR_dot hW (fun h => by have h2 := h.2; simp at h2; rw [show (((32 : Int) + 7) / 8).toNat = 4 from rfl] at hc; simp [hc] at h2) rfl (by rw [hdr]), hdr]
  · rw [show txN n wd 5 = colN n ((wd + 7) / 8).toNat by unfold txN; rfl]
    have hC : hasC wd = true := by unfold hasF at hH; simpa using hH
    obtain ⟨_, k1, k2, k3⟩ := hasC_k hC
    have hl : n < 256 ^ ((wd + 7) / 8).toNat := by
      have := fits_lt hf
      rw [k3, Nat.pow_mul] at this; exact this
    have hc := fc_col (by omega) k2 hl
    have := prR_col (s := ⟨(colN n ((wd + 7) / 8).toNat).toArray⟩) hW hC (by simp [hc])
    rw [this]; simp [hc]
theorem fn_back {l : List UInt8} {v : Nat} (h : fnN l = (v, 0)) : l = 48 :: 120 :: digs 16 v ∨ l = 48 :: 98 :: digs 2 v ∨ l = digs 10 v := by
  unfold fnN at h
  split at h
  · next ht =>
    left; rw [fd_back (by decide) (by decide) h]
    have := List.take_append_drop 2 l
    rw [ht] at this; exact this.symm
  · split at h
    · next ht =>
      right; left; rw [fd_back (by decide) (by decide) h]
      have := List.take_append_drop 2 l
      rw [ht] at this; exact this.symm
    · right; right; exact (fd_back (by decide) (by decide) h).symm
/-- A text that is read is that of its value in some form. -/
theorem pr_back {s : ByteArray} {wd : Int} (hW : isW wd = true) (h : (prR s wd).2 = 0) : ∃ form : Nat, 1 ≤ form ∧ form ≤ 5 ∧ (txR (prR s wd).1 wd form).1 = s.data.toList := by
  have hw : ∀ v form, isF form = true → hasF wd form = true → fitsN v wd = true → (txR v wd form).1 = txN v wd form := fun v form a b c => by rw [txR_yes a b c]
  by_cases hc : hasC wd = true ∧ (fcR s.data.toList ((wd + 7) / 8).toNat).2 = true
  · obtain ⟨hC, hc2⟩ := hc
    rw [prR_col hW hC hc2]
    obtain ⟨_, k1, k2, k3⟩ := hasC_k hC
    obtain ⟨hv, hl⟩ := fc_back (l := s.data.toList) (v := (fcR s.data.toList ((wd + 7) / 8).toNat).1) (by omega) k2 (by rw [← hc2])
    refine ⟨5, by decide, by decide, ?_⟩
    have hf : fitsN (fcR s.data.toList ((wd + 7) / 8).toNat).1 wd = true := by
      unfold fitsN; rw [hW, k3, Nat.pow_mul]; simpa using hv
    rw [hw _ _ (by decide) (by unfold hasF; simpa using hC) hf]
    rw [show txN (fcR s.data.toList ((wd + 7) / 8).toNat).1 wd ((5 : Nat) : Int) = colN (fcR s.data.toList ((wd + 7) / 8).toNat).1 ((wd + 7) / 8).toNat by unfold txN; rfl]
    exact hl
  · by_cases hd : wd = 32 ∧ (dotsR s).2 = true
    · obtain ⟨h32, hd2⟩ := hd
      rw [prR_dot hW hc h32 hd2]
      obtain ⟨hv, hl⟩ := dots_back (l := s.data.toList) (v := (dotsR s).1) (by rw [← dotsR_list, ← hd2])
      refine ⟨4, by decide, by decide, ?_⟩
      subst h32
      have hf : fitsN (dotsR s).1 32 = true := by unfold fitsN; rw [hW]; simpa using hv
      rw [hw _ _ (by decide) (by unfold hasF; rfl) hf]
      rw [show txN (dotsR s).1 32 ((4 : Nat) : Int) = dpre (dotsR s).1 4 by unfold txN; rfl]
      exact hl
    · rw [prR_num hW hc hd] at h ⊢
      unfold pnN at h ⊢
      by_cases h0 : (fnN s.data.toList).2 = 0
      · rw [if_pos h0] at h ⊢
        cases hf : fitsN (fnN s.data.toList).1 wd
        · rw [hf] at h; simp at h
        · rw [if_pos rfl]
          rcases fn_back (l := s.data.toList) (v := (fnN s.data.toList).1) (by rw [← h0]) with e | e | e
          · refine ⟨2, by decide, by decide, ?_⟩
            rw [hw _ _ (by decide) (by unfold hasF; simpa using hW) hf]
            rw [show txN (fnN s.data.toList).1 wd ((2 : Nat) : Int) = 48 :: 120 :: digs 16 (fnN s.data.toList).1 by unfold txN; rfl]
            exact e.symm
          · refine ⟨3, by decide, by decide, ?_⟩
            rw [hw _ _ (by decide) (by unfold hasF; simpa using hW) hf]
            rw [show txN (fnN s.data.toList).1 wd ((3 : Nat) : Int) = 48 :: 98 :: digs 2 (fnN s.data.toList).1 by unfold txN; rfl]
            exact e.symm
          · refine ⟨1, by decide, by decide, ?_⟩
            rw [hw _ _ (by decide) (by unfold hasF; simpa using hW) hf]
            rw [show txN (fnN s.data.toList).1 wd ((1 : Nat) : Int) = digs 10 (fnN s.data.toList).1 by unfold txN; rfl]
            exact e.symm
      · rw [if_neg h0] at h
        exact absurd h h0
theorem pr_is (s : ByteArray) (wd : Int) : Is128 (prR s wd).1 := by
  have hz : Is128 0 := by unfold Is128; decide
  unfold prR
  split
  · split
    · unfold fcR; split
      · cases hg : cg 0 s.data.toList 0 with
        | none => exact hz
        | some v => exact cg_is hz hg
      · exact hz
    · split
      · next h =>
        rw [dotsR_list] at h ⊢
        have := (dots_back (l := s.data.toList) (v := (dotsL s.data.toList).1) (by rw [← h.2])).1
        unfold Is128; omega
      · unfold pnN; split
        · split
          · exact fnN_is _
          · exact hz
        · exact hz
  · exact hz
end Go.Proofs.YtjkpdcgmmdimaaaDoor
