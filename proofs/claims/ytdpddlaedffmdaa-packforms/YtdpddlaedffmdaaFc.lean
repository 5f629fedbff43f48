/- What a reader reads without an error, written again: plain facts. -/
import Derived.Test.YtdpddlaedffmdaaFb
namespace Go.Proofs.Ytdpddlaedffmdaa
open Go.RowKit
set_option linter.unusedVariables false
set_option linter.unusedSimpArgs false

/-- A number that was read: its bytes. -/
theorem vb_numS : ∀ (l : List UInt8) (i acc n k : Nat), numS l i acc = (n, k, 0) → ∃ m, n = acc + m * 128 ^ i ∧ i < k ∧ k - i ≤ l.length ∧ vb m = l.take (k - i) ∧ (i = 0 ∨ m ≠ 0)
  | [], i, acc, n, k, h => by simp [numS] at h
  | c :: r, i, acc, n, k, h => by
    have hc := c.toNat_lt
    have hof : UInt8.ofNat c.toNat = c := by simp
    unfold numS at h
    by_cases h9 : i < 9 ∨ c.toNat ≤ 1
    · rw [if_pos h9] at h
      by_cases hz : i = 0 ∨ c.toNat ≠ 0
      · rw [if_pos hz] at h
        by_cases hl : c.toNat < 128
        · rw [if_pos hl] at h
          simp only [Prod.mk.injEq] at h
          obtain ⟨h1, h2, _⟩ := h
          refine ⟨c.toNat, by rw [← h1, Nat.mod_eq_of_lt hl], by omega, by simp; omega, ?_, hz⟩
          rw [vb_end hl, hof, show k - i = 1 by omega]; rfl
        · rw [if_neg hl] at h
          obtain ⟨m, h1, h2, h3, h4, h5⟩ := vb_numS r (i + 1) _ n k h
          have hm : m ≠ 0 := by omega
          refine ⟨c.toNat % 128 + 128 * m, ?_, by omega, by simp; omega, ?_, .inr (by omega)⟩
          · rw [h1, Nat.pow_succ, Nat.add_mul, Nat.mul_comm (128 ^ i) 128, ← Nat.mul_assoc, Nat.mul_comm m 128, Nat.add_assoc]
          · rw [vb_more (by omega), show (c.toNat % 128 + 128 * m) % 128 + 128 = c.toNat by omega, show (c.toNat % 128 + 128 * m) / 128 = m by omega, h4, hof, show k - i = (k - (i + 1)) + 1 by omega, List.take_succ_cons]
      · rw [if_neg hz] at h; simp at h
    · rw [if_neg h9] at h; simp at h
theorem numR_zero' (l : List UInt8) (most : Nat) (h : (numR l most).2.2 ≠ 0) : (numR l most).1 = 0 ∧ (numR l most).2.1 = 0 := by
  revert h; unfold numR
  split
  · intro _; exact ⟨rfl, rfl⟩
  · split
    · rename_i h1 _; intro h2; exact absurd h2 (by simpa using h1)
    · intro _; exact ⟨rfl, rfl⟩
theorem vb_numR (l : List UInt8) (most : Nat) (h : (numR l most).2.2 = 0) : vb (numR l most).1 = l.take (numR l most).2.1 ∧ (numR l most).2.1 ≤ l.length := by
  revert h; unfold numR
  split
  · rename_i h1; intro h2; exact absurd h2 h1
  · split
    · rename_i h1 _; intro _
      obtain ⟨m, e1, e2, e3, e4, _⟩ := vb_numS l 0 0 (numS l 0 0).1 (numS l 0 0).2.1 (by rw [show (0 : Int) = (numS l 0 0).2.2 by have h1 : ¬ (numS l 0 0).2.2 ≠ 0 := h1; simpa using (Decidable.not_not.1 h1).symm])
      simp at e1
      rw [e1]; exact ⟨by simpa using e4, by simpa using e3⟩
    · intro h2; simp at h2
/-- Bytes, as a number, as bytes. -/
theorem be_more (c x : Nat) : ∀ (k K : Nat), k ≤ K → be k (x + c * 256 ^ K) = be k x
  | 0, K, h => rfl
  | k + 1, K, h => by
    have e : 256 ^ K = 256 ^ (K - k - 1) * 256 * 256 ^ k := by
      rw [Nat.mul_assoc, ← Nat.pow_succ', ← Nat.pow_add]; congr 1; omega
    have h1 : (x + c * 256 ^ K) / 256 ^ k % 256 = x / 256 ^ k % 256 := by
      rw [e, ← Nat.mul_assoc, Nat.add_mul_div_right _ _ (Nat.pow_pos (by decide)), ← Nat.mul_assoc, Nat.add_mul_mod_self_right]
    rw [be, be, h1, be_more c x k K (by omega)]
theorem fold_fx : ∀ (l : List UInt8) (a : Nat), l.foldl (fun v b => v * 256 + b.toNat) a = a * 256 ^ l.length + fxN l
  | [], a => by simp [fxN]
  | c :: r, a => by
    have h1 := fold_fx r (a * 256 + c.toNat)
    have h2 := fold_fx r (0 * 256 + c.toNat)
    unfold fxN
    rw [List.foldl_cons, List.foldl_cons, h1, h2, List.length_cons, Nat.pow_succ, Nat.add_mul, Nat.zero_mul, Nat.zero_add, Nat.mul_comm (256 ^ r.length) 256, Nat.mul_assoc, Nat.add_assoc]
theorem be_fxN : ∀ (l : List UInt8), be l.length (fxN l) = l
  | [] => rfl
  | c :: r => by
    have hc := c.toNat_lt
    have e : fxN (c :: r) = fxN r + c.toNat * 256 ^ r.length := by
      have := fold_fx r (0 * 256 + c.toNat)
      unfold fxN at this ⊢
      rw [List.foldl_cons, this]; simp [Nat.add_comm]
    have hl := fxN_lt r
    have h1 : (fxN r + c.toNat * 256 ^ r.length) / 256 ^ r.length % 256 = c.toNat := by
      rw [Nat.add_mul_div_right _ _ (Nat.pow_pos (by decide)), Nat.div_eq_of_lt hl]; omega
    rw [e, List.length_cons, be, h1, be_more _ _ _ _ (Nat.le_refl _), be_fxN r]; simp
theorem frN_fx : ∀ (l : List UInt8) (a : Nat), (a + 1) * 256 ^ l.length ≤ 340282366920938463463374607431768211456 → frN l a = l.foldl (fun v b => v * 256 + b.toNat) a
  | [], a, h => rfl
  | c :: r, a, h => by
    have hc := c.toNat_lt
    have hp := Nat.pow_pos (n := r.length) (show 0 < 256 by decide)
    rw [List.length_cons, Nat.pow_succ, Nat.mul_comm (256 ^ r.length) 256, ← Nat.mul_assoc] at h
    have h1 : (a * 256 + c.toNat + 1) * 256 ^ r.length ≤ (a + 1) * 256 * 256 ^ r.length := Nat.mul_le_mul_right _ (by omega)
    have h2 : a * 256 + c.toNat < 340282366920938463463374607431768211456 := by
      have : a * 256 + c.toNat + 1 ≤ (a * 256 + c.toNat + 1) * 256 ^ r.length := Nat.le_mul_of_pos_right _ hp
      omega
    show frN r (moreN a 256 c.toNat) = _
    rw [moreN, Nat.mod_eq_of_lt h2, List.foldl_cons]
    exact frN_fx r _ (Nat.le_trans h1 h)
theorem by_fr (l : List UInt8) (wd : Int) (h : (frR l wd).2 = 0) : byR (frR l wd).1 wd = (⟨l.toArray⟩, 0) := by
  unfold frR at h ⊢
  split at h
  · rename_i hW
    rw [if_pos hW]
    split at h
    · rename_i hL
      rw [if_pos hL]
      split at h
      · rename_i hF
        rw [if_pos hF]
        have hb : 1 ≤ wd ∧ wd ≤ 128 := by unfold isW at hW; simpa using hW
        have hl : l.length ≤ 16 := by omega
        rw [byR_yes hW hF, show ((wd + 7) / 8).toNat = l.length by omega]
        have e : frN l 0 = fxN l := frN_fx l 0 (by rw [Nat.zero_add, Nat.one_mul]; exact Nat.le_trans (Nat.pow_le_pow_right (by decide) hl) (by decide))
        rw [e, be_fxN]
      · simp at h
    · simp at h
  · simp at h
theorem fx_by (l : List UInt8) (k : Int) (hk : isFx k = true) (hl : l.length = k.toNat) : fxR (fxN l) k = (⟨l.toArray⟩, 0) := by
  have h := fxN_lt l
  unfold fxR
  rw [if_pos hk, ← hl, if_pos h, be_fxN]
/-- The bytes gone over. -/
theorem take_more (l : List UInt8) (a k : Nat) : l.take (a + k) = l.take a ++ (l.drop a).take k := by rw [List.take_add]
section
variable (s : ByteArray) (a : Nat)
theorem back_uint (ha : a ≤ s.size) (m : Nat) (h : (uintS s a 0 m).2.2 = 0) : s.data.toList.take (uintS s a 0 m).2.1 = s.data.toList.take a ++ vb (uintS s a 0 m).1 ∧ a ≤ (uintS s a 0 m).2.1 ∧ (uintS s a 0 m).2.1 ≤ s.size ∧ (uintS s a 0 m).1 ≤ m := by
  simp only [uintS, if_true] at h ⊢
  obtain ⟨h1, h2⟩ := vb_numR _ m h
  rw [drop_len] at h2
  exact ⟨by rw [take_more, h1], by omega, by omega, numR_most _ _⟩
theorem none_uint (m : Nat) (h : (uintS s a 0 m).2.2 ≠ 0) : (uintS s a 0 m).1 = 0 ∧ (uintS s a 0 m).2.1 = a := by
  simp only [uintS, if_true] at h ⊢
  obtain ⟨h1, h2⟩ := numR_zero' _ m h
  exact ⟨h1, by rw [h2]; rfl⟩
theorem back_raw (n : Int) (h : (rawR s a n).2.2 = 0) : s.data.toList.take (rawR s a n).2.1 = s.data.toList.take a ++ (rawR s a n).1.data.toList ∧ a ≤ (rawR s a n).2.1 ∧ (rawR s a n).2.1 ≤ s.size ∧ (rawR s a n).2.1 = a + (rawR s a n).1.size := by
  revert h; unfold rawR
  split
  · intro h; simp at h
  · split
    · rename_i _ h1; intro _
      refine ⟨by rw [take_more, ext_list], by simp, h1, ?_⟩
      simp only [ByteArray.size_extract]; omega
    · intro h; simp at h
theorem none_raw (n : Int) (h : (rawR s a n).2.2 ≠ 0) : (rawR s a n).1 = ⟨#[]⟩ ∧ (rawR s a n).2.1 = a := by
  revert h; unfold rawR
  split
  · intro _; exact ⟨rfl, rfl⟩
  · split
    · intro h; simp at h
    · intro _; exact ⟨rfl, rfl⟩
theorem back_text (n : Int) (h : (textQ s a n).2.2 = 0) : s.data.toList.take (textQ s a n).2.1 = s.data.toList.take a ++ (vb (textQ s a n).1.size ++ (textQ s a n).1.data.toList) ∧ a ≤ (textQ s a n).2.1 ∧ (textQ s a n).2.1 ≤ s.size ∧ a + (textQ s a n).1.size ≤ s.size := by
  revert h; unfold textQ
  split
  · intro h; simp at h
  · split
    · rename_i h1; intro h2; exact absurd h2 h1
    · rename_i _ h1
      split
      · rename_i h2; intro h3; exact absurd h3 h2
      · intro h2
        have h1 : (numR (s.data.toList.drop a) n.toNat).2.2 = 0 := Decidable.not_not.1 h1
        obtain ⟨e1, e2⟩ := vb_numR _ _ h1
        rw [drop_len] at e2
        obtain ⟨e3, e4, e5, e6⟩ := back_raw s _ _ h2
        have hn : (rawR s (a + (numR (s.data.toList.drop a) n.toNat).2.1) (numR (s.data.toList.drop a) n.toNat).1).1.size = (numR (s.data.toList.drop a) n.toNat).1 := by
          revert h2; unfold rawR
          split
          · intro h; simp at h
          · split
            · rename_i _ h4; intro _; rw [ByteArray.size_extract]; omega
            · intro h; simp at h
        refine ⟨?_, by omega, e5, by omega⟩
        rw [e3, hn, take_more, e1, List.append_assoc]
theorem none_text (n : Int) (h : (textQ s a n).2.2 ≠ 0) : (textQ s a n).1 = ⟨#[]⟩ ∧ (textQ s a n).2.1 = a := by
  revert h; unfold textQ
  split
  · intro _; exact ⟨rfl, rfl⟩
  · split
    · intro _; exact ⟨rfl, rfl⟩
    · split
      · intro _; exact ⟨rfl, rfl⟩
      · rename_i h1; intro h2; exact absurd h2 h1
theorem back_fix (k : Int) (h : (fixQ s a k).2.2 = 0) : ∃ q : ByteArray, fxR (fixQ s a k).1 k = (q, 0) ∧ s.data.toList.take (fixQ s a k).2.1 = s.data.toList.take a ++ q.data.toList ∧ a ≤ (fixQ s a k).2.1 ∧ (fixQ s a k).2.1 ≤ s.size := by
  revert h; unfold fixQ
  split
  · rename_i hk
    split
    · rename_i h1; intro _
      have hl : (s.extract a (a + k.toNat)).data.toList.length = k.toNat := by rw [ext_list, List.length_take, drop_len]; omega
      exact ⟨⟨(s.extract a (a + k.toNat)).data.toList.toArray⟩, fx_by _ k hk hl, by rw [take_more, ext_list], by simp, h1⟩
    · intro h; simp at h
  · intro h; simp at h
theorem none_fix (k : Int) (h : (fixQ s a k).2.2 ≠ 0) : (fixQ s a k).1 = 0 ∧ (fixQ s a k).2.1 = a := by
  revert h; unfold fixQ
  split
  · split
    · intro h; simp at h
    · intro _; exact ⟨rfl, rfl⟩
  · intro _; exact ⟨rfl, rfl⟩
theorem back_bits (k : Int) (h : (bitsQ s a k).2.2 = 0) : ∃ q : ByteArray, byR (bitsQ s a k).1 k = (q, 0) ∧ s.data.toList.take (bitsQ s a k).2.1 = s.data.toList.take a ++ q.data.toList ∧ a ≤ (bitsQ s a k).2.1 ∧ (bitsQ s a k).2.1 ≤ s.size ∧ Is128 (bitsQ s a k).1 := by
  revert h; unfold bitsQ
  split
  · split
    · rename_i h1
      split
      · rename_i h2; intro h3; exact absurd h3 h2
      · rename_i h2; intro _
        exact ⟨⟨(s.extract a (a + ((k + 7) / 8).toNat)).data.toList.toArray⟩, by_fr _ k (Decidable.not_not.1 h2), by rw [take_more, ext_list], by simp, h1, frR_is _ _⟩
    · intro h; simp at h
  · intro h; simp at h
theorem none_bits (k : Int) (h : (bitsQ s a k).2.2 ≠ 0) : (bitsQ s a k).1 = 0 ∧ (bitsQ s a k).2.1 = a := by
  revert h; unfold bitsQ
  split
  · split
    · split
      · intro _; exact ⟨rfl, rfl⟩
      · intro h; simp at h
    · intro _; exact ⟨rfl, rfl⟩
  · intro _; exact ⟨rfl, rfl⟩
end
end Go.Proofs.Ytdpddlaedffmdaa
