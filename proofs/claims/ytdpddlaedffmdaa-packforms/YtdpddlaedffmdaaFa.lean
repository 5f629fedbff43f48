/- What a writer puts, read again: plain facts. -/
import Derived.Test.YtdpddlaedffmdaaQi
import Derived.Test.YtdpddlaedffmdaaLi
namespace Go.Proofs.Ytdpddlaedffmdaa
open Go.RowKit
set_option linter.unusedVariables false
set_option linter.unusedSimpArgs false

theorem of8n (m : Nat) (h : m < 256) : (UInt8.ofNat m).toNat = m := by simp [UInt8.toNat_ofNat']; omega
/-- A number's bytes, read. -/
theorem numS_vb (r : List UInt8) : ∀ (n i acc : Nat), i ≤ 9 → n < 2 * 128 ^ (9 - i) → (i = 0 ∨ n ≠ 0) → numS (vb n ++ r) i acc = (acc + n * 128 ^ i, i + (vb n).length, 0) := by
  intro n
  induction n using Nat.strongRecOn with
  | _ n ih =>
    intro i acc hi hn hz
    by_cases h : n < 128
    · rw [vb_end h]
      have e := of8n n (by omega)
      have h9 : i < 9 ∨ n ≤ 1 := by
        by_cases q : i < 9
        · exact .inl q
        · have : i = 9 := by omega
          subst this; simp at hn; right; omega
      simp only [List.cons_append, List.nil_append, numS, e]
      rw [if_pos h9, if_pos hz, if_pos h, Nat.mod_eq_of_lt h]; rfl
    · rw [vb_more h]
      have e := of8n (n % 128 + 128) (by omega)
      have h9 : i < 9 := by
        by_cases q : i < 9
        · exact q
        · have : i = 9 := by omega
          subst this; simp at hn; omega
      simp only [List.cons_append, numS, e]
      rw [if_pos (.inl h9), if_pos (.inr (by omega)), if_neg (by omega)]
      have hp : 128 ^ (9 - i) = 128 ^ (9 - (i + 1)) * 128 := by rw [← Nat.pow_succ]; congr 1; omega
      rw [ih (n / 128) (by omega) (i + 1) _ (by omega) (by rw [Nat.div_lt_iff_lt_mul (by decide)]; rw [hp] at hn; omega) (.inr (by omega))]
      have hm : (n % 128 + 128) % 128 = n % 128 := by omega
      have hs : acc + (n % 128 + 128) % 128 * 128 ^ i + n / 128 * 128 ^ (i + 1) = acc + n * 128 ^ i := by
        rw [hm, Nat.pow_succ, Nat.mul_comm (128 ^ i) 128, ← Nat.mul_assoc, Nat.add_assoc, ← Nat.add_mul]
        congr 2; omega
      rw [hs]; simp; omega
/-- .. and cut short. -/
theorem numS_cut : ∀ (n i acc : Nat) (p r : List UInt8), vb n = p ++ r → r ≠ [] → i ≤ 9 → n < 2 * 128 ^ (9 - i) → (i = 0 ∨ n ≠ 0) → (numS p i acc).2.2 = 3 := by
  intro n
  induction n using Nat.strongRecOn with
  | _ n ih =>
    intro i acc p r hv hr hi hn hz
    cases p with
    | nil => rfl
    | cons c p =>
      by_cases h : n < 128
      · rw [vb_end h] at hv
        simp at hv
        exact absurd hv.2.2 hr
      · rw [vb_more h] at hv
        simp only [List.cons_append, List.cons.injEq] at hv
        obtain ⟨rfl, hv⟩ := hv
        have e := of8n (n % 128 + 128) (by omega)
        have h9 : i < 9 := by
          by_cases q : i < 9
          · exact q
          · have : i = 9 := by omega
            subst this; simp at hn; omega
        simp only [numS, e]
        rw [if_pos (.inl h9), if_pos (.inr (by omega)), if_neg (by omega)]
        have hp : 128 ^ (9 - i) = 128 ^ (9 - (i + 1)) * 128 := by rw [← Nat.pow_succ]; congr 1; omega
        exact ih (n / 128) (by omega) (i + 1) _ p r hv hr (by omega) (by rw [Nat.div_lt_iff_lt_mul (by decide)]; rw [hp] at hn; omega) (.inr (by omega))
theorem two_nine (n : Nat) (h : n < 18446744073709551616) : n < 2 * 128 ^ (9 - 0) := by simpa using h
theorem numR_vb (n : Nat) (h : n < 18446744073709551616) (r : List UInt8) (most : Nat) (hm : n ≤ most) : numR (vb n ++ r) most = (n, (vb n).length, 0) := by
  have e := numS_vb r n 0 0 (by omega) (two_nine n h) (.inl rfl)
  simp at e
  unfold numR
  rw [e]; simp [hm]
theorem numR_cut (n : Nat) (h : n < 18446744073709551616) (p r : List UInt8) (hv : vb n = p ++ r) (hr : r ≠ []) (most : Nat) : numR p most = (0, 0, 3) := by
  have e := numS_cut n 0 0 p r hv hr (by omega) (two_nine n h) (.inl rfl)
  unfold numR
  rw [if_pos (by rw [e]; decide), e]
/-- Bytes that stand for a number. -/
theorem fold_be (n : Nat) : ∀ (k a : Nat), (be k n).foldl (fun v b => v * 256 + b.toNat) a = a * 256 ^ k + n % 256 ^ k := by
  intro k; induction k with
  | zero => intro a; simp [be, Nat.mod_one]
  | succ k ih =>
    intro a
    have hb : n / 256 ^ k % 256 < 256 := Nat.mod_lt _ (by decide)
    rw [be, List.foldl_cons, ih, of8n _ hb, be_split k n, Nat.add_mul, Nat.pow_succ, Nat.mul_comm (256 ^ k) 256, Nat.mul_assoc, Nat.add_assoc]
theorem fxN_be (k n : Nat) (h : n < 256 ^ k) : fxN (be k n) = n := by
  unfold fxN; rw [fold_be, Nat.mod_eq_of_lt h]; simp
theorem fr_be (n : Nat) : ∀ (k a : Nat), (a + 1) * 256 ^ k ≤ 340282366920938463463374607431768211456 → frN (be k n) a = a * 256 ^ k + n % 256 ^ k := by
  intro k; induction k with
  | zero => intro a h; simp [be, frN, Nat.mod_one]
  | succ k ih =>
    intro a h
    have hb : n / 256 ^ k % 256 < 256 := Nat.mod_lt _ (by decide)
    have e := of8n _ hb
    have hp := Nat.pow_pos (n := k) (show 0 < 256 by decide)
    have h1 : (a * 256 + n / 256 ^ k % 256 + 1) * 256 ^ k ≤ (a + 1) * 256 ^ (k + 1) := by
      rw [Nat.pow_succ, Nat.mul_comm (256 ^ k) 256, ← Nat.mul_assoc]
      exact Nat.mul_le_mul_right _ (by omega)
    have h2 : a * 256 + n / 256 ^ k % 256 < 340282366920938463463374607431768211456 := by
      have : a * 256 + n / 256 ^ k % 256 + 1 ≤ (a * 256 + n / 256 ^ k % 256 + 1) * 256 ^ k := Nat.le_mul_of_pos_right _ hp
      omega
    show frN (be k n) (moreN a 256 (UInt8.ofNat (n / 256 ^ k % 256)).toNat) = _
    rw [e, moreN, Nat.mod_eq_of_lt h2, ih _ (Nat.le_trans h1 h), be_split k n, Nat.add_mul, Nat.pow_succ, Nat.mul_comm (256 ^ k) 256, Nat.mul_assoc, Nat.add_assoc]
theorem frR_be (m : Nat) (h : m < 18446744073709551616) : frR (be 8 m) 64 = (m, 0) := by
  have e : frN (be 8 m) 0 = m := by rw [fr_be m 8 0 (by decide), Nat.mod_eq_of_lt (by simpa using h)]; simp
  rw [frR_yes (by decide) (by rw [be_length]; decide) (by rw [e]; unfold fitsN; simp [isW]; exact h), e]
theorem byR_be (m : Nat) (h : m < 18446744073709551616) : byR m 64 = (⟨(be 8 m).toArray⟩, 0) := by
  rw [byR_yes (by decide) (by unfold fitsN; simp [isW]; exact h)]; rfl
/-- Where a reader stands. -/
theorem drop_len (s : ByteArray) (a : Nat) : (s.data.toList.drop a).length = s.size - a := by
  rw [List.length_drop, Array.length_toList]; rfl
theorem ext_list (s : ByteArray) (a k : Nat) : (s.extract a (a + k)).data.toList = (s.data.toList.drop a).take k := by
  rw [ByteArray.data_extract, Array.toList_extract]
  simp only [List.extract_eq_take_drop, Nat.add_sub_cancel_left]
theorem ext_arr (s : ByteArray) (a : Nat) (t r : List UInt8) (h : s.data.toList.drop a = t ++ r) : s.extract a (a + t.length) = ⟨t.toArray⟩ := by
  apply ByteArray.ext
  apply Array.ext'
  rw [ext_list, h]; simp
theorem room (s : ByteArray) (a : Nat) (t r : List UInt8) (ha : a ≤ s.size) (h : s.data.toList.drop a = t ++ r) : a + t.length + r.length = s.size := by
  have := congrArg List.length h
  rw [drop_len, List.length_append] at this; omega
theorem drop_more (s : ByteArray) (a : Nat) (t r : List UInt8) (h : s.data.toList.drop a = t ++ r) : s.data.toList.drop (a + t.length) = r := by
  rw [← List.drop_drop, h]; simp
theorem raw_whole (s : ByteArray) (a : Nat) (t r : List UInt8) (ha : a ≤ s.size) (h : s.data.toList.drop a = t ++ r) : rawR s a (t.length : Int) = (⟨t.toArray⟩, a + t.length, 0) := by
  have := room s a t r ha h
  unfold rawR
  rw [if_neg (by omega), Int.toNat_natCast, if_pos (by omega), ext_arr s a t r h]
theorem raw_short (s : ByteArray) (a k : Nat) (h : s.size < a + k) : rawR s a (k : Int) = (⟨#[]⟩, a, 3) := by
  unfold rawR
  rw [if_neg (by omega), Int.toNat_natCast, if_neg (by omega)]
end Go.Proofs.Ytdpddlaedffmdaa
