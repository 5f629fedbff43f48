/- Bytes, dots and colons: what is written is read, and what is read is written so. Plain facts. -/
import Derived.Test.YtjkpdcgmmdimaaaDoorLa
import Derived.Test.YtjkpdcgmmdimaaaDoorDe
import Derived.Test.YtjkpdcgmmdimaaaDoorDi
namespace Go.Proofs.YtjkpdcgmmdimaaaDoor
open Go.RowKit
set_option linter.unusedVariables false

theorem p256 (k : Nat) (h : k ≤ 16) : 256 ^ k ≤ 340282366920938463463374607431768211456 := by
  have := Nat.pow_le_pow_right (n := 256) (by decide) h
  exact Nat.le_trans this (by decide)
/-- Bytes, read. -/
theorem fr_be (n : Nat) : ∀ (k a : Nat), (a + 1) * 256 ^ k ≤ 340282366920938463463374607431768211456 → frN (be k n) a = a * 256 ^ k + n % 256 ^ k := by
  intro k; induction k with
  | zero => intro a h; simp [be, frN, Nat.mod_one]
  | succ k ih =>
    intro a h
    have hb : n / 256 ^ k % 256 < 256 := Nat.mod_lt _ (by decide)
    have e : (UInt8.ofNat (n / 256 ^ k % 256)).toNat = n / 256 ^ k % 256 := by simp [UInt8.toNat_ofNat', Nat.mod_eq_of_lt hb]
    have hp := Nat.pow_pos (n := k) (show 0 < 256 by decide)
    have h1 : (a * 256 + n / 256 ^ k % 256 + 1) * 256 ^ k ≤ (a + 1) * 256 ^ (k + 1) := by
      rw [Nat.pow_succ, Nat.mul_comm (256 ^ k) 256, ← Nat.mul_assoc]
      exact Nat.mul_le_mul_right _ (by omega)
    have h2 : a * 256 + n / 256 ^ k % 256 < 340282366920938463463374607431768211456 := by
      have : a * 256 + n / 256 ^ k % 256 + 1 ≤ (a * 256 + n / 256 ^ k % 256 + 1) * 256 ^ k := Nat.le_mul_of_pos_right _ hp
      omega
    show frN (be k n) (moreN a 256 (UInt8.ofNat (n / 256 ^ k % 256)).toNat) = _
    rw [e, moreN, Nat.mod_eq_of_lt h2, ih _ (Nat.le_trans h1 h), be_split k n, Nat.add_mul, Nat.pow_succ, Nat.mul_comm (256 ^ k) 256, Nat.mul_assoc, Nat.add_assoc]

theorem byteN_mod {n k i : Nat} (h : i < k) : byteN (n % 256 ^ k) i = byteN n i := by
  have e : ∀ m, byteN m i = m % (256 ^ i * 256) / 256 ^ i := fun m => by unfold byteN; rw [Nat.mod_mul_right_div_self]
  rw [e, e, ← Nat.pow_succ, Nat.mod_mod_of_dvd _ (Nat.pow_dvd_pow 256 h)]
theorem colN_eq {n m : Nat} : ∀ k, (∀ i, i < k → byteN n i = byteN m i) → colN n k = colN m k := by
  intro k; induction k with
  | zero => intro _; rfl
  | succ k ih => intro h; rw [colN, colN, h k (by omega), ih fun i hi => h i (by omega)]
theorem colN_mod {n m k : Nat} (h : n % 256 ^ k = m % 256 ^ k) : colN n k = colN m k := by
  apply colN_eq; intro i hi; rw [← byteN_mod (n := n) hi, ← byteN_mod (n := m) hi, h]
theorem colN_length (n : Nat) : ∀ k, (colN n (k + 1)).length = 3 * k + 2 := by
  intro k; induction k with
  | zero => rfl
  | succ k ih => rw [colN, if_neg (by omega)]; simp only [List.length_cons, ih]; omega
theorem more16 {a d1 d2 : Nat} (h1 : d1 < 16) (h2 : d2 < 16) (ha : a * 256 + 256 ≤ 340282366920938463463374607431768211456) : moreN (moreN a 16 d1) 16 d2 = a * 256 + (16 * d1 + d2) := by
  unfold moreN; omega
theorem byte_head {n k : Nat} : n / 256 ^ k % 256 * 256 ^ k + n % 256 ^ k = n % 256 ^ (k + 1) := (be_split k n).symm
/-- Colons, read. -/
theorem cg_col (n : Nat) : ∀ (k p a : Nat), p % 3 = 0 → (a + 1) * 256 ^ (k + 1) ≤ 340282366920938463463374607431768211456 → cg p (colN n (k + 1)) a = some (a * 256 ^ (k + 1) + n % 256 ^ (k + 1)) := by
  intro k; induction k with
  | zero =>
    intro p a hp h
    have hb : byteN n 0 < 256 := byteN_lt n 0
    have e : byteN n 0 = n % 256 := by unfold byteN; simp
    rw [colN, if_pos rfl, cg_digit (by omega) (worth_sgn (by decide) (by omega)), cg_digit (by omega) (worth_sgn (by decide) (by omega)), more16 (by omega) (by omega) (by simp at h; omega), cg, e]
    simp; omega
  | succ k ih =>
    intro p a hp h
    have hb : byteN n (k + 1) < 256 := byteN_lt n (k + 1)
    have hp1 := Nat.pow_pos (n := k + 1) (show 0 < 256 by decide)
    have h1 : (a * 256 + byteN n (k + 1) + 1) * 256 ^ (k + 1) ≤ (a + 1) * 256 ^ (k + 1 + 1) := by
      rw [Nat.pow_succ 256 (k + 1), Nat.mul_comm (256 ^ (k + 1)) 256, ← Nat.mul_assoc]
      exact Nat.mul_le_mul_right _ (by omega)
    have h2 : a * 256 + 256 ≤ 340282366920938463463374607431768211456 := by
      have h3 : (a + 1) * 256 ≤ (a + 1) * 256 ^ (k + 1 + 1) := by
        apply Nat.mul_le_mul_left
        rw [Nat.pow_succ]
        exact Nat.le_mul_of_pos_left _ hp1
      omega
    rw [colN, if_neg (by omega), cg_digit (by omega) (worth_sgn (by decide) (by omega)), cg_digit (by omega) (worth_sgn (by decide) (by omega)), more16 (by omega) (by omega) h2, cg_colon (by omega) rfl, ih _ _ (by omega) (by rw [show 16 * (byteN n (k + 1) / 16) + byteN n (k + 1) % 16 = byteN n (k + 1) by omega]; exact Nat.le_trans h1 h)]
    rw [show 16 * (byteN n (k + 1) / 16) + byteN n (k + 1) % 16 = byteN n (k + 1) by omega, ← byte_head (n := n) (k := k + 1), Nat.add_mul, Nat.pow_succ 256 (k + 1), Nat.mul_comm (256 ^ (k + 1)) 256, Nat.mul_assoc, Nat.add_assoc]
    rfl
/-- What is read of colons is written so. -/
theorem cg_back : ∀ (k p a v : Nat) (l : List UInt8), l.length = 3 * k + 2 → p % 3 = 0 → (a + 1) * 256 ^ (k + 1) ≤ 340282366920938463463374607431768211456 → cg p l a = some v → ∃ x, x < 256 ^ (k + 1) ∧ v = a * 256 ^ (k + 1) + x ∧ l = colN x (k + 1) := by
  intro k; induction k with
  | zero =>
    intro p a v l hl hp h hv
    obtain ⟨c0, c1, rfl⟩ : ∃ c0 c1, l = [c0, c1] := by
      match l, hl with
      | [c0, c1], _ => exact ⟨c0, c1, rfl⟩
    cases w0 : worth 16 c0 with
    | none => rw [cg_nodigit (by omega) w0] at hv; cases hv
    | some d0 =>
      rw [cg_digit (by omega) w0] at hv
      cases w1 : worth 16 c1 with
      | none => rw [cg_nodigit (by omega) w1] at hv; cases hv
      | some d1 =>
        obtain ⟨g0, s0⟩ := worth_some w0
        obtain ⟨g1, s1⟩ := worth_some w1
        rw [cg_digit (by omega) w1, more16 g0 g1 (by simp at h; omega), cg] at hv
        injection hv with hv
        refine ⟨16 * d0 + d1, by simp; omega, by simp; omega, ?_⟩
        have e : byteN (16 * d0 + d1) 0 = 16 * d0 + d1 := by unfold byteN; simp; omega
        rw [colN, if_pos rfl, e, show (16 * d0 + d1) / 16 = d0 by omega, show (16 * d0 + d1) % 16 = d1 by omega, s0, s1]
  | succ k ih =>
    intro p a v l hl hp h hv
    obtain ⟨c0, c1, c2, r, rfl⟩ : ∃ c0 c1 c2 r, l = c0 :: c1 :: c2 :: r := by
      match l, hl with
      | c0 :: c1 :: c2 :: r, _ => exact ⟨c0, c1, c2, r, rfl⟩
    cases w0 : worth 16 c0 with
    | none => rw [cg_nodigit (by omega) w0] at hv; cases hv
    | some d0 =>
      rw [cg_digit (by omega) w0] at hv
      cases w1 : worth 16 c1 with
      | none => rw [cg_nodigit (by omega) w1] at hv; cases hv
      | some d1 =>
        obtain ⟨g0, s0⟩ := worth_some w0
        obtain ⟨g1, s1⟩ := worth_some w1
        have hp1 := Nat.pow_pos (n := k + 1) (show 0 < 256 by decide)
        have h2 : a * 256 + 256 ≤ 340282366920938463463374607431768211456 := by
          have h3 : (a + 1) * 256 ≤ (a + 1) * 256 ^ (k + 1 + 1) := by
            apply Nat.mul_le_mul_left
            rw [Nat.pow_succ]
            exact Nat.le_mul_of_pos_left _ hp1
          omega
        rw [cg_digit (by omega) w1, more16 g0 g1 h2] at hv
        by_cases h58 : c2 = 58
        · rw [cg_colon (by omega) h58] at hv
          have h1 : (a * 256 + (16 * d0 + d1) + 1) * 256 ^ (k + 1) ≤ (a + 1) * 256 ^ (k + 1 + 1) := by
            rw [Nat.pow_succ 256 (k + 1), Nat.mul_comm (256 ^ (k + 1)) 256, ← Nat.mul_assoc]
            exact Nat.mul_le_mul_right _ (by omega)
          obtain ⟨x, hx, hvx, hr⟩ := ih _ _ _ _ (by simp at hl; omega) (by omega) (Nat.le_trans h1 h) hv
          have hB : (16 * d0 + d1) < 256 := by omega
          refine ⟨(16 * d0 + d1) * 256 ^ (k + 1) + x, ?_, ?_, ?_⟩
          · rw [Nat.pow_succ 256 (k + 1), Nat.mul_comm (256 ^ (k + 1)) 256]
            have := Nat.mul_le_mul_right (256 ^ (k + 1)) (show 16 * d0 + d1 + 1 ≤ 256 by omega)
            rw [Nat.add_mul] at this
            omega
          · rw [hvx, Nat.add_mul, Nat.pow_succ 256 (k + 1), Nat.mul_comm (256 ^ (k + 1)) 256, Nat.mul_assoc, Nat.add_assoc]
          · have e1 : byteN ((16 * d0 + d1) * 256 ^ (k + 1) + x) (k + 1) = 16 * d0 + d1 := by
              unfold byteN; rw [Nat.mul_comm, Nat.mul_add_div hp1, Nat.div_eq_of_lt hx, Nat.add_zero, Nat.mod_eq_of_lt hB]
            have e2 : colN ((16 * d0 + d1) * 256 ^ (k + 1) + x) (k + 1) = colN x (k + 1) := by
              apply colN_mod; rw [Nat.mul_comm, Nat.mul_add_mod]
            rw [colN, if_neg (by omega), e1, e2, ← hr, h58, show (16 * d0 + d1) / 16 = d0 by omega, show (16 * d0 + d1) % 16 = d1 by omega, s0, s1]
        · rw [cg_nocolon (by omega) h58] at hv; cases hv
theorem fc_col {n k : Nat} (hk : 1 ≤ k) (hk' : k ≤ 16) (hn : n < 256 ^ k) : fcR (colN n k) k = (n, true) := by
  obtain ⟨j, rfl⟩ : ∃ j, k = j + 1 := ⟨k - 1, by omega⟩
  refine fcR_some (by rw [colN_length]; omega) ?_
  rw [cg_col n j 0 0 rfl (by simpa using p256 (j + 1) hk')]
  rw [Nat.mod_eq_of_lt hn]; simp
theorem fc_back {l : List UInt8} {v k : Nat} (hk : 1 ≤ k) (hk' : k ≤ 16) (h : fcR l k = (v, true)) : v < 256 ^ k ∧ colN v k = l := by
  obtain ⟨j, rfl⟩ : ∃ j, k = j + 1 := ⟨k - 1, by omega⟩
  unfold fcR at h
  split at h
  · next hl =>
    cases hg : cg 0 l 0 with
    | none => rw [hg] at h; injection h with _ h; cases h
    | some u =>
      rw [hg] at h
      injection h with h _
      have h' : u = v := h
      subst h'
      obtain ⟨x, hx, hv, hlx⟩ := cg_back j 0 0 u l (by omega) rfl (by simpa using p256 (j + 1) hk') hg
      rw [Nat.zero_mul, Nat.zero_add] at hv
      subst hv
      exact ⟨hx, hlx.symm⟩
  · injection h with _ h; cases h
/-- A text of another form is none of colons. -/
theorem fc_not {l : List UInt8} {k : Nat} (hk : 2 ≤ k) (h : l[2]? ≠ some 58 ∨ (∃ c, l[1]? = some c ∧ worth 16 c = none)) : (fcR l k).2 = false := by
  unfold fcR
  split
  · next hl =>
    obtain ⟨c0, c1, c2, r, rfl⟩ : ∃ c0 c1 c2 r, l = c0 :: c1 :: c2 :: r := by
      match l, hl with
      | [], hl => simp at hl; omega
      | [_], hl => simp at hl; omega
      | [_, _], hl => simp at hl; omega
      | c0 :: c1 :: c2 :: r, _ => exact ⟨c0, c1, c2, r, rfl⟩
    have : cg 0 (c0 :: c1 :: c2 :: r) 0 = none := by
      cases w0 : worth 16 c0 with
      | none => exact cg_nodigit (by decide) w0
      | some d0 =>
        rw [cg_digit (by decide) w0]
        cases w1 : worth 16 c1 with
        | none => exact cg_nodigit (by decide) w1
        | some d1 =>
          rw [cg_digit (by decide) w1]
          rcases h with h | ⟨c, h, hc⟩
          · exact cg_nocolon (by decide) (by simpa using h)
          · simp at h; subst h; rw [hc] at w1; cases w1
    rw [this]
  · rfl
end Go.Proofs.YtjkpdcgmmdimaaaDoor
