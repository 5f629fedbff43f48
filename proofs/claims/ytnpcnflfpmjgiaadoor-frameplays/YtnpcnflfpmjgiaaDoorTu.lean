/- Bits of a frame's bytes turned: plain facts. -/
import Derived.Test.YtnpcnflfpmjgiaaDoorHp
namespace Go.Proofs.YtnpcnflfpmjgiaaDoor
open Go.RowKit
set_option linter.unusedVariables false
set_option linter.unusedSimpArgs false

/-- The bits that were turned, the first i of them. -/
def qX (bits : Nat) : Nat → Nat
  | 0 => 0
  | i + 1 => qX bits i ^^^ (if bits / 2 ^ (31 - i) % 2 = 1 then 2 ^ i else 0)
theorem qX_lt (bits : Nat) : ∀ i, qX bits i < 2 ^ i
  | 0 => by simp [qX]
  | i + 1 => by
    have h := qX_lt bits i
    have h2 : 2 ^ i < 2 ^ (i + 1) := Nat.pow_lt_pow_right (by decide) (by omega)
    rw [qX]
    refine Nat.xor_lt_two_pow (by omega) ?_
    split
    · exact h2
    · exact Nat.pow_pos (by decide)
theorem qX_bit (bits t : Nat) : ∀ n, (qX bits n).testBit t = (decide (t < n) && decide (bits / 2 ^ (31 - t) % 2 = 1))
  | 0 => by simp [qX]
  | n + 1 => by
    rw [qX, Nat.testBit_xor, qX_bit bits t n]
    by_cases e : t = n
    · subst e
      split
      · rename_i h; simp [Nat.testBit_two_pow, h]
      · rename_i h; simp [h]
    · have h3 : (if bits / 2 ^ (31 - n) % 2 = 1 then 2 ^ n else 0).testBit t = false := by
        split
        · rw [Nat.testBit_two_pow]; simp; omega
        · simp
      rw [h3, Bool.xor_false]
      have : decide (t < n + 1) = decide (t < n) := by apply decide_eq_decide.2; omega
      rw [this]
theorem qX_ne {bits : Nat} (h0 : bits ≠ 0) (h : bits < 4294967296) : qX bits 32 ≠ 0 := by
  intro e
  apply h0
  apply Nat.eq_of_testBit_eq
  intro k
  rw [Nat.zero_testBit]
  by_cases hk : k < 32
  · have := qX_bit bits (31 - k) 32
    rw [e, Nat.zero_testBit] at this
    rw [show 31 - (31 - k) = k by omega] at this
    have h1 : decide (31 - k < 32) = true := by simp; omega
    rw [h1, Bool.true_and] at this
    rw [Nat.testBit_eq_decide_div_mod_eq]
    exact this.symm
  · exact Nat.testBit_lt_two_pow (Nat.lt_of_lt_of_le h (by rw [show (4294967296 : Nat) = 2 ^ 32 from rfl]; exact Nat.pow_le_pow_right (by decide) (by omega)))
theorem mul_xor (s a b : Nat) : 2 ^ s * (a ^^^ b) = (2 ^ s * a) ^^^ (2 ^ s * b) := by
  apply Nat.eq_of_testBit_eq
  intro i
  rw [Nat.testBit_xor, Nat.testBit_two_pow_mul, Nat.testBit_two_pow_mul, Nat.testBit_two_pow_mul, Nat.testBit_xor]
  cases decide (s ≤ i) <;> simp
theorem xor_parts (V W : Nat) : (V ^^^ W) % 256 = V % 256 ^^^ W % 256 ∧ (V ^^^ W) / 256 = V / 256 ^^^ W / 256 := by
  constructor
  · apply Nat.eq_of_testBit_eq; intro i
    rw [show (256 : Nat) = 2 ^ 8 from rfl, Nat.testBit_mod_two_pow, Nat.testBit_xor, Nat.testBit_xor, Nat.testBit_mod_two_pow, Nat.testBit_mod_two_pow]
    cases decide (i < 8) <;> simp
  · apply Nat.eq_of_testBit_eq; intro i
    rw [show (256 : Nat) = 2 ^ 8 from rfl, Nat.testBit_div_two_pow, Nat.testBit_xor, Nat.testBit_xor, Nat.testBit_div_two_pow, Nat.testBit_div_two_pow]
theorem ofNat_xor (a b : Nat) (ha : a < 256) (hb : b < 256) : UInt8.ofNat (a ^^^ b) = UInt8.ofNat a ^^^ UInt8.ofNat b := by
  apply UInt8.toNat_inj.1
  rw [UInt8.toNat_xor]
  simp only [UInt8.toNat_ofNat']
  rw [Nat.mod_eq_of_lt ha, Nat.mod_eq_of_lt hb, Nat.mod_eq_of_lt (Nat.xor_lt_two_pow (n := 8) ha hb)]
/-- One bit more. -/
theorem xorV_bit : ∀ (j : Nat) (m : List UInt8) (V t : Nat), t < 8 * j → ∀ x, (xorV j m V)[t / 8]? = some x → xorV j m (V ^^^ 2 ^ t) = (xorV j m V).set (t / 8) (x ^^^ UInt8.ofNat (2 ^ (t % 8)))
  | 0, _, _, t, h, _, _ => by omega
  | j + 1, [], V, t, h, x, hx => by simp [xorV] at hx
  | j + 1, b :: m, V, t, h, x, hx => by
    obtain ⟨e1, e2⟩ := xor_parts V (2 ^ t)
    rw [xorV, xorV, e1, e2]
    by_cases h8 : t < 8
    · have p1 : 2 ^ t < 256 := by rw [show (256 : Nat) = 2 ^ 8 from rfl]; exact Nat.pow_lt_pow_right (by decide) h8
      have t0 : t / 8 = 0 := by omega
      have t1 : t % 8 = t := by omega
      rw [t0] at hx ⊢
      rw [xorV] at hx
      obtain rfl := Option.some.inj (by simpa using hx : some (b ^^^ UInt8.ofNat (V % 256)) = some x)
      rw [t1, Nat.mod_eq_of_lt p1, Nat.div_eq_of_lt p1, Nat.xor_zero, List.set_cons_zero, ofNat_xor _ _ (by omega) p1, UInt8.xor_assoc]
    · have p1 : 2 ^ t % 256 = 0 := by
        rw [show t = 8 + (t - 8) by omega, Nat.pow_add]; exact Nat.mul_mod_right _ _
      have p2 : 2 ^ t / 256 = 2 ^ (t - 8) := by
        rw [show t = 8 + (t - 8) by omega, Nat.pow_add, show (2 : Nat) ^ 8 = 256 from rfl, Nat.mul_div_cancel_left _ (by decide)]
        congr 1; omega
      have t0 : t / 8 = (t - 8) / 8 + 1 := by omega
      have t1 : t % 8 = (t - 8) % 8 := by omega
      rw [t0] at hx ⊢
      rw [xorV, List.getElem?_cons_succ] at hx
      rw [p1, p2, Nat.xor_zero, List.set_cons_succ, xorV_bit j m (V / 256) (t - 8) (by omega) x hx, t1]
/-- A text with some bits turned, from a place on. -/
def turnL (L : List UInt8) (p bits i : Nat) : List UInt8 := L.take (p / 8) ++ xorV 5 (L.drop (p / 8)) (2 ^ (p % 8) * qX bits i)
theorem turnL_zero (L : List UInt8) (p bits : Nat) : turnL L p bits 0 = L := by
  unfold turnL
  have : ∀ (j : Nat) (m : List UInt8), xorV j m 0 = m := by
    intro j
    induction j with
    | zero => intro m; rfl
    | succ j ih =>
      intro m
      cases m with
      | nil => rfl
      | cons b m => rw [xorV, Nat.zero_mod, Nat.zero_div, ih]; simp
  rw [qX, Nat.mul_zero, this, List.take_append_drop]
theorem turnL_length (L : List UInt8) (p bits i : Nat) : (turnL L p bits i).length = L.length := by
  unfold turnL
  rw [List.length_append, xorV_length, List.length_take, List.length_drop]; omega
theorem turnL_same (L : List UInt8) (p bits i : Nat) (h : ¬ bits / 2 ^ (31 - i) % 2 = 1) : turnL L p bits (i + 1) = turnL L p bits i := by
  unfold turnL
  rw [qX, if_neg h, Nat.xor_zero]
theorem turnL_next (L : List UInt8) (p bits i : Nat) (hi : i < 32) (h : bits / 2 ^ (31 - i) % 2 = 1) (x : UInt8) (hx : (turnL L p bits i)[(p + i) / 8]? = some x) (hp : p / 8 ≤ L.length) :
    turnL L p bits (i + 1) = (turnL L p bits i).set ((p + i) / 8) (x ^^^ UInt8.ofNat (2 ^ ((p + i) % 8))) := by
  have hl : (L.take (p / 8)).length = p / 8 := by rw [List.length_take]; omega
  have e0 : (p + i) / 8 = p / 8 + (p % 8 + i) / 8 := by omega
  have e1 : (p + i) % 8 = (p % 8 + i) % 8 := by omega
  unfold turnL at hx ⊢
  rw [qX, if_pos h, mul_xor, ← Nat.pow_add]
  rw [e0, List.getElem?_append_right (by omega), hl, show p / 8 + (p % 8 + i) / 8 - p / 8 = (p % 8 + i) / 8 by omega] at hx
  rw [e0, e1, List.set_append_right _ _ (by omega), hl, show p / 8 + (p % 8 + i) / 8 - p / 8 = (p % 8 + i) / 8 by omega]
  rw [xorV_bit 5 _ _ (p % 8 + i) (by omega) x hx]
/-- What the sum of a text with its sum behind it is. -/
def resK : Nat := 4294967295 - turnsN 32 4294967295
theorem over_self (c : Nat) (h : c < 4294967296) : (4294967295 - c) ^^^ c = 4294967295 := by
  have h1 := over_pow 32 c (by omega)
  rw [show (2 : Nat) ^ 32 - 1 = 4294967295 from rfl] at h1
  first
    | (rw [← h1, Nat.xor_assoc, Nat.xor_self, Nat.xor_zero])
    | (rw [Nat.xor_comm, ← h1, ← Nat.xor_assoc, Nat.xor_comm c, Nat.xor_assoc, Nat.xor_self, Nat.xor_zero])
theorem residue (d : List UInt8) : moreC 0 (d ++ le4 (moreC 0 d)) = resK := by
  have hc := moreC_lt 0 d
  rw [more_append 0 (by decide)]
  generalize moreC 0 d = c at *
  unfold moreC resK
  rw [reg_le4 _ _ hc, over_self c hc]
theorem sum_ends {s : ByteArray} (hs : s.size = 512) (h : s.extract 507 511 = sumB (s.extract 1 507)) : moreC 0 (s.data.toList.drop 1) = moreC resK [at8 s 511] := by
  have hl : s.data.toList.length = 512 := hs
  have e1 : (s.extract 507 511).data.toList = le4 (moreC 0 (s.extract 1 507).data.toList) := by rw [h]; rfl
  rw [ext_list, ext_list] at e1
  have e2 : s.data.toList.drop 1 = (s.data.toList.drop 1).take (507 - 1) ++ ((s.data.toList.drop 507).take (511 - 507) ++ s.data.toList.drop 511) := by
    rw [← cut_in (by omega), ← cut_in (by omega)]
  have e3 : s.data.toList.drop 511 = [at8 s 511] := by
    unfold at8
    rw [List.drop_eq_getElem_cons (by omega), List.drop_eq_nil_of_le (by omega), List.getD_eq_getElem?_getD, List.getElem?_eq_getElem (by omega)]
    rfl
  rw [e2, e1, e3, ← List.append_assoc, more_append 0 (by decide), residue]
/-- Turned bits are told by the sum. -/
theorem turned_told {s b : ByteArray} (hs : openE s = 0) (p bits : Nat) (hp1 : 8 ≤ p) (hp2 : p ≤ 4056) (h0 : bits ≠ 0) (hb : bits < 4294967296) (hb2 : b.data.toList = turnL s.data.toList p bits 32) (ha : at8 b 0 = at8 s 0) (hz : at8 b 511 = at8 s 511) : openE b = 51 := by
  obtain ⟨s1, s2, s3, _, _⟩ := opened_facts hs
  have hl : s.data.toList.length = 512 := s1
  have hbs : b.size = 512 := by rw [show b.size = b.data.toList.length from rfl, hb2, turnL_length, hl]
  unfold openE
  rw [if_neg (by omega), if_neg (by rw [ha, hz, s2]; simp), if_pos]
  intro e
  have r1 := sum_ends hbs e
  have r2 := sum_ends s1 s3
  rw [hz, ← r2, hb2] at r1
  have e3 : (turnL s.data.toList p bits 32).drop 1 = (s.data.toList.drop 1).take (p / 8 - 1) ++ xorV 5 ((s.data.toList.drop 1).drop (p / 8 - 1)) (2 ^ (p % 8) * qX bits 32) := by
    unfold turnL
    rw [List.drop_append_of_le_length (by rw [List.length_take]; omega), List.drop_take, List.drop_drop, show 1 + (p / 8 - 1) = p / 8 by omega]
  rw [e3] at r1
  have hq : qX bits 32 < 4294967296 := qX_lt bits 32
  have := (sum_apart (s.data.toList.drop 1) (p / 8 - 1) 5 (p % 8) (qX bits 32) (by rw [List.length_drop]; omega) (by rw [List.length_drop]; omega) (by omega) hq).1 r1.symm
  have hlt : 2 ^ (p % 8) * qX bits 32 < 256 ^ 5 := by
    have h7 : 2 ^ (p % 8) ≤ 2 ^ 7 := Nat.pow_le_pow_right (by decide) (by omega)
    have := Nat.mul_le_mul h7 (Nat.le_of_lt_succ (Nat.lt_succ_of_lt hq))
    rw [show (2 : Nat) ^ 7 = 128 from rfl] at this
    rw [show (256 : Nat) ^ 5 = 1099511627776 from rfl]; omega
  rw [Nat.mod_eq_of_lt hlt] at this
  have hpos : 0 < 2 ^ (p % 8) * qX bits 32 := Nat.mul_pos (Nat.pow_pos (by decide)) (Nat.pos_of_ne_zero (qX_ne h0 hb))
  omega
end Go.Proofs.YtnpcnflfpmjgiaaDoor
