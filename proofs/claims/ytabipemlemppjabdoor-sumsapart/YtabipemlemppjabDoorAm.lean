/- Bits turned within 32 neighbouring ones change the register: plain facts. -/
import Derived.Test.YtabipemlemppjabDoorFu
namespace Go.Proofs.YtabipemlemppjabDoor
open Go.RowKit
set_option linter.unusedVariables false

/-- The first j bytes of a text, xored with those of a number, the lowest first. -/
def xorV : Nat → List UInt8 → Nat → List UInt8
  | 0, m, _ => m
  | _ + 1, [], _ => []
  | j + 1, b :: m, V => (b ^^^ UInt8.ofNat (V % 256)) :: xorV j m (V / 256)
theorem xorV_length : ∀ (j : Nat) (m : List UInt8) (V : Nat), (xorV j m V).length = m.length
  | 0, _, _ => rfl
  | _ + 1, [], _ => rfl
  | j + 1, b :: m, V => by simp [xorV, xorV_length j m]
theorem xorV_at : ∀ (j : Nat) (m : List UInt8) (V : Nat) (h : j < m.length), (xorV j m V)[j]? = some m[j]
  | 0, b :: m, _, _ => rfl
  | j + 1, b :: m, V, h => by simp [xorV]; exact xorV_at j m (V / 256) (by simpa using h)
theorem xorV_set : ∀ (j : Nat) (m : List UInt8) (V : Nat) (h : j < m.length), xorV (j + 1) m V = (xorV j m V).set j (m[j] ^^^ UInt8.ofNat (V / 256 ^ j % 256))
  | 0, b :: m, V, _ => by simp [xorV]
  | j + 1, b :: m, V, h => by
    have h' : j < m.length := by simpa using h
    have e := xorV_set j m (V / 256) h'
    rw [xorV, e]
    simp only [xorV, List.set_cons_succ, List.getElem_cons_succ]
    rw [Nat.div_div_eq_div_mul, Nat.pow_succ, Nat.mul_comm 256]
theorem low_of_mod (V k : Nat) : V % 256 ^ (k + 1) % 256 = V % 256 ∧ V % 256 ^ (k + 1) / 256 = V / 256 % 256 ^ k := by
  rw [Nat.pow_succ, Nat.mul_comm]
  exact ⟨Nat.mod_mul_right_mod _ _ _, Nat.mod_mul_right_div_self _ _ _⟩
theorem byte_toNat (V : Nat) : (UInt8.ofNat (V % 256)).toNat = V % 256 := ofNat_byte V
theorem take_apart (r1 r2 b x : Nat) : takeN r1 (b ^^^ x) ^^^ takeN r2 b = turnsN 8 ((r1 ^^^ r2) ^^^ x) := by
  rw [takeN, takeN, forth_turns, forth_turns, ← turns_xor]
  congr 1
  apply Nat.eq_of_testBit_eq; intro i
  simp only [Nat.testBit_xor]
  cases r1.testBit i <;> cases r2.testBit i <;> cases b.testBit i <;> cases x.testBit i <;> rfl
theorem reg_apart0 : ∀ (m : List UInt8) (r1 r2 : Nat), regN r1 m ^^^ regN r2 m = turnsN (8 * m.length) (r1 ^^^ r2)
  | [], _, _ => rfl
  | b :: m, r1, r2 => by
    rw [regN_cons, regN_cons, reg_apart0 m]
    have := take_apart r1 r2 b.toNat 0
    rw [Nat.xor_zero, Nat.xor_zero] at this
    rw [this, List.length_cons, show 8 * (m.length + 1) = 8 + 8 * m.length by omega, turns_add]
/-- Two registers, the one with a number's bytes xored into what it takes. -/
theorem reg_apart : ∀ (j : Nat) (m : List UInt8) (V r1 r2 : Nat), j ≤ m.length → regN r1 (xorV j m V) ^^^ regN r2 m = turnsN (8 * m.length) ((r1 ^^^ r2) ^^^ (V % 256 ^ j))
  | 0, m, V, r1, r2, _ => by rw [Nat.pow_zero, Nat.mod_one, Nat.xor_zero]; exact reg_apart0 m r1 r2
  | j + 1, [], V, r1, r2, h => by simp at h
  | j + 1, b :: m, V, r1, r2, h => by
    have h' : j ≤ m.length := by simpa using h
    rw [xorV, regN_cons, regN_cons, reg_apart j m _ _ _ h', UInt8.toNat_xor, byte_toNat, take_apart, List.length_cons, show 8 * (m.length + 1) = 8 + 8 * m.length by omega, turns_add]
    congr 1
    obtain ⟨e1, e2⟩ := low_of_mod V j
    have e := split256 (V % 256 ^ (j + 1))
    rw [e1, e2] at e
    conv => rhs; rw [e, ← Nat.xor_assoc, turns_xor, turns_eight]
theorem undo_zero : ∀ k, undosN k 0 = 0
  | 0 => rfl
  | k + 1 => by rw [undosN, show undoN 0 = 0 from rfl, undo_zero k]
theorem turns_zero : ∀ k, turnsN k 0 = 0
  | 0 => rfl
  | k + 1 => by rw [turnsN, show turnN 0 = 0 from rfl, turns_zero k]
theorem turns_ne (k r : Nat) (h : r < 4294967296) (h0 : turnsN k r = 0) : r = 0 := by
  rw [← undos_turns k r h, h0, undo_zero]
theorem turns_pow : ∀ (s k q : Nat), turnsN (s + k) (2 ^ s * q) = turnsN k q
  | 0, k, q => by rw [Nat.zero_add, Nat.pow_zero, Nat.one_mul]
  | s + 1, k, q => by
    rw [show s + 1 + k = (s + k) + 1 by omega, turnsN, show 2 ^ (s + 1) * q = 2 * (2 ^ s * q) by rw [Nat.pow_succ, Nat.mul_comm (2 ^ s) 2, Nat.mul_assoc], turn_double, turns_pow s k q]
/-- What is left of a mask of 32 bits, shifted by less than a byte, within j bytes. -/
theorem mask_mod (q s j : Nat) (hs : s < 8) (hq : q < 4294967296) : ∃ q', q' < 4294967296 ∧ 2 ^ s * q % 256 ^ j = 2 ^ s * q' ∧ (j = 0 → q' = 0) := by
  rcases Nat.eq_zero_or_pos j with rfl | hj
  · exact ⟨0, by decide, by rw [Nat.pow_zero, Nat.mod_one, Nat.mul_zero], fun _ => rfl⟩
  · refine ⟨q % 2 ^ (8 * j - s), Nat.lt_of_le_of_lt (Nat.mod_le _ _) hq, ?_, fun h => by omega⟩
    rw [show (256 : Nat) ^ j = 2 ^ s * 2 ^ (8 * j - s) by rw [← Nat.pow_add, show s + (8 * j - s) = 8 * j by omega, Nat.pow_mul], Nat.mul_mod_mul_left]
/-- The registers behind the two texts are one just if no bit was turned. -/
theorem apart_iff (r j s q : Nat) (m : List UInt8) (hj : j ≤ m.length) (hs : s < 8) (hq : q < 4294967296) : (regN r (xorV j m (2 ^ s * q)) = regN r m) ↔ 2 ^ s * q % 256 ^ j = 0 := by
  have e := reg_apart j m (2 ^ s * q) r r hj
  rw [Nat.xor_self, Nat.zero_xor] at e
  obtain ⟨q', hq', e1, e2⟩ := mask_mod q s j hs hq
  rw [e1] at e ⊢
  constructor
  · intro h
    rw [h, Nat.xor_self] at e
    rcases Nat.eq_zero_or_pos j with rfl | hj0
    · rw [e2 rfl, Nat.mul_zero]
    · rw [show 8 * m.length = s + (8 * m.length - s) by omega, turns_pow] at e
      rw [turns_ne _ _ hq' e.symm, Nat.mul_zero]
  · intro h
    rw [h, turns_zero] at e
    exact Nat.eq_of_testBit_eq fun i => by
      have := congrArg (fun n => n.testBit i) e
      simp only [Nat.testBit_xor, Nat.zero_testBit] at this
      revert this
      cases (regN r (xorV j m (2 ^ s * q))).testBit i <;> cases (regN r m).testBit i <;> simp
theorem sum_apart (l : List UInt8) (i j s q : Nat) (hi : i ≤ l.length) (hj : i + j ≤ l.length) (hs : s < 8) (hq : q < 4294967296) :
    (moreC 0 l = moreC 0 (l.take i ++ xorV j (l.drop i) (2 ^ s * q))) ↔ 2 ^ s * q % 256 ^ j = 0 := by
  rw [← apart_iff (regN 4294967295 (l.take i)) j s q (l.drop i) (by rw [List.length_drop]; omega) hs hq]
  have h1 : regN 4294967295 l = regN (regN 4294967295 (l.take i)) (l.drop i) := by rw [← reg_append, List.take_append_drop]
  have h2 := reg_append 4294967295 (l.take i) (xorV j (l.drop i) (2 ^ s * q))
  have l1 := regN_lt l 4294967295 (by decide)
  have l2 := regN_lt (l.take i ++ xorV j (l.drop i) (2 ^ s * q)) 4294967295 (by decide)
  unfold moreC
  rw [Nat.sub_zero]
  rw [← h1, ← h2]
  omega
end Go.Proofs.YtabipemlemppjabDoor
