/- Turns undone: package sums' back and Four: what each answers; and that the four bytes lead there. -/
import Derived.Test.YtabipemlemppjaaDoorCt
import Derived.Laws.IdiomStrings
namespace Go.Proofs.YtabipemlemppjaaDoor
open Go.RowKit
set_option linter.unusedVariables false
set_option linter.unusedSimpArgs false

/-- What the register was ahead of a turn. -/
def undoN (r : Nat) : Nat := if 2147483648 ≤ r then 2 * (r ^^^ 3988292384) + 1 else 2 * r
theorem low31 (r : Nat) (h : r < 4294967296) (h' : 2147483648 ≤ r) : r ^^^ 3988292384 < 2147483648 := by
  have e : (r ^^^ 3988292384) / 2 ^ 31 = 0 := by
    have : (r ^^^ 3988292384) / 2 ^ 31 = r / 2 ^ 31 ^^^ 3988292384 / 2 ^ 31 := by
      apply Nat.eq_of_testBit_eq; intro i
      simp only [Nat.testBit_div_two_pow, Nat.testBit_xor]
    rw [this, show r / 2 ^ 31 = 1 by omega]
    decide
  omega
theorem undoN_lt (r : Nat) (h : r < 4294967296) : undoN r < 4294967296 := by
  unfold undoN
  split
  · have := low31 r h (by assumption); omega
  · omega
theorem xor_back (a p : Nat) : (a ^^^ p) ^^^ p = a := by rw [Nat.xor_assoc, Nat.xor_self, Nat.xor_zero]
theorem turn_undo (r : Nat) (h : r < 4294967296) : turnN (undoN r) = r := by
  unfold undoN
  split
  · rw [turnN_odd (by omega), show (2 * (r ^^^ 3988292384) + 1) / 2 = r ^^^ 3988292384 by omega, xor_back]
  · rw [turn_double]
theorem high31 (r : Nat) (h : r < 2147483648) : 2147483648 ≤ r ^^^ 3988292384 := by
  have e : (r ^^^ 3988292384) / 2 ^ 31 = 1 := by
    have : (r ^^^ 3988292384) / 2 ^ 31 = r / 2 ^ 31 ^^^ 3988292384 / 2 ^ 31 := by
      apply Nat.eq_of_testBit_eq; intro i
      simp only [Nat.testBit_div_two_pow, Nat.testBit_xor]
    rw [this, show r / 2 ^ 31 = 0 by omega]
    decide
  omega
theorem undo_turn (r : Nat) (h : r < 4294967296) : undoN (turnN r) = r := by
  by_cases e : r % 2 = 1
  · rw [turnN_odd e]
    have := high31 (r / 2) (by omega)
    rw [undoN, if_pos this, xor_back]; omega
  · rw [turnN_even e, undoN, if_neg (by omega)]; omega
def undosN : Nat → Nat → Nat
  | 0, r => r
  | k + 1, r => undosN k (undoN r)
theorem undos_lt : ∀ (k r : Nat), r < 4294967296 → undosN k r < 4294967296
  | 0, _, h => h
  | k + 1, r, h => by rw [undosN]; exact undos_lt k _ (undoN_lt r h)
theorem undos_add : ∀ (k j r : Nat), undosN (k + j) r = undosN j (undosN k r)
  | 0, j, r => by rw [Nat.zero_add]; rfl
  | k + 1, j, r => by rw [Nat.add_right_comm, undosN, undosN, undos_add k j]
theorem turns_last : ∀ (k r : Nat), turnsN (k + 1) r = turnN (turnsN k r)
  | 0, _ => rfl
  | k + 1, r => by rw [turnsN, turns_last k, turnsN]
theorem undos_last : ∀ (k r : Nat), undosN (k + 1) r = undoN (undosN k r)
  | 0, _ => rfl
  | k + 1, r => by rw [undosN, undos_last k, undosN]
theorem turns_undos : ∀ (k r : Nat), r < 4294967296 → turnsN k (undosN k r) = r
  | 0, _, _ => rfl
  | k + 1, r, h => by rw [undos_last, turnsN, turn_undo _ (undos_lt k r h), turns_undos k r h]
theorem undos_turns : ∀ (k r : Nat), r < 4294967296 → undosN k (turnsN k r) = r
  | 0, _, _ => rfl
  | k + 1, r, h => by rw [turns_last, undosN, undo_turn _ (turns_lt k r h), undos_turns k r h]

theorem split256 (r : Nat) : r = (r % 256) ^^^ (256 * (r / 256)) := by
  apply Nat.eq_of_testBit_eq; intro i
  rw [Nat.testBit_xor, show r % 256 = r % 2 ^ 8 from rfl, Nat.testBit_mod_two_pow, Nat.mul_comm, show r / 256 * 256 = r / 2 ^ 8 * 2 ^ 8 from rfl, Nat.testBit_mul_two_pow, Nat.testBit_div_two_pow]
  by_cases h : i < 8
  · simp [h, show ¬ 8 ≤ i by omega]
  · simp [h, show 8 ≤ i by omega]
theorem turns_eight (q : Nat) : turnsN 8 (256 * q) = q := by
  rw [show 256 * q = 16 * (16 * q) by omega, show (8 : Nat) = 4 + 4 from rfl, turns_add, turns_four, turns_four]
theorem take_word (r y : Nat) : turnsN 8 (r ^^^ y) = takeN r (y % 256) ^^^ (y / 256) := by
  conv => lhs; rw [split256 y, ← Nat.xor_assoc, turns_xor, turns_eight]
  rw [takeN, forth_turns]
/-- The four bytes of a word, the lowest first. -/
def le4 (y : Nat) : List UInt8 := [UInt8.ofNat (y % 256), UInt8.ofNat (y / 256 % 256), UInt8.ofNat (y / 65536 % 256), UInt8.ofNat (y / 16777216 % 256)]
theorem ofNat_byte (y : Nat) : (UInt8.ofNat (y % 256)).toNat = y % 256 := by simp [UInt8.toNat_ofNat']
theorem reg_le4 (r y : Nat) (hy : y < 4294967296) : regN r (le4 y) = turnsN 32 (r ^^^ y) := by
  rw [show (32 : Nat) = 8 + (8 + (8 + 8)) from rfl, turns_add, turns_add, turns_add, take_word, take_word, take_word, take_word]
  rw [show y / 256 / 256 = y / 65536 by omega, show y / 65536 / 256 = y / 16777216 by omega, show y / 16777216 / 256 = 0 by omega, Nat.xor_zero]
  simp only [le4, regN, List.foldl_cons, List.foldl_nil, ofNat_byte]
theorem reg_append (r : Nat) (a b : List UInt8) : regN r (a ++ b) = regN (regN r a) b := by simp [regN, List.foldl_append]
/-- Four bytes are a word's. -/
theorem le4_of (a b c d : UInt8) : ∃ y, y < 4294967296 ∧ le4 y = [a, b, c, d] := by
  have ha := a.toNat_lt; have hb := b.toNat_lt; have hc := c.toNat_lt; have hd := d.toNat_lt
  refine ⟨a.toNat + 256 * b.toNat + 65536 * c.toNat + 16777216 * d.toNat, by omega, ?_⟩
  unfold le4
  rw [show (a.toNat + 256 * b.toNat + 65536 * c.toNat + 16777216 * d.toNat) % 256 = a.toNat by omega, show (a.toNat + 256 * b.toNat + 65536 * c.toNat + 16777216 * d.toNat) / 256 % 256 = b.toNat by omega,
    show (a.toNat + 256 * b.toNat + 65536 * c.toNat + 16777216 * d.toNat) / 65536 % 256 = c.toNat by omega, show (a.toNat + 256 * b.toNat + 65536 * c.toNat + 16777216 * d.toNat) / 16777216 % 256 = d.toNat by omega]
  simp
/-- The word whose bytes lead a sum to another one. -/
def fourW (s t : Nat) : Nat := undosN 32 (4294967295 - t) ^^^ (4294967295 - s)
theorem fourW_lt (s t : Nat) : fourW s t < 4294967296 := Nat.xor_lt_two_pow (n := 32) (undos_lt _ _ (by omega)) (by omega)
theorem four_leads (s t : Nat) (ht : t < 4294967296) : moreC s (le4 (fourW s t)) = t := by
  unfold moreC
  rw [reg_le4 _ _ (fourW_lt s t), fourW, Nat.xor_comm (undosN 32 _), ← Nat.xor_assoc, Nat.xor_self, Nat.zero_xor, turns_undos _ _ (by omega)]
  omega
theorem four_only (s : Nat) (hs : s < 4294967296) (y : Nat) (hy : y < 4294967296) : fourW s (moreC s (le4 y)) = y := by
  have h1 : turnsN 32 ((4294967295 - s) ^^^ y) < 4294967296 := turns_lt _ _ (Nat.xor_lt_two_pow (n := 32) (by omega) hy)
  unfold fourW moreC
  rw [reg_le4 _ _ hy, show 4294967295 - (4294967295 - turnsN 32 ((4294967295 - s) ^^^ y)) = turnsN 32 ((4294967295 - s) ^^^ y) by omega, undos_turns _ _ (Nat.xor_lt_two_pow (n := 32) (by omega) hy), Nat.xor_comm, ← Nat.xor_assoc, Nat.xor_self, Nat.zero_xor]
theorem more_append (s : Nat) (hs : s < 4294967296) (a b : List UInt8) : moreC s (a ++ b) = moreC (moreC s a) b := by
  unfold moreC
  rw [reg_append]
  have := regN_lt a (4294967295 - s) (by omega)
  rw [show 4294967295 - (4294967295 - regN (4294967295 - s) a) = regN (4294967295 - s) a by omega]

theorem undo_hi (r : Nat) (h : r < 4294967296) (h' : 2147483648 ≤ r) : bits .xor .u32 (r : Int) 3988292384 = ((r ^^^ 3988292384 : Nat) : Int) := u32_xor_nat r 3988292384 h (by decide)
theorem or_one (x : Nat) (h : x < 2147483648) : bits .or .u32 ((x : Int) * 2) 1 = ((2 * x + 1 : Nat) : Int) := by
  have := u32_or_nat (2 * x) 1 (by omega) (by decide)
  rw [show ((2 * x : Nat) : Int) = (x : Int) * 2 by omega] at this
  rw [show (1 : Int) = ((1 : Nat) : Int) from rfl, this]
  congr 1
  have h2 := Nat.two_pow_add_eq_or_of_lt (i := 1) (b := 1) (by decide) x
  rw [Nat.pow_one] at h2
  exact h2.symm
theorem or_none (x : Nat) (h : x < 2147483648) : bits .or .u32 ((x : Int) * 2) 0 = ((2 * x : Nat) : Int) := by
  have := u32_or_nat (2 * x) 0 (by omega) (by decide)
  rw [show ((2 * x : Nat) : Int) = (x : Int) * 2 by omega] at this
  rw [show (0 : Int) = ((0 : Nat) : Int) from rfl, this, Nat.or_zero]
theorem xor_none (x : Nat) (h : x < 4294967296) : bits .xor .u32 (x : Int) 0 = (x : Int) := by
  have := u32_xor_nat x 0 h (by decide)
  rw [Nat.xor_zero] at this
  exact this
end Go.Proofs.YtabipemlemppjaaDoor
