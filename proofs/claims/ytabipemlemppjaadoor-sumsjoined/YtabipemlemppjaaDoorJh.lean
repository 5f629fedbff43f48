/- Sums joined, taken away, xored: plain facts. -/
import Derived.Test.YtabipemlemppjaaDoorJg
namespace Go.Proofs.YtabipemlemppjaaDoor
open Go.RowKit
set_option linter.unusedVariables false
set_option linter.unusedSimpArgs false

theorem not_xor (x : Nat) (h : x < 4294967296) : 4294967295 - x = 4294967295 ^^^ x := by
  apply Nat.eq_of_testBit_eq
  intro i
  have e1 : 4294967295 - x = 2 ^ 32 - (x + 1) := by omega
  rw [e1, Nat.testBit_two_pow_sub_succ (by simpa using h), Nat.testBit_xor, show (4294967295 : Nat) = 2 ^ 32 - 1 by decide, Nat.testBit_two_pow_sub_one]
  by_cases hi : i < 32
  · simp [hi]
  · have : x.testBit i = false := Nat.testBit_lt_two_pow (Nat.lt_of_lt_of_le h (by have := Nat.pow_le_pow_right (n := 2) (by decide) (show 32 ≤ i by omega); simpa using this))
    simp [hi, this]
theorem take_turns (r b : Nat) : takeN r b = turnsN 8 (r ^^^ b) := by unfold takeN; exact forth_turns _
theorem turns_zero : ∀ k, turnsN k 0 = 0 := by
  intro k; have := turns_xor k 0 0; rw [Nat.xor_self, Nat.xor_self] at this; exact this
/-- A register with something xored in, behind a text. -/
theorem reg_xor : ∀ (l : List UInt8) (r d : Nat), regN (r ^^^ d) l = regN r l ^^^ turnsN (8 * l.length) d := by
  intro l; induction l with
  | nil => intro r d; rfl
  | cons b l ih =>
    intro r d
    rw [regN_cons, regN_cons, take_turns, take_turns]
    have e : r ^^^ d ^^^ b.toNat = (r ^^^ b.toNat) ^^^ d := by rw [Nat.xor_assoc, Nat.xor_comm d, ← Nat.xor_assoc]
    rw [e, turns_xor, ih, List.length_cons, Nat.mul_succ, Nat.add_comm (8 * l.length) 8, turns_add]
theorem more_xor (a : Nat) (ha : a < 4294967296) (l : List UInt8) : moreC a l = turnsN (8 * l.length) a ^^^ moreC 0 l := by
  unfold moreC
  have h1 := regN_lt l (4294967295 - a) (by omega)
  have h2 := regN_lt l (4294967295 - 0) (by omega)
  rw [not_xor _ h1, not_xor _ h2, not_xor a ha, reg_xor]
  rw [show (4294967295 - 0 : Nat) = 4294967295 from rfl]
  rw [Nat.xor_comm (turnsN _ _), ← Nat.xor_assoc]
theorem itr_undos (k : Nat) : ∀ (n r : Nat), itr (undosN k) n r = undosN (k * n) r := by
  intro n; induction n with
  | zero => intro r; rfl
  | succ n ih => intro r; rw [itr, ih, Nat.mul_succ, Nat.add_comm, undos_add]
theorem join_more (a : Nat) (ha : a < 4294967296) (l : List UInt8) : itr (turnsN 8) l.length a ^^^ moreC 0 l = moreC a l := by
  rw [itr_turns, more_xor a ha]
theorem split_more (a : Nat) (ha : a < 4294967296) (l : List UInt8) : itr (undosN 8) l.length (moreC a l ^^^ moreC 0 l) = a := by
  rw [more_xor a ha, xor_back, itr_undos, undos_turns _ _ ha]
/-- Three texts of one length, xored. -/
def mix3 : List UInt8 → List UInt8 → List UInt8 → List UInt8
  | a :: x, b :: y, c :: z => ((a ^^^ b) ^^^ c) :: mix3 x y z
  | _, _, _ => []
theorem byte_xor (a b : UInt8) : (a ^^^ b).toNat = a.toNat ^^^ b.toNat := by simp
theorem six (a b c x y z : Nat) : (a ^^^ b ^^^ c) ^^^ (x ^^^ y ^^^ z) = (a ^^^ x) ^^^ (b ^^^ y) ^^^ (c ^^^ z) := by
  apply Nat.eq_of_testBit_eq; intro i
  simp only [Nat.testBit_xor]
  cases a.testBit i <;> cases b.testBit i <;> cases c.testBit i <;> cases x.testBit i <;> cases y.testBit i <;> cases z.testBit i <;> rfl
theorem reg_mix : ∀ (x y z : List UInt8) (r s t : Nat), x.length = y.length → y.length = z.length → regN (r ^^^ s ^^^ t) (mix3 x y z) = regN r x ^^^ regN s y ^^^ regN t z := by
  intro x; induction x with
  | nil =>
    intro y z r s t h1 h2
    obtain rfl : y = [] := List.length_eq_zero_iff.1 (by simpa using h1.symm)
    obtain rfl : z = [] := List.length_eq_zero_iff.1 (by simpa using h2.symm)
    rfl
  | cons a x ih =>
    intro y z r s t h1 h2
    cases y with
    | nil => simp at h1
    | cons b y =>
      cases z with
      | nil => simp at h2
      | cons c z =>
        rw [mix3, regN_cons, regN_cons, regN_cons, regN_cons, take_turns, take_turns, take_turns, take_turns, ← ih y z _ _ _ (by simpa using h1) (by simpa using h2)]
        congr 1
        rw [byte_xor, byte_xor, six, turns_xor, turns_xor]
theorem more_mix (x y z : List UInt8) (h1 : x.length = y.length) (h2 : y.length = z.length) : moreC 0 (mix3 x y z) = (moreC 0 x ^^^ moreC 0 y) ^^^ moreC 0 z := by
  unfold moreC
  rw [show (4294967295 - 0 : Nat) = 4294967295 from rfl]
  have k : ∀ l : List UInt8, regN 4294967295 l < 4294967296 := fun l => regN_lt l _ (by decide)
  rw [not_xor _ (k _), not_xor _ (k _), not_xor _ (k _), not_xor _ (k _)]
  have e : (4294967295 : Nat) = 4294967295 ^^^ 4294967295 ^^^ 4294967295 := by rw [Nat.xor_self, Nat.zero_xor]
  have h3 := reg_mix x y z 4294967295 4294967295 4294967295 h1 h2
  rw [← e] at h3
  rw [h3]
  conv => lhs; lhs; rw [e]
  exact six _ _ _ _ _ _
theorem mix_snoc : ∀ (x y z : List UInt8) (k : Nat) (a b c : UInt8), x[k]? = some a → y[k]? = some b → z[k]? = some c → mix3 (x.take (k + 1)) (y.take (k + 1)) (z.take (k + 1)) = mix3 (x.take k) (y.take k) (z.take k) ++ [(a ^^^ b) ^^^ c] := by
  intro x; induction x with
  | nil => intro y z k a b c h; simp at h
  | cons a0 x ih =>
    intro y z k a b c ha hb hc
    cases y with
    | nil => simp at hb
    | cons b0 y =>
      cases z with
      | nil => simp at hc
      | cons c0 z =>
        cases k with
        | zero => simp at ha hb hc; subst ha hb hc; simp [mix3]
        | succ k =>
          simp only [List.getElem?_cons_succ] at ha hb hc
          rw [List.take_succ_cons, List.take_succ_cons, List.take_succ_cons, mix3, ih y z k a b c ha hb hc]
          rfl
end Go.Proofs.YtabipemlemppjaaDoor
