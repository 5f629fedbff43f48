/- Digits as bytes, plain lists: what package value's texts are made of. No condition. -/
import Derived.WalkKit
namespace Go.Proofs.YtlgfpjaomiomjaaGreatDoor
open Go.RowKit

/-- A digit's sign. -/
def sgn (d : Nat) : UInt8 := if d < 10 then UInt8.ofNat (48 + d) else UInt8.ofNat (87 + d)
/-- The digits of a number in a base, the lowest first. -/
def rdig (base : Nat) : Nat → Nat → List UInt8
  | 0, _ => []
  | f + 1, n => sgn (n % base) :: (if n / base = 0 then [] else rdig base f (n / base))
def digs (base n : Nat) : List UInt8 := (rdig base 128 n).reverse
def cells8 (l : List UInt8) : List Value := l.map fun b => Value.int .u8 (b.toNat : Int)
theorem cells8_length (l : List UInt8) : (cells8 l).length = l.length := by simp [cells8]
theorem cells8_snoc (l : List UInt8) (b : UInt8) : cells8 (l ++ [b]) = cells8 l ++ [Value.int .u8 (b.toNat : Int)] := by simp [cells8]
theorem rdig_stop {base f n : Nat} (h : n / base = 0) : rdig base (f + 1) n = [sgn (n % base)] := by simp [rdig, h]
theorem rdig_more {base f n : Nat} (h : ¬ n / base = 0) : rdig base (f + 1) n = sgn (n % base) :: rdig base f (n / base) := by simp [rdig, h]
theorem rdig_length (base f n : Nat) : (rdig base f n).length ≤ f := by
  induction f generalizing n with
  | zero => simp [rdig]
  | succ f ih =>
    by_cases h : n / base = 0
    · rw [rdig_stop h]; simp
    · rw [rdig_more h]; have := ih (n / base); simp; omega
theorem digs_length (base n : Nat) : (digs base n).length ≤ 128 := by simp [digs]; exact rdig_length base 128 n
theorem div_lt_pow {base f m : Nat} (hb : 0 < base) (h : m < base ^ (f + 1)) : m / base < base ^ f := by
  rw [Nat.div_lt_iff_lt_mul hb, ← Nat.pow_succ]; exact h

/-- What a sign is worth in a base. -/
def worth (base : Nat) (c : UInt8) : Option Nat := (List.range base).find? fun d => sgn d == c
theorem worth_some {base : Nat} {c : UInt8} {d : Nat} (h : worth base c = some d) : d < base ∧ sgn d = c := by
  have h1 := List.mem_of_find?_eq_some h
  have h2 := List.find?_some h
  exact ⟨by simpa using h1, by simpa using h2⟩
theorem worth_none {base : Nat} {c : UInt8} (h : worth base c = none) : ∀ d, d < base → sgn d ≠ c := by
  intro d hd e
  have := List.find?_eq_none.1 h d (by simpa using hd)
  simp [e] at this
theorem sgn_lt : ∀ d, d < 16 → (sgn d).toNat < 128 := by decide
theorem sgn_inj : ∀ a b : Nat, a < 16 → b < 16 → sgn a = sgn b → a = b := by
  intro a b ha hb h
  have : ∀ a : Fin 16, ∀ b : Fin 16, sgn a = sgn b → a = b := by decide
  exact congrArg Fin.val (this ⟨a, ha⟩ ⟨b, hb⟩ h)
theorem worth_sgn {base d : Nat} (hb : base ≤ 16) (hd : d < base) : worth base (sgn d) = some d := by
  cases h : worth base (sgn d) with
  | none => exact absurd rfl (worth_none h d hd)
  | some k =>
    obtain ⟨h1, h2⟩ := worth_some h
    rw [sgn_inj k d (by omega) (by omega) h2]
theorem worth_high {base : Nat} {c : UInt8} (hb : base ≤ 16) (h : 128 ≤ c.toNat) : worth base c = none := by
  cases e : worth base c with
  | none => rfl
  | some d =>
    obtain ⟨h1, h2⟩ := worth_some e
    have := sgn_lt d (by omega)
    rw [h2] at this; omega

/-- The number that signs say behind another one. -/
def num (base : Nat) : List UInt8 → Nat → Option Nat
  | [], a => some a
  | c :: cs, a => match worth base c with
    | none => none
    | some d => num base cs (a * base + d)
theorem num_none {base : Nat} {c : UInt8} {cs : List UInt8} {a : Nat} (h : worth base c = none) : num base (c :: cs) a = none := by simp [num, h]
theorem num_some {base : Nat} {c : UInt8} {cs : List UInt8} {a d : Nat} (h : worth base c = some d) : num base (c :: cs) a = num base cs (a * base + d) := by simp [num, h]
theorem num_le {base : Nat} (hb : 1 ≤ base) : ∀ (cs : List UInt8) (a v : Nat), num base cs a = some v → a ≤ v := by
  intro cs
  induction cs with
  | nil => intro a v h; simp [num] at h; omega
  | cons c cs ih =>
    intro a v h
    cases e : worth base c with
    | none => rw [num_none e] at h; cases h
    | some d =>
      rw [num_some e] at h
      have h1 := ih _ _ h
      have h2 : a ≤ a * base := Nat.le_mul_of_pos_right a hb
      omega
/-- What the digits of a base say: the value and the error's number. -/
def fdN (base : Nat) (l : List UInt8) : Nat × Int :=
  if l = [] ∨ (1 < l.length ∧ l.head? = some 48) then (0, 12) else
  match num base l 0 with
  | none => (0, 12)
  | some v => if v < 340282366920938463463374607431768211456 then (v, 0) else (0, 11)
end Go.Proofs.YtlgfpjaomiomjaaGreatDoor
