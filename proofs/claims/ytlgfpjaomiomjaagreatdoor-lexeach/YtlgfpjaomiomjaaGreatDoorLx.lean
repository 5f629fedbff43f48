/- The words of a source text, over plain lists of bytes: gaps, places, names, signs, numbers. No condition. -/
import Derived.Test.YtlgfpjaomiomjaaGreatDoorTxt
import Derived.Laws.RangeAny
namespace Go.Proofs.YtlgfpjaomiomjaaGreatDoor
open Go.RowKit
set_option linter.unusedVariables false

def smI (r : Int) : Bool := decide (97 ≤ r) && decide (r ≤ 122)
def cpI (r : Int) : Bool := decide (65 ≤ r) && decide (r ≤ 90)
def dgI (r : Int) : Bool := decide (48 ≤ r) && decide (r ≤ 57)
def blI (r : Int) : Bool := r == 32 || r == 9 || r == 10 || r == 13
def ptI (r : Int) : Bool := smI r || cpI r || dgI r || r == 95
/-- Whether a remark goes on behind a sign. -/
def remI (m : Bool) (r : Int) : Bool := if r = 35 then true else if r = 10 then false else m
def goI (m : Bool) (r : Int) : Bool := remI m r || blI r
abbrev cI (c : UInt8) : Int := (c.toNat : Int)

/-- How many bytes of blanks and remarks stand ahead. -/
def gapL : Bool → List UInt8 → Nat
  | _, [] => 0
  | m, c :: cs => if goI m (cI c) = true then gapL (remI m (cI c)) cs + 1 else 0
theorem gap_go {m : Bool} {c : UInt8} {cs : List UInt8} (h : goI m (cI c) = true) : gapL m (c :: cs) = gapL (remI m (cI c)) cs + 1 := by simp [gapL, h]
theorem gap_stop {m : Bool} {c : UInt8} {cs : List UInt8} (h : goI m (cI c) = false) : gapL m (c :: cs) = 0 := by simp [gapL, h]
theorem gap_le : ∀ (l : List UInt8) (m : Bool), gapL m l ≤ l.length
  | [], m => by simp [gapL]
  | c :: cs, m => by
    cases h : goI m (cI c)
    · rw [gap_stop h]; omega
    · rw [gap_go h]; have := gap_le cs (remI m (cI c)); simp; omega
/-- How many bytes of a word stand ahead. -/
def wlen : List UInt8 → Nat
  | [] => 0
  | c :: cs => if ptI (cI c) = true then wlen cs + 1 else 0
theorem wlen_go {c : UInt8} {cs : List UInt8} (h : ptI (cI c) = true) : wlen (c :: cs) = wlen cs + 1 := by simp [wlen, h]
theorem wlen_stop {c : UInt8} {cs : List UInt8} (h : ptI (cI c) = false) : wlen (c :: cs) = 0 := by simp [wlen, h]
theorem wlen_le : ∀ (l : List UInt8), wlen l ≤ l.length
  | [] => by simp [wlen]
  | c :: cs => by
    cases h : ptI (cI c)
    · rw [wlen_stop h]; omega
    · rw [wlen_go h]; have := wlen_le cs; simp; omega
theorem pt_high {r : Int} (h : 128 ≤ r) : ptI r = false := by
  unfold ptI smI cpI dgI; simp; omega
theorem rem_high {m : Bool} {r : Int} (h : 128 ≤ r) : remI m r = m := by
  unfold remI; rw [if_neg (by omega), if_neg (by omega)]
theorem go_high {m : Bool} {r : Int} (h : 128 ≤ r) : goI m r = m := by
  unfold goI; rw [rem_high h]; unfold blI; simp; cases m <;> simp; omega
/-- Bytes above 127 in a remark. -/
theorem gap_highs : ∀ (n : Nat) (l : List UInt8), (∀ i (c : UInt8), i < n → l[i]? = some c → 128 ≤ c.toNat) → n ≤ l.length → gapL true l = n + gapL true (l.drop n)
  | 0, l, _, _ => by simp
  | n + 1, [], _, h => by simp at h
  | n + 1, c :: cs, h, hl => by
    have hc : 128 ≤ cI c := by have := h 0 c (by omega) rfl; unfold cI; omega
    have h1 : goI true (cI c) = true := go_high hc
    rw [gap_go h1, rem_high hc, gap_highs n cs (fun i d hi hd => h (i + 1) d (by omega) (by simpa using hd)) (by simp at hl; omega)]
    simp only [List.drop_succ_cons]; omega

/-- The place behind some bytes. -/
def past : Nat × Nat → List UInt8 → Nat × Nat
  | p, [] => p
  | p, c :: cs => past (if c = 10 then (p.1 + 1, 1) else (p.1, p.2 + 1)) cs
theorem past_append : ∀ (a b : List UInt8) (p : Nat × Nat), past p (a ++ b) = past (past p a) b
  | [], b, p => rfl
  | c :: cs, b, p => by rw [List.cons_append, past, past, past_append cs b]
theorem past_plain : ∀ (a : List UInt8) (p : Nat × Nat), a.count 10 = 0 → past p a = (p.1, p.2 + a.length)
  | [], p, _ => rfl
  | c :: cs, p, h => by
    have hc : c ≠ 10 := by rintro rfl; simp at h
    have hcs : cs.count 10 = 0 := by simpa [List.count_cons, hc] using h
    rw [past, if_neg hc, past_plain cs _ hcs]; simp; omega
theorem past_lines : ∀ (a : List UInt8) (p : Nat × Nat), (past p a).1 = p.1 + a.count 10
  | [], p => by simp [past]
  | c :: cs, p => by
    rw [past, past_lines cs]
    by_cases h : c = 10
    · subst h; simp; omega
    · simp [h]
end Go.Proofs.YtlgfpjaomiomjaaGreatDoor
