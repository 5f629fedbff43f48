/- Dots, and whole texts: what is written is read, and what is read is written so. Plain facts. -/
import Derived.Test.YtjkpdcgmmdimaaaDoorLb
namespace Go.Proofs.YtjkpdcgmmdimaaaDoor
open Go.RowKit
set_option linter.unusedVariables false

/-- A list of bytes cut at its dots, at most m times. -/
def splitL : Nat → List UInt8 → List (List UInt8)
  | 0, l => [l]
  | m + 1, l => if Lib.indexByte l 46 < 0 then [l] else l.take (Lib.indexByte l 46).toNat :: splitL m (l.drop ((Lib.indexByte l 46).toNat + 1))
theorem splitD_list : ∀ (m : Nat) (s : ByteArray), (splitD m s).map (fun p => p.data.toList) = splitL m s.data.toList := by
  intro m; induction m with
  | zero => intro s; rfl
  | succ m ih =>
    intro s
    rw [splitD, splitL]
    by_cases h : Lib.indexByte s.data.toList 46 < 0
    · rw [if_pos h, if_pos h]; rfl
    · rw [if_neg h, if_neg h, List.map_cons, ih, extract_list, extract_list]
      congr 2
      rw [List.take_of_length_le (by simp)]
def part8L (l : List UInt8) : Option Nat := if (fdN 10 l).2 = 0 ∧ fitsN (fdN 10 l).1 8 = true then some (fdN 10 l).1 else none
def doL : List (List UInt8) → Nat → Option Nat
  | [], a => some a
  | p :: ps, a => match part8L p with
    | none => none
    | some b => doL ps (a * 256 + b)
theorem doR_list : ∀ (ps : List ByteArray) (a : Nat), doR ps a = doL (ps.map fun p => p.data.toList) a := by
  intro ps; induction ps with
  | nil => intro a; rfl
  | cons p ps ih =>
    intro a
    rw [List.map_cons, doR, doL]
    show (match part8 p with | none => none | some b => doR ps (a * 256 + b)) = match part8 p with | none => none | some b => _
    cases part8 p with
    | none => rfl
    | some b => exact ih _
theorem doL_none {p : List UInt8} {ps : List (List UInt8)} {a : Nat} (h : part8L p = none) : doL (p :: ps) a = none := by rw [doL, h]
theorem doL_some {p : List UInt8} {ps : List (List UInt8)} {a b : Nat} (h : part8L p = some b) : doL (p :: ps) a = doL ps (a * 256 + b) := by rw [doL, h]
def dotsL (l : List UInt8) : Nat × Bool := if (splitL 4 l).length = 4 then (match doL (splitL 4 l) 0 with | none => (0, false) | some v => (v, true)) else (0, false)
theorem dotsR_list (s : ByteArray) : dotsR s = dotsL s.data.toList := by
  unfold dotsR dotsL; rw [doR_list, ← splitD_list, List.length_map]; rfl

theorem ix_app : ∀ (l r : List UInt8), (∀ c ∈ l, c ≠ 46) → Lib.indexByte (l ++ 46 :: r) 46 = l.length := by
  intro l r; induction l with
  | nil => intro _; simp [Lib.indexByte]
  | cons c l ih =>
    intro h
    have hc : (c == 46) = false := by simpa using h c (by simp)
    rw [List.cons_append, Lib.indexByte, hc, ih fun x hx => h x (by simp [hx])]
    have : (((l.length : Nat) : Int) == -1) = false := by simp
    rw [this]; simp
theorem ix_none : ∀ (l : List UInt8), (∀ c ∈ l, c ≠ 46) → Lib.indexByte l 46 = -1 := by
  intro l; induction l with
  | nil => intro _; rfl
  | cons c l ih =>
    intro h
    have hc : (c == 46) = false := by simpa using h c (by simp)
    rw [Lib.indexByte, hc, ih fun x hx => h x (by simp [hx])]; rfl
theorem split_app (m : Nat) (l r : List UInt8) (h : ∀ c ∈ l, c ≠ 46) : splitL (m + 1) (l ++ 46 :: r) = l :: splitL m r := by
  rw [splitL, ix_app l r h, if_neg (by omega), Int.toNat_natCast]
  congr 1
  · simp
  · congr 1
    rw [show l.length + 1 = l.length + 1 from rfl, List.drop_append, List.drop_of_length_le (by omega)]; simp
theorem split_none (m : Nat) (l : List UInt8) (h : ∀ c ∈ l, c ≠ 46) : splitL m l = [l] := by
  cases m with
  | zero => rfl
  | succ m => rw [splitL, ix_none l h, if_pos (by decide)]
theorem split_one {m : Nat} {l p : List UInt8} (h : splitL m l = [p]) : l = p := by
  cases m with
  | zero => simpa [splitL] using h
  | succ m =>
    rw [splitL] at h
    split at h
    · simpa using h
    · exfalso
      have : 1 ≤ (splitL m (l.drop ((Lib.indexByte l 46).toNat + 1))).length := by
        cases m <;> simp [splitL]; split <;> simp
      have h2 := congrArg List.length h
      simp at h2
      rw [h2] at this; simp at this
theorem split_more {m : Nat} {l p q : List UInt8} {ps : List (List UInt8)} (h : splitL (m + 1) l = p :: q :: ps) : ∃ r, l = p ++ 46 :: r ∧ splitL m r = q :: ps := by
  rw [splitL] at h
  split at h
  · simp at h
  · next hn =>
    injection h with h1 h2
    refine ⟨_, ?_, h2⟩
    obtain ⟨k, hk⟩ := Int.eq_ofNat_of_zero_le (by omega : 0 ≤ Lib.indexByte l 46)
    rw [hk, Int.toNat_natCast] at h1 ⊢
    have hs := (Lib.indexByte_some hk).1
    obtain ⟨hlt, hg⟩ := List.getElem?_eq_some_iff.1 hs
    rw [← h1]
    have := List.drop_eq_getElem_cons hlt
    rw [hg] at this
    rw [← this, List.take_append_drop]

theorem part8_digs {b : Nat} (h : b < 256) : part8L (digs 10 b) = some b := by
  unfold part8L; rw [fd_digs (by decide) (by decide) (by omega)]
  rw [if_pos ⟨rfl, by unfold fitsN isW; simp; exact h⟩]
theorem part8_back {l : List UInt8} {b : Nat} (h : part8L l = some b) : b < 256 ∧ digs 10 b = l := by
  unfold part8L at h; split at h
  · next hh =>
    injection h with h
    refine ⟨?_, ?_⟩
    · rw [← h]; have := hh.2; unfold fitsN at this; simp at this; exact this.2
    · apply fd_back (by decide) (by decide)
      rw [← h, ← hh.1]
  · cases h
theorem digs_nodot (b : Nat) : ∀ c ∈ digs 10 b, c ≠ 46 := fun c hc => by
  obtain ⟨d, hd, rfl⟩ := digs_mem (by decide) hc
  exact (sgn_not d (by omega)).1
theorem dpre_four (n : Nat) : dpre n 4 = digs 10 (byteN n 3) ++ 46 :: (digs 10 (byteN n 2) ++ 46 :: (digs 10 (byteN n 1) ++ 46 :: digs 10 (byteN n 0))) := by
  simp [dpre]
/-- Dots, read. -/
theorem dots_dpre {n : Nat} (hn : n < 4294967296) : dotsL (dpre n 4) = (n, true) := by
  have e : splitL 4 (dpre n 4) = [digs 10 (byteN n 3), digs 10 (byteN n 2), digs 10 (byteN n 1), digs 10 (byteN n 0)] := by
    rw [dpre_four, split_app _ _ _ (digs_nodot _), split_app _ _ _ (digs_nodot _), split_app _ _ _ (digs_nodot _), split_none _ _ (digs_nodot _)]
  unfold dotsL
  rw [e]
  simp only [List.length_cons, List.length_nil, doL, part8_digs (byteN_lt n _)]
  rw [if_pos trivial]
  have : ((((0 * 256 + byteN n 3) * 256 + byteN n 2) * 256 + byteN n 1) * 256 + byteN n 0) = n := by unfold byteN; simp; omega
  rw [this]
/-- What is read of dots is written so. -/
theorem dots_back {l : List UInt8} {v : Nat} (h : dotsL l = (v, true)) : v < 4294967296 ∧ dpre v 4 = l := by
  unfold dotsL at h
  split at h
  · next hl =>
    obtain ⟨p0, p1, p2, p3, hs⟩ : ∃ p0 p1 p2 p3, splitL 4 l = [p0, p1, p2, p3] := by
      match hq : splitL 4 l, hl with
      | [p0, p1, p2, p3], _ => exact ⟨p0, p1, p2, p3, rfl⟩
    rw [hs] at h
    obtain ⟨r0, e0, hs0⟩ := split_more hs
    obtain ⟨r1, e1, hs1⟩ := split_more hs0
    obtain ⟨r2, e2, hs2⟩ := split_more hs1
    have e3 := split_one hs2
    cases h0 : part8L p0 with
    | none => rw [doL_none h0] at h; injection h with _ h; cases h
    | some b0 =>
      cases h1 : part8L p1 with
      | none => rw [doL_some h0, doL_none h1] at h; injection h with _ h; cases h
      | some b1 =>
        cases h2 : part8L p2 with
        | none => rw [doL_some h0, doL_some h1, doL_none h2] at h; injection h with _ h; cases h
        | some b2 =>
          cases h3 : part8L p3 with
          | none => rw [doL_some h0, doL_some h1, doL_some h2, doL_none h3] at h; injection h with _ h; cases h
          | some b3 =>
            rw [doL_some h0, doL_some h1, doL_some h2, doL_some h3, doL] at h
            injection h with h _
            obtain ⟨l0, d0⟩ := part8_back h0
            obtain ⟨l1, d1⟩ := part8_back h1
            obtain ⟨l2, d2⟩ := part8_back h2
            obtain ⟨l3, d3⟩ := part8_back h3
            have hv : v = ((b0 * 256 + b1) * 256 + b2) * 256 + b3 := by rw [← h]; omega
            have q3 : byteN v 3 = b0 := by unfold byteN; rw [hv]; simp; omega
            have q2 : byteN v 2 = b1 := by unfold byteN; rw [hv]; simp; omega
            have q1 : byteN v 1 = b2 := by unfold byteN; rw [hv]; simp; omega
            have q0 : byteN v 0 = b3 := by unfold byteN; rw [hv]; simp; omega
            refine ⟨by omega, ?_⟩
            rw [dpre_four, q3, q2, q1, q0, d0, d1, d2, d3, e0, e1, e2, e3]
  · injection h with _ h; cases h
theorem dots_not {l : List UInt8} (h : ∀ c ∈ l, c ≠ 46) : (dotsL l).2 = false := by
  unfold dotsL; rw [split_none 4 l h]; rfl
end Go.Proofs.YtjkpdcgmmdimaaaDoor
