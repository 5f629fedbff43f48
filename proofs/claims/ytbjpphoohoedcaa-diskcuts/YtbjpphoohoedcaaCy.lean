/- What DiskCuts asks, plain: a cut comes at just its step. -/
import Derived.Test.YtbjpphoohoedcaaCv
namespace Go.Proofs.Ytbjpphoohoedcaa
open Go.RowKit
set_option linter.unusedVariables false
set_option linter.unusedSimpArgs false

/-- A disk of three sectors, its power to go at step K, of which D are done. -/
structure CI (K D W F P : Nat) (S : DS) : Prop where
  len : S.safe.length = 3
  rd : S.rd = 0
  wr : S.wr = (W : Int)
  fl : S.fl = (F : Int)
  pe : S.wait.length = P
  dk : D + 1 ≤ K
  on : S.off = false → S.cut = (K : Int) - (D : Int)
  off : S.off = true → S.cut = 0 ∧ D + 1 = K
section
variable {K D W F P : Nat} {S : DS}
theorem CI.step_yes (h : CI K D W F P S) (hD : D + 1 < K) : S.off = false ∧ stepD S = { S with cut := (K : Int) - ((D + 1 : Nat) : Int) } := by
  have ho : S.off = false := by
    cases e : S.off
    · rfl
    · have := (h.off e).2; omega
  have hc := h.on ho
  refine ⟨ho, ?_⟩
  unfold stepD
  rw [ho, hc, if_neg (by omega), show ((K : Int) - (D : Int) == 1) = false by simp; omega]
  cases S
  simp_all
  omega
theorem CI.step_no (h : CI K D W F P S) (hD : D + 1 = K) : stepD S = { S with off := true, cut := 0 } := by
  unfold stepD
  cases e : S.off
  · have hc := h.on e
    rw [hc, if_neg (by omega), show ((K : Int) - (D : Int) == 1) = true by simp; omega, show (K : Int) - (D : Int) - 1 = 0 by omega]
    simp
  · have hc := (h.off e).1
    rw [hc]
    simp
theorem CI.flush_yes (h : CI K D W F P S) (hD : D + 1 < K) (hF : F ≤ 40) : flushE S = 0 ∧ CI K (D + 1) W (F + 1) 0 (flushD S) ∧ (flushD S).off = false := by
  obtain ⟨ho, hs⟩ := h.step_yes hD
  have hw : wrap64 (S.fl + 1) = ((F + 1 : Nat) : Int) := by rw [h.fl, wrap_small (by omega) (by omega)]; omega
  unfold flushE flushD
  rw [hs]
  simp only [ho, hw]
  refine ⟨rfl, ⟨?_, h.rd, h.wr, rfl, rfl, by omega, fun _ => rfl, fun e => by cases e⟩, rfl⟩
  show (over S.safe S.wait).length = 3
  rw [length_over]; exact h.len
theorem CI.flush_no (h : CI K D W F P S) (hD : D + 1 = K) : flushE S = 40 ∧ CI K D W F P (flushD S) ∧ (flushD S).off = true := by
  have hs := h.step_no hD
  unfold flushE flushD
  rw [hs]
  exact ⟨rfl, ⟨h.len, h.rd, h.wr, h.fl, h.pe, h.dk, (fun e => by cases e), fun _ => ⟨rfl, hD⟩⟩, rfl⟩
theorem CI.write_yes (h : CI K D W F P S) (hD : D + 1 < K) (hW : W ≤ 40) (m : Nat) (hm : m < 3) (s : ByteArray) (hsz : s.size = 512) : writeE S (m : Int) s = 0 ∧ CI K (D + 1) (W + 1) F (P + 1) (writeD S (m : Int) s) ∧ (writeD S (m : Int) s).off = false := by
  obtain ⟨ho, hs⟩ := h.step_yes hD
  have hl := h.len
  have hr : refuseD S (m : Int) = 0 := by unfold refuseD; rw [ho]; simp; omega
  have hw : wrap64 (S.wr + 1) = ((W + 1 : Nat) : Int) := by rw [h.wr, wrap_small (by omega) (by omega)]; omega
  unfold writeE writeD
  rw [hr, hs]
  simp only [ho, hw, hsz, ne_eq, not_true_eq_false, if_false, Bool.false_eq_true]
  exact ⟨trivial, ⟨h.len, h.rd, rfl, h.fl, by simp [h.pe], by omega, fun _ => rfl, fun e => by cases e⟩, trivial⟩
theorem CI.write_no (h : CI K D W F P S) (hD : D + 1 = K) (m : Nat) (hm : m < 3) (s : ByteArray) (hsz : s.size = 512) : writeE S (m : Int) s = 40 ∧ CI K D W F P (writeD S (m : Int) s) ∧ (writeD S (m : Int) s).off = true := by
  have hs := h.step_no hD
  have hl := h.len
  unfold writeE writeD
  cases e : S.off
  · have hr : refuseD S (m : Int) = 0 := by unfold refuseD; rw [e]; simp; omega
    rw [hr, hs]
    simp only [hsz, ne_eq, not_true_eq_false, if_false, if_true]
    exact ⟨trivial, ⟨h.len, h.rd, h.wr, h.fl, h.pe, h.dk, (fun e => by cases e), fun _ => ⟨rfl, hD⟩⟩, trivial⟩
  · have hr : refuseD S (m : Int) = 40 := by unfold refuseD; rw [e]; simp
    rw [hr]
    simp
    exact ⟨h, e⟩
theorem CI.refused (h : CI K D W F P S) (s : ByteArray) : writeE S 3 s = (if S.off then 40 else 41) ∧ writeD S 3 s = S := by
  have hl := h.len
  have hr : refuseD S 3 = if S.off then 40 else 41 := by
    unfold refuseD
    cases e : S.off
    · simp; omega
    · simp
  unfold writeE writeD
  rw [hr]
  cases e : S.off <;> simp
theorem CI.short (h : CI K D W F P S) (s : ByteArray) (hs : s.size ≠ 512) : writeE S 0 s = (if S.off then 40 else 42) ∧ writeD S 0 s = S := by
  have hl := h.len
  have hr : refuseD S 0 = if S.off then 40 else 0 := by
    unfold refuseD
    cases e : S.off
    · rw [hl]; rfl
    · simp
  unfold writeE writeD
  rw [hr]
  cases e : S.off <;> simp [hs]
theorem CI.read (h : CI K D W F P S) (ho : S.off = true) : readS S 0 = ⟨#[]⟩ ∧ refuseD S 0 = 40 ∧ readD S 0 = S := by
  have hr : refuseD S 0 = 40 := by unfold refuseD; rw [ho]; simp
  unfold readS readD
  rw [hr]
  simp
/-- Behind a crash all goes on. -/
theorem CI.after (h : CI K D W F P S) (s : ByteArray) (hs : s.size = 512) : writeE (crashD S []) 0 s = 0 ∧ flushE (writeD (crashD S []) 0 s) = 0 ∧
    readS (flushD (writeD (crashD S []) 0 s)) 0 = s ∧ refuseD (flushD (writeD (crashD S []) 0 s)) 0 = 0 ∧ (readD (flushD (writeD (crashD S []) 0 s)) 0).off = false ∧ (crashD S []).wait.length = 0 := by
  have hl : (settle (fateK []) 0 S.safe S.wait).length = 3 := by rw [length_settle]; exact h.len
  have hw := write_live (S := crashD S []) (m := 0) (s := s) rfl rfl (by show 0 < (settle (fateK []) 0 S.safe S.wait).length; omega) hs
  have hw1 : writeE (crashD S []) 0 s = 0 := hw.1
  have hw2 : writeD (crashD S []) 0 s = { crashD S [] with wait := (crashD S []).wait ++ [(0, s)], wr := wrap64 ((crashD S []).wr + 1) } := hw.2
  have hf := flush_live (S := writeD (crashD S []) 0 s) (by rw [hw2]; rfl) (by rw [hw2]; rfl)
  have hsh : (writeD (crashD S []) 0 s).shown = (settle (fateK []) 0 S.safe S.wait).set 0 s := by rw [hw2]; rfl
  have hr : refuseD (flushD (writeD (crashD S []) 0 s)) 0 = 0 := by
    rw [hf.2]
    unfold refuseD
    simp only [hsh, List.length_set, hl]
    rw [hw2]
    simp [crashD]
  have hrs : readS (flushD (writeD (crashD S []) 0 s)) 0 = s := by
    unfold readS
    rw [if_pos hr, hf.2]
    show (over (writeD (crashD S []) 0 s).shown []).getD 0 ByteArray.empty = s
    rw [show over (writeD (crashD S []) 0 s).shown [] = (writeD (crashD S []) 0 s).shown from rfl, hsh, List.getD_eq_getElem?_getD, List.getElem?_set_self (by omega)]
    rfl
  refine ⟨hw1, hf.1, hrs, hr, ?_, rfl⟩
  unfold readD
  rw [if_pos hr, hf.2, hw2]
  rfl
end
theorem ci_start (K : Nat) (hK : 1 ≤ K) : CI K 0 0 0 0 (cutD (freshD (List.replicate 3 zero512)) (K : Int)) := by
  unfold cutD
  rw [if_neg (by unfold freshD; simp)]
  exact ⟨by simp [freshD], rfl, rfl, rfl, rfl, by omega, fun _ => by show max (K : Int) 0 = _; omega, fun e => by cases e⟩
end Go.Proofs.Ytbjpphoohoedcaa
