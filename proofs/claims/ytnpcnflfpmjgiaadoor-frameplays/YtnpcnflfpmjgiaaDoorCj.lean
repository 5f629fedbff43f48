/- The head of all statements: awake answers true; pick, sector. -/
import Derived.Test.YtnpcnflfpmjgiaaDoorCi
namespace Go.Proofs.YtnpcnflfpmjgiaaDoor
open Go.RowKit
set_option linter.unusedVariables false
set_option linter.unusedSimpArgs false

theorem Left.low {B b : Nat} {fp : Nat → Prop} {w w' : World} {S S' : DS} (h : Left B b fp w S' w') (d : Dk B w b fp S) (hB : B ≤ w.heap.size) : Below B w w' := by
  obtain ⟨fp', _, k, _⟩ := h
  exact k.below hB (fun i hi => (d.fp i hi).1)
theorem Left.got {B b : Nat} {fp : Nat → Prop} {w w' : World} {S S' : DS} (h : Left B b fp w S' w') (d : Dk B w b fp S) (hB : B ≤ w.heap.size) : ∃ fp', Dk B w' b fp' S' ∧ Below B w w' ∧ B ≤ w'.heap.size := by
  have hl := h.low d hB
  obtain ⟨fp', d', _, _⟩ := h
  exact ⟨fp', d', hl, Nat.le_trans hB hl.size⟩
def a97 : ByteArray := fullB 97 97
def b98 : ByteArray := fullB 98 98
def S0a : DS := freshD (List.replicate 2 zero512)
theorem a_size : a97.size = 512 := fullB_size _ _
theorem b_size : b98.size = 512 := fullB_size _ _
theorem z_size : zero512.size = 512 := by unfold zero512; rw [ByteArray.size]; simp
theorem w1a : writeE S0a 0 a97 = 0 ∧ writeD S0a 0 a97 = ⟨List.replicate 2 zero512, [(0, a97)], false, 0, 0, 1, 0⟩ := by
  have h := a_size
  constructor
  · simp [writeE, refuseD, stepD, S0a, freshD, h]
  · simp [writeD, refuseD, stepD, S0a, freshD, h, wrap64]
theorem w2a : writeE (writeD S0a 0 a97) 0 b98 = 0 ∧ writeD (writeD S0a 0 a97) 0 b98 = ⟨List.replicate 2 zero512, [(0, a97), (0, b98)], false, 0, 0, 2, 0⟩ := by
  have h := b_size
  rw [w1a.2]
  constructor
  · simp [writeE, refuseD, stepD, h]
  · simp [writeD, refuseD, stepD, h, wrap64]
theorem c2a : crashD (writeD (writeD S0a 0 a97) 0 b98) [(1, 0), (2, 3)] = ⟨[tear b98 a97 3, zero512], [], false, 0, 0, 2, 0⟩ := by
  rw [w2a.2]
  unfold crashD
  have e : settle (fateK [(1, 0), (2, 3)]) 0 (List.replicate 2 zero512) [(0, a97), (0, b98)] = [tear b98 a97 3, zero512] := by
    show lay (lay (List.replicate 2 zero512) (0, a97) 512) (0, b98) 3 = _
    rw [show lay (List.replicate 2 zero512) (0, a97) 512 = [tear a97 zero512 512, zero512] from rfl, tear_full a_size]
    rfl
  simp only [e]
theorem r2a : readS (crashD (writeD (writeD S0a 0 a97) 0 b98) [(1, 0), (2, 3)]) 0 = tear b98 a97 3 ∧ refuseD (crashD (writeD (writeD S0a 0 a97) 0 b98) [(1, 0), (2, 3)]) 0 = 0 := by
  rw [c2a]
  have h0 : refuseD (⟨[tear b98 a97 3, zero512], [], false, 0, 0, 2, 0⟩ : DS) 0 = 0 := by simp [refuseD]
  refine ⟨?_, h0⟩
  unfold readS
  rw [if_pos h0]
  rfl
theorem three : b98.extract 0 3 = ⟨#[98, 98, 98]⟩ := by decide +kernel
end Go.Proofs.YtnpcnflfpmjgiaaDoor
