/- The statements' helper 'written': a disk over which writes went, the first ones flushed. -/
import Derived.Test.YtnpcnflfpmjgiaaDoorCm
namespace Go.Proofs.YtnpcnflfpmjgiaaDoor
open Go.RowKit
set_option linter.unusedVariables false
set_option linter.unusedSimpArgs false

/-- The disk behind the first k of the first writes, and behind the first k of the others. -/
def wS1 (n : Nat) (ps : List Pu) (k : Nat) : DS := ⟨List.replicate n zero512, (ps.take k).map (lw n), false, 0, 0, (k : Int), 0⟩
def wS2 (n : Nat) (ps qs : List Pu) (k : Nat) : DS := ⟨over (List.replicate n zero512) (ps.map (lw n)), (qs.take k).map (lw n), false, 0, 0, ((ps.length + k : Nat) : Int), 1⟩
theorem wS1_succ {n : Nat} (ps : List Pu) {k m : Nat} {p : Pu} (hp : ps[k]? = some p) (hm : pickI p.n (n : Int) = (m : Int)) (hk : k ≤ 17592186044416) :
    ({ wS1 n ps k with wait := (wS1 n ps k).wait ++ [(m, fullB p.f p.e)], wr := wrap64 ((wS1 n ps k).wr + 1) } : DS) = wS1 n ps (k + 1) := by
  have ht : (ps.take (k + 1)).map (lw n) = (ps.take k).map (lw n) ++ [(m, fullB p.f p.e)] := by
    rw [List.take_add_one, hp]; simp [lw, hm]
  have hw : wrap64 ((k : Int) + 1) = ((k + 1 : Nat) : Int) := by rw [wrap_small (by omega) (by omega)]; omega
  unfold wS1
  simp only [ht, hw]
theorem wS2_succ {n : Nat} (ps qs : List Pu) {k m : Nat} {p : Pu} (hp : qs[k]? = some p) (hm : pickI p.n (n : Int) = (m : Int)) (hk : ps.length + k ≤ 35184372088832) :
    ({ wS2 n ps qs k with wait := (wS2 n ps qs k).wait ++ [(m, fullB p.f p.e)], wr := wrap64 ((wS2 n ps qs k).wr + 1) } : DS) = wS2 n ps qs (k + 1) := by
  have ht : (qs.take (k + 1)).map (lw n) = (qs.take k).map (lw n) ++ [(m, fullB p.f p.e)] := by
    rw [List.take_add_one, hp]; simp [lw, hm]
  have hw : wrap64 (((ps.length + k : Nat) : Int) + 1) = ((ps.length + (k + 1) : Nat) : Int) := by rw [wrap_small (by omega) (by omega)]; omega
  unfold wS2
  simp only [ht, hw]
theorem wS1_flush (n : Nat) (ps qs : List Pu) (hl : ps.length ≤ 17592186044416) : flushE (wS1 n ps ps.length) = 0 ∧ flushD (wS1 n ps ps.length) = wS2 n ps qs 0 := by
  have h := flush_live (S := wS1 n ps ps.length) rfl rfl
  refine ⟨h.1, ?_⟩
  rw [h.2]
  unfold wS2 wS1 DS.shown
  simp [wrap64]

/-- A disk that was written comes out. -/
def Wrote (w : World) (S : DS) (e : Ending) (w' : World) : Prop := ∃ b fp, e = .returned (pt b) ∧ Dk w.heap.size w' b fp S ∧ Below w.heap.size w w'
end Go.Proofs.YtnpcnflfpmjgiaaDoor
