/- The walk of DiskFlushes: true; older memory is as it was. -/
import Derived.Test.YtnpcnflfpmjgiaaDoorCu
namespace Go.Proofs.YtnpcnflfpmjgiaaDoor
open Go.RowKit
set_option linter.unusedVariables false
set_option linter.unusedSimpArgs false

/-- A disk with nothing pending, its power on. -/
def rdS (l : List ByteArray) (r a f : Int) : DS := ⟨l, [], false, 0, r, a, f⟩
theorem rdS_read (l : List ByteArray) (r a f : Int) (i : Nat) (hi : i < l.length) : readS (rdS l r a f) (i : Int) = l.getD i ByteArray.empty ∧ refuseD (rdS l r a f) (i : Int) = 0 ∧ readD (rdS l r a f) (i : Int) = rdS l (wrap64 (r + 1)) a f := by
  have h0 : refuseD (rdS l r a f) (i : Int) = 0 := by unfold refuseD rdS; simp; omega
  refine ⟨?_, h0, ?_⟩
  · unfold readS; rw [if_pos h0, Int.toNat_natCast]; rfl
  · unfold readD; rw [if_pos h0]; rfl
/-- All that was written first. -/
def base (n : Nat) (ps : List Pu) : List ByteArray := over (List.replicate n zero512) (ps.map (lw n))
theorem base_length (n : Nat) (ps : List Pu) : (base n ps).length = n := by unfold base; rw [length_over, List.length_replicate]
theorem base_size (n : Nat) (ps : List Pu) : ∀ s ∈ base n ps, s.size = 512 := by
  refine size_over (fun s hs => ?_) (fun p hp => ?_)
  · rw [List.eq_of_mem_replicate hs]; exact z_size
  · obtain ⟨q, _, rfl⟩ := List.mem_map.1 hp; exact fullB_size _ _
theorem base_want (n : Nat) (ps : List Pu) (i : Nat) : want n ps i ps.length = (base n ps).getD i ByteArray.empty := by
  unfold want base; rw [List.take_length]
theorem wS2_none (n : Nat) (ps : List Pu) : wS2 n ps [] 0 = rdS (base n ps) 0 (ps.length : Int) 1 := by unfold wS2 rdS base; simp
theorem wS2_crash (n : Nat) (ps qs : List Pu) (hok : (wS2 n ps qs qs.length).Ok) : crashD (wS2 n ps qs qs.length) [] = rdS (base n ps) 0 ((ps.length + qs.length : Nat) : Int) 1 := by
  have h := crash_without hok
  unfold crashD at h ⊢
  simp only at h
  simp only [h]
  rfl
end Go.Proofs.YtnpcnflfpmjgiaaDoor
