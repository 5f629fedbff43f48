/- Carries of a sum's bits, and what is left of differences: plain arithmetic of numbers of 128 bits. -/
import Derived.Test.YtjkpdcgmmdimaaaDoorWb
namespace Go.Proofs.YtjkpdcgmmdimaaaDoor
open Go.RowKit
set_option linter.unusedVariables false

def carryN (k n m : Nat) : Bool := BitVec.carry k (BitVec.ofNat 128 n) (BitVec.ofNat 128 m) false
theorem carry_zero (n m : Nat) : carryN 0 n m = false := by unfold carryN; exact BitVec.carry_zero
theorem carry_next (k n m : Nat) (hn : Is128 n) (hm : Is128 m) : carryN (k + 1) n m = Bool.atLeastTwo (n.testBit k) (m.testBit k) (carryN k n m) := by
  have e1 : (BitVec.ofNat 128 n).getLsbD k = n.testBit k := by rw [BitVec.getLsbD_ofNat]; by_cases h : k < 128 <;> simp [h]; unfold Is128 at hn; rw [← two128] at hn; exact Nat.testBit_lt_two_pow (Nat.lt_of_lt_of_le hn (Nat.pow_le_pow_right (by decide) (by omega)))
  have e2 : (BitVec.ofNat 128 m).getLsbD k = m.testBit k := by rw [BitVec.getLsbD_ofNat]; by_cases h : k < 128 <;> simp [h]; unfold Is128 at hm; rw [← two128] at hm; exact Nat.testBit_lt_two_pow (Nat.lt_of_lt_of_le hm (Nat.pow_le_pow_right (by decide) (by omega)))
  unfold carryN
  rw [BitVec.carry_succ, e1, e2]
theorem sum_bit (k n m : Nat) (hk : k < 128) : (n + m).testBit k = ((n.testBit k) ^^ ((m.testBit k) ^^ (carryN k n m))) := by
  have h := BitVec.getLsbD_add (i := k) hk (BitVec.ofNat 128 n) (BitVec.ofNat 128 m)
  have e1 : (BitVec.ofNat 128 n).getLsbD k = n.testBit k := by rw [BitVec.getLsbD_ofNat]; simp [hk]
  have e2 : (BitVec.ofNat 128 m).getLsbD k = m.testBit k := by rw [BitVec.getLsbD_ofNat]; simp [hk]
  have e3 : (BitVec.ofNat 128 n + BitVec.ofNat 128 m).getLsbD k = (n + m).testBit k := by
    rw [← BitVec.ofNat_add, BitVec.getLsbD_ofNat]; simp [hk]
  rw [e1, e2, e3] at h
  exact h
theorem add_bit {n m : Nat} {wd : Int} (hW : isW wd = true) {k : Nat} (hk : (k : Int) < wd) : (addN n m wd).testBit k = (n + m).testBit k := by
  have hb := isW_bounds hW
  unfold addN; rw [cut_yes hW, ← two128, Nat.testBit_mod_two_pow, Nat.testBit_mod_two_pow]
  simp [show k < wd.toNat by omega, show k < 128 by omega]
theorem bit_at {n : Nat} {wd : Int} (hW : isW wd = true) {k : Nat} (hk : (k : Int) < wd) : bitN n wd (wd - 1 - k) = n.testBit k := by
  have hb := isW_bounds hW
  unfold bitN; rw [hW, show decide (0 ≤ wd - 1 - (k : Int)) = true by simp; omega, show decide (wd - 1 - (k : Int) < wd) = true by simp; omega]
  rw [show (wd - 1 - (wd - 1 - (k : Int))).toNat = k by omega]; simp
theorem cut_fits (n : Nat) {wd : Int} (hW : isW wd = true) : fitsN (cutN n wd) wd = true := by
  unfold fitsN; rw [hW, cut_yes hW]; simp; exact Nat.mod_lt _ (Nat.two_pow_pos _)
theorem pow_dvd {wd : Int} (hW : isW wd = true) : 2 ^ wd.toNat ∣ 340282366920938463463374607431768211456 := by
  have hb := isW_bounds hW
  rw [← two128]; exact Nat.pow_dvd_pow 2 (by omega)
theorem add_back {n m : Nat} (hn : Is128 n) (hm : Is128 m) {wd : Int} (hW : isW wd = true) : addN (subN n m wd) m wd = cutN n wd := by
  have hd := pow_dvd hW
  unfold addN subN; rw [cut_yes hW, cut_yes hW, cut_yes hW, Nat.mod_mod_of_dvd _ hd, Nat.mod_mod_of_dvd _ hd, Nat.mod_add_mod]
  unfold Is128 at hm
  rw [show n + (340282366920938463463374607431768211456 - m) + m = n + 340282366920938463463374607431768211456 by omega]
  obtain ⟨q, hq⟩ := hd
  rw [hq, Nat.add_mul_mod_self_left]
theorem sub_self {n : Nat} (hn : Is128 n) (wd : Int) : subN n n wd = 0 := by
  unfold subN Is128 at *
  rw [show n + (340282366920938463463374607431768211456 - n) = 340282366920938463463374607431768211456 by omega, Nat.mod_self]
  unfold cutN; split <;> simp
end Go.Proofs.YtjkpdcgmmdimaaaDoor
