/- Fates in memory of their own: still. -/
import Derived.Test.YtbjpphoohoedcaaDe
namespace Go.Proofs.Ytbjpphoohoedcaa
open Go.RowKit
set_option linter.unusedVariables false
set_option linter.unusedSimpArgs false

set_option maxHeartbeats 2000000 in
set_option maxRecDepth 100000 in
theorem still_any {v w : World} {B : Nat} (fs : List (Int × Int)) (a : Option Addr) (c N : Nat) (hf : FtO v fs a) (hb : Below v.heap.size v w) (g : Nat) (hg : v.heap.size ≤ g) (hN : N = fs.length + 3) (hfl : fs.length ≤ 8796093021952) (ys : List Value) (hR : w.ownsRow B 59 2 (.slice (some ⟨g, 0, none⟩) N N) N ys) (hA : ∀ j p, (LL fs)[j]? = some p → At2 ys j p) : Calls Try.prog 70 #[.slice (some ⟨g, 0, none⟩) N N, .slice a fs.length c] w fun e w' => e = .returned (.bool true) ∧ Kept (fun k => k = g) w w' := by
  have HF : Hid (FtO v fs a) := hf
  have HV : Hid (Below v.heap.size v w) := hb
  have HG : Hid (v.heap.size ≤ g) := hg
  have HLA : Hid (∀ (k : Nat) (p : Int × Int), fs[k]? = some p → (LL fs)[k]? = some p) := LL_at fs
  have HLE : Hid (∀ k : Nat, fs.length ≤ k → k < fs.length + 3 → (LL fs)[k]? = some (-7, -7)) := LL_end fs
  have HGE : Hid (∀ k : Nat, k < fs.length → ∃ p, fs[k]? = some p) := fun k h => ⟨_, List.getElem?_eq_getElem h⟩
  have HR : Hid (w.ownsRow B 59 2 (.slice (some ⟨g, 0, none⟩) N N) N ys) := hR
  have HA : Hid (∀ j p, (LL fs)[j]? = some p → At2 ys j p) := hA
  generalize LL fs = L at *
  obtain ⟨n, hn⟩ : ∃ n, n = fs.length := ⟨_, rfl⟩
  rw [← hn] at hfl hN HLE HGE ⊢
  have hfi : (n : Int) ≤ 8796093021952 := by omega
  have hNm : (N : Int) ≤ 8796093021955 := by omega
  have HNN : Hid (N = n + 3) := hN
  clear hf hn hb hg hR hA hN
  go_enter Try.func70, Try.ntmps70
  go_wp2_with fail
  go_loopw [5, 6] (fun s t wa => ∃ (k : Nat) (xs : List Value), k ≤ N ∧ s = .bool true ∧ t = .int .i64 k ∧ wa.ownsRow B 59 2 (.slice (some ⟨g, 0, none⟩) N N) N xs ∧ (∀ j p, k ≤ j → L[j]? = some p → At2 xs j p) ∧ Kept (fun k => k = g) w wa) (fun _ t _ => N - (intOf t).toNat)
  case atStart => exact ⟨0, _, Nat.zero_le _, rfl, rfl, HR.out, fun j p _ h => HA.out j p h, Kept.refl _ _⟩
  case round =>
    obtain ⟨k, xs, hk, rfl, rfl, hR, hA, hK⟩ := hrel
    clear HR HA
    by_cases hlt : k < N
    · have hk' : (k : Int) < (N : Int) := by omega
      have hxl : xs.length = N * 2 := hR.1
      have f0 := hR.frozenAt (k * 2)
      have f1 := hR.frozenAt (k * 2 + 1)
      have hgl : g < wr.heap.size := (hR.lt _ rfl).2
      have HE : Hid (((wr.setCell ⟨g, k * 2, none⟩ (.int .i64 1)).setCell ⟨g, k * 2 + 1, none⟩ (.int .i64 0)).drew.ownsRow B 59 2 (.slice (some ⟨g, 0, none⟩) N N) N ((xs.set (k * 2) (.int .i64 1)).set (k * 2 + 1) (.int .i64 0)) ∧ (∀ j p, k + 1 ≤ j → L[j]? = some p → At2 ((xs.set (k * 2) (.int .i64 1)).set (k * 2 + 1) (.int .i64 0)) j p) ∧ Kept (fun k => k = g) w ((wr.setCell ⟨g, k * 2, none⟩ (.int .i64 1)).setCell ⟨g, k * 2 + 1, none⟩ (.int .i64 0)).drew) :=
        ⟨((hR.stored (k * 2) (.int .i64 1)).1.stored (k * 2 + 1) (.int .i64 0)).1.drew, fun j p hj hp' => ((hA j p (by omega) hp').far _ (by omega) (by omega)).far _ (by omega) (by omega), ((hK.set (p := ⟨g, k * 2, none⟩) rfl _).set (p := ⟨g, k * 2 + 1, none⟩) rfl _).drew⟩
      by_cases hin : k < n
      · have hin' : (k : Int) < (n : Int) := by omega
        have hin3 : ¬ n ≤ k := by omega
        obtain ⟨⟨kd, t⟩, hp⟩ := HGE.out k hin
        obtain ⟨fb, foff, rfl, hfb, hft⟩ : ∃ fb foff, a = some ⟨fb, foff, none⟩ ∧ fb < v.heap.size ∧ Fts v fb foff fs := by
          rcases HF.out with h | h
          · rw [h] at hp; simp at hp
          · exact h
        obtain ⟨g0, g1⟩ := hft k kd t hp
        have hne : ¬ fb = g := by have := HG.out; omega
        have hne2 : ¬ g = fb := fun e => hne e.symm
        have r0 := hK.cell ((HV.out.cell (p := ⟨fb, foff + k * 2, none⟩) hfb).trans g0) hne
        have r1 := hK.cell ((HV.out.cell (p := ⟨fb, foff + k * 2 + 1, none⟩) hfb).trans g1) hne
        obtain ⟨b0, b1⟩ := hA k (kd, t) (Nat.le_refl _) (HLA.out k _ hp)
        have q0 := (hR.cellAt (k * 2) (by omega)).trans b0
        have q1 := (hR.cellAt (k * 2 + 1) (by omega)).trans b1
        have heq : ∀ w : World, (binOp .neq 59 (.agg #[.int .i64 kd, .int .i64 t]) (.agg #[.int .i64 kd, .int .i64 t])).run Try.prog w = .ok (.bool false) w := fun w => by rw [run_neF]; simp
        clear hR hA hK hft g0 g1 HF HGE b0 b1 hxl HV HG
        go_wp2_with fail
        go_region
        go_wp2
        go_roundw
        case rel => exact ⟨k + 1, _, by omega, rfl, by go_num, HE.out⟩
        case measure => simp [intOf]; omega
      · have hin' : ¬ (k : Int) < (n : Int) := by omega
        have hin2 : (n : Int) ≤ (k : Int) := by omega
        have hin3 : n ≤ k := by omega
        obtain ⟨b0, b1⟩ := hA k (-7, -7) (Nat.le_refl _) (HLE.out k (by omega) (by have := HNN.out; omega))
        have q0 := (hR.cellAt (k * 2) (by omega)).trans b0
        have q1 := (hR.cellAt (k * 2 + 1) (by omega)).trans b1
        have heq : ∀ w : World, (binOp .neq 59 (.agg #[.int .i64 (-7), .int .i64 (-7)]) (.agg #[.int .i64 (-7), .int .i64 (-7)])).run Try.prog w = .ok (.bool false) w := fun w => by rw [run_neF]; simp
        clear hR hA hK HF HGE b0 b1 hxl HV HG
        go_wp2_with fail
        go_region
        go_wp2
        go_roundw
        case rel => exact ⟨k + 1, _, by omega, rfl, by go_num, HE.out⟩
        case measure => simp [intOf]; omega
    · have hk' : ¬ (k : Int) < (N : Int) := by omega
      have HE : Hid (Kept (fun k => k = g) w wr) := hK
      clear hR hA hK HF HGE HV HG
      go_wp2
      go_ret
      exact ⟨rfl, HE.out⟩
end Go.Proofs.Ytbjpphoohoedcaa
