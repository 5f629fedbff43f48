/- Package sums: a ring's take. -/
import Derived.Test.YtabipemlemppjaaDoorMp
import Derived.Test.YtabipemlemppjaaDoorRi
import Derived.Deep.LoopGhost
namespace Go.Proofs.YtabipemlemppjaaDoor
open Go.RowKit Go.Maps
set_option linter.unusedVariables false
set_option linter.unusedSimpArgs false

theorem wf_small {k : Nat} (h : k < 9223372036854775808) : (Lit.int .i64 (k : Int)).wf = true := by
  simp [Lit.wf, IntKind.min, IntKind.max, IntKind.signed, IntKind.bits]; omega
set_option maxHeartbeats 4000000 in
set_option maxRecDepth 100000 in
theorem take_all (b m N : Nat) (hN : N < 9223372036854775808) (T : List Nat) (f0 : Int → Option Int) (s0 D0 : Nat) (hs0 : s0 < N) (hF : FF N T s0 D0) (hR : Rg N f0 T) (hm : m < 1000000) (w : World) (hM : MapI w b m f0) :
    Calls Tryd.prog 40 #[.agg #[.int .i64 N, .map (some b)], .int .i64 s0] w fun e w' => e = .returned (.int .i64 (((s0 + D0) % N : Nat) : Int)) ∧ ∃ f, MapI w' b (m + 1) f ∧ Rg N f (T ++ [(s0 + D0) % N]) ∧ w.grownBy w' (some b) := by
  have hblt := hM.lt
  have hmax : m < maxLen := by unfold maxLen; omega
  have G0 : w.grownBy (w.alloc (.cells #[.int .i64 N, .map (some b)] 66)) (some b) := World.grownBy_alloc w _ _
  have M0 := hM.alloc (.cells #[.int .i64 N, .map (some b)] 66)
  obtain ⟨Rr, hRr⟩ : ∃ R, (s0 + D0) % N = R := ⟨_, rfl⟩
  rw [hRr]
  go_enter Tryd.func40, Tryd.ntmps40
  go_wp2_with fail
  go_loopw [1] (fun sv wr => ∃ (s d : Nat) (f : Int → Option Int), sv = .int .i64 s ∧ s < N ∧ d ≤ D0 ∧ Aside (FF N T s d ∧ (s + d) % N = Rr ∧ Rg N f T) ∧ MapI wr b m f ∧ w.grownBy wr (some b) ∧ wr.cell? ⟨w.heap.size, 0, none⟩ = some (.int .i64 N) ∧ wr.cell? ⟨w.heap.size, 1, none⟩ = some (.map (some b)) ∧ w.heap.size < wr.heap.size) (fun sv _ => dstF N T (D0 + 1) (intOf sv).toNat)
  case atStart => exact ⟨s0, D0, f0, rfl, hs0, Nat.le_refl _, ⟨hF, hRr, hR⟩, M0, G0, by simp, by simp, by simp⟩
  case round =>
    obtain ⟨s, d, f, rfl, hs, hd, A, M, G, c0, c1, hsz⟩ := hrel
    clear M0 G0 hM hF hR hRr
    have hks := wf_small (show s < 9223372036854775808 by omega)
    have L1 := M.look hks
    cases hfs : f (s : Int) with
    | none =>
      rw [hfs] at L1
      obtain ⟨a1, a2, a3⟩ := A.out
      have hfree := a3.free hs hfs
      have hd0 : d = 0 := by
        rcases Nat.eq_zero_or_pos d with h | h
        · exact h
        · have := a1.2 0 h; rw [Nat.add_zero, Nat.mod_eq_of_lt hs] at this; exact absurd this hfree
      subst hd0
      rw [Nat.add_zero, Nat.mod_eq_of_lt hs] at a2
      subst a2
      have hmod : ((s : Int) + 1) % (N : Int) = (((s + 1) % N : Nat) : Int) := by rw [Int.natCast_emod]; rfl
      have htm : Int.tmod ((s : Int) + 1) (N : Int) = ((s : Int) + 1) % (N : Int) := Int.tmod_eq_emod_of_nonneg (by omega)
      have hlt := Nat.mod_lt (s + 1) (show 0 < N by omega)
      obtain ⟨w2, hrun, hM2, hg2⟩ := (M.drew).put hmax hks (wf_small (show (s + 1) % N < 9223372036854775808 by omega))
      rw [hfs] at hM2
      have HFIN : Hid (∃ f, MapI w2 b (m + 1) f ∧ Rg N f (T ++ [s]) ∧ w.grownBy w2 (some b)) := ⟨_, hM2, a3.taken hs, (show w.grownBy wr.drew (some b) from ⟨G.os, G.tape, G.output, G.size, G.block⟩).trans hg2⟩
      rw [← hmod] at hrun
      clear hM2 hg2 a1 a3 A M G hfs hfree hlt hks hmod
      have hN0 : (0 : Int) < N := by omega
      have hNne : ((N : Int) == 0) = false := beq_eq_false_iff_ne.2 (by omega)
      have hNn : N ≠ 0 := by omega
      have hwr : IntKind.i64.wrap ((s : Int) + 1) = (s : Int) + 1 := by rw [IntKind.wrap_i64]; omega
      go_wp2_with fail
      go_region
      all_goals
        go_wp2_with fail
        go_ret
        exact ⟨rfl, HFIN.out⟩
    | some c =>
      rw [hfs] at L1
      obtain ⟨a1, a2, a3⟩ := A.out
      have hmem : s ∈ T := (a3.dom s hs).1 (by rw [hfs]; rfl)
      obtain ⟨d1, g1, g2, g3⟩ := a3.step s hmem
      rw [hfs] at g2
      injection g2 with g2
      subst g2
      have hdle : d1 ≤ d := by
        rcases Nat.lt_or_ge d d1 with h | h
        · exact absurd (g3 d h) a1.1
        · exact h
      have hnlt := Nat.mod_lt (s + d1) (show 0 < N by omega)
      have a1' := a1.skip hdle
      have e2 : ((s + d1) % N + (d - d1)) % N = Rr := by rw [Nat.mod_add_mod, Nat.add_assoc, show d1 + (d - d1) = d by omega]; exact a2
      have HM1 : Hid (dstF N T (D0 + 1) s = d) := dst_is _ _ _ hs (by omega) a1
      have HM2 : Hid (dstF N T (D0 + 1) ((s + d1) % N) = d - d1) := dst_is _ _ _ hnlt (by omega) a1'
      have hkn := wf_small (show (s + d1) % N < 9223372036854775808 by omega)
      have L2 := M.look hkn
      have HSH : Hid (∀ far, f (((s + d1) % N : Nat) : Int) = some far → Rg N (fun x => if x = (s : Int) then some far else f x) T) := fun far h => a3.short hmem g1 g3 h
      have A2 : Hid (FF N T ((s + d1) % N) (d - d1) ∧ ((s + d1) % N + (d - d1)) % N = Rr) := ⟨a1', e2⟩
      have A3 : Hid (Rg N f T) := a3
      have HG : Hid (1 ≤ d1 ∧ d1 ≤ d) := ⟨g1, hdle⟩
      have HF3 : Hid (∀ far, f (((s + d1) % N : Nat) : Int) = some far → 0 ≤ far ∧ far < N) := fun far h => by
        have hm2 : (s + d1) % N ∈ T := (a3.dom _ hnlt).1 (by rw [h]; rfl)
        obtain ⟨d2, _, q2, _⟩ := a3.step _ hm2
        rw [h] at q2
        injection q2 with q2
        have := Nat.mod_lt ((s + d1) % N + d2) (show 0 < N by omega)
        omega
      clear a1 a2 a3 a1' e2 g1 g3 hdle hmem A
      generalize (s + d1) % N = s2 at *
      cases hf2 : f (s2 : Int) with
      | none =>
        rw [hf2] at L2
        clear hfs hf2 hks hkn
        go_wp2_with fail
        exact ⟨⟨s2, d - d1, f, rfl, hnlt, by omega, ⟨A2.out.1, A2.out.2, A3.out⟩, M, G, c0, c1, hsz⟩, by simp only [intOf, Int.toNat_natCast]; rw [HM1.out, HM2.out]; have := HG.out; omega⟩
      | some far =>
        rw [hf2] at L2
        obtain ⟨q1, q2⟩ := HF3.out far hf2
        obtain ⟨w2, hrun, hM2, hg2⟩ := M.put hmax hks (show (Lit.int .i64 far).wf = true by obtain ⟨k, rfl⟩ := Int.eq_ofNat_of_zero_le q1; exact wf_small (by omega))
        rw [hfs] at hM2
        have R2 : Hid (Rg N (fun x => if x = (s : Int) then some far else f x) T) := HSH.out far hf2
        have MM : Hid (MapI w2 b m (fun x => if x = (s : Int) then some far else f x)) := hM2
        have G2 := G.trans hg2
        have d0 : w2.cell? ⟨w.heap.size, 0, none⟩ = some (.int .i64 N) := hg2.cell c0 (fun e => by have e' : w.heap.size = b := Option.some.inj e; omega)
        have d1' : w2.cell? ⟨w.heap.size, 1, none⟩ = some (.map (some b)) := hg2.cell c1 (fun e => by have e' : w.heap.size = b := Option.some.inj e; omega)
        have hsz2 : w.heap.size < w2.heap.size := Nat.lt_of_lt_of_le hsz hg2.size
        clear hfs hf2 hks hkn hM2 hg2 q1 q2 M G
        go_wp2_with fail
        exact ⟨⟨s2, d - d1, _, rfl, hnlt, by omega, ⟨A2.out.1, A2.out.2, R2.out⟩, MM.out, G2, d0, d1', hsz2⟩, by simp only [intOf, Int.toNat_natCast]; rw [HM1.out, HM2.out]; have := HG.out; omega⟩
end Go.Proofs.YtabipemlemppjaaDoor
