/- The reference's Width, Cut, Fits: what each returns, and that memory only grows. -/
import Derived.Test.YtjkpdcgmmdimaaaDoorRt
namespace Go.Proofs.YtjkpdcgmmdimaaaDoor
open Go.RowKit
set_option linter.unusedVariables false
set_option linter.unusedSimpArgs false

theorem rwidth_any (n : Int) (w : World) : Calls Tryd.prog 44 #[.int .i64 n] w fun e w' => e = .returned (.bool (isW n)) ∧ w' = w := by
  by_cases h1 : 1 ≤ n
  · go_enter Tryd.func44, Tryd.ntmps44
    go_wp2
    go_ret
    exact ⟨by simp [isW, h1], rfl⟩
  · have h1' : decide (1 ≤ n) = false := by simpa using h1
    go_enter Tryd.func44, Tryd.ntmps44
    go_wp2
    go_ret
    exact ⟨by rw [show isW n = false by unfold isW; rw [h1', Bool.false_and]]; rfl, rfl⟩
theorem rwidth_val {n : Int} {b : Bool} (h : isW n = b) (w : World) : Calls Tryd.prog 44 #[.int .i64 n] w fun e w' => e = .returned (.bool b) ∧ w' = w := by
  subst h; exact rwidth_any n w

/-- What Cut has left behind k rounds. -/
def cutTo (n k : Nat) : Nat → Bool := fun i => decide (k ≤ i) && layF n i
theorem cutTo_step (n k : Nat) : rowV (fun t => if t = k then false else cutTo n k t) = rowV (cutTo n (k + 1)) := by
  apply rowV_congr; intro i hi; unfold cutTo
  by_cases e : i = k
  · subst e; simp [show ¬ i + 1 ≤ i by omega]
  · simp only [e, if_false]
    rw [show decide (k + 1 ≤ i) = decide (k ≤ i) by rw [Bool.eq_iff_iff]; simp; omega]
theorem cutTo_zero (n : Nat) : rowV (layF n) = rowV (cutTo n 0) := by apply rowV_congr; intro i hi; unfold cutTo; simp
theorem cutTo_take {n : Nat} (hn : Is128 n) {wd : Int} (hW : isW wd = true) : takeN (cutTo n (128 - wd).toNat) = cutN n wd := by
  have hb := isW_bounds hW
  refine take_ext (cut_is hn wd) fun i hi => ?_
  unfold cutTo layF
  rw [cut_yes hW, Nat.testBit_mod_two_pow, show 127 - (127 - i) = i by omega]
  rw [show decide ((128 - wd).toNat ≤ 127 - i) = decide (i < wd.toNat) by rw [Bool.eq_iff_iff]; simp; omega]

set_option maxHeartbeats 1000000 in
set_option maxRecDepth 100000 in
theorem rcut_any (n : Nat) (hn : Is128 n) (wd : Int) (w : World) : Calls Tryd.prog 29 #[B n, .int .i64 wd] w fun e w' => e = .returned (B (cutN n wd)) ∧ Below w.heap.size w w' := by
  cases hW : isW wd
  · have E : Hid _ := cut_no (n := n) hW
    go_enter Tryd.func29, Tryd.ntmps29
    go_wp2_with (go_at_call 44; refine (rwidth_val hW _).mono ?_; rintro e w' ⟨rfl, rfl⟩)
    refine bodyPost_ret (v := B (cutN n wd)) ?_ rfl ⟨rfl, ?_⟩
    · rw [E.out]; simp [results, Tryd.results29, go_sem, hiOf, loOf]
    · go_grown
  · have E : Hid _ := cutTo_take hn hW
    have hb := isW_bounds hW
    have Z0 : Wds ((w.alloc (.cells #[.int .u64 (hiOf n), .int .u64 (loOf n)] 24)).alloc (.cells #[.int .u64 0, .int .u64 0] 24)) (w.heap.size + 1) 0 0 := by simpa using Wds.new (w.alloc (.cells #[.int .u64 (hiOf n), .int .u64 (loOf n)] 24)) 0 0
    have B0 : Below w.heap.size w ((w.alloc (.cells #[.int .u64 (hiOf n), .int .u64 (loOf n)] 24)).alloc (.cells #[.int .u64 0, .int .u64 0] 24)) := by go_grown
    go_enter Tryd.func29, Tryd.ntmps29
    go_wp2_with (go_at_call 44; refine (rwidth_val hW _).mono ?_; rintro e w' ⟨rfl, rfl⟩)
    refine (lay_any n hn _).mono ?_
    rintro e w1 ⟨rfl, hb1⟩
    have Z1 := Z0.below hb1 Z0.lt
    have B1 := bstep B0 hb1
    clear Z0 B0 hb1
    go_wp2_with (refine wpList_store_row rfl 49 _ _ rfl w1.heap.size (rowV (layF n)) rfl rfl 49 _ (heap_alloc_new w1 _) (size49 _) (by rw [zero49, rowV_size, rowV_size]) (rowV_one _) ?_)
    rw [World.setRow_alloc_new]
    have A1 : Arr (w1.alloc (.cells (rowV (layF n)) 49)) w1.heap.size (cutTo n 0) := Arr.congr (Arr.new w1 (layF n)) (cutTo_zero n)
    have Z2 := Z1.past (.cells (rowV (layF n)) 49)
    have B2 := B1.alloc B1.size (.cells (rowV (layF n)) 49)
    have z1 := Z1.lt
    clear Z1 B1
    obtain ⟨K, hK⟩ : ∃ K : Nat, 128 - wd = (K : Int) := ⟨(128 - wd).toNat, by omega⟩
    have hK' : (128 - wd).toNat = K := by omega
    rw [hK'] at E
    have HK : Hid (128 - wd = (K : Int)) := hK
    have K1 : K < 128 := by omega
    clear hK'
    go_loopw [6] (fun i wr => ∃ k : Nat, k ≤ K ∧ i = .int .i64 k ∧ Arr wr w1.heap.size (cutTo n k) ∧ Wds wr (w.heap.size + 1) 0 0 ∧ Below w.heap.size w wr) (fun i _ => K - (intOf i).toNat)
    case atStart => exact ⟨0, by omega, rfl, A1, Z2, B2⟩
    case round =>
      obtain ⟨k, hk, rfl, A, Z, hB⟩ := hrel
      clear A1 Z2 B2
      by_cases hlt : k < K
      · have x1 := A.cell (i := k) (by omega)
        have x2 := A.frozen k
        have k128 : k < 128 := by omega
        go_wp2
        refine ⟨⟨k + 1, by omega, by go_num, Arr.congr (A.set (i := k) (by omega) false) (cutTo_step n k), Z.other (by simp; omega) _, hB.setCell (by simp; omega) _⟩, by simp only [intOf]; omega⟩
      · obtain rfl : k = K := by omega
        go_wp2_with (first
          | (go_at_call 45; refine (take_any _ _).mono ?_; rw [E.out]; rintro e w2 ⟨rfl, hb2⟩; obtain ⟨z0, z1, z2, z3⟩ := Z.below hb2 Z.lt; have hB2 := bstep hB hb2)
          | (refine wpList_load_row rfl 49 _ rfl w1.heap.size rfl 49 _ (0, 0) _ A Tryd.underlying49 rfl (size49 _) ?_))
        refine bodyPost_ret (v := B (cutN n wd)) ?_ rfl ⟨rfl, (hB2.setCell (by simp) _).setCell (by simp) _⟩
        obtain ⟨r0, r1⟩ := zresult (x := .int .u64 (hiOf (cutN n wd))) (y := .int .u64 (loOf (cutN n wd))) z0 z1
        simp [results, Tryd.results29, go_sem, r0, r1]

set_option maxHeartbeats 400000 in
theorem rfits_any (n : Nat) (hn : Is128 n) (wd : Int) (w : World) : Calls Tryd.prog 15 #[B n, .int .i64 wd] w fun e w' => e = .returned (.bool (fitsN n wd)) ∧ Below w.heap.size w w' := by
  cases hW : isW wd
  · have E : Hid _ := fits_no (n := n) hW
    go_enter Tryd.func15, Tryd.ntmps15
    go_wp2
    go_quiet ((go_at_call 44; exact Calls.quiet_of_same (rwidth_val hW _)))
    go_wp2
    go_ret
    exact ⟨by rw [E.out]; rfl, below_drewN (by go_grown) _⟩
  · have hq := fun w => run_eqB (fits_cut (n := n) hW) w
    go_enter Tryd.func15, Tryd.ntmps15
    go_wp2
    go_region_with (first
      | (go_at_call 44; refine (rwidth_val hW _).mono ?_; rintro e w' ⟨rfl, rfl⟩)
      | (go_at_call 29; refine (rcut_any n hn _ _).mono ?_; rintro e w' ⟨rfl, hb1⟩; obtain ⟨hc1, hf1⟩ := bcell hb1; (try simp at hc1)))
    all_goals
      go_wp2
      go_ret
      exact ⟨rfl, bstep (by go_grown) hb1⟩
end Go.Proofs.YtjkpdcgmmdimaaaDoor
