/- The reference's Most, Bit, Add, Sub: what each returns, and that memory only grows. -/
import Derived.Test.YtjkpdcgmmdimaaaDoorRd
namespace Go.Proofs.YtjkpdcgmmdimaaaDoor
open Go.RowKit
set_option linter.unusedVariables false
set_option linter.unusedSimpArgs false

theorem rmost_all (wd : Int) (w : World) : Calls Tryd.prog 13 #[.int .i64 wd] w fun e w' => e = .returned (.tuple #[B (maskR wd wd).1, .int .i64 (maskR wd wd).2]) ∧ Below w.heap.size w w' := by
  have hc : ∀ w, Calls Tryd.prog 14 #[.int .i64 wd, .int .i64 wd] w fun e w' => e = .returned (.tuple #[B (maskR wd wd).1, .int .i64 (maskR wd wd).2]) ∧ Below w.heap.size w w' := rmask_all wd wd
  generalize maskR wd wd = v at *
  have HC : Hid (∀ w, Calls Tryd.prog 14 #[.int .i64 wd, .int .i64 wd] w fun e w' => e = .returned (.tuple #[B v.1, .int .i64 v.2]) ∧ Below w.heap.size w w') := hc
  clear hc
  go_enter Tryd.func13, Tryd.ntmps13
  go_wp2_with fail
  refine (HC.out _).mono ?_
  rintro e w1 ⟨rfl, hb1⟩
  have zb : Below (w.heap.size + 1) (w.alloc (.cells #[.int .u64 0, .int .u64 0] 24)) w1 := by simpa using hb1
  obtain ⟨p0, p1, p2, p3⟩ := zslot zb
  go_wp2
  refine bodyPost_ret (v := .tuple #[B v.1, .int .i64 v.2]) ?_ rfl ⟨rfl, ((zbelow zb).setCell (Nat.le_refl _) _).setCell (Nat.le_refl _) _⟩
  obtain ⟨z0, z1⟩ := zresult (x := .int .u64 (hiOf v.1)) (y := .int .u64 (loOf v.1)) p0 p1
  simp [results, Tryd.results13, go_sem, z0, z1]

set_option maxHeartbeats 400000 in
theorem rbit_any (n : Nat) (hn : Is128 n) (wd i : Int) (w : World) : Calls Tryd.prog 32 #[B n, .int .i64 wd, .int .i64 i] w fun e w' => e = .returned (.bool (bitN n wd i)) ∧ Below w.heap.size w w' := by
  cases hW : isW wd
  · have E : Hid (bitN n wd i = false) := by unfold bitN; rw [hW]; rfl
    go_enter Tryd.func32, Tryd.ntmps32
    go_wp2_with (go_at_call 44; refine (rwidth_val hW _).mono ?_; rintro e w' ⟨rfl, rfl⟩)
    go_ret
    exact ⟨by rw [E.out]; rfl, by go_grown⟩
  have hb := isW_bounds hW
  by_cases h0 : i < 0
  · have E : Hid (bitN n wd i = false) := by unfold bitN; rw [show decide (0 ≤ i) = false by simp; omega]; show _ = _; simp
    go_enter Tryd.func32, Tryd.ntmps32
    go_wp2_with (go_at_call 44; refine (rwidth_val hW _).mono ?_; rintro e w' ⟨rfl, rfl⟩)
    go_ret
    exact ⟨by rw [E.out]; rfl, by go_grown⟩
  by_cases h1 : wd ≤ i
  · have E : Hid (bitN n wd i = false) := by unfold bitN; rw [show decide (i < wd) = false by simp; omega]; show _ = _; simp
    have d1 : decide (i < 0) = false := by simp; omega
    go_enter Tryd.func32, Tryd.ntmps32
    go_wp2_with (go_at_call 44; refine (rwidth_val hW _).mono ?_; rintro e w' ⟨rfl, rfl⟩)
    go_ret
    exact ⟨by rw [E.out]; rfl, by go_grown⟩
  have d1 : decide (i < 0) = false := by simp; omega
  have d2 : decide (wd ≤ i) = false := by simp; omega
  obtain ⟨j, hj⟩ : ∃ j : Nat, 128 - wd + i = (j : Int) := ⟨(128 - wd + i).toNat, by omega⟩
  have j1 : j < 128 := by omega
  have E : Hid (bitN n wd i = layF n j) := by
    unfold bitN layF; rw [hW, show decide (0 ≤ i) = true by simp; omega, show decide (i < wd) = true by simp; omega]
    show _ = _
    rw [show (wd - 1 - i).toNat = 127 - j by omega]; simp
  go_enter Tryd.func32, Tryd.ntmps32
  go_wp2_with (go_at_call 44; refine (rwidth_val hW _).mono ?_; rintro e w' ⟨rfl, rfl⟩)
  refine (lay_any n hn _).mono ?_
  rintro e w1 ⟨rfl, hb1⟩
  have A1 := (Arr.new w1 (layF n)).cell j1
  go_wp2_with (refine wpList_store_row rfl 49 _ _ rfl w1.heap.size (rowV (layF n)) rfl rfl 49 _ (heap_alloc_new w1 _) (size49 _) (by rw [zero49, rowV_size, rowV_size]) (rowV_one _) ?_; rw [World.setRow_alloc_new])
  go_ret
  have B1 := bstep (w1 := w.alloc (.cells #[.int .u64 (hiOf n), .int .u64 (loOf n)] 24)) ((Below.refl _ _).alloc (Nat.le_refl _) _) hb1
  exact ⟨by rw [E.out]; rfl, B1.alloc B1.size _⟩

/-- What Add has laid behind k rounds. -/
def addTo (n m k : Nat) : Nat → Bool := fun j => decide (128 ≤ j + k) && (n + m).testBit (127 - j)
theorem addTo_step (n m k : Nat) (hk : k < 128) (b : Bool) (hb : b = (n + m).testBit k) : rowV (fun t => if t = 127 - k then b else addTo n m k t) = rowV (addTo n m (k + 1)) := by
  apply rowV_congr; intro i hi; unfold addTo
  by_cases e : i = 127 - k
  · subst e; simp [show 128 ≤ 127 - k + (k + 1) by omega, show 127 - (127 - k) = k by omega, hb]
  · simp only [e, if_false]
    rw [show decide (128 ≤ i + (k + 1)) = decide (128 ≤ i + k) by rw [Bool.eq_iff_iff]; simp; omega]
theorem addTo_zero (n m : Nat) : rowV (fun _ => false) = rowV (addTo n m 0) := by
  apply rowV_congr; intro i hi; unfold addTo; simp; omega
theorem addTo_take (n m : Nat) : takeN (addTo n m 128) = (n + m) % 340282366920938463463374607431768211456 := by
  refine take_ext (mod_is _) fun i hi => ?_
  unfold addTo
  rw [← two128, Nat.testBit_mod_two_pow, show 127 - (127 - i) = i by omega]; simp [hi]

set_option maxHeartbeats 2000000 in
set_option maxRecDepth 100000 in
theorem radd_any (n m : Nat) (hn : Is128 n) (hm : Is128 m) (wd : Int) (w : World) : Calls Tryd.prog 30 #[B n, B m, .int .i64 wd] w fun e w' => e = .returned (B (addN n m wd)) ∧ Below w.heap.size w w' := by
  have E : Hid (∀ w, Calls Tryd.prog 29 #[B (takeN (addTo n m 128)), .int .i64 wd] w fun e w' => e = .returned (B (addN n m wd)) ∧ Below w.heap.size w w') := by rw [addTo_take]; exact rcut_any _ (mod_is _) wd
  have X0 : Wds (((w.alloc (.cells #[.int .u64 (hiOf n), .int .u64 (loOf n)] 24)).alloc (.cells #[.int .u64 (hiOf m), .int .u64 (loOf m)] 24)).alloc (.cells #[.int .u64 0, .int .u64 0] 24)) (w.heap.size + 1 + 1) 0 0 := by simpa using Wds.new ((w.alloc (.cells #[.int .u64 (hiOf n), .int .u64 (loOf n)] 24)).alloc (.cells #[.int .u64 (hiOf m), .int .u64 (loOf m)] 24)) 0 0
  have M0 : Box (((w.alloc (.cells #[.int .u64 (hiOf n), .int .u64 (loOf n)] 24)).alloc (.cells #[.int .u64 (hiOf m), .int .u64 (loOf m)] 24)).alloc (.cells #[.int .u64 0, .int .u64 0] 24)) (w.heap.size + 1) m := by
    have := (Box.new (w.alloc (.cells #[.int .u64 (hiOf n), .int .u64 (loOf n)] 24)) m).past (.cells #[.int .u64 0, .int .u64 0] 24)
    simpa using this
  have B0 : Below w.heap.size w (((w.alloc (.cells #[.int .u64 (hiOf n), .int .u64 (loOf n)] 24)).alloc (.cells #[.int .u64 (hiOf m), .int .u64 (loOf m)] 24)).alloc (.cells #[.int .u64 0, .int .u64 0] 24)) := by go_grown
  go_enter Tryd.func30, Tryd.ntmps30
  go_wp2_with fail
  refine (lay_any n hn _).mono ?_
  rintro e w1 ⟨rfl, hb1⟩
  have X1 := (X0.below hb1 X0.lt).past (.cells (rowV (layF n)) 49)
  have M1 := (M0.below hb1 M0.lt).past (.cells (rowV (layF n)) 49)
  have A1 := Arr.new w1 (layF n)
  have B1' := bstep B0 hb1
  have B1 := B1'.alloc B1'.size (.cells (rowV (layF n)) 49)
  clear X0 M0 B0 hb1 B1'
  obtain ⟨m0, m1⟩ := id M1
  go_wp2_with (refine wpList_store_row rfl 49 _ _ rfl w1.heap.size (rowV (layF n)) rfl rfl 49 _ (heap_alloc_new w1 _) (size49 _) (by rw [zero49, rowV_size, rowV_size]) (rowV_one _) ?_; rw [World.setRow_alloc_new])
  refine (lay_any m hm _).mono ?_
  rintro e w2 ⟨rfl, hb2⟩
  have X2 := ((X1.below hb2 X1.lt).past (.cells (rowV (layF m)) 49)).past (.cells (rowV fun _ => false) 49)
  have A2 := ((A1.below hb2 A1.lt).past (.cells (rowV (layF m)) 49)).past (.cells (rowV fun _ => false) 49)
  have Y2 := (Arr.new w2 (layF m)).past (.cells (rowV fun _ => false) 49)
  have O2 : Arr ((w2.alloc (.cells (rowV (layF m)) 49)).alloc (.cells (rowV fun _ => false) 49)) (w2.heap.size + 1) (addTo n m 0) := Arr.congr (by simpa using Arr.new (w2.alloc (.cells (rowV (layF m)) 49)) (fun _ => false)) (addTo_zero n m)
  have B2' := bstep B1 hb2
  have B2 : Below w.heap.size w ((w2.alloc (.cells (rowV (layF m)) 49)).alloc (.cells (rowV fun _ => false) 49)) := (B2'.alloc B2'.size _).alloc (by have := B2'.size; simp; omega) _
  have n1 := X1.lt
  have n2 := A1.lt
  have n3 := hb2.size
  simp at n1 n2 n3
  clear X1 M1 A1 m0 m1 B1 hb2 B2'
  go_wp2_with (refine wpList_store_row rfl 49 _ _ rfl w2.heap.size (rowV (layF m)) rfl rfl 49 _ (heap_alloc_new w2 _) (size49 _) (by rw [zero49, rowV_size, rowV_size]) (rowV_one _) ?_; rw [World.setRow_alloc_new])
  rw [zero49]
  go_loopw [10, 11] (fun c i wr => ∃ k : Nat, k ≤ 128 ∧ i = .int .i64 (127 - k) ∧ c = .bool (carryN k n m) ∧ Arr wr w1.heap.size (layF n) ∧ Arr wr w2.heap.size (layF m) ∧ Arr wr (w2.heap.size + 1) (addTo n m k) ∧ Wds wr (w.heap.size + 1 + 1) 0 0 ∧ Below w.heap.size w wr) (fun _ i _ => (intOf i + 1).toNat)
  case atStart => exact ⟨0, by omega, by simp, by rw [carry_zero], A2, Y2, O2, X2, B2⟩
  case round =>
    obtain ⟨k, hk, rfl, rfl, A, Y, O, Z, hB⟩ := hrel
    clear A2 Y2 O2 X2 B2
    by_cases hlt : k < 128
    · have e5 : Value.int IntKind.i64 (127 - (k : Int) - 1) = Value.int IntKind.i64 (127 - ((k + 1 : Nat) : Int)) := congrArg (Value.int .i64) (by omega)
      have E5 : Hid _ := e5
      have S1 : Hid _ := sum_bit k n m hlt
      have C1 : Hid _ := carry_next k n m hn hm
      have x1 := A.cell (i := 127 - k) (by omega)
      have y1 := Y.cell (i := 127 - k) (by omega)
      have o1 := O.cell (i := 127 - k) (by omega)
      have o2 := O.frozen (127 - k)
      have hl1 : layF n (127 - k) = n.testBit k := by unfold layF; rw [show 127 - (127 - k) = k by omega]
      have hl2 : layF m (127 - k) = m.testBit k := by unfold layF; rw [show 127 - (127 - k) = k by omega]
      rw [hl1] at x1
      rw [hl2] at y1
      have hst := addTo_step n m k hlt
      have HST : Hid (∀ b, b = (n + m).testBit k → rowV (fun t => if t = 127 - k then b else addTo n m k t) = rowV (addTo n m (k + 1))) := hst
      clear e5 hl1 hl2 hst
      generalize n.testBit k = x at *
      generalize m.testBit k = y at *
      generalize carryN k n m = c at *
      cases x <;> cases y <;> cases c
      all_goals
        go_wp2
        refine ⟨⟨k + 1, by omega, E5.out, by rw [C1.out]; rfl, A.other (by simp; omega) _, Y.other (by simp) _, Arr.congr (O.set (i := 127 - k) (by omega) _) (HST.out _ (by rw [S1.out]; rfl)), Z.other (by simp; omega) _, hB.setCell (by simp; omega) _⟩, by simp only [intOf]; omega⟩
    · obtain rfl : k = 128 := by omega
      go_wp2_with (first
        | (go_at_call 45; refine (take_any _ _).mono ?_; rintro e w3 ⟨rfl, hb3⟩)
        | (go_at_call 29; refine (E.out _).mono ?_; rintro e w4 ⟨rfl, hb4⟩; have Z3 := Z.below hb3 Z.lt; obtain ⟨z0, z1, z2, z3⟩ := Z3.below hb4 Z3.lt; have hB4 := bstep (bstep hB hb3) hb4)
        | (refine wpList_load_row rfl 49 _ rfl (w2.heap.size + 1) rfl 49 _ (0, 0) _ O Tryd.underlying49 rfl (size49 _) ?_))
      refine bodyPost_ret (v := B (addN n m wd)) ?_ rfl ⟨rfl, (hB4.setCell (by simp; omega) _).setCell (by simp; omega) _⟩
      obtain ⟨r0, r1⟩ := zresult (x := .int .u64 (hiOf (addN n m wd))) (y := .int .u64 (loOf (addN n m wd))) z0 z1
      simp [results, Tryd.results30, go_sem, r0, r1]
end Go.Proofs.YtjkpdcgmmdimaaaDoor
