/- The reference's And, Or, Xor, Sub, Compare, Common: what each returns, and that memory only grows. -/
import Derived.Test.YtjkpdcgmmdimaaaDoorRe
namespace Go.Proofs.YtjkpdcgmmdimaaaDoor
open Go.RowKit
set_option linter.unusedVariables false
set_option linter.unusedSimpArgs false

theorem rand_any (n m : Nat) (hn : Is128 n) (hm : Is128 m) (w : World) : Calls Tryd.prog 21 #[B n, B m] w fun e w' => e = .returned (B (n &&& m)) ∧ Below w.heap.size w w' := by
  have E1 : Hid _ := and_hi hn hm; have E2 : Hid _ := and_lo n m
  go_enter Tryd.func21, Tryd.ntmps21
  go_wp2
  refine bodyPost_ret (v := B (n &&& m)) ?_ rfl ⟨rfl, ?_⟩
  · rw [E1.out, E2.out]; simp [results, Tryd.results21, go_sem]
  · go_grown
theorem rxor_any (n m : Nat) (hn : Is128 n) (hm : Is128 m) (w : World) : Calls Tryd.prog 23 #[B n, B m] w fun e w' => e = .returned (B (n ^^^ m)) ∧ Below w.heap.size w w' := by
  have E1 : Hid _ := xor_hi hn hm; have E2 : Hid _ := xor_lo n m
  go_enter Tryd.func23, Tryd.ntmps23
  go_wp2
  refine bodyPost_ret (v := B (n ^^^ m)) ?_ rfl ⟨rfl, ?_⟩
  · rw [E1.out, E2.out]; simp [results, Tryd.results23, go_sem]
  · go_grown
theorem ror_any (n m : Nat) (hn : Is128 n) (hm : Is128 m) (w : World) : Calls Tryd.prog 22 #[B n, B m] w fun e w' => e = .returned (B (n ||| m)) ∧ Below w.heap.size w w' := by
  have E1 : Hid _ := or_hi hn hm; have E2 : Hid _ := or_lo n m
  go_enter Tryd.func22, Tryd.ntmps22
  go_wp2
  refine bodyPost_ret (v := B (n ||| m)) ?_ rfl ⟨rfl, ?_⟩
  · rw [E1.out, E2.out]; simp [results, Tryd.results22, go_sem]
  · go_grown

/-- What Sub has turned behind k rounds. -/
def flipTo (m k : Nat) : Nat → Bool := fun i => if i < k then !(layF m i) else layF m i
theorem flipTo_step (m k : Nat) : rowV (fun t => if t = k then !(flipTo m k k) else flipTo m k t) = rowV (flipTo m (k + 1)) := by
  apply rowV_congr; intro i hi; unfold flipTo
  by_cases e : i = k
  · subst e; simp
  · simp only [e, if_false]
    by_cases h : i < k
    · rw [if_pos h, if_pos (by omega)]
    · rw [if_neg h, if_neg (by omega)]
theorem flipTo_zero (m : Nat) : rowV (layF m) = rowV (flipTo m 0) := by apply rowV_congr; intro i hi; unfold flipTo; simp
theorem flipTo_take {m : Nat} (hm : Is128 m) : takeN (flipTo m 128) = 340282366920938463463374607431768211456 - (m + 1) := by
  have hm' : m < 2 ^ 128 := by rw [two128]; exact hm
  refine take_ext (by unfold Is128 at *; omega) fun i hi => ?_
  rw [← two128, Nat.testBit_two_pow_sub_succ hm']
  unfold flipTo layF
  rw [if_pos (by omega), show 127 - (127 - i) = i by omega]; simp [hi]
theorem neg_add {m : Nat} (hm : Is128 m) : addN (340282366920938463463374607431768211456 - (m + 1)) 1 128 = (340282366920938463463374607431768211456 - m) % 340282366920938463463374607431768211456 := by
  unfold addN; rw [cut_yes (by decide), show (128 : Int).toNat = 128 from rfl, two128]; unfold Is128 at hm; omega
theorem sub_add {n m : Nat} (wd : Int) : addN n ((340282366920938463463374607431768211456 - m) % 340282366920938463463374607431768211456) wd = subN n m wd := by
  unfold addN subN; congr 1; omega
theorem one_words : B 1 = .agg #[.int .u64 0, .int .u64 1] := by simp [B, hiOf, loOf]

set_option maxHeartbeats 2000000 in
set_option maxRecDepth 100000 in
theorem rsub_any (n m : Nat) (hn : Is128 n) (hm : Is128 m) (wd : Int) (w : World) : Calls Tryd.prog 31 #[B n, B m, .int .i64 wd] w fun e w' => e = .returned (B (subN n m wd)) ∧ Below w.heap.size w w' := by
  obtain ⟨q, q1, q2, q3⟩ : ∃ q, Is128 q ∧ (∀ w, Calls Tryd.prog 30 #[B (takeN (flipTo m 128)), B 1, .int .i64 128] w fun e w' => e = .returned (B q) ∧ Below w.heap.size w w') ∧ (∀ w, Calls Tryd.prog 30 #[B n, B q, .int .i64 wd] w fun e w' => e = .returned (B (subN n m wd)) ∧ Below w.heap.size w w') := by
    refine ⟨(340282366920938463463374607431768211456 - m) % 340282366920938463463374607431768211456, mod_is _, fun w => ?_, fun w => ?_⟩
    · rw [← neg_add hm, flipTo_take hm]; exact radd_any _ 1 (by unfold Is128; omega) (by unfold Is128; omega) 128 w
    · rw [← sub_add]; exact radd_any n _ hn (mod_is _) wd w
  rw [one_words] at q2
  generalize subN n m wd = r at *
  have Q2 : Hid (∀ w, Calls Tryd.prog 30 #[B (takeN (flipTo m 128)), .agg #[.int .u64 0, .int .u64 1], .int .i64 128] w fun e w' => e = .returned (B q) ∧ Below w.heap.size w w') := q2
  have Q3 : Hid (∀ w, Calls Tryd.prog 30 #[B n, B q, .int .i64 wd] w fun e w' => e = .returned (B r) ∧ Below w.heap.size w w') := q3
  clear q2 q3
  have X0 : Wds (((w.alloc (.cells #[.int .u64 (hiOf n), .int .u64 (loOf n)] 24)).alloc (.cells #[.int .u64 (hiOf m), .int .u64 (loOf m)] 24)).alloc (.cells #[.int .u64 0, .int .u64 0] 24)) (w.heap.size + 1 + 1) 0 0 := by simpa using Wds.new ((w.alloc (.cells #[.int .u64 (hiOf n), .int .u64 (loOf n)] 24)).alloc (.cells #[.int .u64 (hiOf m), .int .u64 (loOf m)] 24)) 0 0
  have N0 : Box (((w.alloc (.cells #[.int .u64 (hiOf n), .int .u64 (loOf n)] 24)).alloc (.cells #[.int .u64 (hiOf m), .int .u64 (loOf m)] 24)).alloc (.cells #[.int .u64 0, .int .u64 0] 24)) w.heap.size n := ((Box.new w n).past _).past _
  have B0 : Below w.heap.size w (((w.alloc (.cells #[.int .u64 (hiOf n), .int .u64 (loOf n)] 24)).alloc (.cells #[.int .u64 (hiOf m), .int .u64 (loOf m)] 24)).alloc (.cells #[.int .u64 0, .int .u64 0] 24)) := by go_grown
  go_enter Tryd.func31, Tryd.ntmps31
  go_wp2_with fail
  refine (lay_any m hm _).mono ?_
  rintro e w1 ⟨rfl, hb1⟩
  have X1 := (X0.below hb1 X0.lt).past (.cells (rowV (layF m)) 49)
  have N1 := (N0.below hb1 N0.lt).past (.cells (rowV (layF m)) 49)
  have A1 : Arr (w1.alloc (.cells (rowV (layF m)) 49)) w1.heap.size (flipTo m 0) := Arr.congr (Arr.new w1 (layF m)) (flipTo_zero m)
  have B1' := bstep B0 hb1
  have B1 := B1'.alloc B1'.size (.cells (rowV (layF m)) 49)
  have n1 := X0.lt
  have n2 := hb1.size
  simp at n1 n2
  clear X0 N0 B0 hb1 B1'
  go_wp2_with (refine wpList_store_row rfl 49 _ _ rfl w1.heap.size (rowV (layF m)) rfl rfl 49 _ (heap_alloc_new w1 _) (size49 _) (by rw [zero49, rowV_size, rowV_size]) (rowV_one _) ?_; rw [World.setRow_alloc_new])
  go_loopw [8] (fun i wr => ∃ k : Nat, k ≤ 128 ∧ i = .int .i64 k ∧ Arr wr w1.heap.size (flipTo m k) ∧ Box wr w.heap.size n ∧ Wds wr (w.heap.size + 1 + 1) 0 0 ∧ Below w.heap.size w wr) (fun i _ => 128 - (intOf i).toNat)
  case atStart => exact ⟨0, by omega, by simp, A1, N1, X1, B1⟩
  case round =>
    obtain ⟨k, hk, rfl, A, N, Z, hB⟩ := hrel
    clear A1 N1 X1 B1
    by_cases hlt : k < 128
    · have x1 := A.cell (i := k) (by omega)
      have x2 := A.frozen k
      have HST : Hid _ := flipTo_step m k
      go_wp2
      refine ⟨⟨k + 1, by omega, by go_num, Arr.congr (A.set (i := k) (by omega) _) HST.out, N.other (by simp; omega) _, Z.other (by simp; omega) _, hB.setCell (by simp; omega) _⟩, by simp only [intOf]; omega⟩
    · obtain rfl : k = 128 := by omega
      go_wp2_with (first
        | (go_at_call 45; refine (take_any _ _).mono ?_; rintro e w3 ⟨rfl, hb3⟩)
        | (refine wpList_load_row rfl 49 _ rfl w1.heap.size rfl 49 _ (0, 0) _ A Tryd.underlying49 rfl (size49 _) ?_)
        | (go_at_call 30; fail))
      refine (Q2.out _).mono ?_
      rintro e w4 ⟨rfl, hb4⟩
      have Z3 := Z.below hb3 Z.lt
      have Z4 := (Z3.below hb4 Z3.lt).past (.cells #[.int .u64 (hiOf q), .int .u64 (loOf q)] 24)
      have N3 := N.below hb3 N.lt
      have N4 := (N3.below hb4 N3.lt).past (.cells #[.int .u64 (hiOf q), .int .u64 (loOf q)] 24)
      have K4 := Box.new w4 q
      have hB4' := bstep (bstep hB hb3) hb4
      have hB4 := hB4'.alloc hB4'.size (.cells #[.int .u64 (hiOf q), .int .u64 (loOf q)] 24)
      clear Z3 N3 hB4' hb3 hb4
      obtain ⟨a0, a1⟩ := id N4
      obtain ⟨k0, k1⟩ := id K4
      go_wp2_with fail
      refine (Q3.out _).mono ?_
      rintro e w5 ⟨rfl, hb5⟩
      obtain ⟨z0, z1, z2, z3⟩ := Z4.below hb5 Z4.lt
      have hB5 := bstep hB4 hb5
      go_wp2
      refine bodyPost_ret (v := B r) ?_ rfl ⟨rfl, (hB5.setCell (by simp; omega) _).setCell (by simp; omega) _⟩
      obtain ⟨r0, r1⟩ := zresult (x := .int .u64 (hiOf r)) (y := .int .u64 (loOf r)) z0 z1
      simp [results, Tryd.results31, go_sem, r0, r1]
end Go.Proofs.YtjkpdcgmmdimaaaDoor
