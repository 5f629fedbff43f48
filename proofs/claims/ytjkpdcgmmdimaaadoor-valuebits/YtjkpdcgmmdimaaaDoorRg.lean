/- The reference's Compare, Common: what each returns, and that memory only grows. -/
import Derived.Test.YtjkpdcgmmdimaaaDoorRf
namespace Go.Proofs.YtjkpdcgmmdimaaaDoor
open Go.RowKit
set_option linter.unusedVariables false
set_option linter.unusedSimpArgs false

/-- Two values have their first k bits in common. -/
def Alike (n m k : Nat) : Prop := ∀ j, j < k → layF n j = layF m j
theorem alike_all {n m : Nat} (hn : Is128 n) (hm : Is128 m) (h : Alike n m 128) : cmpN n m = 0 := by
  have : n = m := by
    rw [← take_lay hn]
    refine take_ext hm fun i hi => ?_
    rw [h _ (by omega)]; unfold layF; rw [show 127 - (127 - i) = i by omega]
  rw [this, cmp_same]
theorem bit_high {n : Nat} (hn : Is128 n) {i : Nat} (h : 128 ≤ i) : n.testBit i = false := by
  unfold Is128 at hn; rw [← two128] at hn
  exact Nat.testBit_lt_two_pow (Nat.lt_of_lt_of_le hn (Nat.pow_le_pow_right (by decide) h))
theorem alike_lt {n m k : Nat} (hn : Is128 n) (hm : Is128 m) (hk : k < 128) (h : Alike n m k) (h1 : layF n k = false) (h2 : layF m k = true) : n < m := by
  refine lt_of_bit (127 - k) h1 h2 fun j hj => ?_
  by_cases hj' : j < 128
  · have := h (127 - j) (by omega)
    unfold layF at this; rwa [show 127 - (127 - j) = j by omega] at this
  · rw [bit_high hn (by omega), bit_high hm (by omega)]
theorem alike_cmp {n m k : Nat} (hn : Is128 n) (hm : Is128 m) (hk : k < 128) (h : Alike n m k) : (layF n k = false → layF m k = true → cmpN n m = -1) ∧ (layF n k = true → layF m k = false → cmpN n m = 1) := by
  constructor
  · intro h1 h2; have := alike_lt hn hm hk h h1 h2; unfold cmpN; rw [if_pos this]
  · intro h1 h2; have := alike_lt hm hn hk (fun j hj => (h j hj).symm) h2 h1; unfold cmpN; rw [if_neg (by omega), if_pos this]

set_option maxHeartbeats 2000000 in
set_option maxRecDepth 100000 in
theorem rcompare_any (n m : Nat) (hn : Is128 n) (hm : Is128 m) (w : World) : Calls Tryd.prog 20 #[B n, B m] w fun e w' => e = .returned (.int .i64 (cmpN n m)) ∧ Below w.heap.size w w' := by
  have M0 : Box ((w.alloc (.cells #[.int .u64 (hiOf n), .int .u64 (loOf n)] 24)).alloc (.cells #[.int .u64 (hiOf m), .int .u64 (loOf m)] 24)) (w.heap.size + 1) m := by
    simpa using Box.new (w.alloc (.cells #[.int .u64 (hiOf n), .int .u64 (loOf n)] 24)) m
  have B0 : Below w.heap.size w ((w.alloc (.cells #[.int .u64 (hiOf n), .int .u64 (loOf n)] 24)).alloc (.cells #[.int .u64 (hiOf m), .int .u64 (loOf m)] 24)) := by go_grown
  go_enter Tryd.func20, Tryd.ntmps20
  go_wp2_with fail
  refine (lay_any n hn _).mono ?_
  rintro e w1 ⟨rfl, hb1⟩
  have M1 := (M0.below hb1 M0.lt).past (.cells (rowV (layF n)) 49)
  have A1 := Arr.new w1 (layF n)
  have B1' := bstep B0 hb1
  have B1 := B1'.alloc B1'.size (.cells (rowV (layF n)) 49)
  clear M0 B0 hb1 B1'
  obtain ⟨m0, m1⟩ := id M1
  go_wp2_with (refine wpList_store_row rfl 49 _ _ rfl w1.heap.size (rowV (layF n)) rfl rfl 49 _ (heap_alloc_new w1 _) (size49 _) (by rw [zero49, rowV_size, rowV_size]) (rowV_one _) ?_; rw [World.setRow_alloc_new])
  refine (lay_any m hm _).mono ?_
  rintro e w2 ⟨rfl, hb2⟩
  have A2 := (A1.below hb2 A1.lt).past (.cells (rowV (layF m)) 49)
  have Y2 := Arr.new w2 (layF m)
  have B2' := bstep B1 hb2
  have B2 := B2'.alloc B2'.size (.cells (rowV (layF m)) 49)
  clear M1 A1 m0 m1 B1 hb2 B2'
  go_wp2_with (refine wpList_store_row rfl 49 _ _ rfl w2.heap.size (rowV (layF m)) rfl rfl 49 _ (heap_alloc_new w2 _) (size49 _) (by rw [zero49, rowV_size, rowV_size]) (rowV_one _) ?_; rw [World.setRow_alloc_new])
  go_loopw [7] (fun i wr => ∃ k : Nat, k ≤ 128 ∧ i = .int .i64 k ∧ Alike n m k ∧ Arr wr w1.heap.size (layF n) ∧ Arr wr w2.heap.size (layF m) ∧ Below w.heap.size w wr) (fun i _ => 128 - (intOf i).toNat)
  case atStart => exact ⟨0, by omega, by simp, fun j hj => by omega, A2, Y2, B2⟩
  case round =>
    obtain ⟨k, hk, rfl, L, A, Y, hB⟩ := hrel
    clear A2 Y2 B2
    by_cases hlt : k < 128
    · have x1 := A.cell (i := k) (by omega)
      have y1 := Y.cell (i := k) (by omega)
      have C := alike_cmp hn hm hlt L
      have HC : Hid _ := C
      clear C
      cases h1 : layF n k <;> cases h2 : layF m k
      · rw [h1] at x1; rw [h2] at y1
        have L' : Alike n m (k + 1) := fun j hj => by
          by_cases e : j = k
          · rw [e, h1, h2]
          · exact L j (by omega)
        clear h1 h2 HC
        go_wp2
        go_quiet (fail)
        go_wp2
        exact ⟨⟨k + 1, by omega, by go_num, L', A, Y, below_drewN hB _⟩, by simp only [intOf]; omega⟩
      · have E : Hid _ := HC.out.1 h1 h2
        rw [h1] at x1; rw [h2] at y1
        clear h1 h2 HC L
        go_wp2
        go_quiet (fail)
        go_wp2
        go_ret
        exact ⟨by rw [E.out]; rfl, below_drewN hB _⟩
      · have E : Hid _ := HC.out.2 h1 h2
        rw [h1] at x1; rw [h2] at y1
        clear h1 h2 HC L
        go_wp2
        go_quiet (fail)
        go_wp2
        go_ret
        exact ⟨by rw [E.out]; rfl, below_drewN hB _⟩
      · rw [h1] at x1; rw [h2] at y1
        have L' : Alike n m (k + 1) := fun j hj => by
          by_cases e : j = k
          · rw [e, h1, h2]
          · exact L j (by omega)
        clear h1 h2 HC
        go_wp2
        go_quiet (fail)
        go_wp2
        exact ⟨⟨k + 1, by omega, by go_num, L', A, Y, below_drewN hB _⟩, by simp only [intOf]; omega⟩
    · obtain rfl : k = 128 := by omega
      have E : Hid _ := alike_all hn hm L
      clear L
      go_wp2
      go_ret
      exact ⟨by rw [E.out]; rfl, hB⟩
end Go.Proofs.YtjkpdcgmmdimaaaDoor
