/- Package trie: common, begins, side, over lists of bits. -/
import Derived.Test.YtgdpplipahhffaaFs
namespace Go.Proofs.Ytgdpplipahhffaa
open Go.RowKit
set_option linter.unusedVariables false
set_option linter.unusedSimpArgs false

theorem two_new' (w : World) (a b : Array Value) (t u : TypeId) : Hid (Blk ((w.alloc (.cells a t)).alloc (.cells b u)) w.heap.size a t ∧ Blk ((w.alloc (.cells a t)).alloc (.cells b u)) (w.heap.size + 1) b u ∧ Below w.heap.size w ((w.alloc (.cells a t)).alloc (.cells b u)) ∧ w.heap.size + 1 < ((w.alloc (.cells a t)).alloc (.cells b u)).heap.size) := two_new w a b t u
set_option maxHeartbeats 1000000 in
theorem common_any {W : Nat} (h1 : 1 ≤ W) (h2 : W ≤ 128) {bs cs : List Bool} (hb : bs.length ≤ W) (hc : cs.length ≤ W) (w : World) :
    Calls Try.prog 72 #[Pf (valOf W bs) bs.length, Pf (valOf W cs) cs.length, .int .i64 W] w fun e w' => e = .returned (.int .i64 (lcp bs cs)) ∧ Below w.heap.size w w' := by
  have EM : min (min (comN (valOf W bs) (valOf W cs) W) bs.length) cs.length = (lcp bs cs : Int) := com_lcp h1 h2 hb hc
  have C : Hid (∀ w1, Calls Try.prog 86 #[B (valOf W bs), B (valOf W cs), .int .i64 W] w1 fun e w' => e = .returned (.int .i64 (comN (valOf W bs) (valOf W cs) W)) ∧ Below w1.heap.size w1 w') := fun w1 => common_any0 _ _ (val_is h2 hb) (val_is h2 hc) W w1
  obtain ⟨k1, k2⟩ := com_range (val_is h2 hb) (val_is h2 hc) (isW_nat h1 h2)
  have HB := two_new' w #[.int .u64 (hiOf (valOf W bs)), .int .u64 (loOf (valOf W bs)), .int .i64 bs.length] #[.int .u64 (hiOf (valOf W cs)), .int .u64 (loOf (valOf W cs)), .int .i64 cs.length] 51 51
  generalize valOf W bs = vb at *
  generalize valOf W cs = vc at *
  generalize lcp bs cs = L at *
  generalize bs.length = lb at *
  generalize cs.length = lc at *
  generalize comN vb vc W = k at *
  have EQ : Hid ((if (lc : Int) < if (lb : Int) < k then (lb : Int) else k then (lc : Int) else if (lb : Int) < k then (lb : Int) else k) = (L : Int)) := by
    show _ = _
    rw [← EM]; split <;> (try split) <;> omega
  clear EM
  go_enter Try.func72, Try.ntmps72
  go_upto_region 1 with fail
  generalize ((w.alloc _).alloc _) = w0 at HB ⊢
  generalize hA : w.heap.size + 1 = A1 at *
  have lA := HB.out.2.2.2
  have x0 : ∀ z : Grown w0, (gw z).cell? ⟨w.heap.size, 0, none⟩ = some (.int .u64 (hiOf vb)) := gw_cell (HB.out.1.cell 0 rfl)
  have x1 : ∀ z : Grown w0, (gw z).cell? ⟨w.heap.size, 1, none⟩ = some (.int .u64 (loOf vb)) := gw_cell (HB.out.1.cell 1 rfl)
  have x2 : ∀ z : Grown w0, (gw z).cell? ⟨w.heap.size, 2, none⟩ = some (.int .i64 lb) := gw_cell (HB.out.1.cell 2 rfl)
  have y0 : ∀ z : Grown w0, (gw z).cell? ⟨A1, 0, none⟩ = some (.int .u64 (hiOf vc)) := gw_cell (HB.out.2.1.cell 0 rfl)
  have y1 : ∀ z : Grown w0, (gw z).cell? ⟨A1, 1, none⟩ = some (.int .u64 (loOf vc)) := gw_cell (HB.out.2.1.cell 1 rfl)
  have y2 : ∀ z : Grown w0, (gw z).cell? ⟨A1, 2, none⟩ = some (.int .i64 lc) := gw_cell (HB.out.2.1.cell 2 rfl)
  have fin : Hid (∀ z : Grown w0, Below w.heap.size w (gw z)) := fun z => HB.out.2.2.1.trans ((gw_below z).mono (by omega))
  refine region_grows (by kernel_rfl) (by kernel_rfl) ?_
  repeat (go_big_quiet_step ((go_at_call 86; exact calls_gw (C.out _))))
  rw [EQ.out]
  refine wpQuiet_nil ?_
  intro wq hwq
  obtain ⟨zq, rfl⟩ := hwq
  go_wp2
  go_ret
  exact ⟨rfl, fin.out zq⟩
set_option maxHeartbeats 1000000 in
theorem begins_any {W : Nat} (h1 : 1 ≤ W) (h2 : W ≤ 128) {bs cs : List Bool} (hb : bs.length ≤ W) (hc : cs.length ≤ W) (w : World) :
    Calls Try.prog 70 #[Pf (valOf W bs) bs.length, Pf (valOf W cs) cs.length, .int .i64 W] w fun e w' => e = .returned (.bool (decide (bs <+: cs))) ∧ Below w.heap.size w w' := by
  have EM : ((lcp bs cs : Int) == (bs.length : Int)) = decide (bs <+: cs) := by
    rw [Bool.eq_iff_iff, decide_eq_true_eq, ← lcp_pre, beq_iff_eq]; omega
  have C : Hid (∀ w1, Calls Try.prog 72 #[Pf (valOf W bs) bs.length, Pf (valOf W cs) cs.length, .int .i64 W] w1 fun e w' => e = .returned (.int .i64 (lcp bs cs)) ∧ Below w1.heap.size w1 w') := fun w1 => common_any h1 h2 hb hc w1
  have HB := two_new' w #[.int .u64 (hiOf (valOf W bs)), .int .u64 (loOf (valOf W bs)), .int .i64 bs.length] #[.int .u64 (hiOf (valOf W cs)), .int .u64 (loOf (valOf W cs)), .int .i64 cs.length] 51 51
  generalize valOf W bs = vb at *
  generalize valOf W cs = vc at *
  generalize lcp bs cs = L at *
  generalize decide (bs <+: cs) = pr at *
  generalize bs.length = lb at *
  generalize cs.length = lc at *
  have EM2 : Hid (((L : Int) == (lb : Int)) = pr) := EM
  clear EM
  go_enter Try.func70, Try.ntmps70
  go_upto_region 1 with fail
  generalize ((w.alloc _).alloc _) = w0 at HB ⊢
  generalize hA : w.heap.size + 1 = A1 at *
  have lA := HB.out.2.2.2
  have x0 : ∀ z : Grown w0, (gw z).cell? ⟨w.heap.size, 0, none⟩ = some (.int .u64 (hiOf vb)) := gw_cell (HB.out.1.cell 0 rfl)
  have x1 : ∀ z : Grown w0, (gw z).cell? ⟨w.heap.size, 1, none⟩ = some (.int .u64 (loOf vb)) := gw_cell (HB.out.1.cell 1 rfl)
  have x2 : ∀ z : Grown w0, (gw z).cell? ⟨w.heap.size, 2, none⟩ = some (.int .i64 lb) := gw_cell (HB.out.1.cell 2 rfl)
  have y0 : ∀ z : Grown w0, (gw z).cell? ⟨A1, 0, none⟩ = some (.int .u64 (hiOf vc)) := gw_cell (HB.out.2.1.cell 0 rfl)
  have y1 : ∀ z : Grown w0, (gw z).cell? ⟨A1, 1, none⟩ = some (.int .u64 (loOf vc)) := gw_cell (HB.out.2.1.cell 1 rfl)
  have y2 : ∀ z : Grown w0, (gw z).cell? ⟨A1, 2, none⟩ = some (.int .i64 lc) := gw_cell (HB.out.2.1.cell 2 rfl)
  have fin : Hid (∀ z : Grown w0, Below w.heap.size w (gw z)) := fun z => HB.out.2.2.1.trans ((gw_below z).mono (by omega))
  refine region_grows (by kernel_rfl) (by kernel_rfl) ?_
  repeat (go_big_quiet_step ((go_at_call 72; exact calls_gw (C.out _))))
  refine wpQuiet_nil ?_
  intro wq hwq
  obtain ⟨zq, rfl⟩ := hwq
  go_wp2
  go_ret
  exact ⟨by rw [← EM2.out]; rfl, fin.out zq⟩
def sideN (bs : List Bool) (n : Nat) : Nat := if bs[n]?.getD false = true then 1 else 0
theorem side_any {W : Nat} (h1 : 1 ≤ W) (h2 : W ≤ 128) {bs : List Bool} (hb : bs.length ≤ W) (n : Nat) (w : World) :
    Calls Try.prog 69 #[B (valOf W bs), .int .i64 W, .int .i64 n] w fun e w' => e = .returned (.int .i64 (sideN bs n : Nat)) ∧ Below w.heap.size w w' := by
  have C : Hid (∀ w1, Calls Try.prog 84 #[B (valOf W bs), .int .i64 W, .int .i64 n] w1 fun e w' => e = .returned (.bool (bs[n]?.getD false)) ∧ Below w1.heap.size w1 w') := fun w1 => by
    rw [← side_bit h1 h2 hb n]; exact bit_any _ (val_is h2 hb) W n w1
  have HB : Hid (Below w.heap.size w (w.alloc (.cells #[.int .u64 (hiOf (valOf W bs)), .int .u64 (loOf (valOf W bs))] 33))) := (Below.refl _ _).alloc (Nat.le_refl _) _
  unfold sideN
  generalize bs[n]?.getD false = pr at *
  generalize valOf W bs = v at *
  go_enter Try.func69, Try.ntmps69
  go_wp2_with fail
  refine (C.out _).mono ?_
  rintro e w1 ⟨rfl, hb1⟩
  have HB1 : Hid (Below w.heap.size w w1) := bst HB.out hb1
  clear hb1 C HB
  cases pr
  all_goals
    go_wp2
    go_ret
    exact ⟨rfl, HB1.out⟩
end Go.Proofs.Ytgdpplipahhffaa
