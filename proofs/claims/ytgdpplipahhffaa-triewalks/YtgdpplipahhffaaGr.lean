/- Package trie: first, isPrefix, common, begins, side. Package trie: common, begins, side, over lists of bits. -/
import Derived.Test.YtgdpplipahhffaaGl
import Derived.Test.YtgdpplipahhffaaWo
import Derived.Test.YtgdpplipahhffaaKe
import Derived.Test.YtgdpplipahhffaaQp
import Derived.Deep.Cut
import Derived.Outline
namespace Go.Proofs.Ytgdpplipahhffaa
open Go.RowKit
set_option linter.unusedVariables false
set_option linter.unusedSimpArgs false

abbrev Pf (v : Nat) (l : Int) : Value := .agg #[.int .u64 (hiOf v), .int .u64 (loOf v), .int .i64 l]
theorem isW_nat {W : Nat} (h1 : 1 ≤ W) (h2 : W ≤ 128) : isW (W : Int) = true := by simp [isW]; omega
theorem two_new (w : World) (a b : Array Value) (t u : TypeId) : Blk ((w.alloc (.cells a t)).alloc (.cells b u)) w.heap.size a t ∧ Blk ((w.alloc (.cells a t)).alloc (.cells b u)) (w.heap.size + 1) b u ∧ Below w.heap.size w ((w.alloc (.cells a t)).alloc (.cells b u)) ∧ w.heap.size + 1 < ((w.alloc (.cells a t)).alloc (.cells b u)).heap.size := by
  have s1 := World.size_alloc w (.cells a t)
  have s2 := World.size_alloc (w.alloc (.cells a t)) (.cells b u)
  have k : ∀ (w : World) o, Below w.heap.size w (w.alloc o) := fun w o => (Below.refl _ _).alloc (Nat.le_refl _) _
  have h2 := Blk.new (w.alloc (.cells a t)) b u
  rw [s1] at h2
  exact ⟨(Blk.new w a t).below (k _ _), h2, bst (k _ _) (k _ _), by omega⟩
set_option maxHeartbeats 1000000 in
theorem first_any (v : Nat) (hv : Is128 v) (W : Nat) (h1 : 1 ≤ W) (h2 : W ≤ 128) (n : Nat) (hn : n ≤ W) (w : World) :
    Calls Try.prog 66 #[B v, .int .i64 W, .int .i64 n] w fun e w' => e = .returned (Pf (v &&& maskN W n) n) ∧ Below w.heap.size w w' := by
  have hW := isW_nat h1 h2
  have hm : Is128 (maskN W n) := mask_is (by omega) (by omega) (by omega) (by omega)
  have C1 : Hid (∀ w1, Calls Try.prog 82 #[.int .i64 W, .int .i64 n] w1 fun e w' => e = .returned (.tuple #[B (maskN W n), .int .i64 0]) ∧ Below w1.heap.size w1 w') := fun w1 => mask_any W n hW (by omega) (by omega) w1
  have C2 : Hid (∀ w1, Calls Try.prog 83 #[B v, B (maskN W n)] w1 fun e w' => e = .returned (B (v &&& maskN W n)) ∧ Below w1.heap.size w1 w') := fun w1 => and_any v _ hv hm w1
  generalize maskN W n = m at *
  clear hW hm
  have HB : Hid (Blk ((w.alloc (.cells #[.int .u64 (hiOf v), .int .u64 (loOf v)] 33)).alloc (.cells #[.int .u64 0, .int .u64 0, .int .i64 0] 51)) w.heap.size #[.int .u64 (hiOf v), .int .u64 (loOf v)] 33 ∧ Blk ((w.alloc (.cells #[.int .u64 (hiOf v), .int .u64 (loOf v)] 33)).alloc (.cells #[.int .u64 0, .int .u64 0, .int .i64 0] 51)) (w.heap.size + 1) #[.int .u64 0, .int .u64 0, .int .i64 0] 51 ∧ Below w.heap.size w ((w.alloc (.cells #[.int .u64 (hiOf v), .int .u64 (loOf v)] 33)).alloc (.cells #[.int .u64 0, .int .u64 0, .int .i64 0] 51)) ∧ w.heap.size + 1 < ((w.alloc (.cells #[.int .u64 (hiOf v), .int .u64 (loOf v)] 33)).alloc (.cells #[.int .u64 0, .int .u64 0, .int .i64 0] 51)).heap.size) := two_new w _ _ _ _
  go_enter Try.func66, Try.ntmps66
  go_upto_region 1 with fail
  generalize ((w.alloc _).alloc _) = w0 at HB ⊢
  generalize hA : w.heap.size + 1 = A1 at *
  have lA := HB.out.2.2.2
  go_wp2_with fail
  refine (C1.out _).mono ?_
  rintro e w1 ⟨rfl, hb1⟩
  have HB1 : Hid (Blk (w1.alloc (.cells #[.int .u64 (hiOf m), .int .u64 (loOf m)] 33)) w.heap.size #[.int .u64 (hiOf v), .int .u64 (loOf v)] 33 ∧ Blk (w1.alloc (.cells #[.int .u64 (hiOf m), .int .u64 (loOf m)] 33)) A1 #[.int .u64 0, .int .u64 0, .int .i64 0] 51 ∧ Blk (w1.alloc (.cells #[.int .u64 (hiOf m), .int .u64 (loOf m)] 33)) w1.heap.size #[.int .u64 (hiOf m), .int .u64 (loOf m)] 33 ∧ Below w.heap.size w (w1.alloc (.cells #[.int .u64 (hiOf m), .int .u64 (loOf m)] 33))) := by
    have hz := HB.out.2.2.1.size
    have hb2 : Below w0.heap.size w0 (w1.alloc (.cells #[.int .u64 (hiOf m), .int .u64 (loOf m)] 33)) := hb1.alloc hb1.size _
    exact ⟨HB.out.1.below hb2, HB.out.2.1.below hb2, Blk.new w1 _ 33, bst HB.out.2.2.1 hb2⟩
  clear hb1 C1 HB
  go_upto_region 2 with fail
  generalize (w1.alloc _) = w2 at HB1 ⊢
  generalize w1.heap.size = A2 at *
  have x0 := HB1.out.1.cell 0 (v := .int .u64 (hiOf v)) rfl
  have x1 := HB1.out.1.cell 1 (v := .int .u64 (loOf v)) rfl
  have y0 := HB1.out.2.2.1.cell 0 (v := .int .u64 (hiOf m)) rfl
  have y1 := HB1.out.2.2.1.cell 1 (v := .int .u64 (loOf m)) rfl
  go_wp2_with fail
  refine (C2.out _).mono ?_
  rintro e w3 ⟨rfl, hb3⟩
  have HB3 : Hid (Blk w3 A1 #[.int .u64 0, .int .u64 0, .int .i64 0] 51 ∧ Below w.heap.size w w3) := ⟨HB1.out.2.1.below hb3, bst HB1.out.2.2.2 hb3⟩
  clear hb3 HB1 C2 x0 x1 y0 y1
  have z0 := HB3.out.1.cell 0 (v := .int .u64 0) rfl
  have z1 := HB3.out.1.cell 1 (v := .int .u64 0) rfl
  have z2 := HB3.out.1.cell 2 (v := .int .i64 0) rfl
  have f0 := HB3.out.1.frozen 0
  have f1 := HB3.out.1.frozen 1
  have f2 := HB3.out.1.frozen 2
  go_wp2_with fail
  have HF := ((HB3.out.1.set 0 (.int .u64 (hiOf (v &&& m)))).set 1 (.int .u64 (loOf (v &&& m)))).set 2 (.int .i64 n)
  have q0 := HF.cell 0 (v := .int .u64 (hiOf (v &&& m))) rfl
  have q1 := HF.cell 1 (v := .int .u64 (loOf (v &&& m))) rfl
  have q2 := HF.cell 2 (v := .int .i64 n) rfl
  have hb : Below w.heap.size w (((w3.setCell ⟨A1, 0, none⟩ (.int .u64 (hiOf (v &&& m)))).setCell ⟨A1, 1, none⟩ (.int .u64 (loOf (v &&& m)))).setCell ⟨A1, 2, none⟩ (.int .i64 n)) := ((HB3.out.2.setCell (by show _ ≤ A1; omega) _).setCell (by show _ ≤ A1; omega) _).setCell (by show _ ≤ A1; omega) _
  refine bodyPost_ret (v := Pf (v &&& m) n) ?_ rfl ⟨rfl, hb⟩
  generalize ((w3.setCell _ _).setCell _ _).setCell _ _ = w4 at q0 q1 q2 ⊢
  simp [results, Try.results66, go_sem, q0, q1, q2]
theorem eqIn33 (d v u : Nat) (w : World) : (Op.equalIn (d + 2) 33 (B v) (B u)).run Try.prog w = .ok (decide (v = u)) w := by
  have hS2 : Try.prog.underlying 33 = some (.struct (Try.prog.fieldsOf 33)) := by kernel_rfl
  have hp2 : Try.prog.stoodInHeld 33 = false := by kernel_rfl
  have u31 := Try.underlying31
  rw [run_equalIn_struct w (d + 1) 33 _ _ hS2 hp2, ← agg_eq]
  simp only [Program.fieldsOf, Try.underlying33]
  go_simp
  by_cases h1 : hiOf v = hiOf u <;> by_cases h2 : loOf v = loOf u <;> simp [h1, h2]
theorem eqIn51 (d v u : Nat) (l k : Int) (w : World) : (Op.equalIn (d + 3) 51 (Pf v l) (Pf u k)).run Try.prog w = .ok (decide (v = u) && (l == k)) w := by
  have hS : Try.prog.underlying 51 = some (.struct (Try.prog.fieldsOf 51)) := by kernel_rfl
  have hp : Try.prog.stoodInHeld 51 = false := by kernel_rfl
  have u3 := Try.underlying3
  have e := eqIn33 d v u
  rw [run_equalIn_struct w (d + 2) 51 _ _ hS hp]
  simp only [Program.fieldsOf, Try.underlying51]
  go_simp
  by_cases h1 : v = u <;> by_cases h2 : l = k <;> simp [h1, h2]
theorem eq51 (v u : Nat) (l k : Int) (w : World) : (binOp .eql 51 (Pf v l) (Pf u k)).run Try.prog w = .ok (.bool (decide (v = u) && (l == k))) w := by
  simp only [binOp]
  simp [Op.equal, Op.maxDepth, eqIn51 9997]
theorem one_new (w : World) (a : Array Value) (t : TypeId) : Blk (w.alloc (.cells a t)) w.heap.size a t ∧ Below w.heap.size w (w.alloc (.cells a t)) ∧ w.heap.size < (w.alloc (.cells a t)).heap.size :=
  ⟨Blk.new w a t, (Below.refl _ _).alloc (Nat.le_refl _) _, by rw [World.size_alloc]; omega⟩
set_option maxHeartbeats 1000000 in
theorem isPrefix_any (v : Nat) (hv : Is128 v) (l : Int) (W : Nat) (h1 : 1 ≤ W) (h2 : W ≤ 128) (w : World) :
    Calls Try.prog 49 #[Pf v l, .int .i64 W] w fun e w' => e = .returned (.bool (isP W v l)) ∧ Below w.heap.size w w' := by
  have HB : Hid (Blk (w.alloc (.cells #[.int .u64 (hiOf v), .int .u64 (loOf v), .int .i64 l] 51)) w.heap.size #[.int .u64 (hiOf v), .int .u64 (loOf v), .int .i64 l] 51 ∧ Below w.heap.size w (w.alloc (.cells #[.int .u64 (hiOf v), .int .u64 (loOf v), .int .i64 l] 51)) ∧ w.heap.size < (w.alloc (.cells #[.int .u64 (hiOf v), .int .u64 (loOf v), .int .i64 l] 51)).heap.size) := one_new w _ _
  have EP : Hid (isP W v l = (decide (0 ≤ l) && decide (l ≤ W) && decide (v &&& maskN W l = v))) := rfl
  generalize isP W v l = pr at *
  have C : Hid (0 ≤ l → l ≤ W → ∀ w, Calls Try.prog 66 #[B v, .int .i64 W, .int .i64 l] w fun e w' => e = .returned (Pf (v &&& maskN W l) l) ∧ Below w.heap.size w w') := fun h0 hl w => by
    obtain ⟨n, rfl⟩ := Int.eq_ofNat_of_zero_le h0
    exact first_any v hv W h1 h2 n (by omega) w
  have EQ := fun w => eq51 (v &&& maskN W l) v l l w
  generalize maskN W l = m at *
  go_enter Try.func49, Try.ntmps49
  go_upto_region 1 with fail
  generalize (w.alloc _) = w0 at HB ⊢
  have x0 : ∀ z : Grown w0, (gw z).cell? ⟨w.heap.size, 0, none⟩ = some (.int .u64 (hiOf v)) := gw_cell (HB.out.1.cell 0 rfl)
  have x1 : ∀ z : Grown w0, (gw z).cell? ⟨w.heap.size, 1, none⟩ = some (.int .u64 (loOf v)) := gw_cell (HB.out.1.cell 1 rfl)
  have x2 : ∀ z : Grown w0, (gw z).cell? ⟨w.heap.size, 2, none⟩ = some (.int .i64 l) := gw_cell (HB.out.1.cell 2 rfl)
  have fin : Hid (∀ z : Grown w0, Below w.heap.size w (gw z)) := fun z => HB.out.2.1.trans ((gw_below z).mono (Nat.le_of_lt HB.out.2.2))
  by_cases g0 : 0 ≤ l
  · by_cases g1 : l ≤ W
    · have C1 : Hid (∀ z : Grown w0, Calls Try.prog 66 #[B v, .int .i64 W, .int .i64 l] (gw z) fun e w' => e = .returned (Pf (v &&& m) l) ∧ Below (gw z).heap.size (gw z) w') := fun z => C.out g0 g1 _
      have e2 : Hid (decide (v &&& m = v) = pr) := by
        have := EP.out
        simp only [decide_eq_true g0, decide_eq_true g1, Bool.true_and] at this
        exact this.symm
      clear C EP h1 h2
      refine region_grows (by kernel_rfl) (by kernel_rfl) ?_
      repeat (go_big_quiet_step ((go_at_call 66; exact calls_gw (C1.out _))))
      refine wpQuiet_nil ?_
      intro wq hwq
      obtain ⟨zq, rfl⟩ := hwq
      go_wp2
      go_ret
      exact ⟨by rw [← e2.out]; simp, fin.out zq⟩
    · have e2 : Hid (pr = false) := by
        have := EP.out
        simp only [decide_eq_false g1, Bool.and_false, Bool.false_and] at this
        exact this
      have t1 : decide (l ≤ (W : Int)) = false := by simpa using g1
      clear C EP
      refine region_grows (by kernel_rfl) (by kernel_rfl) ?_
      repeat (go_big_quiet_step (fail))
      refine wpQuiet_nil ?_
      intro wq hwq
      obtain ⟨zq, rfl⟩ := hwq
      go_wp2
      go_ret
      exact ⟨by rw [e2.out]; rfl, fin.out zq⟩
  · have e2 : Hid (pr = false) := by
      have := EP.out
      simp only [decide_eq_false g0, Bool.false_and] at this
      exact this
    have t1 : decide (0 ≤ l) = false := by simpa using g0
    clear C EP
    refine region_grows (by kernel_rfl) (by kernel_rfl) ?_
    repeat (go_big_quiet_step (fail))
    refine wpQuiet_nil ?_
    intro wq hwq
    obtain ⟨zq, rfl⟩ := hwq
    go_wp2
    go_ret
    exact ⟨by rw [e2.out]; rfl, fin.out zq⟩
end Go.Proofs.Ytgdpplipahhffaa
namespace Go.Proofs.Ytgdpplipahhffaa
open Go.RowKit
set_option linter.unusedVariables false
set_option linter.unusedSimpArgs false

theorem two_new' (w : World) (a b : Array Value) (t u : TypeId) : Hid (Blk ((w.alloc (.cells a t)).alloc (.cells b u)) w.heap.size a t ∧ Blk ((w.alloc (.cells a t)).alloc (.cells b u)) (w.heap.size + 1) b u ∧ Below w.heap.size w ((w.alloc (.cells a t)).alloc (.cells b u)) ∧ w.heap.size + 1 < ((w.alloc (.cells a t)).alloc (.cells b u)).heap.size) := two_new w a b t u
set_option maxHeartbeats 1000000 in
theorem common_any {W : Nat} (h1 : 1 ≤ W) (h2 : W ≤ 128) {bs cs : List Bool} (hb : bs.length ≤ W) (hc : cs.length ≤ W) (w : World) :
    Calls Try.prog 72 #[Pf (valOf W bs) bs.length, Pf (valOf W cs) cs.length, .int .i64 W] w fun e w' => e = .returned (.int .i64 (lcp bs cs)) ∧ Below w.heap.size w w' := by
  have EM : min (min (comN (valOf W bs) (valOf W cs) W) bs.length) cs.length = (lcp bs cs : Int) := com_lcp h1 h2 hb hc
  have C : Hid (∀ w1, Calls Try.prog 86 #[B (valOf W bs), B (valOf W cs), .int .i64 W] w1 fun e w' => e = .returned (.int .i64 (comN (valOf W bs) (valOf W cs) W)) ∧ Below w1.heap.size w1 w') := fun w1 => common_any0 _ _ (val_is h2 hb) (val_is h2 hc) W w1
  obtain ⟨k1, k2⟩ := com_range (val_is h2 hb) (val_is h2 hc) (isW_nat h1 h2)
  have HB := two_new' w #[.int .u64 (hiOf (valOf W bs)), .int .u64 (loOf (valOf W bs)), .int .i64 bs.length] #[.int .u64 (hiOf (valOf W cs)), .int .u64 (loOf (valOf W cs)), .int .i64 cs.length] 51 51
  generalize valOf W bs = vb at *
  generalize valOf W cs = vc at *
  generalize lcp bs cs = L at *
  generalize bs.length = lb at *
  generalize cs.length = lc at *
  generalize comN vb vc W = k at *
  have EQ : Hid ((if (lc : Int) < if (lb : Int) < k then (lb : Int) else k then (lc : Int) else if (lb : Int) < k then (lb : Int) else k) = (L : Int)) := by
    show _ = _
    rw [← EM]; split <;> (try split) <;> omega
  clear EM
  go_enter Try.func72, Try.ntmps72
  go_upto_region 1 with fail
  generalize ((w.alloc _).alloc _) = w0 at HB ⊢
  generalize hA : w.heap.size + 1 = A1 at *
  have lA := HB.out.2.2.2
  have x0 : ∀ z : Grown w0, (gw z).cell? ⟨w.heap.size, 0, none⟩ = some (.int .u64 (hiOf vb)) := gw_cell (HB.out.1.cell 0 rfl)
  have x1 : ∀ z : Grown w0, (gw z).cell? ⟨w.heap.size, 1, none⟩ = some (.int .u64 (loOf vb)) := gw_cell (HB.out.1.cell 1 rfl)
  have x2 : ∀ z : Grown w0, (gw z).cell? ⟨w.heap.size, 2, none⟩ = some (.int .i64 lb) := gw_cell (HB.out.1.cell 2 rfl)
  have y0 : ∀ z : Grown w0, (gw z).cell? ⟨A1, 0, none⟩ = some (.int .u64 (hiOf vc)) := gw_cell (HB.out.2.1.cell 0 rfl)
  have y1 : ∀ z : Grown w0, (gw z).cell? ⟨A1, 1, none⟩ = some (.int .u64 (loOf vc)) := gw_cell (HB.out.2.1.cell 1 rfl)
  have y2 : ∀ z : Grown w0, (gw z).cell? ⟨A1, 2, none⟩ = some (.int .i64 lc) := gw_cell (HB.out.2.1.cell 2 rfl)
  have fin : Hid (∀ z : Grown w0, Below w.heap.size w (gw z)) := fun z => HB.out.2.2.1.trans ((gw_below z).mono (by omega))
  refine region_grows (by kernel_rfl) (by kernel_rfl) ?_
  repeat (go_big_quiet_step ((go_at_call 86; exact calls_gw (C.out _))))
  rw [EQ.out]
  refine wpQuiet_nil ?_
  intro wq hwq
  obtain ⟨zq, rfl⟩ := hwq
  go_wp2
  go_ret
  exact ⟨rfl, fin.out zq⟩
set_option maxHeartbeats 1000000 in
theorem begins_any {W : Nat} (h1 : 1 ≤ W) (h2 : W ≤ 128) {bs cs : List Bool} (hb : bs.length ≤ W) (hc : cs.length ≤ W) (w : World) :
    Calls Try.prog 70 #[Pf (valOf W bs) bs.length, Pf (valOf W cs) cs.length, .int .i64 W] w fun e w' => e = .returned (.bool (decide (bs <+: cs))) ∧ Below w.heap.size w w' := by
  have EM : ((lcp bs cs : Int) == (bs.length : Int)) = decide (bs <+: cs) := by
    rw [Bool.eq_iff_iff, decide_eq_true_eq, ← lcp_pre, beq_iff_eq]; omega
  have C : Hid (∀ w1, Calls Try.prog 72 #[Pf (valOf W bs) bs.length, Pf (valOf W cs) cs.length, .int .i64 W] w1 fun e w' => e = .returned (.int .i64 (lcp bs cs)) ∧ Below w1.heap.size w1 w') := fun w1 => common_any h1 h2 hb hc w1
  have HB := two_new' w #[.int .u64 (hiOf (valOf W bs)), .int .u64 (loOf (valOf W bs)), .int .i64 bs.length] #[.int .u64 (hiOf (valOf W cs)), .int .u64 (loOf (valOf W cs)), .int .i64 cs.length] 51 51
  generalize valOf W bs = vb at *
  generalize valOf W cs = vc at *
  generalize lcp bs cs = L at *
  generalize decide (bs <+: cs) = pr at *
  generalize bs.length = lb at *
  generalize cs.length = lc at *
  have EM2 : Hid (((L : Int) == (lb : Int)) = pr) := EM
  clear EM
  go_enter Try.func70, Try.ntmps70
  go_upto_region 1 with fail
  generalize ((w.alloc _).alloc _) = w0 at HB ⊢
  generalize hA : w.heap.size + 1 = A1 at *
  have lA := HB.out.2.2.2
  have x0 : ∀ z : Grown w0, (gw z).cell? ⟨w.heap.size, 0, none⟩ = some (.int .u64 (hiOf vb)) := gw_cell (HB.out.1.cell 0 rfl)
  have x1 : ∀ z : Grown w0, (gw z).cell? ⟨w.heap.size, 1, none⟩ = some (.int .u64 (loOf vb)) := gw_cell (HB.out.1.cell 1 rfl)
  have x2 : ∀ z : Grown w0, (gw z).cell? ⟨w.heap.size, 2, none⟩ = some (.int .i64 lb) := gw_cell (HB.out.1.cell 2 rfl)
  have y0 : ∀ z : Grown w0, (gw z).cell? ⟨A1, 0, none⟩ = some (.int .u64 (hiOf vc)) := gw_cell (HB.out.2.1.cell 0 rfl)
  have y1 : ∀ z : Grown w0, (gw z).cell? ⟨A1, 1, none⟩ = some (.int .u64 (loOf vc)) := gw_cell (HB.out.2.1.cell 1 rfl)
  have y2 : ∀ z : Grown w0, (gw z).cell? ⟨A1, 2, none⟩ = some (.int .i64 lc) := gw_cell (HB.out.2.1.cell 2 rfl)
  have fin : Hid (∀ z : Grown w0, Below w.heap.size w (gw z)) := fun z => HB.out.2.2.1.trans ((gw_below z).mono (by omega))
  refine region_grows (by kernel_rfl) (by kernel_rfl) ?_
  repeat (go_big_quiet_step ((go_at_call 72; exact calls_gw (C.out _))))
  refine wpQuiet_nil ?_
  intro wq hwq
  obtain ⟨zq, rfl⟩ := hwq
  go_wp2
  go_ret
  exact ⟨by rw [← EM2.out]; rfl, fin.out zq⟩
def sideN (bs : List Bool) (n : Nat) : Nat := if bs[n]?.getD false = true then 1 else 0
theorem side_any {W : Nat} (h1 : 1 ≤ W) (h2 : W ≤ 128) {bs : List Bool} (hb : bs.length ≤ W) (n : Nat) (w : World) :
    Calls Try.prog 69 #[B (valOf W bs), .int .i64 W, .int .i64 n] w fun e w' => e = .returned (.int .i64 (sideN bs n : Nat)) ∧ Below w.heap.size w w' := by
  have C : Hid (∀ w1, Calls Try.prog 84 #[B (valOf W bs), .int .i64 W, .int .i64 n] w1 fun e w' => e = .returned (.bool (bs[n]?.getD false)) ∧ Below w1.heap.size w1 w') := fun w1 => by
    rw [← side_bit h1 h2 hb n]; exact bit_any _ (val_is h2 hb) W n w1
  have HB : Hid (Below w.heap.size w (w.alloc (.cells #[.int .u64 (hiOf (valOf W bs)), .int .u64 (loOf (valOf W bs))] 33))) := (Below.refl _ _).alloc (Nat.le_refl _) _
  unfold sideN
  generalize bs[n]?.getD false = pr at *
  generalize valOf W bs = v at *
  go_enter Try.func69, Try.ntmps69
  go_wp2_with fail
  refine (C.out _).mono ?_
  rintro e w1 ⟨rfl, hb1⟩
  have HB1 : Hid (Below w.heap.size w w1) := bst HB.out hb1
  clear hb1 C HB
  cases pr
  all_goals
    go_wp2
    go_ret
    exact ⟨rfl, HB1.out⟩
end Go.Proofs.Ytgdpplipahhffaa
