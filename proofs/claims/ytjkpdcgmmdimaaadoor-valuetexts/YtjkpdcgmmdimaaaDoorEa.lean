/- The reference's divided: a number divided by a small one, bit by bit. -/
import Derived.Test.YtjkpdcgmmdimaaaDoorRe
namespace Go.Proofs.YtjkpdcgmmdimaaaDoor
open Go.RowKit
set_option linter.unusedVariables false
set_option linter.unusedSimpArgs false

/-- The quotient's bits. -/
def outF (b : Nat) (f : Nat → Bool) : Nat → Bool := fun i => decide (b ≤ 2 * (pre f 0 i % b) + (f i).toNat)
theorem two_step {b P x : Nat} (hb : 0 < b) (hx : x ≤ 1) : (2 * P + x) / b = 2 * (P / b) + (if b ≤ 2 * (P % b) + x then 1 else 0) ∧ (2 * P + x) % b = if b ≤ 2 * (P % b) + x then 2 * (P % b) + x - b else 2 * (P % b) + x := by
  have hm := Nat.mod_lt P hb
  have e : 2 * P + x = b * (2 * (P / b)) + (2 * (P % b) + x) := by
    have := Nat.div_add_mod P b
    have h2 : b * (2 * (P / b)) = 2 * (b * (P / b)) := by rw [Nat.mul_left_comm]
    rw [h2]; omega
  rw [e, Nat.mul_add_div hb, Nat.mul_add_mod]
  generalize P % b = r at *
  by_cases h : b ≤ 2 * r + x
  · rw [if_pos h, if_pos h]
    have h1 : (2 * r + x) / b = 1 := by
      apply Nat.div_eq_of_lt_le <;> omega
    have h2 : (2 * r + x) % b = 2 * r + x - b := by
      rw [Nat.mod_eq_sub_mod h, Nat.mod_eq_of_lt (by omega)]
    rw [h1, h2]; exact ⟨rfl, rfl⟩
  · have h1 : (2 * r + x) / b = 0 := Nat.div_eq_of_lt (by omega)
    have h2 : (2 * r + x) % b = 2 * r + x := Nat.mod_eq_of_lt (by omega)
    rw [if_neg h, if_neg h, h1, h2]; exact ⟨rfl, rfl⟩
theorem pre_out {b : Nat} (hb : 0 < b) (f : Nat → Bool) (k : Nat) : pre (outF b f) 0 k = pre f 0 k / b := by
  induction k with
  | zero => simp [pre]
  | succ k ih =>
    rw [pre, pre, ih, Nat.zero_add, (two_step hb (Bool.toNat_le _)).1]
    unfold outF
    by_cases h : b ≤ 2 * (pre f 0 k % b) + (f k).toNat
    · rw [if_pos h, decide_eq_true h]; rfl
    · rw [if_neg h, decide_eq_false h]; rfl
def outTo (b : Nat) (f : Nat → Bool) (k : Nat) : Nat → Bool := fun i => decide (i < k) && outF b f i
theorem outTo_step (b : Nat) (f : Nat → Bool) (k : Nat) (v : Bool) (hv : outF b f k = v) : rowV (fun t => if t = k then v else outTo b f k t) = rowV (outTo b f (k + 1)) := by
  apply rowV_congr; intro i hi; unfold outTo
  by_cases e : i = k
  · subst e; simp [hv]
  · simp only [e, if_false]
    rw [show decide (i < k + 1) = decide (i < k) by rw [Bool.eq_iff_iff]; simp; omega]
theorem outTo_skip (b : Nat) (f : Nat → Bool) (k : Nat) (hv : outF b f k = false) : rowV (outTo b f k) = rowV (outTo b f (k + 1)) := by
  apply rowV_congr; intro i hi; unfold outTo
  by_cases e : i = k
  · subst e; simp [hv]
  · rw [show decide (i < k + 1) = decide (i < k) by rw [Bool.eq_iff_iff]; simp; omega]
theorem outTo_zero (b : Nat) (f : Nat → Bool) : rowV (fun _ => false) = rowV (outTo b f 0) := by apply rowV_congr; intro i hi; unfold outTo; simp
theorem outTo_take {b n : Nat} (hb : 0 < b) (hn : Is128 n) : takeN (outTo b (layF n) 128) = n / b := by
  have e : takeN (outTo b (layF n) 128) = takeN (outF b (layF n)) := by
    refine take_ext (take_is _) fun i hi => ?_
    rw [take_bit]; unfold outTo; simp [hi]; intro h; omega
  rw [e]
  have h2 := take_lay hn
  unfold takeN at h2 ⊢
  rw [pre_out hb, h2]

set_option maxHeartbeats 2000000 in
set_option maxRecDepth 100000 in
theorem divided_any (n b : Nat) (hn : Is128 n) (hb : 0 < b) (hb1 : b ≤ 16) (w : World) : Calls Tryd.prog 77 #[B n, .int .i64 b] w fun e w' => e = .returned (.tuple #[B (n / b), .int .i64 ((n % b : Nat) : Int)]) ∧ Below w.heap.size w w' := by
  have hq : takeN (outTo b (layF n) 128) = n / b := outTo_take hb hn
  have hr : pre (layF n) 0 128 % b = n % b := by have h2 := take_lay hn; unfold takeN at h2; rw [h2]
  have HR : Hid (pre (layF n) 0 128 % b = n % b) := hr
  have CT : Hid (∀ w, Calls Tryd.prog 45 #[.agg (rowV (outTo b (layF n) 128))] w fun e w' => e = .returned (B (n / b)) ∧ Below w.heap.size w w') := fun w => by rw [← hq]; exact take_any _ w
  clear hq hr
  have X0 : Wds ((w.alloc (.cells #[.int .u64 (hiOf n), .int .u64 (loOf n)] 24)).alloc (.cells #[.int .u64 0, .int .u64 0] 24)) (w.heap.size + 1) 0 0 := by simpa using Wds.new (w.alloc (.cells #[.int .u64 (hiOf n), .int .u64 (loOf n)] 24)) 0 0
  have B0 : Below w.heap.size w ((w.alloc (.cells #[.int .u64 (hiOf n), .int .u64 (loOf n)] 24)).alloc (.cells #[.int .u64 0, .int .u64 0] 24)) := by go_grown
  go_enter Tryd.func77, Tryd.ntmps77
  go_wp2_with fail
  refine (lay_any n hn _).mono ?_
  rintro e w1 ⟨rfl, hb1'⟩
  have X1 := ((X0.below hb1' X0.lt).past (.cells (rowV (layF n)) 49)).past (.cells (rowV fun _ => false) 49)
  have A1 := (Arr.new w1 (layF n)).past (.cells (rowV fun _ => false) 49)
  have O1 : Arr ((w1.alloc (.cells (rowV (layF n)) 49)).alloc (.cells (rowV fun _ => false) 49)) (w1.heap.size + 1) (outTo b (layF n) 0) := Arr.congr (by simpa using Arr.new (w1.alloc (.cells (rowV (layF n)) 49)) (fun _ => false)) (outTo_zero b (layF n))
  have B1' := bstep B0 hb1'
  have B1 : Below w.heap.size w ((w1.alloc (.cells (rowV (layF n)) 49)).alloc (.cells (rowV fun _ => false) 49)) := (B1'.alloc B1'.size _).alloc (by have := B1'.size; simp; omega) _
  have n1 := X0.lt
  have n2 := hb1'.size
  simp at n1 n2
  clear X0 B0 hb1' B1'
  go_wp2_with (refine wpList_store_row rfl 49 _ _ rfl w1.heap.size (rowV (layF n)) rfl rfl 49 _ (heap_alloc_new w1 _) (size49 _) (by rw [zero49, rowV_size, rowV_size]) (rowV_one _) ?_; rw [World.setRow_alloc_new])
  rw [zero49]
  go_loopw [8, 9] (fun l i wr => ∃ k : Nat, k ≤ 128 ∧ i = .int .i64 k ∧ l = .int .i64 ((pre (layF n) 0 k % b : Nat) : Int) ∧ Arr wr w1.heap.size (layF n) ∧ Arr wr (w1.heap.size + 1) (outTo b (layF n) k) ∧ Wds wr (w.heap.size + 1) 0 0 ∧ Below w.heap.size w wr) (fun _ i _ => 128 - (intOf i).toNat)
  case atStart => exact ⟨0, by omega, by simp, by simp [pre], A1, O1, X1, B1⟩
  case round =>
    obtain ⟨k, hk, rfl, rfl, A, O, Z, hB⟩ := hrel
    clear A1 O1 X1 B1
    by_cases hlt : k < 128
    · have x1 := A.cell (i := k) (by omega)
      have o1 := O.cell (i := k) (by omega)
      have o2 := O.frozen k
      have hm := Nat.mod_lt (pre (layF n) 0 k) hb
      have hstep : pre (layF n) 0 (k + 1) % b = if b ≤ 2 * (pre (layF n) 0 k % b) + (layF n k).toNat then 2 * (pre (layF n) 0 k % b) + (layF n k).toNat - b else 2 * (pre (layF n) 0 k % b) + (layF n k).toNat := by
        rw [pre, Nat.zero_add]; exact (two_step hb (Bool.toNat_le _)).2
      have hout : outF b (layF n) k = decide (b ≤ 2 * (pre (layF n) 0 k % b) + (layF n k).toNat) := rfl
      have HST := outTo_step b (layF n) k
      have HSK := outTo_skip b (layF n) k
      have H1 : Hid (∀ v, outF b (layF n) k = v → rowV (fun t => if t = k then v else outTo b (layF n) k t) = rowV (outTo b (layF n) (k + 1))) := HST
      have H2 : Hid (outF b (layF n) k = false → rowV (outTo b (layF n) k) = rowV (outTo b (layF n) (k + 1))) := HSK
      have H3 : Hid (outF b (layF n) k = decide (b ≤ 2 * (pre (layF n) 0 k % b) + (layF n k).toNat)) := hout
      have H4 : Hid (pre (layF n) 0 (k + 1) % b = if b ≤ 2 * (pre (layF n) 0 k % b) + (layF n k).toNat then 2 * (pre (layF n) 0 k % b) + (layF n k).toNat - b else 2 * (pre (layF n) 0 k % b) + (layF n k).toNat) := hstep
      clear HST HSK hout hstep
      generalize pre (layF n) 0 k % b = l at *
      generalize layF n k = x at *
      cases x
      · by_cases hge : b ≤ 2 * l
        · have e1 : (b : Int) ≤ (l : Int) * 2 := by omega
          have e2 : Value.int IntKind.i64 ((l : Int) * 2 - b) = .int .i64 ((pre (layF n) 0 (k + 1) % b : Nat) : Int) := congrArg (Value.int .i64) (by rw [H4.out]; simp; rw [if_pos hge]; omega)
          have E2 : Hid _ := e2
          have e3 : outF b (layF n) k = true := by rw [H3.out]; simpa using hge
          have E3 : Hid _ := e3
          clear e2 e3 hge
          go_wp2
          refine ⟨⟨k + 1, by omega, by go_num, E2.out, A.other (by simp) _, Arr.congr (O.set (i := k) (by omega) _) (H1.out _ E3.out), Z.other (by simp; omega) _, hB.setCell (by simp; omega) _⟩, by simp only [intOf]; omega⟩
        · have e1 : decide ((b : Int) ≤ (l : Int) * 2) = false := by simp; omega
          have e2 : Value.int IntKind.i64 ((l : Int) * 2) = .int .i64 ((pre (layF n) 0 (k + 1) % b : Nat) : Int) := congrArg (Value.int .i64) (by rw [H4.out]; simp; rw [if_neg hge]; omega)
          have E2 : Hid _ := e2
          have e3 : outF b (layF n) k = false := by rw [H3.out]; simpa using hge
          have E3 : Hid _ := e3
          clear e2 e3 hge
          go_wp2
          refine ⟨⟨k + 1, by omega, by go_num, E2.out, A, Arr.congr O (H2.out E3.out), Z, hB⟩, by simp only [intOf]; omega⟩
      · by_cases hge : b ≤ 2 * l + 1
        · have e1 : (b : Int) ≤ (l : Int) * 2 + 1 := by omega
          have e2 : Value.int IntKind.i64 ((l : Int) * 2 + 1 - b) = .int .i64 ((pre (layF n) 0 (k + 1) % b : Nat) : Int) := congrArg (Value.int .i64) (by rw [H4.out]; simp; rw [if_pos hge]; omega)
          have E2 : Hid _ := e2
          have e3 : outF b (layF n) k = true := by rw [H3.out]; simpa using hge
          have E3 : Hid _ := e3
          clear e2 e3 hge
          go_wp2
          refine ⟨⟨k + 1, by omega, by go_num, E2.out, A.other (by simp) _, Arr.congr (O.set (i := k) (by omega) _) (H1.out _ E3.out), Z.other (by simp; omega) _, hB.setCell (by simp; omega) _⟩, by simp only [intOf]; omega⟩
        · have e1 : decide ((b : Int) ≤ (l : Int) * 2 + 1) = false := by simp; omega
          have e2 : Value.int IntKind.i64 ((l : Int) * 2 + 1) = .int .i64 ((pre (layF n) 0 (k + 1) % b : Nat) : Int) := congrArg (Value.int .i64) (by rw [H4.out]; simp; rw [if_neg hge]; omega)
          have E2 : Hid _ := e2
          have e3 : outF b (layF n) k = false := by rw [H3.out]; simpa using hge
          have E3 : Hid _ := e3
          clear e2 e3 hge
          go_wp2
          refine ⟨⟨k + 1, by omega, by go_num, E2.out, A, Arr.congr O (H2.out E3.out), Z, hB⟩, by simp only [intOf]; omega⟩
    · obtain rfl : k = 128 := by omega
      rw [HR.out]
      go_wp2_with (first
        | (go_at_call 45; refine (CT.out _).mono ?_; rintro e w3 ⟨rfl, hb3⟩; obtain ⟨z0, z1, z2, z3⟩ := Z.below hb3 Z.lt; have hB3 := bstep hB hb3)
        | (refine wpList_load_row rfl 49 _ rfl (w1.heap.size + 1) rfl 49 _ (0, 0) _ O Tryd.underlying49 rfl (size49 _) ?_))
      refine bodyPost_ret (v := .tuple #[B (n / b), .int .i64 ((n % b : Nat) : Int)]) ?_ rfl ⟨rfl, (hB3.setCell (by simp) _).setCell (by simp) _⟩
      obtain ⟨r0, r1⟩ := zresult (x := .int .u64 (hiOf (n / b))) (y := .int .u64 (loOf (n / b))) z0 z1
      simp [results, Tryd.results77, go_sem, r0, r1]
end Go.Proofs.YtjkpdcgmmdimaaaDoor
