/- TrieNil's walk. -/
import Derived.Test.YtgdpplipahhffaaAo
namespace Go.Proofs.Ytgdpplipahhffaa
open Go.RowKit
set_option linter.unusedVariables false
set_option linter.unusedSimpArgs false

theorem fn_nil48 (g : Nat) (caps : Array Value) (w : World) : (binOp .neq 48 (.func (.func g) #[] caps) .nilFunc).run Try.prog w = .ok (.bool true) w := by kernel_rfl
attribute [local go_sem] Oper.semAt_some
set_option maxHeartbeats 8000000 in
set_option maxRecDepth 100000 in
theorem nilt_walk (W most : Int) (o : OpD) (w : World) (hW : Okn W) (hm : Okn most) (ho : OpOk o) : Calls Try.prog 8 #[.int .i64 W, .int .i64 most, .agg (opC o)] w fun e w' => e = .returned (.bool true) ∧ Below w.heap.size w w' := by
  suffices h : ∀ m, CallsIn Fence.wide m Try.prog 8 #[.int .i64 W, .int .i64 most, .agg (opC o)] w fun e w' => e = .returned (.bool true) ∧ Below w.heap.size w w' from callsIn_wide.1 (h 0)
  intro m
  obtain ⟨kd, a, l, u⟩ := o
  have CA : Hid (∀ W, CallsIn Fence.wide (m - 1) Try.prog 9 #[] W fun e w' => e = .returned (.bool true) ∧ Hid (Below W.heap.size W w')) := fun W => callsIn_wide.2 (live_any W)
  have CP : Hid (∀ W, CallsIn Fence.wide (m - 1) Try.prog 24 #[.pointer none, .agg #[.int .u64 (hiOf a), .int .u64 (loOf a), .int .i64 l], .int .i64 u] W fun e w' => e = .returned (.int .i64 1) ∧ Hid (Below W.heap.size W w')) := fun W => callsIn_wide.2 (put_nil a l u W)
  have CS : Hid (∀ W, CallsIn Fence.wide (m - 1) Try.prog 38 #[.pointer none, .agg #[.int .u64 (hiOf a), .int .u64 (loOf a), .int .i64 l], .int .i64 u] W fun e w' => e = .returned (.int .i64 1) ∧ Hid (Below W.heap.size W w')) := fun W => callsIn_wide.2 (set_nil a l u W)
  have CD : Hid (∀ W, CallsIn Fence.wide (m - 1) Try.prog 39 #[.pointer none, .agg #[.int .u64 (hiOf a), .int .u64 (loOf a), .int .i64 l]] W fun e w' => e = .returned (.tuple #[.int .i64 0, .bool false]) ∧ Hid (Below W.heap.size W w')) := fun W => callsIn_wide.2 (drop_nil a l W)
  have CG : Hid (∀ W, CallsIn Fence.wide (m - 1) Try.prog 28 #[.pointer none, .agg #[.int .u64 (hiOf a), .int .u64 (loOf a), .int .i64 l]] W fun e w' => e = .returned (.tuple #[.int .i64 0, .bool false]) ∧ Hid (Below W.heap.size W w')) := fun W => callsIn_wide.2 (get_nil a l W)
  have CF : Hid (∀ W, CallsIn Fence.wide (m - 1) Try.prog 26 #[.pointer none, .agg #[.int .u64 (hiOf a), .int .u64 (loOf a)]] W fun e w' => e = .returned (.tuple #[.agg #[.int .u64 0, .int .u64 0, .int .i64 0], .int .i64 0, .bool false]) ∧ Hid (Below W.heap.size W w')) := fun W => callsIn_wide.2 (find_nil a W)
  have CE : Hid (∀ W, CallsIn Fence.wide (m - 1) Try.prog 27 #[.pointer none, .agg #[.int .u64 (hiOf a), .int .u64 (loOf a)]] W fun e w' => e = .returned (.slice none 0 0) ∧ Hid (Below W.heap.size W w')) := fun W => callsIn_wide.2 (every_nil a W)
  have CC : Hid (∀ W, CallsIn Fence.wide (m - 1) Try.prog 14 #[.pointer none] W fun e w' => e = .returned (.tuple #[]) ∧ w' = W) := fun W => callsIn_wide.2 (clear_nil W)
  have CY : Hid (∀ W, CallsIn Fence.wide (m - 1) Try.prog 15 #[.pointer none] W fun e w' => e = .returned (.pointer none) ∧ w' = W) := fun W => callsIn_wide.2 (copy_nil W)
  have CL : Hid (∀ W, CallsIn Fence.wide (m - 1) Try.prog 37 #[.pointer none] W fun e w' => e = .returned (.int .i64 0) ∧ w' = W) := fun W => callsIn_wide.2 (len_nil W)
  have CN : Hid (∀ W, CallsIn Fence.wide (m - 1) Try.prog 40 #[.pointer none] W fun e w' => e = .returned (.int .i64 0) ∧ w' = W) := fun W => nodes_nil (m - 1) W
  have CAl : Hid (∀ W, CallsIn Fence.wide (m - 1) Try.prog 18 #[.pointer none] W fun e w' => ∃ D D2, e = .returned (.func (.func 48) #[] #[.pointer (some ⟨D, 0, none⟩), .pointer (some ⟨D2, 0, none⟩)]) ∧ Hid (Blk w' D #[.pointer none] 24 ∧ Below W.heap.size W w')) := fun W => callsIn_wide.2 ((all_any none W).mono (by
    rintro e w' ⟨rfl, h1, _, h2⟩
    exact ⟨_, _, rfl, h1, h2⟩))
  have CU : Hid (∀ W, CallsIn Fence.wide (m - 1) Try.prog 19 #[.pointer none, .agg #[.int .u64 (hiOf a), .int .u64 (loOf a), .int .i64 l]] W fun e w' => ∃ D D2, e = .returned (.func (.func 48) #[] #[.pointer (some ⟨D, 0, none⟩), .pointer (some ⟨D2, 0, none⟩)]) ∧ Hid (Blk w' D #[.pointer none] 24 ∧ Below W.heap.size W w')) := fun W => callsIn_wide.2 ((under_any none a l W).mono (by
    rintro e w' ⟨rfl, h1, _, h2⟩
    exact ⟨_, _, rfl, h1, h2⟩))
  obtain ⟨rt, hrt⟩ : ∃ rt : Bool, rt = (decide (1 ≤ W) && decide (W ≤ 128) && decide (1 ≤ most) && decide (most ≤ 4096)) := ⟨_, rfl⟩
  have C10 : Hid (∀ V, CallsIn Fence.wide (m - 1) Try.prog 10 #[.int .i64 W, .int .i64 most] V fun e w' => ∃ A : Option Addr, e = .returned (.tuple #[.pointer A, .int .i64 (if rt then 0 else 1)]) ∧ A.isSome = rt ∧ Hid (Below V.heap.size V w')) := fun V => callsIn_wide.2 (by
    by_cases h : 1 ≤ W ∧ W ≤ 128 ∧ 1 ≤ most ∧ most ≤ 4096
    · have e : rt = true := by rw [hrt]; simp [h]
      obtain ⟨x, rfl⟩ := Int.eq_ofNat_of_zero_le (show 0 ≤ W by omega)
      obtain ⟨y, rfl⟩ := Int.eq_ofNat_of_zero_le (show 0 ≤ most by omega)
      refine (new_ok x y (by omega) (by omega) (by omega) (by omega) V).mono ?_
      rintro e2 w' ⟨rfl, _, hb⟩
      exact ⟨_, by rw [e]; rfl, by rw [e]; rfl, hb⟩
    · have e : rt = false := by
        rw [hrt]
        rw [Bool.eq_false_iff]
        intro h'
        simp only [Bool.and_eq_true, decide_eq_true_eq] at h'
        omega
      refine (new_bad W most (by omega) V).mono ?_
      rintro e2 w' ⟨rfl, rfl⟩
      exact ⟨none, by rw [e]; rfl, by rw [e]; rfl, Below.refl _ _⟩)
  have HRT : Hid (rt = (decide (1 ≤ W) && decide (W ≤ 128) && decide (1 ≤ most) && decide (most ≤ 4096))) := hrt
  have HB : Hid _ := one_new w (opC ⟨kd, a, l, u⟩) 35
  clear hrt hW hm ho
  refine callsIn_of_wp_marks Try.func8 rfl trivial ?_ rfl
  simp only [Try.ntmps8, List.size_toArray, List.length_cons, List.length_nil, Nat.reduceAdd, Nat.reduceSub, Array.replicate_succ, Array.replicate_zero, List.push_toArray, List.append_toArray, List.nil_append, List.cons_append]
  gi_wp2_with fail
  refine ⟨trivial, no_depth _, ?_⟩
  refine (CA.out _).mono ?_
  rintro e w1 ⟨rfl, H1⟩
  have HB1 : Hid (Blk w1 w.heap.size #[.int .i64 kd, .int .u64 (hiOf a), .int .u64 (loOf a), .int .i64 l, .int .i64 u] 35 ∧ Below w.heap.size w w1) := ⟨HB.out.1.below H1.out, bst HB.out.2.1 H1.out⟩
  clear H1 HB CA
  gi_wp2_with fail
  refine ⟨trivial, no_depth _, ?_⟩
  refine (C10.out _).mono ?_
  rintro e w2 ⟨A, rfl, hA, H2⟩
  have HB2 : Hid (Blk w2 w.heap.size #[.int .i64 kd, .int .u64 (hiOf a), .int .u64 (loOf a), .int .i64 l, .int .i64 u] 35 ∧ Below w.heap.size w w2) := ⟨HB1.out.1.below H2.out, bst HB1.out.2 H2.out⟩
  clear H2 HB1 C10
  have key : (1 ≤ W ∧ W ≤ 128 ∧ 1 ≤ most ∧ most ≤ 4096 ∧ rt = true) ∨ (¬ 1 ≤ W ∧ rt = false) ∨ (1 ≤ W ∧ ¬ W ≤ 128 ∧ rt = false) ∨ (1 ≤ W ∧ W ≤ 128 ∧ ¬ 1 ≤ most ∧ rt = false) ∨ (1 ≤ W ∧ W ≤ 128 ∧ 1 ≤ most ∧ ¬ most ≤ 4096 ∧ rt = false) := by
    have := HRT.out
    by_cases h1 : 1 ≤ W <;> by_cases h2 : W ≤ 128 <;> by_cases h3 : 1 ≤ most <;> by_cases h4 : most ≤ 4096 <;> simp [h1, h2, h3, h4] at this ⊢ <;> exact this
  clear HRT
  rcases key with ⟨d1, d2, d3, d4, rfl⟩ | ⟨d1, rfl⟩ | ⟨d1, d2, rfl⟩ | ⟨d1, d2, d3, rfl⟩ | ⟨d1, d2, d3, d4, rfl⟩
  all_goals (
    cases A
    all_goals first | (cases hA; done) | skip)
  all_goals (
    gi_upto_region 6 with fail
    clear hA
    have HP : Hid (Blk (w2.alloc (.cells #[.int .u64 (hiOf a), .int .u64 (loOf a), .int .i64 l] 51)) w.heap.size #[.int .i64 kd, .int .u64 (hiOf a), .int .u64 (loOf a), .int .i64 l, .int .i64 u] 35 ∧ Blk (w2.alloc (.cells #[.int .u64 (hiOf a), .int .u64 (loOf a), .int .i64 l] 51)) w2.heap.size #[.int .u64 (hiOf a), .int .u64 (loOf a), .int .i64 l] 51 ∧ Below w.heap.size w (w2.alloc (.cells #[.int .u64 (hiOf a), .int .u64 (loOf a), .int .i64 l] 51))) := ⟨HB2.out.1.below ((Below.refl _ _).alloc (Nat.le_refl _) _), Blk.new w2 _ 51, bst HB2.out.2 ((Below.refl _ _).alloc (Nat.le_refl _) _)⟩
    have a0 := HB2.out.1.cell 1 (v := .int .u64 (hiOf a)) rfl
    have a1 := HB2.out.1.cell 2 (v := .int .u64 (loOf a)) rfl
    have a2 := HB2.out.1.cell 3 (v := .int .i64 l) rfl
    gi_upto_region 8 with fail
    generalize (w2.alloc _) = v0 at HP ⊢
    generalize w2.heap.size = P at *
    clear a0 a1 a2 HB2
    have a0 := HP.out.1.cell 1 (v := .int .u64 (hiOf a)) rfl
    have a1 := HP.out.1.cell 2 (v := .int .u64 (loOf a)) rfl
    have a2 := HP.out.1.cell 3 (v := .int .i64 l) rfl
    have a3 := HP.out.1.cell 4 (v := .int .i64 u) rfl
    have p0 := HP.out.2.1.cell 0 (v := .int .u64 (hiOf a)) rfl
    have p1 := HP.out.2.1.cell 1 (v := .int .u64 (loOf a)) rfl
    have p2 := HP.out.2.1.cell 2 (v := .int .i64 l) rfl
    gi_wp2_with fail
    refine ⟨trivial, no_depth _, ?_⟩
    refine (CP.out _).mono ?_
    rintro e v1 ⟨rfl, hh⟩
    have HP1 : Hid (Blk v1 w.heap.size #[.int .i64 kd, .int .u64 (hiOf a), .int .u64 (loOf a), .int .i64 l, .int .i64 u] 35 ∧ Blk v1 P #[.int .u64 (hiOf a), .int .u64 (loOf a), .int .i64 l] 51 ∧ Below w.heap.size w v1) := ⟨HP.out.1.below hh.out, HP.out.2.1.below hh.out, bst HP.out.2.2 hh.out⟩
    clear hh CP a0 a1 a2 a3 p0 p1 p2 HP
    have a0 := HP1.out.1.cell 1 (v := .int .u64 (hiOf a)) rfl
    have a1 := HP1.out.1.cell 2 (v := .int .u64 (loOf a)) rfl
    have a2 := HP1.out.1.cell 3 (v := .int .i64 l) rfl
    have a3 := HP1.out.1.cell 4 (v := .int .i64 u) rfl
    have p0 := HP1.out.2.1.cell 0 (v := .int .u64 (hiOf a)) rfl
    have p1 := HP1.out.2.1.cell 1 (v := .int .u64 (loOf a)) rfl
    have p2 := HP1.out.2.1.cell 2 (v := .int .i64 l) rfl
    gi_wp2_with fail
    refine ⟨trivial, no_depth _, ?_⟩
    refine (CS.out _).mono ?_
    rintro e v2 ⟨rfl, hh⟩
    have HP2 : Hid (Blk v2 w.heap.size #[.int .i64 kd, .int .u64 (hiOf a), .int .u64 (loOf a), .int .i64 l, .int .i64 u] 35 ∧ Blk v2 P #[.int .u64 (hiOf a), .int .u64 (loOf a), .int .i64 l] 51 ∧ Below w.heap.size w v2) := ⟨HP1.out.1.below hh.out, HP1.out.2.1.below hh.out, bst HP1.out.2.2 hh.out⟩
    clear hh CS a0 a1 a2 a3 p0 p1 p2 HP1
    have a0 := HP2.out.1.cell 1 (v := .int .u64 (hiOf a)) rfl
    have a1 := HP2.out.1.cell 2 (v := .int .u64 (loOf a)) rfl
    have a2 := HP2.out.1.cell 3 (v := .int .i64 l) rfl
    have a3 := HP2.out.1.cell 4 (v := .int .i64 u) rfl
    have p0 := HP2.out.2.1.cell 0 (v := .int .u64 (hiOf a)) rfl
    have p1 := HP2.out.2.1.cell 1 (v := .int .u64 (loOf a)) rfl
    have p2 := HP2.out.2.1.cell 2 (v := .int .i64 l) rfl
    gi_wp2_with fail
    refine ⟨trivial, no_depth _, ?_⟩
    refine (CD.out _).mono ?_
    rintro e v3 ⟨rfl, hh⟩
    have HP3 : Hid (Blk v3 w.heap.size #[.int .i64 kd, .int .u64 (hiOf a), .int .u64 (loOf a), .int .i64 l, .int .i64 u] 35 ∧ Blk v3 P #[.int .u64 (hiOf a), .int .u64 (loOf a), .int .i64 l] 51 ∧ Below w.heap.size w v3) := ⟨HP2.out.1.below hh.out, HP2.out.2.1.below hh.out, bst HP2.out.2.2 hh.out⟩
    clear hh CD a0 a1 a2 a3 p0 p1 p2 HP2
    have a0 := HP3.out.1.cell 1 (v := .int .u64 (hiOf a)) rfl
    have a1 := HP3.out.1.cell 2 (v := .int .u64 (loOf a)) rfl
    have a2 := HP3.out.1.cell 3 (v := .int .i64 l) rfl
    have a3 := HP3.out.1.cell 4 (v := .int .i64 u) rfl
    have p0 := HP3.out.2.1.cell 0 (v := .int .u64 (hiOf a)) rfl
    have p1 := HP3.out.2.1.cell 1 (v := .int .u64 (loOf a)) rfl
    have p2 := HP3.out.2.1.cell 2 (v := .int .i64 l) rfl
    gi_wp2_with fail
    refine ⟨trivial, no_depth _, ?_⟩
    refine (CG.out _).mono ?_
    rintro e v4 ⟨rfl, hh⟩
    have HP4 : Hid (Blk v4 w.heap.size #[.int .i64 kd, .int .u64 (hiOf a), .int .u64 (loOf a), .int .i64 l, .int .i64 u] 35 ∧ Blk v4 P #[.int .u64 (hiOf a), .int .u64 (loOf a), .int .i64 l] 51 ∧ Below w.heap.size w v4) := ⟨HP3.out.1.below hh.out, HP3.out.2.1.below hh.out, bst HP3.out.2.2 hh.out⟩
    clear hh CG a0 a1 a2 a3 p0 p1 p2 HP3
    have a0 := HP4.out.1.cell 1 (v := .int .u64 (hiOf a)) rfl
    have a1 := HP4.out.1.cell 2 (v := .int .u64 (loOf a)) rfl
    have a2 := HP4.out.1.cell 3 (v := .int .i64 l) rfl
    have a3 := HP4.out.1.cell 4 (v := .int .i64 u) rfl
    have p0 := HP4.out.2.1.cell 0 (v := .int .u64 (hiOf a)) rfl
    have p1 := HP4.out.2.1.cell 1 (v := .int .u64 (loOf a)) rfl
    have p2 := HP4.out.2.1.cell 2 (v := .int .i64 l) rfl
    gi_wp2_with fail
    refine ⟨trivial, no_depth _, ?_⟩
    refine (CF.out _).mono ?_
    rintro e v5 ⟨rfl, hh⟩
    have HP5 : Hid (Blk (v5.alloc (.cells #[.int .u64 0, .int .u64 0, .int .i64 0] 51)) w.heap.size #[.int .i64 kd, .int .u64 (hiOf a), .int .u64 (loOf a), .int .i64 l, .int .i64 u] 35 ∧ Blk (v5.alloc (.cells #[.int .u64 0, .int .u64 0, .int .i64 0] 51)) P #[.int .u64 (hiOf a), .int .u64 (loOf a), .int .i64 l] 51 ∧ Below w.heap.size w (v5.alloc (.cells #[.int .u64 0, .int .u64 0, .int .i64 0] 51))) := by
      have hb := bst hh.out ((Below.refl v5.heap.size v5).alloc (Nat.le_refl _) (.cells #[.int .u64 0, .int .u64 0, .int .i64 0] 51))
      exact ⟨HP4.out.1.below hb, HP4.out.2.1.below hb, bst HP4.out.2.2 hb⟩
    clear hh CF a0 a1 a2 a3 p0 p1 p2 HP4
    gi_upto_region 13 with fail
    generalize (v5.alloc _) = v6 at HP5 ⊢
    generalize v5.heap.size = F at *
    have a0 := HP5.out.1.cell 1 (v := .int .u64 (hiOf a)) rfl
    have a1 := HP5.out.1.cell 2 (v := .int .u64 (loOf a)) rfl
    have a2 := HP5.out.1.cell 3 (v := .int .i64 l) rfl
    have a3 := HP5.out.1.cell 4 (v := .int .i64 u) rfl
    have p0 := HP5.out.2.1.cell 0 (v := .int .u64 (hiOf a)) rfl
    have p1 := HP5.out.2.1.cell 1 (v := .int .u64 (loOf a)) rfl
    have p2 := HP5.out.2.1.cell 2 (v := .int .i64 l) rfl
    gi_wp2_with fail
    refine ⟨trivial, no_depth _, ?_⟩
    refine (CE.out _).mono ?_
    rintro e v7 ⟨rfl, hh⟩
    have HP7 : Hid (Blk v7 w.heap.size #[.int .i64 kd, .int .u64 (hiOf a), .int .u64 (loOf a), .int .i64 l, .int .i64 u] 35 ∧ Blk v7 P #[.int .u64 (hiOf a), .int .u64 (loOf a), .int .i64 l] 51 ∧ Below w.heap.size w v7) := ⟨HP5.out.1.below hh.out, HP5.out.2.1.below hh.out, bst HP5.out.2.2 hh.out⟩
    clear hh CE a0 a1 a2 a3 p0 p1 p2 HP5
    gi_wp2_with fail
    refine ⟨trivial, no_depth _, ?_⟩
    refine (CC.out _).mono ?_
    rintro e v8 ⟨rfl, rfl⟩
    have HP8 : Hid (Blk (v8.alloc (.cells #[.int .i64 0] 3)) v8.heap.size #[.int .i64 0] 3 ∧ Blk (v8.alloc (.cells #[.int .i64 0] 3)) P #[.int .u64 (hiOf a), .int .u64 (loOf a), .int .i64 l] 51 ∧ Below w.heap.size w (v8.alloc (.cells #[.int .i64 0] 3))) := by
      have hb := (Below.refl v8.heap.size v8).alloc (Nat.le_refl _) (.cells #[.int .i64 0] 3)
      exact ⟨Blk.new _ _ 3, HP7.out.2.1.below hb, bst HP7.out.2.2 hb⟩
    clear CC HP7
    gi_upto_region 16 with fail
    generalize (v8.alloc _) = v9 at HP8 ⊢
    generalize v8.heap.size = C at *
    gi_wp2_with fail
    refine ⟨trivial, no_depth _, ?_⟩
    refine (CAl.out _).mono ?_
    rintro e v10 ⟨D, D2, rfl, hh⟩
    have HP10 : Hid (Blk v10 C #[.int .i64 0] 3 ∧ Blk v10 P #[.int .u64 (hiOf a), .int .u64 (loOf a), .int .i64 l] 51 ∧ Below w.heap.size w v10 ∧ Blk v10 D #[.pointer none] 24) := ⟨HP8.out.1.below hh.out.2, HP8.out.2.1.below hh.out.2, bst HP8.out.2.2 hh.out.2, hh.out.1⟩
    clear hh CAl HP8
    have p0 := HP10.out.2.1.cell 0 (v := .int .u64 (hiOf a)) rfl
    have p1 := HP10.out.2.1.cell 1 (v := .int .u64 (loOf a)) rfl
    have p2 := HP10.out.2.1.cell 2 (v := .int .i64 l) rfl
    gi_wp2_with fail
    refine ⟨trivial, no_depth _, ?_⟩
    refine (CU.out _).mono ?_
    rintro e v11 ⟨E, E2, rfl, hh⟩
    have HP11 : Hid (Blk v11 C #[.int .i64 0] 3 ∧ Below w.heap.size w v11 ∧ Blk v11 D #[.pointer none] 24 ∧ Blk v11 E #[.pointer none] 24) := ⟨HP10.out.1.below hh.out.2, bst HP10.out.2.2.1 hh.out.2, HP10.out.2.2.2.below hh.out.2, hh.out.1⟩
    clear hh CU HP10 p0 p1 p2
    have hfn1 := fn_nil48 48 #[.pointer (some ⟨D, 0, none⟩), .pointer (some ⟨D2, 0, none⟩)]
    have hfn2 := fn_nil48 48 #[.pointer (some ⟨E, 0, none⟩), .pointer (some ⟨E2, 0, none⟩)]
    gi_wp2_with fail
    have lC := HP11.out.1.lt
    refine range_outer (gf := 48) (lb := #[.pointer (some ⟨D, 0, none⟩), .pointer (some ⟨D2, 0, none⟩)]) (encs := fun x : Unit => #[Value.agg #[.int .u64 0, .int .u64 0, .int .i64 0], Value.int .i64 0]) (xs := []) (S := fun _ => False) rfl (enters_of Try.func48 (by kernel_rfl) rfl)
      (fun k e => e.elim) (under_tells_nil _ v11 D D2 HP11.out.2.2.1 _) (Below.refl _ _) (fun _ => rfl)
      (fun _ W' => Kept (fun _ => False) v11 W') (fun _ _ _ => False) (low_kept _ _ _ (Nat.le_refl _)) (fun c => low_pure _ _) (Kept.refl _ _) ?_ ?_ ?_
    rotate_left 2
    · rintro c pre2 W' _ hf
      exact hf.elim
    · rintro l' pre x W' K _ _ _ hpre
      have := hpre.length_le
      simp at this
    rintro V hK hks hD1
    have HP12 : Hid (Blk V C #[.int .i64 0] 3 ∧ Below w.heap.size w V ∧ Blk V E #[.pointer none] 24 ∧ V.heap[v11.heap.size]? = some (.deferred (some []))) := ⟨HP11.out.1.kept hK id, HP11.out.2.1.trans (hK.below HP11.out.2.1.size (fun k e => e.elim)), HP11.out.2.2.2.kept hK id, hD1⟩
    have l11 : v11.heap.size < V.heap.size := (Array.getElem?_eq_some_iff.1 hD1).1
    have lo11 : w.heap.size ≤ v11.heap.size := HP11.out.2.1.size
    clear hK hks hD1 HP11
    gi_wp2_with fail
    refine range_outer (gf := 48) (lb := #[.pointer (some ⟨E, 0, none⟩), .pointer (some ⟨E2, 0, none⟩)]) (encs := fun x : Unit => #[Value.agg #[.int .u64 0, .int .u64 0, .int .i64 0], Value.int .i64 0]) (xs := []) (S := fun _ => False) rfl (enters_of Try.func48 (by kernel_rfl) rfl)
      (fun k e => e.elim) (under_tells_nil _ V E E2 HP12.out.2.2.1 _) (Below.refl _ _) (fun _ => rfl)
      (fun _ W' => Kept (fun _ => False) V W') (fun _ _ _ => False) (low_kept _ _ _ (Nat.le_refl _)) (fun c => low_pure _ _) (Kept.refl _ _) ?_ ?_ ?_
    rotate_left 2
    · rintro c pre2 W' _ hf
      exact hf.elim
    · rintro l' pre x W' K _ _ _ hpre
      have := hpre.length_le
      simp at this
    rintro U hK hks hD2
    have HP13 : Hid (Blk U C #[.int .i64 0] 3 ∧ Below w.heap.size w U ∧ U.heap[v11.heap.size]? = some (.deferred (some [])) ∧ U.heap[V.heap.size]? = some (.deferred (some []))) := ⟨HP12.out.1.kept hK id, HP12.out.2.1.trans (hK.below HP12.out.2.1.size (fun k e => e.elim)), (hK.block _ l11 id).trans HP12.out.2.2.2, hD2⟩
    have lV : V.heap.size < U.heap.size := (Array.getElem?_eq_some_iff.1 hD2).1
    have c0 := HP13.out.1.cell 0 (v := .int .i64 0) rfl
    have hne : v11.heap.size ≠ V.heap.size := by omega
    have hsV : w.heap.size ≤ V.heap.size := HP12.out.2.1.size
    clear hK hks hD2 HP12 hfn1 hfn2
    gi_wp2_with fail
    refine ⟨trivial, no_depth _, ?_⟩
    refine (CY.out _).mono ?_
    rintro e U1 ⟨rfl, rfl⟩
    gi_wp2_with fail
    refine ⟨trivial, no_depth _, ?_⟩
    refine (CL.out _).mono ?_
    rintro e U2 ⟨rfl, rfl⟩
    gi_wp2_with fail
    refine ⟨trivial, no_depth _, ?_⟩
    refine (CN.out _).mono ?_
    rintro e U3 ⟨rfl, rfl⟩
    clear CY CL CN
    gi_wp2_with fail
    refine ⟨by simp, .inl ⟨_, _, rfl, run_takeDeferred HP13.out.2.2.2, ?_⟩⟩
    refine ⟨by simp, .inl ⟨_, _, rfl, run_takeDeferred ((World.putObj_heap_other hne).trans HP13.out.2.2.1), ?_⟩⟩
    have hkk := (kept_putObj (fun k => w.heap.size ≤ k) U3 V.heap.size (.deferred none) hsV).trans (kept_putObj (fun k => w.heap.size ≤ k) _ v11.heap.size (.deferred none) lo11)
    refine ⟨.bool true, ?_, rfl, HP13.out.2.1.trans (hkk.below HP13.out.2.1.size (fun k e => e))⟩
    simp [results, Try.results8, go_sem])
end Go.Proofs.Ytgdpplipahhffaa
