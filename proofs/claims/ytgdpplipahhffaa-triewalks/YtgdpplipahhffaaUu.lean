/- Package trie: under. -/
import Derived.Test.YtgdpplipahhffaaWy
namespace Go.Proofs.Ytgdpplipahhffaa
open Go.RowKit
set_option linter.unusedVariables false
set_option linter.unusedSimpArgs false

theorem eq_nil82 (a : Addr) (w : World) : (binOp .eql 82 (.pointer (some a)) (.pointer none)).run Try.prog w = .ok (.bool false) w := by kernel_rfl
set_option maxHeartbeats 4000000 in
set_option maxRecDepth 100000 in
theorem under51 {W : Nat} (h1 : 1 ≤ W) (h2 : W ≤ 128) {p : List Bool} (hp : p.length ≤ W) (q : Nat) (w : World) (cnt most : Value) (a : Option Nat) (hq : Blk w q #[.int .i64 W, most, cnt, pt a] 84) {n0 : Nat} {N : List (Nd Int)} (hH : HangI W w n0 a N) :
    Calls Try.prog 51 #[.pointer (some ⟨q, 0, none⟩), Pf (valOf W p) p.length] w fun e w' => ∃ a', e = .returned (pt a') ∧ Hid ((∃ n', HangI W w' n' a' (undN p N)) ∧ Below w.heap.size w w') := by
  have HB : Hid _ := one_new w #[.int .u64 (hiOf (valOf W p)), .int .u64 (loOf (valOf W p)), .int .i64 p.length] 51
  have HH : Hid (HangI W w n0 a N) := hH
  have C70 : Hid (∀ c : List Bool, c.length ≤ W → ∀ w1, Calls Try.prog 70 #[Pf (valOf W p) p.length, Pf (valOf W c) c.length, .int .i64 W] w1 fun e w' => e = .returned (.bool (decide (p <+: c))) ∧ Below w1.heap.size w1 w') := fun c hc w1 => begins_any h1 h2 hp hc w1
  have C69 : Hid (∀ k : Nat, ∀ w1, Calls Try.prog 69 #[B (valOf W p), .int .i64 W, .int .i64 k] w1 fun e w' => e = .returned (.int .i64 (if p[k]?.getD false = true then 1 else 0)) ∧ Below w1.heap.size w1 w') := fun k w1 => by
    have := side_any h1 h2 hp k w1
    unfold sideN at this
    cases hb : p[k]?.getD false <;> rw [hb] at this <;> exact this
  obtain ⟨A, hA⟩ : ∃ A : Option Addr, A = a.map fun b => ⟨b, 0, none⟩ := ⟨_, rfl⟩
  have HA : Hid (A = a.map fun b => (⟨b, 0, none⟩ : Addr)) := hA
  have HQA : Hid (Blk w q #[.int .i64 W, most, cnt, .pointer A] 84) := by rw [hA]; exact hq
  clear hA hq hH
  go_enter Try.func51, Try.ntmps51
  go_upto_region 1 with fail
  generalize (w.alloc _) = w1 at HB ⊢
  have q3 := (HQA.out.below HB.out.2.1).cell 3 (v := .pointer A) rfl
  go_wp2_with fail
  go_loopw [5] (fun t wr => ∃ a' n' N', t = pt a' ∧ Hid (HangI W wr n' a' N' ∧ undN p N' = undN p N ∧ Below w1.heap.size w1 wr)) (fun t wr => msr W t wr)
  case atStart => exact ⟨a, n0, N, by rw [HA.out], HH.out.below HB.out.2.1, rfl, Below.refl _ _⟩
  case round =>
    obtain ⟨a', n', N', rfl, HR⟩ := hrel
    have HW : Hid (Blk wr q #[.int .i64 W, most, cnt, .pointer A] 84 ∧ Blk wr w.heap.size #[.int .u64 (hiOf (valOf W p)), .int .u64 (loOf (valOf W p)), .int .i64 p.length] 51 ∧ Below w.heap.size w wr) := ⟨(HQA.out.below HB.out.2.1).below HR.out.2.2, HB.out.1.below HR.out.2.2, HB.out.2.1.trans (HR.out.2.2.mono HB.out.2.1.size)⟩
    have y0 := two_cells HW.out.2.1 (i := 0) (v := .int .u64 (hiOf (valOf W p))) rfl
    have y1 := two_cells HW.out.2.1 (i := 1) (v := .int .u64 (loOf (valOf W p))) rfl
    have y2 := two_cells HW.out.2.1 (i := 2) (v := .int .i64 p.length) rfl
    have z0 := two_cells HW.out.1 (i := 0) (v := .int .i64 W) rfl
    have fin : Hid (∀ z : Grown wr, Below w.heap.size w (gw z)) := fun z => HW.out.2.2.trans ((gw_below z).mono HW.out.2.2.size)
    cases a' with
    | none =>
      rw [show pt none = Value.pointer none from rfl]
      have HE : Hid (undN p N = []) := by
        obtain ⟨g1, g2, g3⟩ := HR.out
        rw [g1.of_none] at g2
        rw [← g2]; rfl
      clear HR HH C70 C69 HW
      go_upto_region 2 with fail
      refine region_grows (by kernel_rfl) (by kernel_rfl) ?_
      repeat (go_big_quiet_step (fail))
      refine wpQuiet_nil ?_
      intro wq hwq
      obtain ⟨zq, rfl⟩ := hwq
      have fin2 : Hid (Below w.heap.size w (gw zq)) := fin.out zq
      clear fin y0 y1 y2 z0
      generalize gw zq = wA at *
      go_wp2_with fail
      refine region_grows (by kernel_rfl) (by kernel_rfl) ?_
      repeat (go_big_quiet_step (fail))
      refine wpQuiet_nil ?_
      intro wq hwq
      obtain ⟨zq2, rfl⟩ := hwq
      have HF : Hid ((∃ n', HangI W (gw zq2) n' none (undN p N)) ∧ Below w.heap.size w (gw zq2)) := ⟨⟨0, by rw [HE.out]; exact Hang.nil 0⟩, fin2.out.trans ((gw_below zq2).mono fin2.out.size)⟩
      clear fin2 HE
      go_wp2_with fail
      go_ret
      exact ⟨none, rfl, HF⟩
    | some b =>
      rw [show pt (some b) = Value.pointer (some ⟨b, 0, none⟩) from rfl]
      obtain ⟨m, x, a0, a1, N0, N1, hn', hbx, hN', hR, hf⟩ := HR.out.1.root
      subst hbx
      have HX : Hid (RootI W wr m x a0 a1 N0 N1 ∧ N' = x :: (N0 ++ N1) ∧ (x.th = none → N0 ≠ [] ∧ N1 ≠ [])) := ⟨hR, hN', hf⟩
      have hl := hR.node.len
      obtain ⟨A3, hA3⟩ : ∃ A : Option Addr, A = (x.th.map (·.1)).map fun b => ⟨b, 0, none⟩ := ⟨_, rfl⟩
      obtain ⟨A4, hA4⟩ : ∃ A : Option Addr, A = a0.map fun b => ⟨b, 0, none⟩ := ⟨_, rfl⟩
      obtain ⟨A5, hA5⟩ : ∃ A : Option Addr, A = a1.map fun b => ⟨b, 0, none⟩ := ⟨_, rfl⟩
      have HXA : Hid (A4 = (a0.map fun b => (⟨b, 0, none⟩ : Addr)) ∧ A5 = (a1.map fun b => (⟨b, 0, none⟩ : Addr))) := ⟨hA4, hA5⟩
      have xb0 : Blk wr x.blk #[.int .u64 (hiOf (valOf W x.key)), .int .u64 (loOf (valOf W x.key)), .int .i64 x.key.length, .pointer A3, .pointer A4, .pointer A5] 98 := by rw [hA3, hA4, hA5]; exact hR.node.cells
      have x0 := two_cells xb0 (i := 0) (v := .int .u64 (hiOf (valOf W x.key))) rfl
      have x1 := two_cells xb0 (i := 1) (v := .int .u64 (loOf (valOf W x.key))) rfl
      have x2 := two_cells xb0 (i := 2) (v := .int .i64 x.key.length) rfl
      have x4 := two_cells xb0 (i := 4) (v := .pointer A4) rfl
      have x5 := two_cells xb0 (i := 5) (v := .pointer A5) rfl
      have hms : msr W (.pointer (some ⟨x.blk, 0, none⟩)) wr = W + 1 - x.key.length := msr_at (xb0.cell 2 rfl)
      have nn := ne_nil82 ⟨x.blk, 0, none⟩
      clear hA3 hA4 hA5 hf hN' hR hn' HH
      by_cases hx : x.key.length < p.length
      · have C2 : Hid (∀ w1, Calls Try.prog 69 #[B (valOf W p), .int .i64 W, .int .i64 x.key.length] w1 fun e w' => e = .returned (.int .i64 (if p[x.key.length]?.getD false = true then 1 else 0)) ∧ Below w1.heap.size w1 w') := C69.out x.key.length
        have HN : Hid (∀ w9, Below wr.heap.size wr w9 → ∀ (bit : Bool), p[x.key.length]?.getD false = bit → Hid (HangI W w9 m (if bit then a1 else a0) (if bit then N1 else N0) ∧ undN p (if bit then N1 else N0) = undN p N ∧ Below w1.heap.size w1 w9) ∧ msr W (pt (if bit then a1 else a0)) w9 < W + 1 - x.key.length) := fun w9 h9 bit hbit => by
          have e2 := HR.out.2.1
          rw [HX.out.2.1, und_off HX.out.1 hx, hbit] at e2
          have hh : HangI W w9 m (if bit then a1 else a0) (if bit then N1 else N0) := by
            cases bit
            · exact HX.out.1.h0.below h9
            · exact HX.out.1.h1.below h9
          refine ⟨(⟨hh, e2, HR.out.2.2.trans (h9.mono HR.out.2.2.size)⟩ : _ ∧ _), ?_⟩
          have hpr : ∀ y ∈ (if bit then N1 else N0), x.key ++ [bit] <+: y.key := by
            cases bit
            · exact HX.out.1.pre0
            · exact HX.out.1.pre1
          generalize (if bit = true then a1 else a0) = ac at *
          generalize (if bit = true then N1 else N0) = Nc at *
          cases ac with
          | none => show 0 < _; omega
          | some c =>
            obtain ⟨m2, y, b0, b1, M0, M1, _, rfl, rfl, hR2, _⟩ := hh.root
            rw [show pt (some y.blk) = Value.pointer (some ⟨y.blk, 0, none⟩) from rfl, msr_at (hR2.node.cells.cell 2 rfl)]
            have := (hpr y (by simp)).length_le
            simp at this
            have := hR2.node.len
            omega
        have hx' : (x.key.length : Int) < p.length := by omega
        obtain ⟨bit, hbit⟩ : ∃ bit, p[x.key.length]?.getD false = bit := ⟨_, rfl⟩
        have HBit : Hid (p[x.key.length]?.getD false = bit) := hbit
        rw [hbit] at C2
        clear C69 C70 HX HR fin hbit
        go_upto_region 2 with fail
        refine region_grows (by kernel_rfl) (by kernel_rfl) ?_
        repeat (go_big_quiet_step (fail))
        refine wpQuiet_nil ?_
        intro wq hwq
        obtain ⟨zq, rfl⟩ := hwq
        have HN2 : Hid (∀ w9, Below (gw zq).heap.size (gw zq) w9 → Hid (HangI W w9 m (if bit then a1 else a0) (if bit then N1 else N0) ∧ undN p (if bit then N1 else N0) = undN p N ∧ Below w1.heap.size w1 w9) ∧ msr W (pt (if bit then a1 else a0)) w9 < W + 1 - x.key.length) := fun w9 h9 => HN.out w9 (bst (gw_below zq) h9) bit HBit.out
        have g0 := two_cells (HW.out.1.below (gw_below zq)) (i := 0) (v := .int .i64 W) rfl
        have g1 := two_cells (HW.out.2.1.below (gw_below zq)) (i := 0) (v := .int .u64 (hiOf (valOf W p))) rfl
        have g2 := two_cells (HW.out.2.1.below (gw_below zq)) (i := 1) (v := .int .u64 (loOf (valOf W p))) rfl
        have g3 := two_cells (xb0.below (gw_below zq)) (i := 2) (v := .int .i64 x.key.length) rfl
        have g4 := two_cells (xb0.below (gw_below zq)) (i := 4) (v := .pointer A4) rfl
        have g5 := two_cells (xb0.below (gw_below zq)) (i := 5) (v := .pointer A5) rfl
        clear x0 x1 x2 x4 x5 y0 y1 y2 z0 HN xb0
        generalize gw zq = wA at *
        go_wp2_with fail
        cases bit
        all_goals
          refine region_grows (by kernel_rfl) (by kernel_rfl) ?_
          repeat (go_big_quiet_step ((go_at_call 69; exact calls_gw (C2.out _))))
          refine wpQuiet_nil ?_
          intro wq hwq
          obtain ⟨zq2, rfl⟩ := hwq
          obtain ⟨H2, hm2⟩ := HN2.out (gw zq2) (gw_below zq2)
          have HM2 : Hid (msr W _ (gw zq2) < W + 1 - x.key.length) := hm2
          clear g0 g1 g2 g3 g4 g5 hm2 HN2
          go_wp2_with fail
          go_roundw
          case rel => exact ⟨_, m, _, by first | rw [HXA.out.1]; rfl | rw [HXA.out.2]; rfl, H2⟩
          case measure => rw [hms]; first | (rw [HXA.out.1]; exact HM2.out) | (rw [HXA.out.2]; exact HM2.out)
      · have hx' : ¬ (x.key.length : Int) < p.length := by omega
        have hx2 : decide ((x.key.length : Int) < p.length) = false := decide_eq_false hx'
        have HB2 : Hid (undN p N = if p <+: x.key then N' else []) := by
          rw [← HR.out.2.1, HX.out.2.1]
          exact und_on HX.out.1 (by omega)
        have HH' : Hid (∀ w9, Below wr.heap.size wr w9 → HangI W w9 n' (some x.blk) N') := fun w9 h9 => HR.out.1.below h9
        have C2 : Hid (∀ w1, Calls Try.prog 70 #[Pf (valOf W p) p.length, Pf (valOf W x.key) x.key.length, .int .i64 W] w1 fun e w' => e = .returned (.bool (decide (p <+: x.key))) ∧ Below w1.heap.size w1 w') := C70.out x.key hl
        clear C69 C70 HX HR
        go_upto_region 2 with fail
        refine region_grows (by kernel_rfl) (by kernel_rfl) ?_
        repeat (go_big_quiet_step (fail))
        refine wpQuiet_nil ?_
        intro wq hwq
        obtain ⟨zq, rfl⟩ := hwq
        have HN2 : Hid (∀ w9, Below (gw zq).heap.size (gw zq) w9 → HangI W w9 n' (some x.blk) N' ∧ Below w.heap.size w w9) := fun w9 h9 => ⟨HH'.out w9 (bst (gw_below zq) h9), (fin.out zq).trans (h9.mono (fin.out zq).size)⟩
        have g0 := two_cells (HW.out.1.below (gw_below zq)) (i := 0) (v := .int .i64 W) rfl
        have g1 := two_cells (HW.out.2.1.below (gw_below zq)) (i := 0) (v := .int .u64 (hiOf (valOf W p))) rfl
        have g2 := two_cells (HW.out.2.1.below (gw_below zq)) (i := 1) (v := .int .u64 (loOf (valOf W p))) rfl
        have g6 := two_cells (HW.out.2.1.below (gw_below zq)) (i := 2) (v := .int .i64 p.length) rfl
        have g3 := two_cells (xb0.below (gw_below zq)) (i := 2) (v := .int .i64 x.key.length) rfl
        have g4 := two_cells (xb0.below (gw_below zq)) (i := 0) (v := .int .u64 (hiOf (valOf W x.key))) rfl
        have g5 := two_cells (xb0.below (gw_below zq)) (i := 1) (v := .int .u64 (loOf (valOf W x.key))) rfl
        have nn2 := eq_nil82 ⟨x.blk, 0, none⟩
        clear x0 x1 x2 x4 x5 y0 y1 y2 z0 HH' xb0 fin
        generalize gw zq = wA at *
        go_wp2_with fail
        by_cases hpk : p <+: x.key
        · rw [decide_eq_true hpk] at C2
          rw [if_pos hpk] at HB2
          clear hpk
          refine region_grows (by kernel_rfl) (by kernel_rfl) ?_
          repeat (go_big_quiet_step ((go_at_call 70; exact calls_gw (C2.out _))))
          refine wpQuiet_nil ?_
          intro wq hwq
          obtain ⟨zq2, rfl⟩ := hwq
          have HF : Hid ((∃ n', HangI W (gw zq2) n' (some x.blk) (undN p N)) ∧ Below w.heap.size w (gw zq2)) := by
            have := HN2.out (gw zq2) (gw_below zq2)
            exact ⟨⟨n', by rw [HB2.out]; exact this.1⟩, this.2⟩
          clear g0 g1 g2 g3 g4 g5 g6 HN2 HB2 C2
          go_wp2_with fail
          go_ret
          exact ⟨some x.blk, rfl, HF⟩
        · rw [decide_eq_false hpk] at C2
          rw [if_neg hpk] at HB2
          clear hpk
          refine region_grows (by kernel_rfl) (by kernel_rfl) ?_
          repeat (go_big_quiet_step ((go_at_call 70; exact calls_gw (C2.out _))))
          refine wpQuiet_nil ?_
          intro wq hwq
          obtain ⟨zq2, rfl⟩ := hwq
          have HF : Hid ((∃ n', HangI W (gw zq2) n' none (undN p N)) ∧ Below w.heap.size w (gw zq2)) := by
            have := HN2.out (gw zq2) (gw_below zq2)
            exact ⟨⟨0, by rw [HB2.out]; exact Hang.nil 0⟩, this.2⟩
          clear g0 g1 g2 g3 g4 g5 g6 HN2 HB2 C2
          go_wp2_with fail
          go_ret
          exact ⟨none, rfl, HF⟩
end Go.Proofs.Ytgdpplipahhffaa
