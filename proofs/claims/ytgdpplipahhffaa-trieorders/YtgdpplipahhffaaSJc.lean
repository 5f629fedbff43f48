/- Package trie: way, told to rounds that keep rows of their own. At string. Package trie: each: a tree's nodes, one behind the other. At string. Package trie: each, to rounds that keep rows of their own. At string. Package trie: each's iterator, to rounds that keep rows of their own. At string. Package trie: Under's iterator. At string. Package trie: Nodes. At string. -/
import Derived.Test.YtgdpplipahhffaaSJb
import Derived.Test.YtgdpplipahhffaaRg
import Derived.Test.YtgdpplipahhffaaFi
import Derived.Test.YtgdpplipahhffaaSJa
import Derived.Test.YtgdpplipahhffaaTt
import Derived.Laws.EntriesVeiled
import Derived.Test.YtgdpplipahhffaaGt
namespace Go.Proofs.Ytgdpplipahhffaa.St
open Go.RowKit
set_option linter.unusedVariables false
set_option linter.unusedSimpArgs false

set_option maxHeartbeats 4000000 in
set_option maxRecDepth 100000 in
/-- The walk itself, over what a round may touch. -/
theorem way_core {W : Nat} (h1 : 1 ≤ W) (h2 : W ≤ 128) {p : List Bool} (hp : p.length ≤ W) (q : Nat) (w1 : World) (cnt most : Value) (a : Option Nat) (hq : Blk w1 q #[.int .i64 W, most, cnt, pt a] 108) {n0 : Nat} {N : List (Nd ByteArray)} (hH : Hang 129 9 encV W w1 n0 a N)
    (bt bp : Nat) (hbt : Blk w1 bt #[.pointer (some ⟨q, 0, none⟩)] 70) (hbp : Blk w1 bp #[.int .u64 (hiOf (valOf W p)), .int .u64 (loOf (valOf W p)), .int .i64 p.length] 51) (S : Nat → Prop) (hSq : ¬ S q) (hSt : ¬ S bt) (hSp : ¬ S bp) (hSN : Off S N)
    (n l : Nat) (J Jx : List (Nd ByteArray) → World → Prop) (hJ : ∀ s A C, Below A.heap.size A C → J s A → J s C)
    (hY : ∀ (pre : List (Nd ByteArray)) x W1, pre ++ [x] <+: wayN p N → J pre W1 → YieldAt Fence.wide (n - 1) Try.prog l #[Value.pointer (some ⟨x.blk, 0, none⟩)] W1 fun e W' => (e = .returned (.bool true) ∧ J (pre ++ [x]) W' ∧ Kept S W1 W') ∨ (e = .returned (.bool false) ∧ Jx (pre ++ [x]) W' ∧ Kept (fun k => S k ∨ k = l) W1 W'))
    (h0 : J [] w1) :
    CallsIn Fence.wide n Try.prog 89 #[.func (.yield l) #[] #[], .pointer (some ⟨bt, 0, none⟩), .pointer (some ⟨bp, 0, none⟩)] w1 fun e W' => (∃ v, e = .returned v) ∧ (J (wayN p N) W' ∨ ∃ pre, pre <+: wayN p N ∧ Jx pre W') := by
  have HQ : Hid (Blk w1 q #[.int .i64 W, most, cnt, pt a] 108) := hq
  have HT : Hid (Blk w1 bt #[.pointer (some ⟨q, 0, none⟩)] 70) := hbt
  have HP : Hid (Blk w1 bp #[.int .u64 (hiOf (valOf W p)), .int .u64 (loOf (valOf W p)), .int .i64 p.length] 51) := hbp
  have HH : Hid (Hang 129 9 encV W w1 n0 a N) := hH
  have HS : Hid (¬ S q ∧ ¬ S bt ∧ ¬ S bp) := ⟨hSq, hSt, hSp⟩
  have HO : Hid (Off S N) := hSN
  have HY : Hid (∀ (pre : List (Nd ByteArray)) x W1, pre ++ [x] <+: wayN p N → J pre W1 → YieldAt Fence.wide (n - 1) Try.prog l #[Value.pointer (some ⟨x.blk, 0, none⟩)] W1 fun e W' => (e = .returned (.bool true) ∧ J (pre ++ [x]) W' ∧ Kept S W1 W') ∨ (e = .returned (.bool false) ∧ Jx (pre ++ [x]) W' ∧ Kept (fun k => S k ∨ k = l) W1 W')) := hY
  have HJ : Hid (∀ s A C, Below A.heap.size A C → J s A → J s C) := hJ
  have H0 : Hid (J [] w1) := h0
  have t0 := HT.out.cell 0 (v := .pointer (some ⟨q, 0, none⟩)) rfl
  have C70 : Hid (∀ c : List Bool, c.length ≤ W → ∀ w1, CallsIn Fence.wide (n - 1) Try.prog 70 #[Pf (valOf W c) c.length, Pf (valOf W p) p.length, .int .i64 W] w1 fun e w' => e = .returned (.bool (decide (c <+: p))) ∧ Below w1.heap.size w1 w') := fun c hc w1 => callsIn_wide.2 (begins_any h1 h2 hc hp w1)
  have C69 : Hid (∀ k : Nat, ∀ w1, CallsIn Fence.wide (n - 1) Try.prog 69 #[B (valOf W p), .int .i64 W, .int .i64 k] w1 fun e w' => e = .returned (.int .i64 (if p[k]?.getD false = true then 1 else 0)) ∧ Below w1.heap.size w1 w') := fun k w1 => callsIn_wide.2 (by
    have := side_any h1 h2 hp k w1
    unfold sideN at this
    cases hb : p[k]?.getD false <;> rw [hb] at this <;> exact this)
  obtain ⟨A, hA⟩ : ∃ A : Option Addr, A = a.map fun b => ⟨b, 0, none⟩ := ⟨_, rfl⟩
  have HA : Hid (A = a.map fun b => (⟨b, 0, none⟩ : Addr)) := hA
  have HQA : Hid (Blk w1 q #[.int .i64 W, most, cnt, .pointer A] 108) := by rw [hA]; exact HQ.out
  have q3 := HQA.out.cell 3 (v := .pointer A) rfl
  clear hA hq hH hbt hbp hSq hSt hSp hSN hJ hY h0 HQ
  refine callsIn_of_wp Try.func89 rfl trivial ?_ rfl
  simp only [Try.ntmps89, List.size_toArray, List.length_cons, List.length_nil, Nat.reduceAdd, Nat.reduceSub, Array.replicate_succ, Array.replicate_zero, List.push_toArray, List.append_toArray, List.nil_append, List.cons_append]
  gi_wp2
  gi_loopw [4] (fun t wr => ∃ a' n' N' pre, t = pt a' ∧ Hid (Hang 129 9 encV W wr n' a' N' ∧ Off S N' ∧ pre ++ wayN p N' = wayN p N ∧ J pre wr ∧ Kept S w1 wr)) (fun t wr => msr W t wr)
  case atStart => exact ⟨a, n0, N, [], by rw [HA.out], HH.out, HO.out, rfl, H0.out, Kept.refl _ _⟩
  case round =>
    obtain ⟨a', n', N', pre, rfl, HR⟩ := hrel
    cases a' with
    | none =>
      rw [show pt none = Value.pointer none from rfl]
      have HF : Hid (J (wayN p N) wr) := by
        obtain ⟨g1, g2, g3, g4, g5⟩ := HR.out
        rw [g1.of_none] at g3
        have e : pre = wayN p N := by rw [← g3]; exact (List.append_nil _).symm
        rw [← e]; exact g4
      clear HR H0 HH HO C70 C69
      have hmix : Try.prog.follows .mixedOrders = true := by kernel_rfl
      gi_wp2_with fail
      refine grows_wide hmix (by kernel_rfl) ?_
      repeat (gi_big_quiet_step (fail))
      refine Go.BigFrame.wpQuietIn_skip (fun _ _ _ _ => trivial) (by rfl) ?_
      go_simp
      repeat (gi_big_quiet_step (fail))
      refine Go.BigFrame.wpQuietIn_skip (fun _ _ _ _ => trivial) (by rfl) ?_
      go_simp
      repeat (gi_big_quiet_step (fail))
      refine wpQuietIn_nil ?_
      intro zq
      have HF2 : Hid (J (wayN p N) (gw zq)) := HJ.out _ _ _ (gw_below zq) HF.out
      gi_wp2_with fail
      go_end0
      exact ⟨⟨_, rfl⟩, .inl HF2.out⟩
    | some b =>
      rw [show pt (some b) = Value.pointer (some ⟨b, 0, none⟩) from rfl]
      obtain ⟨m, x, a0, a1, N0, N1, hn', hbx, hN', hR, hf⟩ := HR.out.1.root
      subst hbx
      have HX : Hid (Root 129 9 encV W wr m x a0 a1 N0 N1 ∧ Off S N' ∧ N' = x :: (N0 ++ N1) ∧ pre ++ wayN p N' = wayN p N ∧ J pre wr ∧ Kept S w1 wr) := ⟨hR, HR.out.2.1, hN', HR.out.2.2.1, HR.out.2.2.2.1, HR.out.2.2.2.2⟩
      have hl := hR.node.len
      obtain ⟨A3, hA3⟩ : ∃ A : Option Addr, A = (x.th.map (·.1)).map fun b => ⟨b, 0, none⟩ := ⟨_, rfl⟩
      obtain ⟨A4, hA4⟩ : ∃ A : Option Addr, A = a0.map fun b => ⟨b, 0, none⟩ := ⟨_, rfl⟩
      obtain ⟨A5, hA5⟩ : ∃ A : Option Addr, A = a1.map fun b => ⟨b, 0, none⟩ := ⟨_, rfl⟩
      have HXA : Hid (A4 = (a0.map fun b => (⟨b, 0, none⟩ : Addr)) ∧ A5 = (a1.map fun b => (⟨b, 0, none⟩ : Addr))) := ⟨hA4, hA5⟩
      have xb0 : Blk wr x.blk #[.int .u64 (hiOf (valOf W x.key)), .int .u64 (loOf (valOf W x.key)), .int .i64 x.key.length, .pointer A3, .pointer A4, .pointer A5] 129 := by rw [hA3, hA4, hA5]; exact hR.node.cells
      have HXB : Hid (Blk wr x.blk #[.int .u64 (hiOf (valOf W x.key)), .int .u64 (loOf (valOf W x.key)), .int .i64 x.key.length, .pointer A3, .pointer A4, .pointer A5] 129) := xb0
      have HW : Hid (Blk wr q #[.int .i64 W, most, cnt, .pointer A] 108 ∧ Blk wr bt #[.pointer (some ⟨q, 0, none⟩)] 70 ∧ Blk wr bp #[.int .u64 (hiOf (valOf W p)), .int .u64 (loOf (valOf W p)), .int .i64 p.length] 51) := ⟨HQA.out.kept HX.out.2.2.2.2.2 HS.out.1, HT.out.kept HX.out.2.2.2.2.2 HS.out.2.1, HP.out.kept HX.out.2.2.2.2.2 HS.out.2.2⟩
      have hmix : Try.prog.follows .mixedOrders = true := by kernel_rfl
      clear hA3 hA4 hA5 xb0 hf hN' hR HR H0 HH q3 t0 hn'
      by_cases hx : x.key <+: p
      · have HE : Hid (pre ++ [x] <+: wayN p N ∧ pre ++ [x] ++ wayN p (if p[x.key.length]?.getD false = true then N1 else N0) = wayN p N) := by
          obtain ⟨g1, g2, g3, g4, g5, g6⟩ := HX.out
          rw [g3, way_on g1 hx] at g4
          have e : pre ++ [x] ++ wayN p (if p[x.key.length]?.getD false = true then N1 else N0) = wayN p N := by rw [← g4]; simp
          exact ⟨⟨_, e⟩, e⟩
        have C1 : Hid (∀ w1, Below wr.heap.size wr w1 → CallsIn Fence.wide (n - 1) Try.prog 70 #[Pf (valOf W x.key) x.key.length, Pf (valOf W p) p.length, .int .i64 W] w1 fun e w' => e = .returned (.bool true) ∧ Below wr.heap.size wr w') := fun w1 hb => by
          have := C70.out x.key hl w1
          rw [decide_eq_true hx] at this
          exact this.mono fun e w' h => ⟨h.1, bst hb h.2⟩
        have CT : Hid (∀ W2, Below wr.heap.size wr W2 → ∃ fn tmps assign body, (Instr.yield l #[.pointer (some ⟨x.blk, 0, none⟩)]).run Try.prog W2 = .ok (.round l fn tmps assign body) W2 ∧ Hid (RoundIn Fence.wide (n - 1) Try.prog l fn tmps assign body W2 fun e w' => ∃ bb : Bool, e = .returned (.bool bb) ∧ Hid ((bb = true → J (pre ++ [x]) w' ∧ Kept S wr w') ∧ (bb = false → Jx (pre ++ [x]) w')))) := fun W2 h2 => by
          obtain ⟨fn, tmps, assign, body, g1, g2⟩ := HY.out pre x W2 HE.out.1 (HJ.out _ _ _ h2 HX.out.2.2.2.2.1)
          refine ⟨fn, tmps, assign, body, g1, g2.mono ?_⟩
          rintro e w' (⟨rfl, hj, hk⟩ | ⟨rfl, hj, hk⟩)
          · exact ⟨true, rfl, (⟨fun _ => ⟨hj, (Kept.of_below h2).trans hk⟩, fun e => (nomatch e)⟩ : _ ∧ _)⟩
          · exact ⟨false, rfl, (⟨fun e => (nomatch e), fun _ => hj⟩ : _ ∧ _)⟩
        have x0 := HXB.out.cell 0 (v := .int .u64 (hiOf (valOf W x.key))) rfl
        have x1 := HXB.out.cell 1 (v := .int .u64 (loOf (valOf W x.key))) rfl
        have x2 := HXB.out.cell 2 (v := .int .i64 x.key.length) rfl
        have y0 := HW.out.2.2.cell 0 (v := .int .u64 (hiOf (valOf W p))) rfl
        have y1 := HW.out.2.2.cell 1 (v := .int .u64 (loOf (valOf W p))) rfl
        have y2 := HW.out.2.2.cell 2 (v := .int .i64 p.length) rfl
        have z0 := HW.out.1.cell 0 (v := .int .i64 W) rfl
        have v0 := HW.out.2.1.cell 0 (v := .pointer (some ⟨q, 0, none⟩)) rfl
        clear hx C70 HA
        gi_wp2_with fail
        gi_cut [27] from 9 (fun t wx => ∃ bb : Bool, t = .bool bb ∧ Hid ((bb = true → J (pre ++ [x]) wx ∧ Kept S wr wx) ∧ (bb = false → Jx (pre ++ [x]) wx)))
        case first =>
          gi_region_with (first
            | (refine ⟨trivial, no_depth _, ?_⟩; gi_at_call 70; refine (C1.out _ (by exact ⟨rfl, rfl, rfl, Nat.le_refl _, fun _ _ => rfl⟩)).mono ?_; rintro e W2 ⟨rfl, hb2⟩; obtain ⟨fn, tmps, assign, body, hyi, HRd⟩ := CT.out W2 hb2)
            | (refine ⟨no_depth _, ?_⟩; refine HRd.out.mono ?_; rintro e w7 ⟨bb, rfl, HM7⟩))
          all_goals (gi_wp2_with fail; go_meet; exact ⟨bb, rfl, HM7⟩)
        case rest =>
          obtain ⟨bb, rfl, HM7⟩ := hcut
          cases bb
          · have HJ7 : Hid (Jx (pre ++ [x]) wc) := HM7.out.2 rfl
            gi_wp2_with fail
            first | go_end0 | refine bodyPost_ret (results_none rfl _ _ _) rfl ?_
            exact ⟨⟨_, rfl⟩, .inr ⟨_, HE.out.1, HJ7.out⟩⟩
          · have HM8 : Hid (J (pre ++ [x]) wc ∧ Kept S wr wc) := HM7.out.1 rfl
            have hxN : x ∈ N' := by rw [HX.out.2.2.1]; simp
            have hkc := HM8.out.2
            have XC : Blk wc x.blk _ 129 := HXB.out.kept hkc (HX.out.2.1 x hxN).1
            have QC : Blk wc q _ 108 := HW.out.1.kept hkc HS.out.1
            have TC : Blk wc bt _ 70 := HW.out.2.1.kept hkc HS.out.2.1
            have PC : Blk wc bp _ 51 := HW.out.2.2.kept hkc HS.out.2.2
            have x2 := two_cells XC (i := 2) (v := .int .i64 x.key.length) rfl
            have x4 := two_cells XC (i := 4) (v := .pointer A4) rfl
            have x5 := two_cells XC (i := 5) (v := .pointer A5) rfl
            have y0 := two_cells PC (i := 0) (v := .int .u64 (hiOf (valOf W p))) rfl
            have y1 := two_cells PC (i := 1) (v := .int .u64 (loOf (valOf W p))) rfl
            have z0 := two_cells QC (i := 0) (v := .int .i64 W) rfl
            have v0 := two_cells TC (i := 0) (v := .pointer (some ⟨q, 0, none⟩)) rfl
            have xc2 : wc.cell? ⟨x.blk, 2, none⟩ = some (.int .i64 x.key.length) := XC.cell 2 rfl
            have hms : msr W (.pointer (some ⟨x.blk, 0, none⟩)) wr = W + 1 - x.key.length := msr_at (HXB.out.cell 2 rfl)
            have C2 : Hid (∀ w1, CallsIn Fence.wide (n - 1) Try.prog 69 #[B (valOf W p), .int .i64 W, .int .i64 x.key.length] w1 fun e w' => e = .returned (.int .i64 (if p[x.key.length]?.getD false = true then 1 else 0)) ∧ Below w1.heap.size w1 w') := C69.out x.key.length
            have HN : Hid (∀ w9, Below wc.heap.size wc w9 → ∀ (bit : Bool), p[x.key.length]?.getD false = bit → ∃ n', Hid (Hang 129 9 encV W w9 n' (if bit then a1 else a0) (if bit then N1 else N0) ∧ Off S (if bit then N1 else N0) ∧ (pre ++ [x]) ++ wayN p (if bit then N1 else N0) = wayN p N ∧ J (pre ++ [x]) w9 ∧ Kept S w1 w9) ∧ msr W (pt (if bit then a1 else a0)) w9 < W + 1 - x.key.length) := fun w9 h9 bit hbit => by
              have hk9 : Kept S wr w9 := hkc.trans (Kept.of_below h9)
              have ho : Off S N' := HX.out.2.1
              have e2 := HE.out.2
              rw [hbit] at e2
              have hh : Hang 129 9 encV W w9 m (if bit then a1 else a0) (if bit then N1 else N0) := by
                cases bit
                · exact HX.out.1.h0.keptW hk9 (fun y hy => ho y (by rw [HX.out.2.2.1]; simp at hy ⊢; exact .inr (.inl hy)))
                · exact HX.out.1.h1.keptW hk9 (fun y hy => ho y (by rw [HX.out.2.2.1]; simp at hy ⊢; exact .inr (.inr hy)))
              refine ⟨m, (⟨hh, fun y hy => ho y (by rw [HX.out.2.2.1]; cases bit <;> simp at hy ⊢ <;> simp [hy]), e2, HJ.out _ _ _ h9 HM8.out.1, HX.out.2.2.2.2.2.trans hk9⟩ : _ ∧ _), ?_⟩
              have hpr : ∀ y ∈ (if bit then N1 else N0), x.key ++ [bit] <+: y.key := by
                cases bit
                · exact HX.out.1.pre0
                · exact HX.out.1.pre1
              generalize (if bit = true then a1 else a0) = ac at *
              generalize (if bit = true then N1 else N0) = Nc at *
              cases ac with
              | none => show 0 < _; omega
              | some c =>
                obtain ⟨m2, y, b0, b1, M0, M1, _, rfl, rfl, hR2, _⟩ := hh.root
                rw [show pt (some y.blk) = Value.pointer (some ⟨y.blk, 0, none⟩) from rfl, msr_at (hR2.node.cells.cell 2 rfl)]
                have := (hpr y (by simp)).length_le
                simp at this
                have := hR2.node.len
                omega
            clear C69 HX HW HXB HM7 HM8 XC QC TC PC hkc hxN
            gi_wp2_with fail
            refine grows_wide hmix (by kernel_rfl) ?_
            repeat (gi_big_quiet_step (fail))
            refine Go.BigFrame.wpQuietIn_want (fun _ _ _ _ => trivial) (by rfl) ?_
            intro K2 hK2
            gi_big_quiet_op
            apply Exists.intro
            refine ⟨fun _ => ?_, ?_⟩
            · exact ⟨no_depth _, calls_gwIn (C2.out _)⟩
            obtain ⟨bit, hbit⟩ : ∃ bit, p[x.key.length]?.getD false = bit := ⟨_, rfl⟩
            have HBit : Hid (p[x.key.length]?.getD false = bit) := hbit
            rw [hbit]
            clear hbit C2
            cases bit
            all_goals
              go_big_quiet_on
              repeat (gi_big_quiet_step (fail))
              refine wpQuietIn_nil ?_
              intro wq hwq
              obtain ⟨zq, rfl⟩ := hwq
              obtain ⟨n2, H2, hm2⟩ := HN.out (gw zq) (gw_below zq) _ HBit.out
              have e4 := HXA.out.1
              have e5 := HXA.out.2
              have HM2 : Hid (msr W _ (gw zq) < W + 1 - x.key.length) := hm2
              have H4 : Hid (A4 = (a0.map fun b => (⟨b, 0, none⟩ : Addr)) ∧ A5 = (a1.map fun b => (⟨b, 0, none⟩ : Addr))) := ⟨e4, e5⟩
              clear e4 e5 hm2 HN
              gi_wp2_with fail
              go_roundw
              case rel => exact ⟨_, n2, _, pre ++ [x], by first | rw [H4.out.1]; rfl | rw [H4.out.2]; rfl, H2⟩
              case measure => rw [hms]; first | (rw [H4.out.1]; exact HM2.out) | (rw [H4.out.2]; exact HM2.out)
      · have HF : Hid (J (wayN p N) wr) := by
          obtain ⟨g1, g2, g3, g4, g5, g6⟩ := HX.out
          rw [g3, way_off g1 hx, List.append_nil] at g4
          rw [← g4]; exact g5
        have C1 : Hid (∀ w1, CallsIn Fence.wide (n - 1) Try.prog 70 #[Pf (valOf W x.key) x.key.length, Pf (valOf W p) p.length, .int .i64 W] w1 fun e w' => e = .returned (.bool false) ∧ Below w1.heap.size w1 w') := fun w1 => by
          have := C70.out x.key hl w1
          rw [decide_eq_false hx] at this; exact this
        have x0 := two_cells HXB.out (i := 0) (v := .int .u64 (hiOf (valOf W x.key))) rfl
        have x1 := two_cells HXB.out (i := 1) (v := .int .u64 (loOf (valOf W x.key))) rfl
        have x2 := two_cells HXB.out (i := 2) (v := .int .i64 x.key.length) rfl
        have y0 := two_cells HW.out.2.2 (i := 0) (v := .int .u64 (hiOf (valOf W p))) rfl
        have y1 := two_cells HW.out.2.2 (i := 1) (v := .int .u64 (loOf (valOf W p))) rfl
        have y2 := two_cells HW.out.2.2 (i := 2) (v := .int .i64 p.length) rfl
        have z0 := two_cells HW.out.1 (i := 0) (v := .int .i64 W) rfl
        have v0 := two_cells HW.out.2.1 (i := 0) (v := .pointer (some ⟨q, 0, none⟩)) rfl
        clear hx HX HW C69 C70 HXB
        gi_wp2_with fail
        refine grows_wide hmix (by kernel_rfl) ?_
        repeat (gi_big_quiet_step (fail))
        refine Go.BigFrame.wpQuietIn_want (fun _ _ _ _ => trivial) (by rfl) ?_
        intro K2 hK2
        gi_big_quiet_op
        apply Exists.intro
        refine ⟨fun _ => ?_, ?_⟩
        · exact ⟨no_depth _, calls_gwIn (C1.out _)⟩
        go_big_quiet_on
        repeat (gi_big_quiet_step (fail))
        refine Go.BigFrame.wpQuietIn_skip (fun _ _ _ _ => trivial) (by rfl) ?_
        go_simp
        repeat (gi_big_quiet_step (fail))
        refine wpQuietIn_nil ?_
        intro zq
        have HF2 : Hid (J (wayN p N) (gw zq)) := HJ.out _ _ _ (gw_below zq) HF.out
        gi_wp2_with fail
        go_end0
        exact ⟨⟨_, rfl⟩, .inl HF2.out⟩

theorem Hang.blks {nt vt : TypeId} {V : Type} {enc : V → Value} {W : Nat} {w : World} {n a} {N : List (Nd V)} (h : Hang nt vt enc W w n a N) : ∀ x ∈ N, x.blk < w.heap.size ∧ ∀ t v, x.th = some (t, v) → t < w.heap.size := fun x hx => by
  obtain ⟨a0, a1, hn⟩ := h.thing x hx
  exact ⟨hn.cells.lt, fun t v ht => (hn.thing t v ht).lt⟩
theorem way_tellsG {W : Nat} (gt : TypeId) (h1 : 1 ≤ W) (h2 : W ≤ 128) {p : List Bool} (hp : p.length ≤ W) (q : Nat) (w : World) (cnt most : Value) (a : Option Nat) (hq : Blk w q #[.int .i64 W, most, cnt, pt a] 108) {n0 : Nat} {N : List (Nd ByteArray)} (hH : Hang 129 9 encV W w n0 a N)
    (bt bp : Nat) (hbt : Blk w bt #[.pointer (some ⟨q, 0, none⟩)] 70) (hbp : Blk w bp #[.int .u64 (hiOf (valOf W p)), .int .u64 (loOf (valOf W p)), .int .i64 p.length] 51) (S : Nat → Prop) (hSq : ¬ S q) (hSt : ¬ S bt) (hSp : ¬ S bp) (hSN : Off S N) :
    TellsG gt Try.prog 89 #[.pointer (some ⟨bt, 0, none⟩), .pointer (some ⟨bp, 0, none⟩)] (fun x : Nd ByteArray => #[Value.pointer (some ⟨x.blk, 0, none⟩)]) (wayN p N) S w := by
  intro n l J Jx w1 hW hl hJ hJx hY h0
  have hs := hW.size
  have l1 := hq.lt
  have l2 := hbt.lt
  have l3 := hbp.lt
  refine way_core h1 h2 hp q w1 cnt most a (hq.below hW) (hH.below hW) bt bp (hbt.below hW) (hbp.below hW) (fun k => S k ∨ w1.heap.size ≤ k) (fun e => e.elim hSq (by omega)) (fun e => e.elim hSt (by omega)) (fun e => e.elim hSp (by omega))
    (fun x hx => ⟨fun e => e.elim (hSN x hx).1 (by have := ((Hang.blks hH) x hx).1; omega), fun t v ht e => e.elim ((hSN x hx).2 t v ht) (by have := ((Hang.blks hH) x hx).2 t v ht; omega)⟩) n l J Jx (fun s A C hb hj => hJ s A C (Kept.of_below hb) hj) (fun pre x W1 a b => ?_) h0
  obtain ⟨fn, tmps, assign, body, g1, g2⟩ := hY pre x W1 a b
  refine ⟨fn, tmps, assign, body, g1, g2.mono ?_⟩
  rintro e W' (⟨rfl, k1, k2⟩ | ⟨rfl, k1, k2⟩)
  · exact .inl ⟨rfl, k1, k2.mono fun k _ e => e.elim .inl fun e => .inr e.1⟩
  · exact .inr ⟨rfl, k1, k2.mono fun k _ e => e.elim (fun e => .inl (e.elim .inl fun e => .inr e.1)) .inr⟩
end Go.Proofs.Ytgdpplipahhffaa.St
namespace Go.Proofs.Ytgdpplipahhffaa.St
open Go.RowKit
set_option linter.unusedVariables false
set_option linter.unusedSimpArgs false

theorem yield_any {m m' : Nat} {P : Program} {l : Nat} {args : Array Value} {W : World} {R : Ending → World → Prop} (h : YieldAt Fence.wide m P l args W R) : YieldAt Fence.wide m' P l args W R := by
  obtain ⟨fn, tmps, assign, body, h1, h2⟩ := h
  exact ⟨fn, tmps, assign, body, h1, h2.1, fun c cs _ => h2.2 c cs (room_wide _)⟩
set_option maxHeartbeats 4000000 in
set_option maxRecDepth 100000 in
theorem walk_tells {W : Nat} (by' bw l : Nat) (M : List (Nd ByteArray)) (S : Nat → Prop) (hSy : ¬ S by') (hSw : ¬ S bw) (w0 : World) (J Jx : List (Nd ByteArray) → World → Prop) (hJ : Low w0.heap.size J)
    (hY : ∀ m pre x W1, pre ++ [x] <+: M → J pre W1 → YieldAt Fence.wide m Try.prog l #[Value.pointer (some ⟨x.blk, 0, none⟩)] W1 fun e W' => (e = .returned (.bool true) ∧ J (pre ++ [x]) W' ∧ Kept S W1 W') ∨ (e = .returned (.bool false) ∧ Jx (pre ++ [x]) W' ∧ Kept (fun k => S k ∨ k = l) W1 W')) :
    ∀ (k m : Nat) (a : Option Nat) (N pre : List (Nd ByteArray)) (w : World), w0.heap.size ≤ w.heap.size → HangI W w k a N → Off S N → pre ++ N <+: M → J pre w → Blk w by' #[.func (.yield l) #[] #[]] 131 → Blk w bw #[.func (.func 78) #[] #[.pointer (some ⟨by', 0, none⟩), .pointer (some ⟨bw, 0, none⟩)]] 131 →
      CallsIn Fence.wide m Try.prog 78 #[pt a, .pointer (some ⟨by', 0, none⟩), .pointer (some ⟨bw, 0, none⟩)] w fun e w' => (e = .returned (.bool true) ∧ Hid (J (pre ++ N) w' ∧ Kept S w w')) ∨ (e = .returned (.bool false) ∧ Hid (∃ q, q <+: M ∧ Jx q w'))
  | k, m, none, N, pre, w, hz, hH, hO, hM, hj, hy, hw => by
    have HJ0 : Hid (∀ z : Grown w, J (pre ++ N) (gw z) ∧ Kept S w (gw z)) := fun z => by
      rw [hH.of_none, List.append_nil]
      exact ⟨hJ _ _ _ (Kept.of_below (gw_below z)) hj, Kept.of_below (gw_below z)⟩
    have hmix : Try.prog.follows .mixedOrders = true := by kernel_rfl
    clear hH hO hM hj hy hw hY
    refine callsIn_of_wp Try.func78 rfl trivial ?_ rfl
    simp only [Try.ntmps78, List.size_toArray, List.length_cons, List.length_nil, Nat.reduceAdd, Nat.reduceSub, Array.replicate_succ, Array.replicate_zero, List.push_toArray, List.append_toArray, List.nil_append, List.cons_append]
    rw [show pt none = Value.pointer none from rfl]
    gi_wp2_with fail
    refine grows_wide hmix (by kernel_rfl) ?_
    repeat (gi_big_quiet_step (fail))
    refine Go.BigFrame.wpQuietIn_skip (fun _ _ _ _ => trivial) (by rfl) ?_
    go_simp
    repeat (gi_big_quiet_step (fail))
    refine Go.BigFrame.wpQuietIn_skip (fun _ _ _ _ => trivial) (by rfl) ?_
    go_simp
    repeat (gi_big_quiet_step (fail))
    refine Go.BigFrame.wpQuietIn_skip (fun _ _ _ _ => trivial) (by rfl) ?_
    go_simp
    repeat (gi_big_quiet_step (fail))
    refine wpQuietIn_nil ?_
    intro zq
    have HF := HJ0.out zq
    have HF2 : Hid (J (pre ++ N) (gw zq) ∧ Kept S w (gw zq)) := HF
    clear HF HJ0
    gi_wp2_with fail
    go_ret
    exact .inl ⟨rfl, HF2.out⟩
  | 0, m, some b, N, pre, w, hz, hH, hO, hM, hj, hy, hw => by cases hH.1
  | k + 1, m, some b, N, pre, w, hz, hH, hO, hM, hj, hy, hw => by
    obtain ⟨k', x, a0, a1, N0, N1, e, rfl, rfl, hR, _⟩ := hH.root
    have e' : k = k' := by omega
    subst e'
    have IH := walk_tells (W := W) by' bw l M S hSy hSw w0 J Jx hJ hY k
    have HR : Hid (RootI W w k x a0 a1 N0 N1 ∧ Off S (x :: (N0 ++ N1)) ∧ pre ++ (x :: (N0 ++ N1)) <+: M ∧ J pre w ∧ Blk w by' #[.func (.yield l) #[] #[]] 131 ∧ Blk w bw #[.func (.func 78) #[] #[.pointer (some ⟨by', 0, none⟩), .pointer (some ⟨bw, 0, none⟩)]] 131 ∧ ¬ S by' ∧ ¬ S bw ∧ Low w0.heap.size J ∧ w0.heap.size ≤ w.heap.size) := ⟨hR, hO, hM, hj, hy, hw, hSy, hSw, hJ, hz⟩
    have y0 := hy.cell 0 (v := .func (.yield l) #[] #[]) rfl
    -- the yield
    have CT : Hid (∀ W2, Below w.heap.size w W2 → ∃ fn tmps assign body, (Instr.yield l #[.pointer (some ⟨x.blk, 0, none⟩)]).run Try.prog W2 = .ok (.round l fn tmps assign body) W2 ∧ Hid (RoundIn Fence.wide (m - 1) Try.prog l fn tmps assign body W2 fun e w' => (e = .returned (.bool true) ∧ w'.cell? ⟨bw, 0, none⟩ = some (.func (.func 78) #[] #[.pointer (some ⟨by', 0, none⟩), .pointer (some ⟨bw, 0, none⟩)]) ∧ w'.cell? ⟨x.blk, 4, none⟩ = some (pt a0) ∧ Hid (J (pre ++ [x]) w' ∧ Kept S w w')) ∨ (e = .returned (.bool false) ∧ Hid (∃ q, q <+: M ∧ Jx q w')))) := fun W2 h2 => by
      have hpm : pre ++ [x] <+: M := by
        refine List.IsPrefix.trans ?_ hM
        exact ⟨N0 ++ N1, by simp⟩
      obtain ⟨fn, tmps, assign, body, g1, g2⟩ := hY (m - 1) pre x W2 hpm (hJ _ _ _ (Kept.of_below h2) hj)
      refine ⟨fn, tmps, assign, body, g1, g2.mono ?_⟩
      rintro e w' (⟨rfl, hj', hk⟩ | ⟨rfl, hj', hk⟩)
      · have hk' : Kept S w w' := (Kept.of_below h2).trans hk
        exact .inl ⟨rfl, (hw.kept hk' hSw).cell 0 rfl, (hR.node.cells.kept hk' (hO x (by simp)).1).cell 4 rfl, hj', hk'⟩
      · exact .inr ⟨rfl, _, hpm, hj'⟩
    -- the first side
    have C0 : Hid (∀ V, J (pre ++ [x]) V → Kept S w V → CallsIn Fence.wide (m - 1) Try.prog 78 #[pt a0, .pointer (some ⟨by', 0, none⟩), .pointer (some ⟨bw, 0, none⟩)] V fun e w' => (e = .returned (.bool true) ∧ w'.cell? ⟨bw, 0, none⟩ = some (.func (.func 78) #[] #[.pointer (some ⟨by', 0, none⟩), .pointer (some ⟨bw, 0, none⟩)]) ∧ w'.cell? ⟨x.blk, 5, none⟩ = some (pt a1) ∧ Hid (J (pre ++ [x] ++ N0) w' ∧ Kept S w w')) ∨ (e = .returned (.bool false) ∧ Hid (∃ q, q <+: M ∧ Jx q w'))) := fun V hjV hkV => by
      have hpm : pre ++ [x] ++ N0 <+: M := by
        refine List.IsPrefix.trans ?_ hM
        exact ⟨N1, by simp⟩
      refine (IH (m - 1) a0 N0 (pre ++ [x]) V (Nat.le_trans hz hkV.size) (hR.h0.keptW hkV (fun y hy => hO y (by simp [hy]))) (fun y hy => hO y (by simp [hy])) hpm hjV (hy.kept hkV hSy) (hw.kept hkV hSw)).mono ?_
      rintro e w' (⟨rfl, H⟩ | h)
      · have hk' : Kept S w w' := hkV.trans H.out.2
        exact .inl ⟨rfl, (hw.kept hk' hSw).cell 0 rfl, (hR.node.cells.kept hk' (hO x (by simp)).1).cell 5 rfl, H.out.1, hk'⟩
      · exact .inr h
    -- the second side
    have C1 : Hid (∀ V, J (pre ++ [x] ++ N0) V → Kept S w V → CallsIn Fence.wide (m - 1) Try.prog 78 #[pt a1, .pointer (some ⟨by', 0, none⟩), .pointer (some ⟨bw, 0, none⟩)] V fun e w' => ∃ bb : Bool, e = .returned (.bool bb) ∧ Hid ((bb = true → J (pre ++ (x :: (N0 ++ N1))) w' ∧ Kept S w w') ∧ (bb = false → ∃ q, q <+: M ∧ Jx q w'))) := fun V hjV hkV => by
      have hpm : pre ++ [x] ++ N0 ++ N1 <+: M := by simpa using hM
      refine (IH (m - 1) a1 N1 (pre ++ [x] ++ N0) V (Nat.le_trans hz hkV.size) (hR.h1.keptW hkV (fun y hy => hO y (by simp [hy]))) (fun y hy => hO y (by simp [hy])) hpm hjV (hy.kept hkV hSy) (hw.kept hkV hSw)).mono ?_
      rintro e w' (⟨rfl, H⟩ | ⟨rfl, H⟩)
      · exact ⟨true, rfl, (⟨fun _ => ⟨by have := H.out.1; simpa using this, hkV.trans H.out.2⟩, fun e => nomatch e⟩ : _ ∧ _)⟩
      · exact ⟨false, rfl, (⟨fun e => (nomatch e), fun _ => H.out⟩ : _ ∧ _)⟩
    clear hH hO hM hj hy hw hY IH hJ hSy hSw
    generalize pt a0 = P0 at *
    generalize pt a1 = P1 at *
    refine callsIn_of_wp Try.func78 rfl trivial ?_ rfl
    simp only [Try.ntmps78, List.size_toArray, List.length_cons, List.length_nil, Nat.reduceAdd, Nat.reduceSub, Array.replicate_succ, Array.replicate_zero, List.push_toArray, List.append_toArray, List.nil_append, List.cons_append]
    rw [show pt (some x.blk) = Value.pointer (some ⟨x.blk, 0, none⟩) from rfl]
    gi_wp2_with fail
    gi_cut [4] from 5 (fun t wx => ∃ bb : Bool, t = .bool bb ∧ Hid ((bb = true → J (pre ++ (x :: (N0 ++ N1))) wx ∧ Kept S w wx) ∧ (bb = false → ∃ q, q <+: M ∧ Jx q wx)))
    case first =>
      have CT2 := CT.out w.drew ((Below.refl _ _).drew)
      obtain ⟨fn, tmps, assign, body, hyi, HRd⟩ := CT2
      clear CT
      gi_region_with (first
        | (refine ⟨no_depth _, ?_⟩; refine HRd.out.mono ?_; rintro e w7 (⟨rfl, d1, d2, H7⟩ | ⟨rfl, H7⟩); rotate_left; (
            gi_wp2_with fail
            refine finish_any (a' := { tmps := #[.pointer (some ⟨x.blk, 0, none⟩), .pointer (some ⟨by', 0, none⟩), .pointer (some ⟨bw, 0, none⟩), undef, .bool false, .pointer (some ⟨x.blk, 0, none⟩), .bool false, .bool false, .func (.yield l) #[] #[], .pointer (some ⟨x.blk, 0, none⟩), .bool false, .bool false, undef, undef, undef, undef, undef, undef, undef, .bool false, .bool false, undef, undef, undef, undef, undef, undef, undef, .bool false, .bool false], defers := [] }) (by kernel_rfl) (fun _ _ _ _ _ h => h) _ _ _ _ (by kernel_rfl) ?_
            gi_wp2_with fail
            go_meet
            exact ⟨false, rfl, (⟨fun e => (nomatch e), fun _ => H7.out⟩ : _ ∧ _)⟩))
        | (refine ⟨trivial, no_depth _, ?_⟩; refine (C1.out _ H8.out.1 H8.out.2).mono ?_; rintro e w9 ⟨bb, rfl, H9⟩)
        | (refine ⟨trivial, no_depth _, ?_⟩; refine (C0.out _ H7.out.1 H7.out.2).mono ?_; rintro e w8 (⟨rfl, e1, e2, H8⟩ | ⟨rfl, H7⟩); rotate_left; (
            gi_wp2_with fail
            refine finish_any (a' := { tmps := #[.pointer (some ⟨x.blk, 0, none⟩), .pointer (some ⟨by', 0, none⟩), .pointer (some ⟨bw, 0, none⟩), undef, .bool false, .pointer (some ⟨x.blk, 0, none⟩), .bool false, .bool false, .func (.yield l) #[] #[], .pointer (some ⟨x.blk, 0, none⟩), .bool true, .bool true, .func (.func 78) #[] #[.pointer (some ⟨by', 0, none⟩), .pointer (some ⟨bw, 0, none⟩)], .pointer (some ⟨x.blk, 0, none⟩), .pointer (some ⟨x.blk, 0, none⟩), .pointer (some ⟨x.blk, 4, none⟩), .pointer (some ⟨x.blk, 4, none⟩), P0, .bool false, .bool false, .bool false, undef, undef, undef, undef, undef, undef, undef, .bool false, .bool false], defers := [] }) (by kernel_rfl) (fun _ _ _ _ _ h => h) _ _ _ _ (by kernel_rfl) ?_
            gi_wp2_with fail
            go_meet
            exact ⟨false, rfl, (⟨fun e => (nomatch e), fun _ => H7.out⟩ : _ ∧ _)⟩)))
      all_goals (gi_wp2_with fail; go_meet; exact ⟨bb, rfl, H9⟩)
    case rest =>
      obtain ⟨bb, rfl, HM7⟩ := hcut
      cases bb
      · have HF : Hid (∃ q, q <+: M ∧ Jx q wc) := HM7.out.2 rfl
        clear HM7
        gi_wp2_with fail
        go_ret
        exact .inr ⟨rfl, HF.out⟩
      · have HF : Hid (J (pre ++ (x :: (N0 ++ N1))) wc ∧ Kept S w wc) := HM7.out.1 rfl
        clear HM7
        gi_wp2_with fail
        go_ret
        exact .inl ⟨rfl, HF.out⟩
end Go.Proofs.Ytgdpplipahhffaa.St
namespace Go.Proofs.Ytgdpplipahhffaa.St
open Go.RowKit
set_option linter.unusedVariables false
set_option linter.unusedSimpArgs false

set_option maxHeartbeats 4000000 in
set_option maxRecDepth 100000 in
theorem walk_core {W : Nat} (by' bw l : Nat) (M : List (Nd ByteArray)) (S : Nat → Prop) (hSy : ¬ S by') (hSw : ¬ S bw) (J Jx : List (Nd ByteArray) → World → Prop) (hJ : ∀ s A C, Below A.heap.size A C → J s A → J s C)
    (hY : ∀ m pre x W1, pre ++ [x] <+: M → J pre W1 → YieldAt Fence.wide m Try.prog l #[Value.pointer (some ⟨x.blk, 0, none⟩)] W1 fun e W' => (e = .returned (.bool true) ∧ J (pre ++ [x]) W' ∧ Kept S W1 W') ∨ (e = .returned (.bool false) ∧ Jx (pre ++ [x]) W' ∧ Kept (fun k => S k ∨ k = l) W1 W')) :
    ∀ (k m : Nat) (a : Option Nat) (N pre : List (Nd ByteArray)) (w : World), HangI W w k a N → Off S N → pre ++ N <+: M → J pre w → Blk w by' #[.func (.yield l) #[] #[]] 131 → Blk w bw #[.func (.func 78) #[] #[.pointer (some ⟨by', 0, none⟩), .pointer (some ⟨bw, 0, none⟩)]] 131 →
      CallsIn Fence.wide m Try.prog 78 #[pt a, .pointer (some ⟨by', 0, none⟩), .pointer (some ⟨bw, 0, none⟩)] w fun e w' => (e = .returned (.bool true) ∧ Hid (J (pre ++ N) w' ∧ Kept S w w')) ∨ (e = .returned (.bool false) ∧ Hid (∃ q, q <+: M ∧ Jx q w'))
  | k, m, none, N, pre, w, hH, hO, hM, hj, hy, hw => by
    have HJ0 : Hid (∀ z : Grown w, J (pre ++ N) (gw z) ∧ Kept S w (gw z)) := fun z => by
      rw [hH.of_none, List.append_nil]
      exact ⟨hJ _ _ _ (gw_below z) hj, Kept.of_below (gw_below z)⟩
    have hmix : Try.prog.follows .mixedOrders = true := by kernel_rfl
    clear hH hO hM hj hy hw hY
    refine callsIn_of_wp Try.func78 rfl trivial ?_ rfl
    simp only [Try.ntmps78, List.size_toArray, List.length_cons, List.length_nil, Nat.reduceAdd, Nat.reduceSub, Array.replicate_succ, Array.replicate_zero, List.push_toArray, List.append_toArray, List.nil_append, List.cons_append]
    rw [show pt none = Value.pointer none from rfl]
    gi_wp2_with fail
    refine grows_wide hmix (by kernel_rfl) ?_
    repeat (gi_big_quiet_step (fail))
    refine Go.BigFrame.wpQuietIn_skip (fun _ _ _ _ => trivial) (by rfl) ?_
    go_simp
    repeat (gi_big_quiet_step (fail))
    refine Go.BigFrame.wpQuietIn_skip (fun _ _ _ _ => trivial) (by rfl) ?_
    go_simp
    repeat (gi_big_quiet_step (fail))
    refine Go.BigFrame.wpQuietIn_skip (fun _ _ _ _ => trivial) (by rfl) ?_
    go_simp
    repeat (gi_big_quiet_step (fail))
    refine wpQuietIn_nil ?_
    intro zq
    have HF := HJ0.out zq
    have HF2 : Hid (J (pre ++ N) (gw zq) ∧ Kept S w (gw zq)) := HF
    clear HF HJ0
    gi_wp2_with fail
    go_ret
    exact .inl ⟨rfl, HF2.out⟩
  | 0, m, some b, N, pre, w, hH, hO, hM, hj, hy, hw => by cases hH.1
  | k + 1, m, some b, N, pre, w, hH, hO, hM, hj, hy, hw => by
    obtain ⟨k', x, a0, a1, N0, N1, e, rfl, rfl, hR, _⟩ := hH.root
    have e' : k = k' := by omega
    subst e'
    have IH := walk_core (W := W) by' bw l M S hSy hSw J Jx hJ hY k
    have HR : Hid (RootI W w k x a0 a1 N0 N1 ∧ Off S (x :: (N0 ++ N1)) ∧ pre ++ (x :: (N0 ++ N1)) <+: M ∧ J pre w ∧ Blk w by' #[.func (.yield l) #[] #[]] 131 ∧ Blk w bw #[.func (.func 78) #[] #[.pointer (some ⟨by', 0, none⟩), .pointer (some ⟨bw, 0, none⟩)]] 131 ∧ ¬ S by' ∧ ¬ S bw) := ⟨hR, hO, hM, hj, hy, hw, hSy, hSw⟩
    have y0 := hy.cell 0 (v := .func (.yield l) #[] #[]) rfl
    -- the yield
    have CT : Hid (∀ W2, Below w.heap.size w W2 → ∃ fn tmps assign body, (Instr.yield l #[.pointer (some ⟨x.blk, 0, none⟩)]).run Try.prog W2 = .ok (.round l fn tmps assign body) W2 ∧ Hid (RoundIn Fence.wide (m - 1) Try.prog l fn tmps assign body W2 fun e w' => (e = .returned (.bool true) ∧ w'.cell? ⟨bw, 0, none⟩ = some (.func (.func 78) #[] #[.pointer (some ⟨by', 0, none⟩), .pointer (some ⟨bw, 0, none⟩)]) ∧ w'.cell? ⟨x.blk, 4, none⟩ = some (pt a0) ∧ Hid (J (pre ++ [x]) w' ∧ Kept S w w')) ∨ (e = .returned (.bool false) ∧ Hid (∃ q, q <+: M ∧ Jx q w')))) := fun W2 h2 => by
      have hpm : pre ++ [x] <+: M := by
        refine List.IsPrefix.trans ?_ hM
        exact ⟨N0 ++ N1, by simp⟩
      obtain ⟨fn, tmps, assign, body, g1, g2⟩ := hY (m - 1) pre x W2 hpm (hJ _ _ _ h2 hj)
      refine ⟨fn, tmps, assign, body, g1, g2.mono ?_⟩
      rintro e w' (⟨rfl, hj', hk⟩ | ⟨rfl, hj', hk⟩)
      · have hk' : Kept S w w' := (Kept.of_below h2).trans hk
        exact .inl ⟨rfl, (hw.kept hk' hSw).cell 0 rfl, (hR.node.cells.kept hk' (hO x (by simp)).1).cell 4 rfl, hj', hk'⟩
      · exact .inr ⟨rfl, _, hpm, hj'⟩
    -- the first side
    have C0 : Hid (∀ V, J (pre ++ [x]) V → Kept S w V → CallsIn Fence.wide (m - 1) Try.prog 78 #[pt a0, .pointer (some ⟨by', 0, none⟩), .pointer (some ⟨bw, 0, none⟩)] V fun e w' => (e = .returned (.bool true) ∧ w'.cell? ⟨bw, 0, none⟩ = some (.func (.func 78) #[] #[.pointer (some ⟨by', 0, none⟩), .pointer (some ⟨bw, 0, none⟩)]) ∧ w'.cell? ⟨x.blk, 5, none⟩ = some (pt a1) ∧ Hid (J (pre ++ [x] ++ N0) w' ∧ Kept S w w')) ∨ (e = .returned (.bool false) ∧ Hid (∃ q, q <+: M ∧ Jx q w'))) := fun V hjV hkV => by
      have hpm : pre ++ [x] ++ N0 <+: M := by
        refine List.IsPrefix.trans ?_ hM
        exact ⟨N1, by simp⟩
      refine (IH (m - 1) a0 N0 (pre ++ [x]) V (hR.h0.keptW hkV (fun y hy => hO y (by simp [hy]))) (fun y hy => hO y (by simp [hy])) hpm hjV (hy.kept hkV hSy) (hw.kept hkV hSw)).mono ?_
      rintro e w' (⟨rfl, H⟩ | h)
      · have hk' : Kept S w w' := hkV.trans H.out.2
        exact .inl ⟨rfl, (hw.kept hk' hSw).cell 0 rfl, (hR.node.cells.kept hk' (hO x (by simp)).1).cell 5 rfl, H.out.1, hk'⟩
      · exact .inr h
    -- the second side
    have C1 : Hid (∀ V, J (pre ++ [x] ++ N0) V → Kept S w V → CallsIn Fence.wide (m - 1) Try.prog 78 #[pt a1, .pointer (some ⟨by', 0, none⟩), .pointer (some ⟨bw, 0, none⟩)] V fun e w' => ∃ bb : Bool, e = .returned (.bool bb) ∧ Hid ((bb = true → J (pre ++ (x :: (N0 ++ N1))) w' ∧ Kept S w w') ∧ (bb = false → ∃ q, q <+: M ∧ Jx q w'))) := fun V hjV hkV => by
      have hpm : pre ++ [x] ++ N0 ++ N1 <+: M := by simpa using hM
      refine (IH (m - 1) a1 N1 (pre ++ [x] ++ N0) V (hR.h1.keptW hkV (fun y hy => hO y (by simp [hy]))) (fun y hy => hO y (by simp [hy])) hpm hjV (hy.kept hkV hSy) (hw.kept hkV hSw)).mono ?_
      rintro e w' (⟨rfl, H⟩ | ⟨rfl, H⟩)
      · exact ⟨true, rfl, (⟨fun _ => ⟨by have := H.out.1; simpa using this, hkV.trans H.out.2⟩, fun e => nomatch e⟩ : _ ∧ _)⟩
      · exact ⟨false, rfl, (⟨fun e => (nomatch e), fun _ => H.out⟩ : _ ∧ _)⟩
    clear hH hO hM hj hy hw hY IH hJ hSy hSw
    generalize pt a0 = P0 at *
    generalize pt a1 = P1 at *
    refine callsIn_of_wp Try.func78 rfl trivial ?_ rfl
    simp only [Try.ntmps78, List.size_toArray, List.length_cons, List.length_nil, Nat.reduceAdd, Nat.reduceSub, Array.replicate_succ, Array.replicate_zero, List.push_toArray, List.append_toArray, List.nil_append, List.cons_append]
    rw [show pt (some x.blk) = Value.pointer (some ⟨x.blk, 0, none⟩) from rfl]
    gi_wp2_with fail
    gi_cut [4] from 5 (fun t wx => ∃ bb : Bool, t = .bool bb ∧ Hid ((bb = true → J (pre ++ (x :: (N0 ++ N1))) wx ∧ Kept S w wx) ∧ (bb = false → ∃ q, q <+: M ∧ Jx q wx)))
    case first =>
      have CT2 := CT.out w.drew ((Below.refl _ _).drew)
      obtain ⟨fn, tmps, assign, body, hyi, HRd⟩ := CT2
      clear CT
      gi_region_with (first
        | (refine ⟨no_depth _, ?_⟩; refine HRd.out.mono ?_; rintro e w7 (⟨rfl, d1, d2, H7⟩ | ⟨rfl, H7⟩); rotate_left; (
            gi_wp2_with fail
            refine finish_any (a' := { tmps := #[.pointer (some ⟨x.blk, 0, none⟩), .pointer (some ⟨by', 0, none⟩), .pointer (some ⟨bw, 0, none⟩), undef, .bool false, .pointer (some ⟨x.blk, 0, none⟩), .bool false, .bool false, .func (.yield l) #[] #[], .pointer (some ⟨x.blk, 0, none⟩), .bool false, .bool false, undef, undef, undef, undef, undef, undef, undef, .bool false, .bool false, undef, undef, undef, undef, undef, undef, undef, .bool false, .bool false], defers := [] }) (by kernel_rfl) (fun _ _ _ _ _ h => h) _ _ _ _ (by kernel_rfl) ?_
            gi_wp2_with fail
            go_meet
            exact ⟨false, rfl, (⟨fun e => (nomatch e), fun _ => H7.out⟩ : _ ∧ _)⟩))
        | (refine ⟨trivial, no_depth _, ?_⟩; refine (C1.out _ H8.out.1 H8.out.2).mono ?_; rintro e w9 ⟨bb, rfl, H9⟩)
        | (refine ⟨trivial, no_depth _, ?_⟩; refine (C0.out _ H7.out.1 H7.out.2).mono ?_; rintro e w8 (⟨rfl, e1, e2, H8⟩ | ⟨rfl, H7⟩); rotate_left; (
            gi_wp2_with fail
            refine finish_any (a' := { tmps := #[.pointer (some ⟨x.blk, 0, none⟩), .pointer (some ⟨by', 0, none⟩), .pointer (some ⟨bw, 0, none⟩), undef, .bool false, .pointer (some ⟨x.blk, 0, none⟩), .bool false, .bool false, .func (.yield l) #[] #[], .pointer (some ⟨x.blk, 0, none⟩), .bool true, .bool true, .func (.func 78) #[] #[.pointer (some ⟨by', 0, none⟩), .pointer (some ⟨bw, 0, none⟩)], .pointer (some ⟨x.blk, 0, none⟩), .pointer (some ⟨x.blk, 0, none⟩), .pointer (some ⟨x.blk, 4, none⟩), .pointer (some ⟨x.blk, 4, none⟩), P0, .bool false, .bool false, .bool false, undef, undef, undef, undef, undef, undef, undef, .bool false, .bool false], defers := [] }) (by kernel_rfl) (fun _ _ _ _ _ h => h) _ _ _ _ (by kernel_rfl) ?_
            gi_wp2_with fail
            go_meet
            exact ⟨false, rfl, (⟨fun e => (nomatch e), fun _ => H7.out⟩ : _ ∧ _)⟩)))
      all_goals (gi_wp2_with fail; go_meet; exact ⟨bb, rfl, H9⟩)
    case rest =>
      obtain ⟨bb, rfl, HM7⟩ := hcut
      cases bb
      · have HF : Hid (∃ q, q <+: M ∧ Jx q wc) := HM7.out.2 rfl
        clear HM7
        gi_wp2_with fail
        go_ret
        exact .inr ⟨rfl, HF.out⟩
      · have HF : Hid (J (pre ++ (x :: (N0 ++ N1))) wc ∧ Kept S w wc) := HM7.out.1 rfl
        clear HM7
        gi_wp2_with fail
        go_ret
        exact .inl ⟨rfl, HF.out⟩
end Go.Proofs.Ytgdpplipahhffaa.St
namespace Go.Proofs.Ytgdpplipahhffaa.St
open Go.RowKit
set_option linter.unusedVariables false
set_option linter.unusedSimpArgs false

set_option maxHeartbeats 4000000 in
set_option maxRecDepth 100000 in
theorem each_tellsG {W : Nat} (gt : TypeId) (hgt : gt ≠ 131) (w : World) {k : Nat} {a : Option Nat} {N : List (Nd ByteArray)} (hH : HangI W w k a N) (bn : Nat) (hbn : Blk w bn #[pt a] 106) (S : Nat → Prop) (hS : ∀ k, S k → k < w.heap.size) (hSN : Off S N) :
    TellsG gt Try.prog 77 #[.pointer (some ⟨bn, 0, none⟩)] (fun x : Nd ByteArray => #[Value.pointer (some ⟨x.blk, 0, none⟩)]) N S w := by
  intro n l J Jx w1 hW hl hJ hJx hY h0
  have hs := hW.size
  obtain ⟨S', hS'⟩ : ∃ S' : Nat → Prop, S' = fun k => S k ∨ (w1.heap.size ≤ k ∧ k ≠ w1.heap.size ∧ k ≠ w1.heap.size + 1) := ⟨_, rfl⟩
  have hn1 : ¬ S' w1.heap.size := by rw [hS']; exact fun e => e.elim (fun e => by have := hS _ e; omega) (fun e => e.2.1 rfl)
  have hn2 : ¬ S' (w1.heap.size + 1) := by rw [hS']; exact fun e => e.elim (fun e => by have := hS _ e; omega) (fun e => e.2.2 rfl)
  have hoff : Off S' N := fun x hx => by
    rw [hS']
    exact ⟨fun e => e.elim (hSN x hx).1 (by have := ((Hang.blks hH) x hx).1; omega), fun t v ht e => e.elim ((hSN x hx).2 t v ht) (by have := ((Hang.blks hH) x hx).2 t v ht; omega)⟩
  have CW : Hid (∀ w3, Below w1.heap.size w1 w3 → Blk w3 w1.heap.size #[.func (.yield l) #[] #[]] 131 → Blk w3 (w1.heap.size + 1) #[.func (.func 78) #[] #[.pointer (some ⟨w1.heap.size, 0, none⟩), .pointer (some ⟨w1.heap.size + 1, 0, none⟩)]] 131 →
      CallsIn Fence.wide (n - 1) Try.prog 78 #[pt a, .pointer (some ⟨w1.heap.size, 0, none⟩), .pointer (some ⟨w1.heap.size + 1, 0, none⟩)] w3 fun e w' => ∃ bb : Bool, e = .returned (.bool bb) ∧ Hid (J N w' ∨ ∃ pre, pre <+: N ∧ Jx pre w')) := fun w3 h3 b1 b2 => by
    have hJb : ∀ s A C, Below A.heap.size A C → J s A → J s C := fun s A C hb hj => hJ s A C (Kept.of_below hb) hj
    have := walk_core (W := W) w1.heap.size (w1.heap.size + 1) l N S' hn1 hn2
      (fun pre V => J pre V ∧ Blk V w1.heap.size #[.func (.yield l) #[] #[]] 131 ∧ Blk V (w1.heap.size + 1) #[.func (.func 78) #[] #[.pointer (some ⟨w1.heap.size, 0, none⟩), .pointer (some ⟨w1.heap.size + 1, 0, none⟩)]] 131) Jx
      (fun s A C hb hj => ⟨hJb s A C hb hj.1, hj.2.1.below hb, hj.2.2.below hb⟩)
      (fun m pre x W1 hpre hj => by
        obtain ⟨fn, tmps, assign, body, g1, g2⟩ := yield_any (m' := m) (hY pre x W1 hpre hj.1)
        have hk : ∀ k, k < W1.heap.size → Gst gt w1.heap.size S W1 k → S' k := fun k _ e => by
          rw [hS']
          rcases e with e | ⟨e, cs, f, hr⟩
          · exact .inl e
          · refine .inr ⟨e, ?_, ?_⟩
            · rintro rfl
              have := hj.2.1
              unfold Blk at this
              rw [this] at hr
              cases hr; exact hgt rfl
            · rintro rfl
              have := hj.2.2
              unfold Blk at this
              rw [this] at hr
              cases hr; exact hgt rfl
        refine ⟨fn, tmps, assign, body, g1, g2.mono ?_⟩
        rintro e W' (⟨rfl, k1, k2⟩ | ⟨rfl, k1, k2⟩)
        · have k3 := k2.mono hk
          exact .inl ⟨rfl, ⟨k1, hj.2.1.kept k3 hn1, hj.2.2.kept k3 hn2⟩, k3⟩
        · exact .inr ⟨rfl, k1, k2.mono fun k hk' e => e.elim (fun e => .inl (hk k hk' e)) .inr⟩)
      k (n - 1) a N [] w3 ((hH.below hW).below h3) hoff (by simp) ⟨hJb _ _ _ h3 h0, b1, b2⟩ b1 b2
    refine this.mono ?_
    rintro e w' (⟨rfl, H⟩ | ⟨rfl, H⟩)
    · exact ⟨true, rfl, .inl H.out.1.1⟩
    · exact ⟨false, rfl, .inr H.out⟩
  have HB : Hid _ := two_new' w1 #[.func (.yield l) #[] #[]] #[.func (.func 78) #[] #[.pointer (some ⟨w1.heap.size, 0, none⟩), .pointer (some ⟨w1.heap.size + 1, 0, none⟩)]] 131 131
  have HN : Hid (Blk w1 bn #[pt a] 106) := hbn.below hW
  have hbl := hbn.lt
  have hbl1 := HN.out.lt
  clear hH hbn hY hJ hJx hoff hn1 hn2 h0 hSN hS hS'
  generalize pt a = P0 at *
  refine callsIn_of_wp Try.func77 rfl trivial ?_ rfl
  simp only [Try.ntmps77, List.size_toArray, List.length_cons, List.length_nil, Nat.reduceAdd, Nat.reduceSub, Array.replicate_succ, Array.replicate_zero, List.push_toArray, List.append_toArray, List.nil_append, List.cons_append]
  gi_upto_region 3 with fail
  generalize ((w1.alloc _).alloc _) = w2 at HB ⊢
  have x1 := HB.out.2.1.cell 0 (v := .func (.func 78) #[] #[.pointer (some ⟨w1.heap.size, 0, none⟩), .pointer (some ⟨w1.heap.size + 1, 0, none⟩)]) rfl
  have x0 := (HN.out.below HB.out.2.2.1).cell 0 (v := P0) rfl
  gi_wp2_with fail
  refine ⟨trivial, no_depth _, ?_⟩
  refine (CW.out _ HB.out.2.2.1 HB.out.1 HB.out.2.1).mono ?_
  rintro e w3 ⟨bb, rfl, H3⟩
  clear CW HB HN x0 x1
  gi_wp2_with fail
  go_end0
  exact ⟨⟨_, rfl⟩, H3.out⟩
end Go.Proofs.Ytgdpplipahhffaa.St
namespace Go.Proofs.Ytgdpplipahhffaa.St
open Go.RowKit
set_option linter.unusedVariables false
set_option linter.unusedSimpArgs false

theorem yield_loop {P : Program} {l : Nat} {args : Array Value} {W W' : World} {fn : FuncId} {tmps : Array Value} {assign body : Code} (h : (Instr.yield l args).run P W = .ok (.round l fn tmps assign body) W') : ∃ r, W.heap[l]? = some (.loop r) := by
  cases hr : W.heap[l]? with
  | none =>
    obtain ⟨e, hg⟩ : ∃ e, (getObj l).run P W = .halt e W := ⟨_, by simp [getObj, Sem.run, hr]; rfl⟩
    simp [Instr.yield, Instr.getLoop, Sem.run_bind, hg, Result.andThen] at h
  | some o =>
    cases o with
    | loop r => exact ⟨r, rfl⟩
    | cells c t f =>
      obtain ⟨e, hg⟩ : ∃ e, (getObj l).run P W = .halt e W := ⟨_, by simp [getObj, Sem.run, hr]; rfl⟩
      simp [Instr.yield, Instr.getLoop, Sem.run_bind, hg, Result.andThen] at h
    | _ =>
      rename_i o
      have hg := show (getObj l).run P W = .ok _ W by simp [getObj, Sem.run, hr]; rfl
      simp [Instr.yield, Instr.getLoop, Sem.run_bind, hg, Result.andThen, stuck, Sem.run] at h
theorem each_any (a : Option Nat) (w : World) : Calls Try.prog 61 #[pt a] w fun e w' => e = .returned (.func (.func 77) #[] #[.pointer (some ⟨w.heap.size, 0, none⟩)]) ∧ Blk w' w.heap.size #[pt a] 106 ∧ Below w.heap.size w w' := by
  have hmf := mf
  obtain ⟨A, hA⟩ : ∃ A : Option Addr, a.map (fun b => (⟨b, 0, none⟩ : Addr)) = A := ⟨_, rfl⟩
  have HB : Hid _ := one_new w #[.pointer A] 106
  rw [show pt a = .pointer A from by rw [← hA]]
  go_enter Try.func61, Try.ntmps61
  go_wp2
  go_ret
  exact ⟨rfl, HB.out.1, HB.out.2.1⟩
theorem round_in {F : Fence} {n : Nat} {P : Program} {k : Nat} {f : FuncId} {tmps : Array Value} {assign body : Code} {w : World} {R : Ending → World → Prop} (l : Nat) (h : RoundIn F n P k f tmps assign body w R) : RoundIn (F.inRound l) n P k f tmps assign body w R := h
theorem kept_snoc {V : Type} (pre : List (Nd V)) (x : Nd V) : kept (pre ++ [x]) = kept pre ++ ownK x := by
  rw [kept_append]; simp [kept]
theorem Hang.und {V : Type} {nt vt : TypeId} {enc : V → Value} {W : Nat} {w : World} (p : List Bool) : ∀ (n : Nat) (a : Option Nat) (N : List (Nd V)), Hang nt vt enc W w n a N → ∃ n' a', Hang nt vt enc W w n' a' (undN p N)
  | n, none, N, h => by rw [h.of_none]; exact ⟨0, none, Hang.nil 0⟩
  | 0, some b, N, h => by
    obtain ⟨m, x, a0, a1, N0, N1, e, _⟩ := h.root
    omega
  | n + 1, some b, N, h => by
    obtain ⟨m, x, a0, a1, N0, N1, e, rfl, rfl, hR, hf⟩ := h.root
    by_cases hl : p.length ≤ x.key.length
    · rw [und_on hR hl]
      split
      · exact ⟨_, _, h⟩
      · exact ⟨0, none, Hang.nil 0⟩
    · rw [und_off hR (by omega)]
      obtain rfl : m = n := by omega
      split
      · exact Hang.und p m a1 N1 hR.h1
      · exact Hang.und p m a0 N0 hR.h0
theorem kept_pre {V : Type} {A B : List (Nd V)} (h : A <+: B) : kept A <+: kept B := by
  obtain ⟨t, rfl⟩ := h
  rw [kept_append]; exact List.prefix_append _ _

attribute [local go_sem] Oper.semAt_some
set_option maxHeartbeats 4000000 in
set_option maxRecDepth 100000 in
theorem under_tellsG (gt : TypeId) (hg1 : gt ≠ 131) (hg2 : gt ≠ 132) {w : World} {q W most : Nat} {a : Option Nat} {n : Nat} {N : List (Nd ByteArray)} (hT : TrieAt w q W most a n N) {p : List Bool} (hp : p.length ≤ W)
    (bt bp : Nat) (hbt : Blk w bt #[.pointer (some ⟨q, 0, none⟩)] 70) (hbp : Blk w bp #[.int .u64 (hiOf (valOf W p)), .int .u64 (loOf (valOf W p)), .int .i64 p.length] 51) (S : Nat → Prop) (hS : ∀ k, S k → k < w.heap.size) (hSN : Off S N) :
    TellsG gt Try.prog 79 #[.pointer (some ⟨bt, 0, none⟩), .pointer (some ⟨bp, 0, none⟩)] (fun y : List Bool × ByteArray => #[Pf (valOf W y.1) y.1.length, .string y.2]) (kept (undN p N)) S w := by
  intro m l J Jx W1 hW hl hJ hJx hY h0
  obtain ⟨h1, h2⟩ := hT.wd
  have hs := hW.size
  have HT : Hid (TrieAt W1 q W most a n N) := hT.below hW
  have HBT : Hid (Blk W1 bt #[.pointer (some ⟨q, 0, none⟩)] 70) := hbt.below hW
  have HBP : Hid (Blk W1 bp #[.int .u64 (hiOf (valOf W p)), .int .u64 (loOf (valOf W p)), .int .i64 p.length] 51) := hbp.below hW
  have HJ : Hid (LowG gt W1.heap.size J ∧ LowG gt W1.heap.size Jx) := ⟨hJ, hJx⟩
  have H0 : Hid (J [] W1) := h0
  have HY : Hid (∀ pre x W2, pre ++ [x] <+: kept (undN p N) → J pre W2 → YieldAt Fence.wide (m - 1) Try.prog l #[Pf (valOf W x.1) x.1.length, .string x.2] W2 fun e W' =>
      (e = .returned (.bool true) ∧ J (pre ++ [x]) W' ∧ Kept (Gst gt W1.heap.size S W2) W2 W') ∨ (e = .returned (.bool false) ∧ Jx (pre ++ [x]) W' ∧ Kept (fun k => Gst gt W1.heap.size S W2 k ∨ k = l) W2 W')) := hY
  have HMN : Hid (∀ x ∈ undN p N, x ∈ N) := fun x hx => (List.mem_filter.1 hx).1
  have HNB : Hid (∀ x ∈ N, x.blk < w.heap.size ∧ ∀ t v, x.th = some (t, v) → t < w.heap.size) := (Hang.blks hT.hang)
  have HSN : Hid (Off S N) := hSN
  have CU : Hid (∀ w2, Below W1.heap.size W1 w2 → CallsIn Fence.wide (m - 1) Try.prog 80 #[.pointer (some ⟨q, 0, none⟩), Pf (valOf W p) p.length] w2 fun e w' => ∃ a', e = .returned (pt a') ∧ Hid ((∃ n', HangI W w' n' a' (undN p N)) ∧ Below w2.heap.size w2 w')) := fun w2 hb => callsIn_wide.2 (under51 h1 h2 hp q w2 _ _ a (HT.out.below hb).hd (HT.out.below hb).hang)
  have C49 : Hid (∀ w1, CallsIn Fence.wide (m - 1) Try.prog 49 #[Pf (valOf W p) p.length, .int .i64 W] w1 fun e w' => e = .returned (.bool true) ∧ Below w1.heap.size w1 w') := fun w1 => callsIn_wide.2 (by
    have := isPrefix_any (valOf W p) (val_is h2 hp) p.length W h1 h2 w1
    rw [isP_mk hp] at this; exact this)
  have C50 : Hid (∀ (a : Option Nat) w1, CallsIn Fence.wide (m - 1) Try.prog 61 #[pt a] w1 fun e w' => e = .returned (.func (.func 77) #[] #[.pointer (some ⟨w1.heap.size, 0, none⟩)]) ∧ Hid (Blk w' w1.heap.size #[pt a] 106 ∧ Below w1.heap.size w1 w')) := fun a w1 => callsIn_wide.2 (each_any a w1)
  have HL : Hid (∀ x ∈ undN p N, x.blk ≠ l ∧ ∀ t v, x.th = some (t, v) → t ≠ l) := by
    by_cases hM : undN p N = []
    · exact fun x hx => by rw [hM] at hx; cases hx
    · obtain ⟨a', hU⟩ : ∃ y ys, kept (undN p N) = y :: ys := by
        obtain ⟨n', a', hh⟩ := Hang.und p _ _ _ HT.out.hang
        exact List.exists_cons_of_ne_nil (hh.kept_ne hM)
      obtain ⟨ys, hU⟩ := hU
      obtain ⟨fn, tmps, assign, body, g1, _⟩ := hY [] a' W1 (by rw [hU]; exact ⟨ys, rfl⟩) h0
      obtain ⟨r, hr⟩ := yield_loop g1
      intro x hx
      obtain ⟨b0, b1, hn⟩ := HT.out.hang.thing x (HMN.out x hx)
      refine ⟨fun e => ?_, fun t v ht e => ?_⟩
      · have := hn.cells
        unfold Blk at this
        rw [e, hr] at this; cases this
      · have := hn.thing t v ht
        unfold Blk at this
        rw [e, hr] at this; cases this
  have hmix : Try.prog.follows .mixedOrders = true := by kernel_rfl
  have HB : Hid _ := one_new W1 #[.func (.yield l) #[] #[]] 132
  have lq := HT.out.hd.lt
  clear hT hbt hbp hJ hJx h0 hY hSN
  refine callsIn_of_wp_marks Try.func79 rfl trivial ?_ rfl
  simp only [Try.ntmps79, List.size_toArray, List.length_cons, List.length_nil, Nat.reduceAdd, Nat.reduceSub, Array.replicate_succ, Array.replicate_zero, List.push_toArray, List.append_toArray, List.nil_append, List.cons_append]
  gi_upto_region 1 with fail
  generalize (W1.alloc _) = w0 at HB ⊢
  have x0 := two_cells (HBP.out.below HB.out.2.1) (i := 0) (v := .int .u64 (hiOf (valOf W p))) rfl
  have x1 := two_cells (HBP.out.below HB.out.2.1) (i := 1) (v := .int .u64 (loOf (valOf W p))) rfl
  have x2 := two_cells (HBP.out.below HB.out.2.1) (i := 2) (v := .int .i64 p.length) rfl
  have z0 := two_cells (HT.out.hd.below HB.out.2.1) (i := 0) (v := .int .i64 W) rfl
  have v0 := two_cells (HBT.out.below HB.out.2.1) (i := 0) (v := .pointer (some ⟨q, 0, none⟩)) rfl
  refine grows_wide hmix (by kernel_rfl) ?_
  repeat (gi_big_quiet_step (fail))
  refine Go.BigFrame.wpQuietIn_want (fun _ _ _ _ => trivial) (by rfl) ?_
  intro K2 hK2
  gi_big_quiet_op
  apply Exists.intro
  refine ⟨fun _ => ?_, ?_⟩
  · exact ⟨no_depth _, calls_gwIn (C49.out _)⟩
  go_big_quiet_on
  repeat (gi_big_quiet_step (fail))
  refine wpQuietIn_nil ?_
  intro wq hwq
  obtain ⟨zq, rfl⟩ := hwq
  have HC : Hid (Blk (gw zq) W1.heap.size #[.func (.yield l) #[] #[]] 132 ∧ Below W1.heap.size W1 (gw zq)) := ⟨HB.out.1.below (gw_below zq), bst HB.out.2.1 (gw_below zq)⟩
  clear x0 x1 x2 z0 v0 C49 HB
  generalize gw zq = w2 at *
  have y0 := (HBP.out.below HC.out.2).cell 0 (v := .int .u64 (hiOf (valOf W p))) rfl
  have y1 := (HBP.out.below HC.out.2).cell 1 (v := .int .u64 (loOf (valOf W p))) rfl
  have y2 := (HBP.out.below HC.out.2).cell 2 (v := .int .i64 p.length) rfl
  have v0 := (HBT.out.below HC.out.2).cell 0 (v := .pointer (some ⟨q, 0, none⟩)) rfl
  gi_wp2_with fail
  refine ⟨trivial, no_depth _, ?_⟩
  refine (CU.out _ HC.out.2).mono ?_
  rintro e w3 ⟨a', rfl, H3⟩
  have C50' := C50.out a'
  obtain ⟨P0, hP0⟩ : ∃ P0, pt a' = P0 := ⟨_, rfl⟩
  rw [hP0] at C50' ⊢
  have C5 : Hid (∀ w1, CallsIn Fence.wide (m - 1) Try.prog 61 #[P0] w1 fun e w' => e = .returned (.func (.func 77) #[] #[.pointer (some ⟨w1.heap.size, 0, none⟩)]) ∧ Hid (Blk w' w1.heap.size #[P0] 106 ∧ Below w1.heap.size w1 w')) := C50'
  clear y0 y1 y2 v0 CU C50 C50'
  gi_wp2_with fail
  refine ⟨trivial, no_depth _, ?_⟩
  refine (C5.out _).mono ?_
  rintro e w4 ⟨rfl, H4⟩
  clear C5
  obtain ⟨n', hh3⟩ := H3.out.1
  have HD : Hid (HangI W w4 n' a' (undN p N) ∧ Blk w4 w3.heap.size #[pt a'] 106 ∧ Blk w4 W1.heap.size #[.func (.yield l) #[] #[]] 132 ∧ Below W1.heap.size W1 w4) := ⟨hh3.below H4.out.2, by rw [hP0]; exact H4.out.1, (HC.out.1.below H3.out.2).below H4.out.2, bst (bst HC.out.2 H3.out.2) H4.out.2⟩
  clear H3 H4 hh3 HC hP0
  generalize w3.heap.size = bn at *
  have hwl := HD.out.2.2.2.size
  have hw1 := HD.out.2.2.1.lt
  obtain ⟨S', hS'⟩ : ∃ S' : Nat → Prop, S' = fun k => S k ∨ k = l ∨ (W1.heap.size ≤ k ∧ k < w4.heap.size ∧ IsRow gt w4 k) := ⟨_, rfl⟩
  have hS4 : ∀ k, S' k → k < w4.heap.size := fun k e => by
    rw [hS'] at e
    rcases e with e | e | e
    · have := hS k e; omega
    · omega
    · exact e.2.1
  have hoff : Off S' (undN p N) := fun x hx => by
    rw [hS']
    have g1 := HNB.out x (HMN.out x hx)
    have g2 := HSN.out x (HMN.out x hx)
    have g3 := HL.out x hx
    exact ⟨fun e => e.elim g2.1 (fun e => e.elim g3.1 (fun e => by have := e.1; have := g1.1; omega)), fun t v ht e => e.elim (g2.2 t v ht) (fun e => e.elim (g3.2 t v ht) (fun e => by have := e.1; have := g1.2 t v ht; omega))⟩
  have hy1 : ¬ S' W1.heap.size := fun e => by
    rw [hS'] at e
    rcases e with e | e | ⟨_, _, cs, f, e⟩
    · have := hS _ e; omega
    · omega
    · have := HD.out.2.2.1
      unfold Blk at this
      rw [this] at e; cases e; exact hg2 rfl
  have HO : Hid (Off S' (undN p N) ∧ ¬ S' W1.heap.size) := ⟨hoff, hy1⟩
  have HS' : Hid (S' = fun k => S k ∨ k = l ∨ (W1.heap.size ≤ k ∧ k < w4.heap.size ∧ IsRow gt w4 k)) := hS'
  have HG : Hid (∀ Wb W2, Kept S' w4 Wb → Below Wb.heap.size Wb W2 → ∀ k, k < Wb.heap.size → Gst gt W1.heap.size S W2 k → Gst gt w4.heap.size S' Wb k) := fun Wb W2 hk hb k hkb e => by
    rcases e with e | ⟨e1, cs, f, e2⟩
    · exact .inl (by rw [HS'.out]; exact .inl e)
    · rw [hb.block k hkb] at e2
      by_cases h : k < w4.heap.size
      · refine .inl ?_
        by_cases hs' : S' k
        · exact hs'
        · rw [hk.block k h hs'] at e2
          rw [HS'.out]; exact .inr (.inr ⟨e1, h, cs, f, e2⟩)
      · exact .inr ⟨by omega, cs, f, e2⟩
  have HJ2 : Hid (∀ s A k o, w4.heap.size ≤ k → ¬ IsRow gt A k → J s A → J s (A.putObj k o)) := fun s A k o h1 h2 hj => HJ.out.1 s A _ (kept_putObj _ A k o ⟨by omega, h2⟩) hj
  have HJ3 : Hid (∀ s A k o, w4.heap.size ≤ k → ¬ IsRow gt A k → Jx s A → Jx s (A.putObj k o)) := fun s A k o h1 h2 hj => HJ.out.2 s A _ (kept_putObj _ A k o ⟨by omega, h2⟩) hj
  have hI : LowG gt w4.heap.size (fun (pre : List (Nd ByteArray)) W' => J (kept pre) W' ∧ Kept S' w4 W') := fun s A C hk hj => ⟨HJ.out.1 (kept s) A C (hk.mono fun k _ e => ⟨by omega, e.2⟩) hj.1, (low_kept (β := Unit) _ S' w4 (Nat.le_refl _)).g () A C hk hj.2⟩
  have hIx : ∀ c, LowG gt w4.heap.size (fun (pre : List (Nd ByteArray)) W' => c = Code.ret ∧ ∃ pre', pre' <+: kept (undN p N) ∧ Jx pre' W') := fun c s A C hk ⟨e, pre', e1, hj⟩ => ⟨e, pre', e1, HJ.out.2 pre' A C (hk.mono fun k _ e => ⟨by omega, e.2⟩) hj⟩
  clear hS'
  have h04 : J (kept ([] : List (Nd ByteArray))) w4 := HJ.out.1 _ _ _ (Kept.of_below HD.out.2.2.2) H0.out
  gi_wp2_with fail
  refine rangeG_outer (gt := gt) (gf := 77) (lb := #[.pointer (some ⟨bn, 0, none⟩)]) (encs := fun x : Nd ByteArray => #[Value.pointer (some ⟨x.blk, 0, none⟩)]) (xs := undN p N) (S := S') rfl (enters_of Try.func77 (by kernel_rfl) rfl)
    hS4 (each_tellsG gt hg1 w4 HD.out.1 bn HD.out.2.1 S' hS4 hoff) (Below.refl _ _) (fun _ => rfl)
    (fun pre W' => J (kept pre) W' ∧ Kept S' w4 W') (fun c pre W' => c = .ret ∧ ∃ pre', pre' <+: kept (undN p N) ∧ Jx pre' W') hI hIx ⟨h04, Kept.refl _ _⟩ ?round ?done ?stop
  case stop =>
    rintro c pre W' _ ⟨rfl, pre', hp', hj⟩ hks hD'
    have HF : Hid (W'.heap[w4.heap.size]? = some (.deferred (some [])) ∧ Jx pre' (W'.putObj w4.heap.size (.deferred none))) := ⟨hD', HJ3.out _ _ _ _ (Nat.le_refl _) (fun ⟨_, _, e⟩ => by rw [hD'] at e; cases e) hj⟩
    have HP' : Hid (pre' <+: kept (undN p N)) := hp'
    clear hj hks hD' hp'
    gi_wp2_with fail
    refine ⟨by simp, .inl ⟨_, _, rfl, run_takeDeferred HF.out.1, ?_⟩⟩
    refine ⟨.tuple #[], ?_, ⟨_, rfl⟩, .inr ⟨pre', HP'.out, HF.out.2⟩⟩
    simp [results, Try.results79, go_sem]
  case done =>
    rintro W' ⟨hj, hK⟩ hks hD'
    have HF : Hid (W'.heap[w4.heap.size]? = some (.deferred (some [])) ∧ J (kept (undN p N)) (W'.putObj w4.heap.size (.deferred none))) := ⟨hD', HJ2.out _ _ _ _ (Nat.le_refl _) (fun ⟨_, _, e⟩ => by rw [hD'] at e; cases e) hj⟩
    clear hj hks hD' hK
    gi_wp2_with fail
    refine ⟨by simp, .inl ⟨_, _, rfl, run_takeDeferred HF.out.1, ?_⟩⟩
    refine ⟨.tuple #[], ?_, ⟨_, rfl⟩, .inl HF.out.2⟩
    simp [results, Try.results79, go_sem]
  case round =>
    rintro l' pre x W' K hl' ⟨rl, hlp⟩ hz hpre ⟨hj, hK⟩ hKK
    have hx : x ∈ undN p N := hpre.subset (by simp)
    obtain ⟨b0', b1', hnd⟩ := HD.out.1.thing x hx
    obtain ⟨A4, hA4⟩ : ∃ A : Value, A = pt b0' := ⟨_, rfl⟩
    obtain ⟨A5, hA5⟩ : ∃ A : Value, A = pt b1' := ⟨_, rfl⟩
    gi_wp2_with fail
    refine hKK _ _ (Kept.refl _ _) ?_
    intro Wb hkb hrec
    have hlt' := (Array.getElem?_eq_some_iff.1 hlp).1
    have hjb : J (kept pre) Wb := HJ.out.1 _ _ _ (hkb.mono fun k hk e => by
      have e' : k = l' := e
      subst e'
      exact ⟨by omega, fun ⟨_, _, e⟩ => by rw [hlp] at e; cases e⟩) hj
    have hKb : Kept S' w4 Wb := ⟨hkb.os.trans hK.os, hkb.tape.trans hK.tape, hkb.output.trans hK.output, Nat.le_trans hK.size hkb.size, fun k hk hs => (hkb.block k (Nat.lt_of_lt_of_le hk hK.size) (fun e => by have e' : k = l' := e; omega)).trans (hK.block k hk hs)⟩
    have eX : Blk Wb x.blk #[.int .u64 (hiOf (valOf W x.key)), .int .u64 (loOf (valOf W x.key)), .int .i64 x.key.length, pt (x.th.map (·.1)), A4, A5] 129 := by
      rw [hA4, hA5]
      exact hnd.cells.kept hKb (HO.out.1 x hx).1
    have eT : ∀ t v, x.th = some (t, v) → Blk Wb t #[encV v] 9 := fun t v ht => (hnd.thing t v ht).kept hKb ((HO.out.1 x hx).2 t v ht)
    have eY : Blk Wb W1.heap.size #[.func (.yield l) #[] #[]] 132 := HD.out.2.2.1.kept hKb HO.out.2
    have HE : Hid (J (kept pre) Wb ∧ Kept S' w4 Wb) := ⟨hjb, hKb⟩
    have HPre : Hid (kept pre ++ ownK x <+: kept (undN p N)) := by rw [← kept_snoc]; exact kept_pre hpre
    clear hA4 hA5 hnd hj hK hKK hkb hrec hpre hx hjb hlp
    cases ht : x.th with
    | none =>
      rw [ht] at eX
      have x3 := two_cells eX (i := 3) (v := .pointer none) rfl
      have HF : Hid (∀ z : Grown Wb, Kept (Gst gt w4.heap.size S' Wb) Wb (gw z) ∧ J (kept (pre ++ [x])) (gw z) ∧ Kept S' w4 (gw z)) := fun z => by
        have e : kept (pre ++ [x]) = kept pre := by rw [kept_snoc]; unfold ownK; rw [ht]; simp
        rw [e]
        exact ⟨Kept.of_below (gw_below z), HJ.out.1 _ _ _ (Kept.of_below (gw_below z)) HE.out.1, HE.out.2.trans (Kept.of_below (gw_below z))⟩
      clear eX ht eT eY
      gi_wp2_with fail
      refine grows_round hmix (by kernel_rfl) (by kernel_rfl) ?_
      repeat (gi_big_quiet_step (fail))
      refine Go.BigFrame.wpQuietIn_skip (fun _ _ _ _ => trivial) (by rfl) ?_
      go_simp
      repeat (gi_big_quiet_step (fail))
      refine wpQuietIn_nil ?_
      intro zq
      gi_wp2_with fail
      exact HF.out zq
    | some t =>
      obtain ⟨t, u⟩ := t
      rw [ht] at eX
      have eT' := eT t u ht
      have x0 := eX.cell 0 (v := .int .u64 (hiOf (valOf W x.key))) rfl
      have x1 := eX.cell 1 (v := .int .u64 (loOf (valOf W x.key))) rfl
      have x2 := eX.cell 2 (v := .int .i64 x.key.length) rfl
      have x3 := eX.cell 3 (v := .pointer (some ⟨t, 0, none⟩)) rfl
      have t0 := eT'.cell 0 (v := .string u) rfl
      have y0 := eY.cell 0 (v := .func (.yield l) #[] #[]) rfl
      have hown : ownK x = [(x.key, u)] := by unfold ownK; rw [ht]
      have HK : Hid (kept (pre ++ [x]) = kept pre ++ [(x.key, u)] ∧ kept pre ++ [(x.key, u)] <+: kept (undN p N)) := ⟨by rw [kept_snoc, hown], by rw [← hown]; exact HPre.out⟩
      have CT : Hid (∀ W2, Below Wb.heap.size Wb W2 → ∃ fn tmps assign body, (Instr.yield l #[Pf (valOf W x.key) x.key.length, .string u]).run Try.prog W2 = .ok (.round l fn tmps assign body) W2 ∧ Hid (∀ m', RoundIn Fence.wide m' Try.prog l fn tmps assign body W2 fun e w' => ∃ bb : Bool, e = .returned (.bool bb) ∧ Hid ((bb = true → Kept (Gst gt w4.heap.size S' Wb) Wb w' ∧ J (kept (pre ++ [x])) w' ∧ Kept S' w4 w') ∧ (bb = false → Kept (Gst gt w4.heap.size S' Wb) Wb w' ∧ ∃ pre', pre' <+: kept (undN p N) ∧ Jx pre' w')))) := fun W2 hb2 => by
        obtain ⟨fn, tmps, assign, body, g1, g2⟩ := HY.out (kept pre) (x.key, u) W2 HK.out.2 (HJ.out.1 _ _ _ (Kept.of_below hb2) HE.out.1)
        refine ⟨fn, tmps, assign, body, g1, (fun m' => ?_ : ∀ m', _)⟩
        obtain ⟨fn', tmps', assign', body', g1', g2'⟩ := yield_any (m' := m') ⟨fn, tmps, assign, body, g1, g2⟩
        rw [g1] at g1'
        cases g1'
        refine g2'.mono ?_
        have hgo : ∀ w', Kept (Gst gt W1.heap.size S W2) W2 w' → Kept (Gst gt w4.heap.size S' Wb) Wb w' := fun w' hk => ⟨hk.os.trans hb2.os, hk.tape.trans hb2.tape, hk.output.trans hb2.output, Nat.le_trans hb2.size hk.size, fun k hk' hs => (hk.block k (Nat.lt_of_lt_of_le hk' hb2.size) (fun e => hs (HG.out Wb W2 HE.out.2 hb2 k hk' e))).trans (hb2.block k hk')⟩
        have hgx : ∀ w', Kept (fun k => Gst gt W1.heap.size S W2 k ∨ k = l) W2 w' → Kept (Gst gt w4.heap.size S' Wb) Wb w' := fun w' hk => ⟨hk.os.trans hb2.os, hk.tape.trans hb2.tape, hk.output.trans hb2.output, Nat.le_trans hb2.size hk.size, fun k hk' hs => (hk.block k (Nat.lt_of_lt_of_le hk' hb2.size) (fun e => e.elim (fun e => hs (HG.out Wb W2 HE.out.2 hb2 k hk' e)) (fun e => hs (.inl (by rw [HS'.out]; exact .inr (.inl e)))))).trans (hb2.block k hk')⟩
        have hk4 : ∀ w', Kept (Gst gt w4.heap.size S' Wb) Wb w' → Kept S' w4 w' := fun w' hk => ⟨hk.os.trans HE.out.2.os, hk.tape.trans HE.out.2.tape, hk.output.trans HE.out.2.output, Nat.le_trans HE.out.2.size hk.size, fun k hk' hs => (hk.block k (Nat.lt_of_lt_of_le hk' HE.out.2.size) (fun e => e.elim hs (fun e => by have := e.1; omega))).trans (HE.out.2.block k hk' hs)⟩
        rintro e w' (⟨rfl, hj, hk⟩ | ⟨rfl, hj, hk⟩)
        · exact ⟨true, rfl, (⟨fun _ => ⟨hgo _ hk, by rw [HK.out.1]; exact hj, hk4 _ (hgo _ hk)⟩, fun e => (nomatch e)⟩ : _ ∧ _)⟩
        · exact ⟨false, rfl, (⟨fun e => (nomatch e), fun _ => ⟨hgx _ hk, _, HK.out.2, hj⟩⟩ : _ ∧ _)⟩
      clear eX ht eT eY eT' hown
      gi_wp2_with fail
      gi_cut [40] from 21 (fun t wx => ∃ bb : Bool, t = .bool (!bb) ∧ Hid ((bb = true → Kept (Gst gt w4.heap.size S' Wb) Wb wx ∧ J (kept (pre ++ [x])) wx ∧ Kept S' w4 wx) ∧ (bb = false → Kept (Gst gt w4.heap.size S' Wb) Wb wx ∧ ∃ pre', pre' <+: kept (undN p N) ∧ Jx pre' wx)))
      case first =>
        have x0' := gw_cell x0
        have x1' := gw_cell x1
        have x2' := gw_cell x2
        have x3' := gw_cell x3
        have t0' := gw_cell t0
        have y0' := gw_cell y0
        clear HT HBT HBP HJ H0 HY HMN HNB HSN HL HD HO HG HJ2 HJ3 hI hIx h04 HE HPre HK HS' hS4 hoff hy1 hKb hS hW hs hwl hw1 hz hl' hlt' rl x0 x1 x2 x3 t0 y0
        refine gate_round 17 hmix (by kernel_rfl) (by kernel_rfl) (by kernel_rfl) (by kernel_rfl) ?_
        simp only [List.take_succ_cons, List.take_zero]
        repeat (gi_big_quiet_step (fail))
        refine wpQuietIn_nil ?_
        intro wq hwq
        obtain ⟨zq, rfl⟩ := hwq
        obtain ⟨fn, tmps, assign, body, hyi, HRd⟩ := CT.out (gw zq) (gw_below zq)
        clear CT x0' x1' x2' x3' t0' y0'
        generalize gw zq = w5 at *
        change wpAnyIn _ _ _ _ _ _ 3 (upTo 17 3) _ _
        refine wpAnyIn_ready (rs := [17]) (by kernel_rfl) (by simp) ?_
        refine AllReadyIn.cons rfl (fun K5 hK5 => ?_) AllReadyIn.nil
        go_simp
        refine ⟨no_depth _, ?_⟩
        refine (HRd.out _).mono ?_
        rintro e w7 ⟨bb, rfl, HM7⟩
        refine hK5 _ _ ?_
        clear hK5 K5
        refine wpAnyIn_ready (rs := [18]) (by kernel_rfl) (by simp) ?_
        refine AllReadyIn.cons rfl (fun K5 hK5 => ?_) AllReadyIn.nil
        go_simp
        refine hK5 _ _ ?_
        clear hK5 K5
        refine wpAnyIn_ready (rs := [19]) (by kernel_rfl) (by simp) ?_
        refine AllReadyIn.cons rfl (fun K5 hK5 => ?_) AllReadyIn.nil
        go_simp
        refine hK5 _ _ ?_
        clear hK5 K5
        refine wpAnyIn_done (by kernel_rfl) ?_ _
        gi_wp2_with fail
        go_meet
        exact ⟨bb, rfl, HM7⟩
      case rest =>
        obtain ⟨bb, rfl, HM7⟩ := hcut
        cases bb
        · have HF : Hid (Kept (Gst gt w4.heap.size S' Wb) Wb wc ∧ ∃ pre', pre' <+: kept (undN p N) ∧ Jx pre' wc) := HM7.out.2 rfl
          gi_wp2_with fail
          exact ⟨HF.out.1, rfl, HF.out.2⟩
        · have HF := HM7.out.1 rfl
          gi_wp2_with fail
          exact HF
end Go.Proofs.Ytgdpplipahhffaa.St
namespace Go.Proofs.Ytgdpplipahhffaa.St
open Go.RowKit
set_option linter.unusedVariables false
set_option linter.unusedSimpArgs false

def CntN (w3 : World) (An : Nat) (pre : List (Nd ByteArray)) (W' : World) : Prop := Blk W' An #[.int .i64 pre.length] 3 ∧ Kept (fun k => k = An) w3 W'
theorem cntN_low {w3 : World} {An : Nat} (h : An < w3.heap.size) : LowG 51 w3.heap.size (CntN w3 An) :=
  (low_blk _ _ (fun pre : List (Nd ByteArray) => #[.int .i64 pre.length]) _ h).g.and (low_kept _ _ _ (Nat.le_refl _)).g
attribute [local go_sem] Oper.semAt_some
set_option maxHeartbeats 4000000 in
set_option maxRecDepth 100000 in
theorem nodes_any {w : World} {q W most : Nat} {a : Option Nat} {n : Nat} {N : List (Nd ByteArray)} (hT : TrieAt w q W most a n N) (hlen : N.length ≤ 1000000) (m : Nat) :
    CallsIn Fence.wide m Try.prog 35 #[.pointer (some ⟨q, 0, none⟩)] w fun e w' => e = .returned (.int .i64 N.length) ∧ Below w.heap.size w w' := by
  obtain ⟨A, hA⟩ : ∃ A : Option Addr, A = a.map fun b => ⟨b, 0, none⟩ := ⟨_, rfl⟩
  have HB : Hid _ := one_new w #[.int .i64 0] 3
  have HT : Hid (TrieAt w q W most a n N) := hT
  have HQ : Hid (Blk w q #[.int .i64 W, .int .i64 most, .int .i64 (kept N).length, .pointer A] 108) := by rw [hA]; exact hT.hd
  have C50 : Hid (∀ w1, CallsIn Fence.wide (m - 1) Try.prog 61 #[.pointer A] w1 fun e w' => e = .returned (.func (.func 77) #[] #[.pointer (some ⟨w1.heap.size, 0, none⟩)]) ∧ Hid (Blk w' w1.heap.size #[pt a] 106 ∧ Below w1.heap.size w1 w')) := fun w1 => callsIn_wide.2 (by rw [hA]; exact each_any a w1)
  have HL : Hid (N.length ≤ 1000000) := hlen
  clear hT hA hlen
  refine callsIn_of_wp_marks Try.func35 rfl trivial ?_ rfl
  simp only [Try.ntmps35, List.size_toArray, List.length_cons, List.length_nil, Nat.reduceAdd, Nat.reduceSub, Array.replicate_succ, Array.replicate_zero, List.push_toArray, List.append_toArray, List.nil_append, List.cons_append]
  gi_upto_region 4 with fail
  generalize (w.alloc _) = w1 at HB ⊢
  have q3 := (HQ.out.below HB.out.2.1).cell 3 (v := .pointer A) rfl
  gi_wp2_with fail
  refine ⟨trivial, no_depth _, ?_⟩
  refine (C50.out _).mono ?_
  rintro e w3 ⟨rfl, H3⟩
  have hAn : w.heap.size < w3.heap.size := Nat.lt_of_lt_of_le HB.out.1.lt H3.out.2.size
  have HD : Hid (Blk w3 w.heap.size #[.int .i64 0] 3 ∧ Below w.heap.size w w3) := ⟨HB.out.1.below H3.out.2, bst HB.out.2.1 H3.out.2⟩
  have hoff : Off (fun k => k = w.heap.size) N := HT.out.hang.off_new fun k e => by have e' : k = w.heap.size := e; omega
  have hseq := each_tellsG 51 (by decide) w3 (HT.out.hang.below HD.out.2) _ H3.out.1 (fun k => k = w.heap.size) (fun k e => by have e' : k = w.heap.size := e; omega) hoff
  clear q3 C50 HB H3 HQ hoff
  generalize w1.heap.size = bn at *
  gi_wp2_with fail
  refine rangeG_outer (gt := 51) (gf := 77) (lb := #[.pointer (some ⟨bn, 0, none⟩)]) (encs := fun x : Nd ByteArray => #[Value.pointer (some ⟨x.blk, 0, none⟩)]) (xs := N) (S := fun k => k = w.heap.size) rfl (enters_of Try.func77 (by kernel_rfl) rfl)
    (fun k e => by have e' : k = w.heap.size := e; omega) hseq (Below.refl _ _) (fun _ => rfl)
    (CntN w3 w.heap.size) (fun c pre W' => False) (cntN_low hAn) (fun c => (low_pure _ _).g)
    ⟨HD.out.1, Kept.refl _ _⟩ ?round ?done ?stop
  case stop =>
    rintro c pre W' _ hf
    exact hf.elim
  case round =>
    rintro l' pre x W' K hl' ⟨rl, hlp⟩ hz hpre ⟨b0, hK⟩ hKK
    have hcnt : pre.length + 1 ≤ 1000000 := by
      have g1 := hpre.length_le
      rw [List.length_append, List.length_singleton] at g1
      have := HL.out
      omega
    gi_wp2_with fail
    refine hKK _ _ (Kept.refl _ _) ?_
    intro Wb hkb hrec
    have hKb : Kept (fun k => k = w.heap.size) w3 Wb := ⟨hkb.os.trans hK.os, hkb.tape.trans hK.tape, hkb.output.trans hK.output, Nat.le_trans hK.size hkb.size, fun k hk hs => (hkb.block k (Nat.lt_of_lt_of_le hk hK.size) (fun e => by have e' : k = l' := e; omega)).trans (hK.block k hk hs)⟩
    have HE : Hid (Blk Wb w.heap.size #[.int .i64 pre.length] 3 ∧ Kept (fun k => k = w.heap.size) w3 Wb) := ⟨b0.kept hkb (by show ¬ _ = _; omega), hKb⟩
    have n0 := HE.out.1.cell 0 (v := .int .i64 pre.length) rfl
    have f0 := HE.out.1.frozen 0
    clear b0 hK hKK hkb hrec hKb hpre hz hl' hlp rl hseq
    gi_wp2_with fail
    have e1 : (pre ++ [x]).length = pre.length + 1 := by simp
    have k5 : Kept (fun k => k = w.heap.size) Wb (Wb.setCell ⟨w.heap.size, 0, none⟩ (.int .i64 ((pre.length : Int) + 1))) := (Kept.refl (fun k => k = w.heap.size) Wb).set (p := ⟨w.heap.size, 0, none⟩) rfl _
    refine ⟨k5.mono fun k _ e => .inl e, ?_, HE.out.2.trans k5⟩
    have := HE.out.1.set 0 (.int .i64 ((pre.length : Int) + 1))
    rw [e1]
    exact this
  case done =>
    rintro W' ⟨b0, hK⟩ hks hD'
    have hl3 : w3.heap.size < W'.heap.size := (Array.getElem?_eq_some_iff.1 hD').1
    have HF : Hid (Blk W' w.heap.size #[.int .i64 N.length] 3 ∧ W'.heap[w3.heap.size]? = some (.deferred (some [])) ∧ Below w.heap.size w W') := ⟨b0, hD', HD.out.2.trans (hK.below HD.out.2.size (fun k e => by have e' : k = w.heap.size := e; omega))⟩
    have n0 := HF.out.1.cell 0 (v := .int .i64 N.length) rfl
    clear b0 hK hks hD' hseq
    gi_wp2_with fail
    refine ⟨by simp, .inl ⟨_, _, rfl, run_takeDeferred HF.out.2.1, ?_⟩⟩
    have hkk := kept_putObj (fun k => w.heap.size ≤ k) W' w3.heap.size (.deferred none) (Nat.le_of_lt hAn)
    refine ⟨.int .i64 N.length, ?_, rfl, HF.out.2.2.trans (hkk.below HF.out.2.2.size (fun k e => e))⟩
    simp [results, Try.results35, go_sem]
end Go.Proofs.Ytgdpplipahhffaa.St
