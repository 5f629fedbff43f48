/- Package trie: way: the nodes whose prefixes begin a prefix. -/
import Derived.Test.YtgdpplipahhffaaGi
import Derived.Test.YtgdpplipahhffaaWi
import Derived.Test.YtgdpplipahhffaaGu
namespace Go.Proofs.Ytgdpplipahhffaa
open Go.RowKit
set_option linter.unusedVariables false
set_option linter.unusedSimpArgs false

theorem way_any (q : Addr) (p : List Bool) (W : Nat) (w : World) : Calls Try.prog 71 #[.pointer (some q), Pf (valOf W p) p.length] w fun e w' => e = .returned (.func (.func 85) #[] #[.pointer (some ⟨w.heap.size, 0, none⟩), .pointer (some ⟨w.heap.size + 1, 0, none⟩)]) ∧ Blk w' w.heap.size #[.pointer (some q)] 24 ∧ Blk w' (w.heap.size + 1) #[.int .u64 (hiOf (valOf W p)), .int .u64 (loOf (valOf W p)), .int .i64 p.length] 51 ∧ Below w.heap.size w w' := by
  have hmf := mf
  have HB := two_new' w #[.pointer (some q)] #[.int .u64 (hiOf (valOf W p)), .int .u64 (loOf (valOf W p)), .int .i64 p.length] 24 51
  go_enter Try.func71, Try.ntmps71
  go_wp2
  go_ret
  exact ⟨rfl, HB.out.1, HB.out.2.1, HB.out.2.2.1⟩
/-- How far a pointer's node is from the deepest ones. -/
def msr (W : Nat) (t : Value) (w : World) : Nat := match t with
  | .pointer (some a) => W + 1 - (intOf ((w.cell? ⟨a.block, 2, none⟩).getD (.int .i64 0))).toNat
  | _ => 0
theorem msr_at {W b : Nat} {w : World} {l : Nat} (h : w.cell? ⟨b, 2, none⟩ = some (.int .i64 l)) : msr W (.pointer (some ⟨b, 0, none⟩)) w = W + 1 - l := by
  show W + 1 - (intOf ((w.cell? ⟨b, 2, none⟩).getD (.int .i64 0))).toNat = _
  rw [h]; simp [intOf]
theorem ne_nil82 (a : Addr) (w : World) : (binOp .neq 82 (.pointer (some a)) (.pointer none)).run Try.prog w = .ok (.bool true) w := by kernel_rfl
set_option maxHeartbeats 4000000 in
set_option maxRecDepth 100000 in
theorem way_tells {W : Nat} (h1 : 1 ≤ W) (h2 : W ≤ 128) {p : List Bool} (hp : p.length ≤ W) (q : Nat) (w : World) (cnt most : Value) (a : Option Nat) (hq : Blk w q #[.int .i64 W, most, cnt, pt a] 84) {n0 : Nat} {N : List (Nd Int)} (hH : Hang 98 3 encV W w n0 a N)
    (bt bp : Nat) (hbt : Blk w bt #[.pointer (some ⟨q, 0, none⟩)] 24) (hbp : Blk w bp #[.int .u64 (hiOf (valOf W p)), .int .u64 (loOf (valOf W p)), .int .i64 p.length] 51) (S : Nat → Prop) (hSq : ¬ S q) (hSt : ¬ S bt) (hSp : ¬ S bp) (hSN : Off S N) :
    Tells Try.prog 85 #[.pointer (some ⟨bt, 0, none⟩), .pointer (some ⟨bp, 0, none⟩)] (fun x : Nd Int => #[Value.pointer (some ⟨x.blk, 0, none⟩)]) (wayN p N) S w := by
  intro n l J Jx w1 hW hl hJ hJx hY h0
  have HQ : Hid (Blk w1 q #[.int .i64 W, most, cnt, pt a] 84) := hq.below hW
  have HT : Hid (Blk w1 bt #[.pointer (some ⟨q, 0, none⟩)] 24) := hbt.below hW
  have HP : Hid (Blk w1 bp #[.int .u64 (hiOf (valOf W p)), .int .u64 (loOf (valOf W p)), .int .i64 p.length] 51) := hbp.below hW
  have HH : Hid (Hang 98 3 encV W w1 n0 a N) := hH.below hW
  have HS : Hid (¬ S q ∧ ¬ S bt ∧ ¬ S bp) := ⟨hSq, hSt, hSp⟩
  have HO : Hid (Off S N) := hSN
  have HY : Hid (∀ (pre : List (Nd Int)) x W1, pre ++ [x] <+: wayN p N → J pre W1 → YieldAt Fence.wide (n - 1) Try.prog l #[Value.pointer (some ⟨x.blk, 0, none⟩)] W1 fun e W' => (e = .returned (.bool true) ∧ J (pre ++ [x]) W' ∧ Kept S W1 W') ∨ (e = .returned (.bool false) ∧ Jx (pre ++ [x]) W' ∧ Kept (fun k => S k ∨ k = l) W1 W')) := hY
  have HJ : Hid (Low w1.heap.size J) := hJ
  have H0 : Hid (J [] w1) := h0
  have t0 := HT.out.cell 0 (v := .pointer (some ⟨q, 0, none⟩)) rfl
  have C70 : Hid (∀ c : List Bool, c.length ≤ W → ∀ w1, CallsIn Fence.wide (n - 1) Try.prog 70 #[Pf (valOf W c) c.length, Pf (valOf W p) p.length, .int .i64 W] w1 fun e w' => e = .returned (.bool (decide (c <+: p))) ∧ Below w1.heap.size w1 w') := fun c hc w1 => callsIn_wide.2 (begins_any h1 h2 hc hp w1)
  have C69 : Hid (∀ k : Nat, ∀ w1, CallsIn Fence.wide (n - 1) Try.prog 69 #[B (valOf W p), .int .i64 W, .int .i64 k] w1 fun e w' => e = .returned (.int .i64 (if p[k]?.getD false = true then 1 else 0)) ∧ Below w1.heap.size w1 w') := fun k w1 => callsIn_wide.2 (by
    have := side_any h1 h2 hp k w1
    unfold sideN at this
    cases hb : p[k]?.getD false <;> rw [hb] at this <;> exact this)
  obtain ⟨A, hA⟩ : ∃ A : Option Addr, A = a.map fun b => ⟨b, 0, none⟩ := ⟨_, rfl⟩
  have HA : Hid (A = a.map fun b => (⟨b, 0, none⟩ : Addr)) := hA
  have HQA : Hid (Blk w1 q #[.int .i64 W, most, cnt, .pointer A] 84) := by rw [hA]; exact HQ.out
  have q3 := HQA.out.cell 3 (v := .pointer A) rfl
  clear hA hq hH hbt hbp hSq hSt hSp hSN hW hJ hY h0 HQ
  refine callsIn_of_wp Try.func85 rfl trivial ?_ rfl
  simp only [Try.ntmps85, List.size_toArray, List.length_cons, List.length_nil, Nat.reduceAdd, Nat.reduceSub, Array.replicate_succ, Array.replicate_zero, List.push_toArray, List.append_toArray, List.nil_append, List.cons_append]
  gi_wp2
  gi_loopw [4] (fun t wr => ∃ a' n' N' pre, t = pt a' ∧ Hid (Hang 98 3 encV W wr n' a' N' ∧ Off S N' ∧ pre ++ wayN p N' = wayN p N ∧ J pre wr ∧ Kept S w1 wr)) (fun t wr => msr W t wr)
  case atStart => exact ⟨a, n0, N, [], by rw [HA.out], HH.out, HO.out, rfl, H0.out, Kept.refl _ _⟩
  case round =>
    obtain ⟨a', n', N', pre, rfl, HR⟩ := hrel
    cases a' with
    | none =>
      rw [show pt none = Value.pointer none from rfl]
      have HF : Hid (J (wayN p N) wr) := by
        obtain ⟨g1, g2, g3, g4, g5⟩ := HR.out
        rw [g1.of_none] at g3
        have e : pre = wayN p N := by rw [← g3]; exact (List.append_nil _).symm
        rw [← e]; exact g4
      clear HR H0 HH HO C70 C69
      have hmix : Try.prog.follows .mixedOrders = true := by kernel_rfl
      gi_wp2_with fail
      refine grows_wide hmix (by kernel_rfl) ?_
      repeat (gi_big_quiet_step (fail))
      refine Go.BigFrame.wpQuietIn_skip (fun _ _ _ _ => trivial) (by rfl) ?_
      go_simp
      repeat (gi_big_quiet_step (fail))
      refine Go.BigFrame.wpQuietIn_skip (fun _ _ _ _ => trivial) (by rfl) ?_
      go_simp
      repeat (gi_big_quiet_step (fail))
      refine wpQuietIn_nil ?_
      intro zq
      have HF2 : Hid (J (wayN p N) (gw zq)) := HJ.out _ _ _ (Kept.of_below (gw_below zq)) HF.out
      gi_wp2_with fail
      go_end0
      exact ⟨⟨_, rfl⟩, .inl HF2.out⟩
    | some b =>
      rw [show pt (some b) = Value.pointer (some ⟨b, 0, none⟩) from rfl]
      obtain ⟨m, x, a0, a1, N0, N1, hn', hbx, hN', hR, hf⟩ := HR.out.1.root
      subst hbx
      have HX : Hid (Root 98 3 encV W wr m x a0 a1 N0 N1 ∧ Off S N' ∧ N' = x :: (N0 ++ N1) ∧ pre ++ wayN p N' = wayN p N ∧ J pre wr ∧ Kept S w1 wr) := ⟨hR, HR.out.2.1, hN', HR.out.2.2.1, HR.out.2.2.2.1, HR.out.2.2.2.2⟩
      have hl := hR.node.len
      obtain ⟨A3, hA3⟩ : ∃ A : Option Addr, A = (x.th.map (·.1)).map fun b => ⟨b, 0, none⟩ := ⟨_, rfl⟩
      obtain ⟨A4, hA4⟩ : ∃ A : Option Addr, A = a0.map fun b => ⟨b, 0, none⟩ := ⟨_, rfl⟩
      obtain ⟨A5, hA5⟩ : ∃ A : Option Addr, A = a1.map fun b => ⟨b, 0, none⟩ := ⟨_, rfl⟩
      have HXA : Hid (A4 = (a0.map fun b => (⟨b, 0, none⟩ : Addr)) ∧ A5 = (a1.map fun b => (⟨b, 0, none⟩ : Addr))) := ⟨hA4, hA5⟩
      have xb0 : Blk wr x.blk #[.int .u64 (hiOf (valOf W x.key)), .int .u64 (loOf (valOf W x.key)), .int .i64 x.key.length, .pointer A3, .pointer A4, .pointer A5] 98 := by rw [hA3, hA4, hA5]; exact hR.node.cells
      have HXB : Hid (Blk wr x.blk #[.int .u64 (hiOf (valOf W x.key)), .int .u64 (loOf (valOf W x.key)), .int .i64 x.key.length, .pointer A3, .pointer A4, .pointer A5] 98) := xb0
      have HW : Hid (Blk wr q #[.int .i64 W, most, cnt, .pointer A] 84 ∧ Blk wr bt #[.pointer (some ⟨q, 0, none⟩)] 24 ∧ Blk wr bp #[.int .u64 (hiOf (valOf W p)), .int .u64 (loOf (valOf W p)), .int .i64 p.length] 51) := ⟨HQA.out.kept HX.out.2.2.2.2.2 HS.out.1, HT.out.kept HX.out.2.2.2.2.2 HS.out.2.1, HP.out.kept HX.out.2.2.2.2.2 HS.out.2.2⟩
      have hmix : Try.prog.follows .mixedOrders = true := by kernel_rfl
      clear hA3 hA4 hA5 xb0 hf hN' hR HR H0 HH q3 t0 hn'
      by_cases hx : x.key <+: p
      · have HE : Hid (pre ++ [x] <+: wayN p N ∧ pre ++ [x] ++ wayN p (if p[x.key.length]?.getD false = true then N1 else N0) = wayN p N) := by
          obtain ⟨g1, g2, g3, g4, g5, g6⟩ := HX.out
          rw [g3, way_on g1 hx] at g4
          have e : pre ++ [x] ++ wayN p (if p[x.key.length]?.getD false = true then N1 else N0) = wayN p N := by rw [← g4]; simp
          exact ⟨⟨_, e⟩, e⟩
        have C1 : Hid (∀ w1, Below wr.heap.size wr w1 → CallsIn Fence.wide (n - 1) Try.prog 70 #[Pf (valOf W x.key) x.key.length, Pf (valOf W p) p.length, .int .i64 W] w1 fun e w' => e = .returned (.bool true) ∧ Below wr.heap.size wr w') := fun w1 hb => by
          have := C70.out x.key hl w1
          rw [decide_eq_true hx] at this
          exact this.mono fun e w' h => ⟨h.1, bst hb h.2⟩
        have CT : Hid (∀ W2, Below wr.heap.size wr W2 → ∃ fn tmps assign body, (Instr.yield l #[.pointer (some ⟨x.blk, 0, none⟩)]).run Try.prog W2 = .ok (.round l fn tmps assign body) W2 ∧ Hid (RoundIn Fence.wide (n - 1) Try.prog l fn tmps assign body W2 fun e w' => ∃ bb : Bool, e = .returned (.bool bb) ∧ Hid ((bb = true → J (pre ++ [x]) w' ∧ Kept S wr w') ∧ (bb = false → Jx (pre ++ [x]) w')))) := fun W2 h2 => by
          obtain ⟨fn, tmps, assign, body, g1, g2⟩ := HY.out pre x W2 HE.out.1 (HJ.out _ _ _ (Kept.of_below h2) HX.out.2.2.2.2.1)
          refine ⟨fn, tmps, assign, body, g1, g2.mono ?_⟩
          rintro e w' (⟨rfl, hj, hk⟩ | ⟨rfl, hj, hk⟩)
          · exact ⟨true, rfl, (⟨fun _ => ⟨hj, (Kept.of_below h2).trans hk⟩, fun e => (nomatch e)⟩ : _ ∧ _)⟩
          · exact ⟨false, rfl, (⟨fun e => (nomatch e), fun _ => hj⟩ : _ ∧ _)⟩
        have x0 := HXB.out.cell 0 (v := .int .u64 (hiOf (valOf W x.key))) rfl
        have x1 := HXB.out.cell 1 (v := .int .u64 (loOf (valOf W x.key))) rfl
        have x2 := HXB.out.cell 2 (v := .int .i64 x.key.length) rfl
        have y0 := HW.out.2.2.cell 0 (v := .int .u64 (hiOf (valOf W p))) rfl
        have y1 := HW.out.2.2.cell 1 (v := .int .u64 (loOf (valOf W p))) rfl
        have y2 := HW.out.2.2.cell 2 (v := .int .i64 p.length) rfl
        have z0 := HW.out.1.cell 0 (v := .int .i64 W) rfl
        have v0 := HW.out.2.1.cell 0 (v := .pointer (some ⟨q, 0, none⟩)) rfl
        clear hx C70 HA
        gi_wp2_with fail
        gi_cut [27] from 9 (fun t wx => ∃ bb : Bool, t = .bool bb ∧ Hid ((bb = true → J (pre ++ [x]) wx ∧ Kept S wr wx) ∧ (bb = false → Jx (pre ++ [x]) wx)))
        case first =>
          gi_region_with (first
            | (refine ⟨trivial, no_depth _, ?_⟩; gi_at_call 70; refine (C1.out _ (by exact ⟨rfl, rfl, rfl, Nat.le_refl _, fun _ _ => rfl⟩)).mono ?_; rintro e W2 ⟨rfl, hb2⟩; obtain ⟨fn, tmps, assign, body, hyi, HRd⟩ := CT.out W2 hb2)
            | (refine ⟨no_depth _, ?_⟩; refine HRd.out.mono ?_; rintro e w7 ⟨bb, rfl, HM7⟩))
          all_goals (gi_wp2_with fail; go_meet; exact ⟨bb, rfl, HM7⟩)
        case rest =>
          obtain ⟨bb, rfl, HM7⟩ := hcut
          cases bb
          · have HJ7 : Hid (Jx (pre ++ [x]) wc) := HM7.out.2 rfl
            gi_wp2_with fail
            first | go_end0 | refine bodyPost_ret (results_none rfl _ _ _) rfl ?_
            exact ⟨⟨_, rfl⟩, .inr ⟨_, HE.out.1, HJ7.out⟩⟩
          · have HM8 : Hid (J (pre ++ [x]) wc ∧ Kept S wr wc) := HM7.out.1 rfl
            have hxN : x ∈ N' := by rw [HX.out.2.2.1]; simp
            have hkc := HM8.out.2
            have XC : Blk wc x.blk _ 98 := HXB.out.kept hkc (HX.out.2.1 x hxN).1
            have QC : Blk wc q _ 84 := HW.out.1.kept hkc HS.out.1
            have TC : Blk wc bt _ 24 := HW.out.2.1.kept hkc HS.out.2.1
            have PC : Blk wc bp _ 51 := HW.out.2.2.kept hkc HS.out.2.2
            have x2 := two_cells XC (i := 2) (v := .int .i64 x.key.length) rfl
            have x4 := two_cells XC (i := 4) (v := .pointer A4) rfl
            have x5 := two_cells XC (i := 5) (v := .pointer A5) rfl
            have y0 := two_cells PC (i := 0) (v := .int .u64 (hiOf (valOf W p))) rfl
            have y1 := two_cells PC (i := 1) (v := .int .u64 (loOf (valOf W p))) rfl
            have z0 := two_cells QC (i := 0) (v := .int .i64 W) rfl
            have v0 := two_cells TC (i := 0) (v := .pointer (some ⟨q, 0, none⟩)) rfl
            have xc2 : wc.cell? ⟨x.blk, 2, none⟩ = some (.int .i64 x.key.length) := XC.cell 2 rfl
            have hms : msr W (.pointer (some ⟨x.blk, 0, none⟩)) wr = W + 1 - x.key.length := msr_at (HXB.out.cell 2 rfl)
            have C2 : Hid (∀ w1, CallsIn Fence.wide (n - 1) Try.prog 69 #[B (valOf W p), .int .i64 W, .int .i64 x.key.length] w1 fun e w' => e = .returned (.int .i64 (if p[x.key.length]?.getD false = true then 1 else 0)) ∧ Below w1.heap.size w1 w') := C69.out x.key.length
            have HN : Hid (∀ w9, Below wc.heap.size wc w9 → ∀ (bit : Bool), p[x.key.length]?.getD false = bit → ∃ n', Hid (Hang 98 3 encV W w9 n' (if bit then a1 else a0) (if bit then N1 else N0) ∧ Off S (if bit then N1 else N0) ∧ (pre ++ [x]) ++ wayN p (if bit then N1 else N0) = wayN p N ∧ J (pre ++ [x]) w9 ∧ Kept S w1 w9) ∧ msr W (pt (if bit then a1 else a0)) w9 < W + 1 - x.key.length) := fun w9 h9 bit hbit => by
              have hk9 : Kept S wr w9 := hkc.trans (Kept.of_below h9)
              have ho : Off S N' := HX.out.2.1
              have e2 := HE.out.2
              rw [hbit] at e2
              have hh : Hang 98 3 encV W w9 m (if bit then a1 else a0) (if bit then N1 else N0) := by
                cases bit
                · exact HX.out.1.h0.keptW hk9 (fun y hy => ho y (by rw [HX.out.2.2.1]; simp at hy ⊢; exact .inr (.inl hy)))
                · exact HX.out.1.h1.keptW hk9 (fun y hy => ho y (by rw [HX.out.2.2.1]; simp at hy ⊢; exact .inr (.inr hy)))
              refine ⟨m, (⟨hh, fun y hy => ho y (by rw [HX.out.2.2.1]; cases bit <;> simp at hy ⊢ <;> simp [hy]), e2, HJ.out _ _ _ (Kept.of_below h9) HM8.out.1, HX.out.2.2.2.2.2.trans hk9⟩ : _ ∧ _), ?_⟩
              have hpr : ∀ y ∈ (if bit then N1 else N0), x.key ++ [bit] <+: y.key := by
                cases bit
                · exact HX.out.1.pre0
                · exact HX.out.1.pre1
              generalize (if bit = true then a1 else a0) = ac at *
              generalize (if bit = true then N1 else N0) = Nc at *
              cases ac with
              | none => show 0 < _; omega
              | some c =>
                obtain ⟨m2, y, b0, b1, M0, M1, _, rfl, rfl, hR2, _⟩ := hh.root
                rw [show pt (some y.blk) = Value.pointer (some ⟨y.blk, 0, none⟩) from rfl, msr_at (hR2.node.cells.cell 2 rfl)]
                have := (hpr y (by simp)).length_le
                simp at this
                have := hR2.node.len
                omega
            clear C69 HX HW HXB HM7 HM8 XC QC TC PC hkc hxN hJx
            gi_wp2_with fail
            refine grows_wide hmix (by kernel_rfl) ?_
            repeat (gi_big_quiet_step (fail))
            refine Go.BigFrame.wpQuietIn_want (fun _ _ _ _ => trivial) (by rfl) ?_
            intro K2 hK2
            gi_big_quiet_op
            apply Exists.intro
            refine ⟨fun _ => ?_, ?_⟩
            · exact ⟨no_depth _, calls_gwIn (C2.out _)⟩
            obtain ⟨bit, hbit⟩ : ∃ bit, p[x.key.length]?.getD false = bit := ⟨_, rfl⟩
            have HBit : Hid (p[x.key.length]?.getD false = bit) := hbit
            rw [hbit]
            clear hbit C2
            cases bit
            all_goals
              go_big_quiet_on
              repeat (gi_big_quiet_step (fail))
              refine wpQuietIn_nil ?_
              intro wq hwq
              obtain ⟨zq, rfl⟩ := hwq
              obtain ⟨n2, H2, hm2⟩ := HN.out (gw zq) (gw_below zq) _ HBit.out
              have e4 := HXA.out.1
              have e5 := HXA.out.2
              have HM2 : Hid (msr W _ (gw zq) < W + 1 - x.key.length) := hm2
              have H4 : Hid (A4 = (a0.map fun b => (⟨b, 0, none⟩ : Addr)) ∧ A5 = (a1.map fun b => (⟨b, 0, none⟩ : Addr))) := ⟨e4, e5⟩
              clear e4 e5 hm2 HN
              gi_wp2_with fail
              go_roundw
              case rel => exact ⟨_, n2, _, pre ++ [x], by first | rw [H4.out.1]; rfl | rw [H4.out.2]; rfl, H2⟩
              case measure => rw [hms]; first | (rw [H4.out.1]; exact HM2.out) | (rw [H4.out.2]; exact HM2.out)
      · have HF : Hid (J (wayN p N) wr) := by
          obtain ⟨g1, g2, g3, g4, g5, g6⟩ := HX.out
          rw [g3, way_off g1 hx, List.append_nil] at g4
          rw [← g4]; exact g5
        have C1 : Hid (∀ w1, CallsIn Fence.wide (n - 1) Try.prog 70 #[Pf (valOf W x.key) x.key.length, Pf (valOf W p) p.length, .int .i64 W] w1 fun e w' => e = .returned (.bool false) ∧ Below w1.heap.size w1 w') := fun w1 => by
          have := C70.out x.key hl w1
          rw [decide_eq_false hx] at this; exact this
        have x0 := two_cells HXB.out (i := 0) (v := .int .u64 (hiOf (valOf W x.key))) rfl
        have x1 := two_cells HXB.out (i := 1) (v := .int .u64 (loOf (valOf W x.key))) rfl
        have x2 := two_cells HXB.out (i := 2) (v := .int .i64 x.key.length) rfl
        have y0 := two_cells HW.out.2.2 (i := 0) (v := .int .u64 (hiOf (valOf W p))) rfl
        have y1 := two_cells HW.out.2.2 (i := 1) (v := .int .u64 (loOf (valOf W p))) rfl
        have y2 := two_cells HW.out.2.2 (i := 2) (v := .int .i64 p.length) rfl
        have z0 := two_cells HW.out.1 (i := 0) (v := .int .i64 W) rfl
        have v0 := two_cells HW.out.2.1 (i := 0) (v := .pointer (some ⟨q, 0, none⟩)) rfl
        clear hx HX HW C69 C70 HXB
        gi_wp2_with fail
        refine grows_wide hmix (by kernel_rfl) ?_
        repeat (gi_big_quiet_step (fail))
        refine Go.BigFrame.wpQuietIn_want (fun _ _ _ _ => trivial) (by rfl) ?_
        intro K2 hK2
        gi_big_quiet_op
        apply Exists.intro
        refine ⟨fun _ => ?_, ?_⟩
        · exact ⟨no_depth _, calls_gwIn (C1.out _)⟩
        go_big_quiet_on
        repeat (gi_big_quiet_step (fail))
        refine Go.BigFrame.wpQuietIn_skip (fun _ _ _ _ => trivial) (by rfl) ?_
        go_simp
        repeat (gi_big_quiet_step (fail))
        refine wpQuietIn_nil ?_
        intro zq
        have HF2 : Hid (J (wayN p N) (gw zq)) := HJ.out _ _ _ (Kept.of_below (gw_below zq)) HF.out
        gi_wp2_with fail
        go_end0
        exact ⟨⟨_, rfl⟩, .inl HF2.out⟩
end Go.Proofs.Ytgdpplipahhffaa
