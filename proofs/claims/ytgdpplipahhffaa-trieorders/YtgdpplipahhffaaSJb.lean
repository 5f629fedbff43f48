/- Package trie: way: the nodes whose prefixes begin a prefix. At string. Package trie: a trie as it lies in memory; kept. At string. Package trie: New, Len, Copy, Clear, Get; and what a nil trie answers. At string. Package trie: Put, Set, Drop. At string. Package trie: Set. At string. Package trie: Drop. At string. A trie made since: Put and Get in all cases. At string. Package trie: Under and All. At string. Package trie: under. At string. -/
import Derived.Test.YtgdpplipahhffaaGi
import Derived.Test.YtgdpplipahhffaaSJa
import Derived.Test.YtgdpplipahhffaaTw
import Derived.Test.YtgdpplipahhffaaKp
import Derived.Test.YtgdpplipahhffaaOb
namespace Go.Proofs.Ytgdpplipahhffaa.St
open Go.RowKit
set_option linter.unusedVariables false
set_option linter.unusedSimpArgs false

theorem way_any (q : Addr) (p : List Bool) (W : Nat) (w : World) : Calls Try.prog 75 #[.pointer (some q), Pf (valOf W p) p.length] w fun e w' => e = .returned (.func (.func 89) #[] #[.pointer (some ⟨w.heap.size, 0, none⟩), .pointer (some ⟨w.heap.size + 1, 0, none⟩)]) ∧ Blk w' w.heap.size #[.pointer (some q)] 70 ∧ Blk w' (w.heap.size + 1) #[.int .u64 (hiOf (valOf W p)), .int .u64 (loOf (valOf W p)), .int .i64 p.length] 51 ∧ Below w.heap.size w w' := by
  have hmf := mf
  have HB := two_new' w #[.pointer (some q)] #[.int .u64 (hiOf (valOf W p)), .int .u64 (loOf (valOf W p)), .int .i64 p.length] 70 51
  go_enter Try.func75, Try.ntmps75
  go_wp2
  go_ret
  exact ⟨rfl, HB.out.1, HB.out.2.1, HB.out.2.2.1⟩
/-- How far a pointer's node is from the deepest ones. -/
def msr (W : Nat) (t : Value) (w : World) : Nat := match t with
  | .pointer (some a) => W + 1 - (intOf ((w.cell? ⟨a.block, 2, none⟩).getD (.int .i64 0))).toNat
  | _ => 0
theorem msr_at {W b : Nat} {w : World} {l : Nat} (h : w.cell? ⟨b, 2, none⟩ = some (.int .i64 l)) : msr W (.pointer (some ⟨b, 0, none⟩)) w = W + 1 - l := by
  show W + 1 - (intOf ((w.cell? ⟨b, 2, none⟩).getD (.int .i64 0))).toNat = _
  rw [h]; simp [intOf]
theorem ne_nil82 (a : Addr) (w : World) : (binOp .neq 106 (.pointer (some a)) (.pointer none)).run Try.prog w = .ok (.bool true) w := by kernel_rfl
set_option maxHeartbeats 4000000 in
set_option maxRecDepth 100000 in
theorem way_tells {W : Nat} (h1 : 1 ≤ W) (h2 : W ≤ 128) {p : List Bool} (hp : p.length ≤ W) (q : Nat) (w : World) (cnt most : Value) (a : Option Nat) (hq : Blk w q #[.int .i64 W, most, cnt, pt a] 108) {n0 : Nat} {N : List (Nd ByteArray)} (hH : Hang 129 9 encV W w n0 a N)
    (bt bp : Nat) (hbt : Blk w bt #[.pointer (some ⟨q, 0, none⟩)] 70) (hbp : Blk w bp #[.int .u64 (hiOf (valOf W p)), .int .u64 (loOf (valOf W p)), .int .i64 p.length] 51) (S : Nat → Prop) (hSq : ¬ S q) (hSt : ¬ S bt) (hSp : ¬ S bp) (hSN : Off S N) :
    Tells Try.prog 89 #[.pointer (some ⟨bt, 0, none⟩), .pointer (some ⟨bp, 0, none⟩)] (fun x : Nd ByteArray => #[Value.pointer (some ⟨x.blk, 0, none⟩)]) (wayN p N) S w := by
  intro n l J Jx w1 hW hl hJ hJx hY h0
  have HQ : Hid (Blk w1 q #[.int .i64 W, most, cnt, pt a] 108) := hq.below hW
  have HT : Hid (Blk w1 bt #[.pointer (some ⟨q, 0, none⟩)] 70) := hbt.below hW
  have HP : Hid (Blk w1 bp #[.int .u64 (hiOf (valOf W p)), .int .u64 (loOf (valOf W p)), .int .i64 p.length] 51) := hbp.below hW
  have HH : Hid (Hang 129 9 encV W w1 n0 a N) := hH.below hW
  have HS : Hid (¬ S q ∧ ¬ S bt ∧ ¬ S bp) := ⟨hSq, hSt, hSp⟩
  have HO : Hid (Off S N) := hSN
  have HY : Hid (∀ (pre : List (Nd ByteArray)) x W1, pre ++ [x] <+: wayN p N → J pre W1 → YieldAt Fence.wide (n - 1) Try.prog l #[Value.pointer (some ⟨x.blk, 0, none⟩)] W1 fun e W' => (e = .returned (.bool true) ∧ J (pre ++ [x]) W' ∧ Kept S W1 W') ∨ (e = .returned (.bool false) ∧ Jx (pre ++ [x]) W' ∧ Kept (fun k => S k ∨ k = l) W1 W')) := hY
  have HJ : Hid (Low w1.heap.size J) := hJ
  have H0 : Hid (J [] w1) := h0
  have t0 := HT.out.cell 0 (v := .pointer (some ⟨q, 0, none⟩)) rfl
  have C70 : Hid (∀ c : List Bool, c.length ≤ W → ∀ w1, CallsIn Fence.wide (n - 1) Try.prog 70 #[Pf (valOf W c) c.length, Pf (valOf W p) p.length, .int .i64 W] w1 fun e w' => e = .returned (.bool (decide (c <+: p))) ∧ Below w1.heap.size w1 w') := fun c hc w1 => callsIn_wide.2 (begins_any h1 h2 hc hp w1)
  have C69 : Hid (∀ k : Nat, ∀ w1, CallsIn Fence.wide (n - 1) Try.prog 69 #[B (valOf W p), .int .i64 W, .int .i64 k] w1 fun e w' => e = .returned (.int .i64 (if p[k]?.getD false = true then 1 else 0)) ∧ Below w1.heap.size w1 w') := fun k w1 => callsIn_wide.2 (by
    have := side_any h1 h2 hp k w1
    unfold sideN at this
    cases hb : p[k]?.getD false <;> rw [hb] at this <;> exact this)
  obtain ⟨A, hA⟩ : ∃ A : Option Addr, A = a.map fun b => ⟨b, 0, none⟩ := ⟨_, rfl⟩
  have HA : Hid (A = a.map fun b => (⟨b, 0, none⟩ : Addr)) := hA
  have HQA : Hid (Blk w1 q #[.int .i64 W, most, cnt, .pointer A] 108) := by rw [hA]; exact HQ.out
  have q3 := HQA.out.cell 3 (v := .pointer A) rfl
  clear hA hq hH hbt hbp hSq hSt hSp hSN hW hJ hY h0 HQ
  refine callsIn_of_wp Try.func89 rfl trivial ?_ rfl
  simp only [Try.ntmps89, List.size_toArray, List.length_cons, List.length_nil, Nat.reduceAdd, Nat.reduceSub, Array.replicate_succ, Array.replicate_zero, List.push_toArray, List.append_toArray, List.nil_append, List.cons_append]
  gi_wp2
  gi_loopw [4] (fun t wr => ∃ a' n' N' pre, t = pt a' ∧ Hid (Hang 129 9 encV W wr n' a' N' ∧ Off S N' ∧ pre ++ wayN p N' = wayN p N ∧ J pre wr ∧ Kept S w1 wr)) (fun t wr => msr W t wr)
  case atStart => exact ⟨a, n0, N, [], by rw [HA.out], HH.out, HO.out, rfl, H0.out, Kept.refl _ _⟩
  case round =>
    obtain ⟨a', n', N', pre, rfl, HR⟩ := hrel
    cases a' with
    | none =>
      rw [show pt none = Value.pointer none from rfl]
      have HF : Hid (J (wayN p N) wr) := by
        obtain ⟨g1, g2, g3, g4, g5⟩ := HR.out
        rw [g1.of_none] at g3
        have e : pre = wayN p N := by rw [← g3]; exact (List.append_nil _).symm
        rw [← e]; exact g4
      clear HR H0 HH HO C70 C69
      have hmix : Try.prog.follows .mixedOrders = true := by kernel_rfl
      gi_wp2_with fail
      refine grows_wide hmix (by kernel_rfl) ?_
      repeat (gi_big_quiet_step (fail))
      refine Go.BigFrame.wpQuietIn_skip (fun _ _ _ _ => trivial) (by rfl) ?_
      go_simp
      repeat (gi_big_quiet_step (fail))
      refine Go.BigFrame.wpQuietIn_skip (fun _ _ _ _ => trivial) (by rfl) ?_
      go_simp
      repeat (gi_big_quiet_step (fail))
      refine wpQuietIn_nil ?_
      intro zq
      have HF2 : Hid (J (wayN p N) (gw zq)) := HJ.out _ _ _ (Kept.of_below (gw_below zq)) HF.out
      gi_wp2_with fail
      go_end0
      exact ⟨⟨_, rfl⟩, .inl HF2.out⟩
    | some b =>
      rw [show pt (some b) = Value.pointer (some ⟨b, 0, none⟩) from rfl]
      obtain ⟨m, x, a0, a1, N0, N1, hn', hbx, hN', hR, hf⟩ := HR.out.1.root
      subst hbx
      have HX : Hid (Root 129 9 encV W wr m x a0 a1 N0 N1 ∧ Off S N' ∧ N' = x :: (N0 ++ N1) ∧ pre ++ wayN p N' = wayN p N ∧ J pre wr ∧ Kept S w1 wr) := ⟨hR, HR.out.2.1, hN', HR.out.2.2.1, HR.out.2.2.2.1, HR.out.2.2.2.2⟩
      have hl := hR.node.len
      obtain ⟨A3, hA3⟩ : ∃ A : Option Addr, A = (x.th.map (·.1)).map fun b => ⟨b, 0, none⟩ := ⟨_, rfl⟩
      obtain ⟨A4, hA4⟩ : ∃ A : Option Addr, A = a0.map fun b => ⟨b, 0, none⟩ := ⟨_, rfl⟩
      obtain ⟨A5, hA5⟩ : ∃ A : Option Addr, A = a1.map fun b => ⟨b, 0, none⟩ := ⟨_, rfl⟩
      have HXA : Hid (A4 = (a0.map fun b => (⟨b, 0, none⟩ : Addr)) ∧ A5 = (a1.map fun b => (⟨b, 0, none⟩ : Addr))) := ⟨hA4, hA5⟩
      have xb0 : Blk wr x.blk #[.int .u64 (hiOf (valOf W x.key)), .int .u64 (loOf (valOf W x.key)), .int .i64 x.key.length, .pointer A3, .pointer A4, .pointer A5] 129 := by rw [hA3, hA4, hA5]; exact hR.node.cells
      have HXB : Hid (Blk wr x.blk #[.int .u64 (hiOf (valOf W x.key)), .int .u64 (loOf (valOf W x.key)), .int .i64 x.key.length, .pointer A3, .pointer A4, .pointer A5] 129) := xb0
      have HW : Hid (Blk wr q #[.int .i64 W, most, cnt, .pointer A] 108 ∧ Blk wr bt #[.pointer (some ⟨q, 0, none⟩)] 70 ∧ Blk wr bp #[.int .u64 (hiOf (valOf W p)), .int .u64 (loOf (valOf W p)), .int .i64 p.length] 51) := ⟨HQA.out.kept HX.out.2.2.2.2.2 HS.out.1, HT.out.kept HX.out.2.2.2.2.2 HS.out.2.1, HP.out.kept HX.out.2.2.2.2.2 HS.out.2.2⟩
      have hmix : Try.prog.follows .mixedOrders = true := by kernel_rfl
      clear hA3 hA4 hA5 xb0 hf hN' hR HR H0 HH q3 t0 hn'
      by_cases hx : x.key <+: p
      · have HE : Hid (pre ++ [x] <+: wayN p N ∧ pre ++ [x] ++ wayN p (if p[x.key.length]?.getD false = true then N1 else N0) = wayN p N) := by
          obtain ⟨g1, g2, g3, g4, g5, g6⟩ := HX.out
          rw [g3, way_on g1 hx] at g4
          have e : pre ++ [x] ++ wayN p (if p[x.key.length]?.getD false = true then N1 else N0) = wayN p N := by rw [← g4]; simp
          exact ⟨⟨_, e⟩, e⟩
        have C1 : Hid (∀ w1, Below wr.heap.size wr w1 → CallsIn Fence.wide (n - 1) Try.prog 70 #[Pf (valOf W x.key) x.key.length, Pf (valOf W p) p.length, .int .i64 W] w1 fun e w' => e = .returned (.bool true) ∧ Below wr.heap.size wr w') := fun w1 hb => by
          have := C70.out x.key hl w1
          rw [decide_eq_true hx] at this
          exact this.mono fun e w' h => ⟨h.1, bst hb h.2⟩
        have CT : Hid (∀ W2, Below wr.heap.size wr W2 → ∃ fn tmps assign body, (Instr.yield l #[.pointer (some ⟨x.blk, 0, none⟩)]).run Try.prog W2 = .ok (.round l fn tmps assign body) W2 ∧ Hid (RoundIn Fence.wide (n - 1) Try.prog l fn tmps assign body W2 fun e w' => ∃ bb : Bool, e = .returned (.bool bb) ∧ Hid ((bb = true → J (pre ++ [x]) w' ∧ Kept S wr w') ∧ (bb = false → Jx (pre ++ [x]) w')))) := fun W2 h2 => by
          obtain ⟨fn, tmps, assign, body, g1, g2⟩ := HY.out pre x W2 HE.out.1 (HJ.out _ _ _ (Kept.of_below h2) HX.out.2.2.2.2.1)
          refine ⟨fn, tmps, assign, body, g1, g2.mono ?_⟩
          rintro e w' (⟨rfl, hj, hk⟩ | ⟨rfl, hj, hk⟩)
          · exact ⟨true, rfl, (⟨fun _ => ⟨hj, (Kept.of_below h2).trans hk⟩, fun e => (nomatch e)⟩ : _ ∧ _)⟩
          · exact ⟨false, rfl, (⟨fun e => (nomatch e), fun _ => hj⟩ : _ ∧ _)⟩
        have x0 := HXB.out.cell 0 (v := .int .u64 (hiOf (valOf W x.key))) rfl
        have x1 := HXB.out.cell 1 (v := .int .u64 (loOf (valOf W x.key))) rfl
        have x2 := HXB.out.cell 2 (v := .int .i64 x.key.length) rfl
        have y0 := HW.out.2.2.cell 0 (v := .int .u64 (hiOf (valOf W p))) rfl
        have y1 := HW.out.2.2.cell 1 (v := .int .u64 (loOf (valOf W p))) rfl
        have y2 := HW.out.2.2.cell 2 (v := .int .i64 p.length) rfl
        have z0 := HW.out.1.cell 0 (v := .int .i64 W) rfl
        have v0 := HW.out.2.1.cell 0 (v := .pointer (some ⟨q, 0, none⟩)) rfl
        clear hx C70 HA
        gi_wp2_with fail
        gi_cut [27] from 9 (fun t wx => ∃ bb : Bool, t = .bool bb ∧ Hid ((bb = true → J (pre ++ [x]) wx ∧ Kept S wr wx) ∧ (bb = false → Jx (pre ++ [x]) wx)))
        case first =>
          gi_region_with (first
            | (refine ⟨trivial, no_depth _, ?_⟩; gi_at_call 70; refine (C1.out _ (by exact ⟨rfl, rfl, rfl, Nat.le_refl _, fun _ _ => rfl⟩)).mono ?_; rintro e W2 ⟨rfl, hb2⟩; obtain ⟨fn, tmps, assign, body, hyi, HRd⟩ := CT.out W2 hb2)
            | (refine ⟨no_depth _, ?_⟩; refine HRd.out.mono ?_; rintro e w7 ⟨bb, rfl, HM7⟩))
          all_goals (gi_wp2_with fail; go_meet; exact ⟨bb, rfl, HM7⟩)
        case rest =>
          obtain ⟨bb, rfl, HM7⟩ := hcut
          cases bb
          · have HJ7 : Hid (Jx (pre ++ [x]) wc) := HM7.out.2 rfl
            gi_wp2_with fail
            first | go_end0 | refine bodyPost_ret (results_none rfl _ _ _) rfl ?_
            exact ⟨⟨_, rfl⟩, .inr ⟨_, HE.out.1, HJ7.out⟩⟩
          · have HM8 : Hid (J (pre ++ [x]) wc ∧ Kept S wr wc) := HM7.out.1 rfl
            have hxN : x ∈ N' := by rw [HX.out.2.2.1]; simp
            have hkc := HM8.out.2
            have XC : Blk wc x.blk _ 129 := HXB.out.kept hkc (HX.out.2.1 x hxN).1
            have QC : Blk wc q _ 108 := HW.out.1.kept hkc HS.out.1
            have TC : Blk wc bt _ 70 := HW.out.2.1.kept hkc HS.out.2.1
            have PC : Blk wc bp _ 51 := HW.out.2.2.kept hkc HS.out.2.2
            have x2 := two_cells XC (i := 2) (v := .int .i64 x.key.length) rfl
            have x4 := two_cells XC (i := 4) (v := .pointer A4) rfl
            have x5 := two_cells XC (i := 5) (v := .pointer A5) rfl
            have y0 := two_cells PC (i := 0) (v := .int .u64 (hiOf (valOf W p))) rfl
            have y1 := two_cells PC (i := 1) (v := .int .u64 (loOf (valOf W p))) rfl
            have z0 := two_cells QC (i := 0) (v := .int .i64 W) rfl
            have v0 := two_cells TC (i := 0) (v := .pointer (some ⟨q, 0, none⟩)) rfl
            have xc2 : wc.cell? ⟨x.blk, 2, none⟩ = some (.int .i64 x.key.length) := XC.cell 2 rfl
            have hms : msr W (.pointer (some ⟨x.blk, 0, none⟩)) wr = W + 1 - x.key.length := msr_at (HXB.out.cell 2 rfl)
            have C2 : Hid (∀ w1, CallsIn Fence.wide (n - 1) Try.prog 69 #[B (valOf W p), .int .i64 W, .int .i64 x.key.length] w1 fun e w' => e = .returned (.int .i64 (if p[x.key.length]?.getD false = true then 1 else 0)) ∧ Below w1.heap.size w1 w') := C69.out x.key.length
            have HN : Hid (∀ w9, Below wc.heap.size wc w9 → ∀ (bit : Bool), p[x.key.length]?.getD false = bit → ∃ n', Hid (Hang 129 9 encV W w9 n' (if bit then a1 else a0) (if bit then N1 else N0) ∧ Off S (if bit then N1 else N0) ∧ (pre ++ [x]) ++ wayN p (if bit then N1 else N0) = wayN p N ∧ J (pre ++ [x]) w9 ∧ Kept S w1 w9) ∧ msr W (pt (if bit then a1 else a0)) w9 < W + 1 - x.key.length) := fun w9 h9 bit hbit => by
              have hk9 : Kept S wr w9 := hkc.trans (Kept.of_below h9)
              have ho : Off S N' := HX.out.2.1
              have e2 := HE.out.2
              rw [hbit] at e2
              have hh : Hang 129 9 encV W w9 m (if bit then a1 else a0) (if bit then N1 else N0) := by
                cases bit
                · exact HX.out.1.h0.keptW hk9 (fun y hy => ho y (by rw [HX.out.2.2.1]; simp at hy ⊢; exact .inr (.inl hy)))
                · exact HX.out.1.h1.keptW hk9 (fun y hy => ho y (by rw [HX.out.2.2.1]; simp at hy ⊢; exact .inr (.inr hy)))
              refine ⟨m, (⟨hh, fun y hy => ho y (by rw [HX.out.2.2.1]; cases bit <;> simp at hy ⊢ <;> simp [hy]), e2, HJ.out _ _ _ (Kept.of_below h9) HM8.out.1, HX.out.2.2.2.2.2.trans hk9⟩ : _ ∧ _), ?_⟩
              have hpr : ∀ y ∈ (if bit then N1 else N0), x.key ++ [bit] <+: y.key := by
                cases bit
                · exact HX.out.1.pre0
                · exact HX.out.1.pre1
              generalize (if bit = true then a1 else a0) = ac at *
              generalize (if bit = true then N1 else N0) = Nc at *
              cases ac with
              | none => show 0 < _; omega
              | some c =>
                obtain ⟨m2, y, b0, b1, M0, M1, _, rfl, rfl, hR2, _⟩ := hh.root
                rw [show pt (some y.blk) = Value.pointer (some ⟨y.blk, 0, none⟩) from rfl, msr_at (hR2.node.cells.cell 2 rfl)]
                have := (hpr y (by simp)).length_le
                simp at this
                have := hR2.node.len
                omega
            clear C69 HX HW HXB HM7 HM8 XC QC TC PC hkc hxN hJx
            gi_wp2_with fail
            refine grows_wide hmix (by kernel_rfl) ?_
            repeat (gi_big_quiet_step (fail))
            refine Go.BigFrame.wpQuietIn_want (fun _ _ _ _ => trivial) (by rfl) ?_
            intro K2 hK2
            gi_big_quiet_op
            apply Exists.intro
            refine ⟨fun _ => ?_, ?_⟩
            · exact ⟨no_depth _, calls_gwIn (C2.out _)⟩
            obtain ⟨bit, hbit⟩ : ∃ bit, p[x.key.length]?.getD false = bit := ⟨_, rfl⟩
            have HBit : Hid (p[x.key.length]?.getD false = bit) := hbit
            rw [hbit]
            clear hbit C2
            cases bit
            all_goals
              go_big_quiet_on
              repeat (gi_big_quiet_step (fail))
              refine wpQuietIn_nil ?_
              intro wq hwq
              obtain ⟨zq, rfl⟩ := hwq
              obtain ⟨n2, H2, hm2⟩ := HN.out (gw zq) (gw_below zq) _ HBit.out
              have e4 := HXA.out.1
              have e5 := HXA.out.2
              have HM2 : Hid (msr W _ (gw zq) < W + 1 - x.key.length) := hm2
              have H4 : Hid (A4 = (a0.map fun b => (⟨b, 0, none⟩ : Addr)) ∧ A5 = (a1.map fun b => (⟨b, 0, none⟩ : Addr))) := ⟨e4, e5⟩
              clear e4 e5 hm2 HN
              gi_wp2_with fail
              go_roundw
              case rel => exact ⟨_, n2, _, pre ++ [x], by first | rw [H4.out.1]; rfl | rw [H4.out.2]; rfl, H2⟩
              case measure => rw [hms]; first | (rw [H4.out.1]; exact HM2.out) | (rw [H4.out.2]; exact HM2.out)
      · have HF : Hid (J (wayN p N) wr) := by
          obtain ⟨g1, g2, g3, g4, g5, g6⟩ := HX.out
          rw [g3, way_off g1 hx, List.append_nil] at g4
          rw [← g4]; exact g5
        have C1 : Hid (∀ w1, CallsIn Fence.wide (n - 1) Try.prog 70 #[Pf (valOf W x.key) x.key.length, Pf (valOf W p) p.length, .int .i64 W] w1 fun e w' => e = .returned (.bool false) ∧ Below w1.heap.size w1 w') := fun w1 => by
          have := C70.out x.key hl w1
          rw [decide_eq_false hx] at this; exact this
        have x0 := two_cells HXB.out (i := 0) (v := .int .u64 (hiOf (valOf W x.key))) rfl
        have x1 := two_cells HXB.out (i := 1) (v := .int .u64 (loOf (valOf W x.key))) rfl
        have x2 := two_cells HXB.out (i := 2) (v := .int .i64 x.key.length) rfl
        have y0 := two_cells HW.out.2.2 (i := 0) (v := .int .u64 (hiOf (valOf W p))) rfl
        have y1 := two_cells HW.out.2.2 (i := 1) (v := .int .u64 (loOf (valOf W p))) rfl
        have y2 := two_cells HW.out.2.2 (i := 2) (v := .int .i64 p.length) rfl
        have z0 := two_cells HW.out.1 (i := 0) (v := .int .i64 W) rfl
        have v0 := two_cells HW.out.2.1 (i := 0) (v := .pointer (some ⟨q, 0, none⟩)) rfl
        clear hx HX HW C69 C70 HXB
        gi_wp2_with fail
        refine grows_wide hmix (by kernel_rfl) ?_
        repeat (gi_big_quiet_step (fail))
        refine Go.BigFrame.wpQuietIn_want (fun _ _ _ _ => trivial) (by rfl) ?_
        intro K2 hK2
        gi_big_quiet_op
        apply Exists.intro
        refine ⟨fun _ => ?_, ?_⟩
        · exact ⟨no_depth _, calls_gwIn (C1.out _)⟩
        go_big_quiet_on
        repeat (gi_big_quiet_step (fail))
        refine Go.BigFrame.wpQuietIn_skip (fun _ _ _ _ => trivial) (by rfl) ?_
        go_simp
        repeat (gi_big_quiet_step (fail))
        refine wpQuietIn_nil ?_
        intro zq
        have HF2 : Hid (J (wayN p N) (gw zq)) := HJ.out _ _ _ (Kept.of_below (gw_below zq)) HF.out
        gi_wp2_with fail
        go_end0
        exact ⟨⟨_, rfl⟩, .inl HF2.out⟩
end Go.Proofs.Ytgdpplipahhffaa.St
namespace Go.Proofs.Ytgdpplipahhffaa.St
open Go.RowKit
set_option linter.unusedVariables false
set_option linter.unusedSimpArgs false

/-- A trie. -/
structure TrieAt (w : World) (q W most : Nat) (a : Option Nat) (n : Nat) (N : List (Nd ByteArray)) : Prop where
  hd : Blk w q #[.int .i64 W, .int .i64 most, .int .i64 (kept N).length, pt a] 108
  hang : HangI W w n a N
  wd : 1 ≤ W ∧ W ≤ 128
  most : (kept N).length ≤ most ∧ 1 ≤ most ∧ most ≤ 4096
theorem TrieAt.below {w w' : World} {q W most : Nat} {a : Option Nat} {n : Nat} {N : List (Nd ByteArray)} (h : TrieAt w q W most a n N) (hb : Below w.heap.size w w') : TrieAt w' q W most a n N := ⟨h.hd.below hb, h.hang.below hb, h.wd, h.most⟩
theorem TrieAt.kept' {w w' : World} {q W most : Nat} {a : Option Nat} {n : Nat} {N : List (Nd ByteArray)} (h : TrieAt w q W most a n N) {S : Nat → Prop} (hk : Kept S w w') (h1 : ¬ S q) (h2 : Off S N) : TrieAt w' q W most a n N := ⟨h.hd.kept hk h1, h.hang.keptW hk h2, h.wd, h.most⟩
theorem Hang.off_new {V : Type} {nt vt : TypeId} {enc : V → Value} {W : Nat} {w : World} {n a} {N : List (Nd V)} (h : Hang nt vt enc W w n a N) {S : Nat → Prop} (hS : ∀ k, S k → w.heap.size ≤ k) : Off S N := fun x hx => by
  obtain ⟨b0, b1, hn⟩ := h.thing x hx
  exact ⟨fun e => by have := hn.cells.lt; have := hS _ e; omega, fun t v e1 e2 => by have := (hn.thing t v e1).lt; have := hS _ e2; omega⟩
theorem way_find {p : List Bool} {V : Type} (N : List (Nd V)) : ((wayN p N).find? fun x => decide (x.key = p)) = N.find? fun x => decide (x.key = p) := by
  unfold wayN
  rw [List.find?_filter]
  congr 1
  funext x
  by_cases h : x.key = p
  · simp [h]
  · simp [h]
theorem bits_is {a b : Int} (h0 : 0 ≤ a) (h1 : a < 18446744073709551616) (h2 : 0 ≤ b) (h3 : b < 18446744073709551616) : ∃ v : Nat, Is128 v ∧ a = hiOf v ∧ b = loOf v := by
  obtain ⟨x, rfl⟩ := Int.eq_ofNat_of_zero_le h0
  obtain ⟨y, rfl⟩ := Int.eq_ofNat_of_zero_le h2
  refine ⟨x * 18446744073709551616 + y, by unfold Is128; omega, ?_, ?_⟩
  · unfold hiOf; congr 1; omega
  · unfold loOf; congr 1; omega
theorem find_key {V : Type} : ∀ {N : List (Nd V)}, (N.Pairwise fun a b => klt a.key b.key = true) → ∀ x ∈ N, (N.find? fun y => decide (y.key = x.key)) = some x
  | [], _, x, hx => by simp at hx
  | y :: N, h, x, hx => by
    obtain ⟨g1, g2⟩ := List.pairwise_cons.1 h
    rw [List.find?_cons]
    rcases List.mem_cons.1 hx with rfl | hx
    · rw [decide_eq_true rfl]
    · rw [decide_eq_false (fun e => klt_ne (g1 x hx) e)]
      exact find_key g2 x hx
theorem way_none {V : Type} {p : List Bool} {N : List (Nd V)} (h : ∀ x ∈ wayN p N, x.key ≠ p) : thAt p N = none := by
  unfold thAt
  rw [← way_find, List.find?_eq_none.2 (fun x hx => by simpa using h x hx)]; rfl
theorem key_val {W : Nat} {c p : List Bool} (hc : c.length ≤ W) (hp : p.length ≤ W) : (decide (valOf W c = valOf W p) && ((c.length : Int) == (p.length : Int))) = decide (c = p) := by
  by_cases h : c = p
  · subst h; simp
  · rw [decide_eq_false h]
    by_cases e1 : valOf W c = valOf W p
    · by_cases e2 : c.length = p.length
      · exact absurd (val_inj hc hp e2 e1) h
      · have : ((c.length : Int) == (p.length : Int)) = false := by rw [beq_eq_false_iff_ne]; omega
        rw [this, Bool.and_false]
    · rw [decide_eq_false e1, Bool.false_and]
theorem eqK {W : Nat} {c p : List Bool} {b : Bool} (hc : c.length ≤ W) (hp : p.length ≤ W) (hb : decide (c = p) = b) (w : World) : (binOp .eql 51 (Pf (valOf W c) c.length) (Pf (valOf W p) p.length)).run Try.prog w = .ok (.bool b) w := by
  rw [eq51, key_val hc hp, hb]
attribute [local go_sem] Oper.semAt_some
set_option maxHeartbeats 4000000 in
set_option maxRecDepth 100000 in
theorem kept_no {W : Nat} (h1 : 1 ≤ W) (h2 : W ≤ 128) (q : Nat) (v : Nat) (hv : Is128 v) (l : Int) (hP : isP W v l = false) (w : World) (hq : w.cell? ⟨q, 0, none⟩ = some (.int .i64 W)) :
    Calls Try.prog 58 #[.pointer (some ⟨q, 0, none⟩), Pf v l] w fun e w' => e = .returned (.pointer none) ∧ Below w.heap.size w w' := by
  suffices h : ∀ m, CallsIn Fence.wide m Try.prog 58 #[.pointer (some ⟨q, 0, none⟩), Pf v l] w fun e w' => e = .returned (.pointer none) ∧ Below w.heap.size w w' from callsIn_wide.1 (h 0)
  intro m
  have C49 : Hid (∀ w1, CallsIn Fence.wide (m - 1) Try.prog 49 #[Pf v l, .int .i64 W] w1 fun e w' => e = .returned (.bool false) ∧ Below w1.heap.size w1 w') := fun w1 => callsIn_wide.2 (by rw [← hP]; exact isPrefix_any v hv l W h1 h2 w1)
  have HB := two_new' w #[.int .u64 (hiOf v), .int .u64 (loOf v), .int .i64 l] #[.pointer none] 51 109
  have hlq : q < w.heap.size := World.block_lt_of_cell? w _ hq
  have HQ : Hid (w.cell? ⟨q, 0, none⟩ = some (.int .i64 W)) := hq
  have hmix : Try.prog.follows .mixedOrders = true := by kernel_rfl
  clear hP hq
  refine callsIn_of_wp_marks Try.func58 rfl trivial ?_ rfl
  simp only [Try.ntmps58, List.size_toArray, List.length_cons, List.length_nil, Nat.reduceAdd, Nat.reduceSub, Array.replicate_succ, Array.replicate_zero, List.push_toArray, List.append_toArray, List.nil_append, List.cons_append]
  gi_upto_region 1 with fail
  generalize ((w.alloc _).alloc _) = w0 at HB ⊢
  generalize hA : w.heap.size + 1 = A1 at *
  have lA := HB.out.2.2.2
  have x0 := two_cells HB.out.1 (i := 0) (v := .int .u64 (hiOf v)) rfl
  have x1 := two_cells HB.out.1 (i := 1) (v := .int .u64 (loOf v)) rfl
  have x2 := two_cells HB.out.1 (i := 2) (v := .int .i64 l) rfl
  have z0 : ∀ z : Grown w0, (gw z).cell? ⟨q, 0, none⟩ = some (.int .i64 W) := gw_cell ((World.cell?_of_block (HB.out.2.2.1.block q hlq)).trans HQ.out)
  refine grows_wide hmix (by kernel_rfl) ?_
  repeat (gi_big_quiet_step (fail))
  refine Go.BigFrame.wpQuietIn_want (fun _ _ _ _ => trivial) (by rfl) ?_
  intro K2 hK2
  gi_big_quiet_op
  apply Exists.intro
  refine ⟨fun _ => ?_, ?_⟩
  · exact ⟨no_depth _, calls_gwIn (C49.out _)⟩
  go_big_quiet_on
  repeat (gi_big_quiet_step (fail))
  refine wpQuietIn_nil ?_
  intro wq hwq
  obtain ⟨zq, rfl⟩ := hwq
  have HC : Hid (Blk (gw zq) A1 #[.pointer none] 109 ∧ Below w.heap.size w (gw zq)) := ⟨HB.out.2.1.below (gw_below zq), bst HB.out.2.2.1 (gw_below zq)⟩
  have c0 := HC.out.1.cell 0 (v := .pointer none) rfl
  have f0 := HC.out.1.frozen 0
  clear x0 x1 x2 z0 C49
  generalize gw zq = w2 at *
  gi_wp2_with fail
  have HF : Hid (Blk (w2.setCell ⟨A1, 0, none⟩ (.pointer none)) A1 #[.pointer none] 109 ∧ Below w.heap.size w (w2.setCell ⟨A1, 0, none⟩ (.pointer none))) := ⟨HC.out.1.set 0 _, HC.out.2.setCell (by show _ ≤ A1; omega) _⟩
  generalize w2.setCell _ _ = w3 at HF ⊢
  have z0 := HF.out.1.cell 0 (v := .pointer none) rfl
  refine ⟨.pointer none, ?_, rfl, HF.out.2⟩
  simp [results, Try.results58, go_sem, z0]
abbrev thP (t : Option (Nat × ByteArray)) : Value := .pointer (t.map fun t => ⟨t.1, 0, none⟩)
set_option maxHeartbeats 4000000 in
set_option maxRecDepth 100000 in
theorem kept_yes {w : World} {q W most : Nat} {a : Option Nat} {n : Nat} {N : List (Nd ByteArray)} (hT : TrieAt w q W most a n N) {p : List Bool} (hp : p.length ≤ W) :
    Calls Try.prog 58 #[.pointer (some ⟨q, 0, none⟩), Pf (valOf W p) p.length] w fun e w' => e = .returned (thP (thAt p N)) ∧ Below w.heap.size w w' := by
  suffices h : ∀ m, CallsIn Fence.wide m Try.prog 58 #[.pointer (some ⟨q, 0, none⟩), Pf (valOf W p) p.length] w fun e w' => e = .returned (thP (thAt p N)) ∧ Below w.heap.size w w' from callsIn_wide.1 (h 0)
  intro m
  obtain ⟨h1, h2⟩ := hT.wd
  have C49 : Hid (∀ w1, CallsIn Fence.wide (m - 1) Try.prog 49 #[Pf (valOf W p) p.length, .int .i64 W] w1 fun e w' => e = .returned (.bool true) ∧ Below w1.heap.size w1 w') := fun w1 => callsIn_wide.2 (by
    have := isPrefix_any (valOf W p) (val_is h2 hp) p.length W h1 h2 w1
    rw [isP_mk hp] at this; exact this)
  have C71 : Hid (∀ w1, CallsIn Fence.wide (m - 1) Try.prog 75 #[.pointer (some ⟨q, 0, none⟩), Pf (valOf W p) p.length] w1 fun e w' => e = .returned (.func (.func 89) #[] #[.pointer (some ⟨w1.heap.size, 0, none⟩), .pointer (some ⟨w1.heap.size + 1, 0, none⟩)]) ∧ Hid (Blk w' w1.heap.size #[.pointer (some ⟨q, 0, none⟩)] 70 ∧ Blk w' (w1.heap.size + 1) #[.int .u64 (hiOf (valOf W p)), .int .u64 (loOf (valOf W p)), .int .i64 p.length] 51 ∧ Below w1.heap.size w1 w')) := fun w1 => callsIn_wide.2 (way_any ⟨q, 0, none⟩ p W w1)
  have HT : Hid (TrieAt w q W most a n N) := hT
  have HB := two_new' w #[.int .u64 (hiOf (valOf W p)), .int .u64 (loOf (valOf W p)), .int .i64 p.length] #[.pointer none] 51 109
  have hlq : q < w.heap.size := hT.hd.lt
  have HQ : Hid (w.cell? ⟨q, 0, none⟩ = some (.int .i64 W)) := hT.hd.cell 0 rfl
  have hmix : Try.prog.follows .mixedOrders = true := by kernel_rfl
  have HP : Hid (p.length ≤ W) := hp
  clear hT
  refine callsIn_of_wp_marks Try.func58 rfl trivial ?_ rfl
  simp only [Try.ntmps58, List.size_toArray, List.length_cons, List.length_nil, Nat.reduceAdd, Nat.reduceSub, Array.replicate_succ, Array.replicate_zero, List.push_toArray, List.append_toArray, List.nil_append, List.cons_append]
  gi_upto_region 1 with fail
  generalize ((w.alloc _).alloc _) = w0 at HB ⊢
  generalize hA : w.heap.size + 1 = A1 at *
  have lA := HB.out.2.2.2
  have x0 := two_cells HB.out.1 (i := 0) (v := .int .u64 (hiOf (valOf W p))) rfl
  have x1 := two_cells HB.out.1 (i := 1) (v := .int .u64 (loOf (valOf W p))) rfl
  have x2 := two_cells HB.out.1 (i := 2) (v := .int .i64 p.length) rfl
  have z0 : ∀ z : Grown w0, (gw z).cell? ⟨q, 0, none⟩ = some (.int .i64 W) := gw_cell ((World.cell?_of_block (HB.out.2.2.1.block q hlq)).trans HQ.out)
  refine grows_wide hmix (by kernel_rfl) ?_
  repeat (gi_big_quiet_step (fail))
  refine Go.BigFrame.wpQuietIn_want (fun _ _ _ _ => trivial) (by rfl) ?_
  intro K2 hK2
  gi_big_quiet_op
  apply Exists.intro
  refine ⟨fun _ => ?_, ?_⟩
  · exact ⟨no_depth _, calls_gwIn (C49.out _)⟩
  go_big_quiet_on
  repeat (gi_big_quiet_step (fail))
  refine wpQuietIn_nil ?_
  intro wq hwq
  obtain ⟨zq, rfl⟩ := hwq
  have HC : Hid (Blk (gw zq) A1 #[.pointer none] 109 ∧ Below w.heap.size w (gw zq) ∧ Blk (gw zq) w.heap.size #[.int .u64 (hiOf (valOf W p)), .int .u64 (loOf (valOf W p)), .int .i64 p.length] 51) := ⟨HB.out.2.1.below (gw_below zq), bst HB.out.2.2.1 (gw_below zq), HB.out.1.below (gw_below zq)⟩
  clear x0 x1 x2 z0 C49 HB
  generalize gw zq = w2 at *
  have y0 := HC.out.2.2.cell 0 (v := .int .u64 (hiOf (valOf W p))) rfl
  have y1 := HC.out.2.2.cell 1 (v := .int .u64 (loOf (valOf W p))) rfl
  have y2 := HC.out.2.2.cell 2 (v := .int .i64 p.length) rfl
  gi_wp2_with fail
  refine ⟨trivial, no_depth _, ?_⟩
  refine (C71.out _).mono ?_
  rintro e w3 ⟨rfl, H3⟩
  clear y0 y1 y2 C71
  have HD : Hid (Blk w3 A1 #[.pointer none] 109 ∧ Below w.heap.size w w3 ∧ Blk w3 w.heap.size #[.int .u64 (hiOf (valOf W p)), .int .u64 (loOf (valOf W p)), .int .i64 p.length] 51 ∧ Blk w3 w2.heap.size #[.pointer (some ⟨q, 0, none⟩)] 70 ∧ Blk w3 (w2.heap.size + 1) #[.int .u64 (hiOf (valOf W p)), .int .u64 (loOf (valOf W p)), .int .i64 p.length] 51 ∧ TrieAt w3 q W most a n N ∧ A1 < w2.heap.size) := ⟨HC.out.1.below H3.out.2.2, bst HC.out.2.1 H3.out.2.2, HC.out.2.2.below H3.out.2.2, H3.out.1, H3.out.2.1, (HT.out.below HC.out.2.1).below H3.out.2.2, HC.out.1.lt⟩
  clear H3 HC
  generalize w2.heap.size = D at *
  generalize hD1 : D + 1 = D1 at *
  gi_wp2_with fail
  have l3 := HD.out.2.2.2.2.1.lt
  have lA3 := HD.out.2.2.2.2.2.2
  have hoff : Off (fun k => k = A1) N := HT.out.hang.off_new (fun k e => by have e' : k = A1 := e; omega)
  have HO : Hid (Off (fun k => k = A1) N) := hoff
  refine range_outer (gf := 89) (lb := #[.pointer (some ⟨D, 0, none⟩), .pointer (some ⟨D1, 0, none⟩)]) (encs := fun x : Nd ByteArray => #[Value.pointer (some ⟨x.blk, 0, none⟩)]) (xs := wayN p N) (S := fun k => k = A1) rfl (enters_of Try.func89 (by kernel_rfl) rfl)
    (fun k e => by have e' : k = A1 := e; omega)
    (way_tells h1 h2 HP.out q w3 _ _ a HD.out.2.2.2.2.2.1.hd HD.out.2.2.2.2.2.1.hang D D1 HD.out.2.2.2.1 HD.out.2.2.2.2.1 (fun k => k = A1) (by show ¬ _ = _; omega) (by show ¬ _ = _; omega) (by show ¬ _ = _; omega) hoff) (Below.refl _ _) (fun _ => rfl)
    (fun pre W' => Blk W' A1 #[.pointer none] 109 ∧ (∀ x ∈ pre, x.key ≠ p) ∧ Kept (fun k => k = A1) w3 W')
    (fun c pre W' => c = .ret ∧ Blk W' A1 #[thP (thAt p N)] 109 ∧ Kept (fun k => k = A1) w3 W')
    ((low_blk _ _ (fun _ => #[.pointer none]) _ (by omega)).and ((low_pure _ _).and (low_kept _ _ _ (Nat.le_refl _))))
    (fun c => (low_pure _ _).and ((low_blk _ _ (fun _ => #[thP (thAt p N)]) _ (by omega)).and (low_kept _ _ _ (Nat.le_refl _))))
    ⟨HD.out.1, fun x hx => absurd hx (by simp), Kept.refl _ _⟩ ?round ?done ?stop
  case round =>
    rintro l pre x W' K hl hlt hz hpre ⟨b0, hne, hK⟩ hKK
    have hx : x ∈ wayN p N := hpre.subset (by simp)
    have hxN : x ∈ N := (List.mem_filter.1 hx).1
    obtain ⟨b0', b1', hnd⟩ := HD.out.2.2.2.2.2.1.hang.thing x hxN
    obtain ⟨A3, hA3⟩ : ∃ A : Option Addr, A = (x.th.map (·.1)).map fun b => ⟨b, 0, none⟩ := ⟨_, rfl⟩
    obtain ⟨A4, hA4⟩ : ∃ A : Value, A = pt b0' := ⟨_, rfl⟩
    obtain ⟨A5, hA5⟩ : ∃ A : Value, A = pt b1' := ⟨_, rfl⟩
    have HX : Hid (Blk w3 x.blk #[.int .u64 (hiOf (valOf W x.key)), .int .u64 (loOf (valOf W x.key)), .int .i64 x.key.length, .pointer A3, A4, A5] 129) := by
      have := hnd.cells
      rw [hA3, hA4, hA5]; exact this
    have HA3 : Hid (A3 = ((x.th.map (·.1)).map fun b => (⟨b, 0, none⟩ : Addr))) := hA3
    have hxl := hnd.len
    have hoffx : ¬ x.blk = A1 := (HO.out x hxN).1
    have HN : Hid (N.find? (fun y => decide (y.key = x.key)) = some x) := find_key HT.out.hang.srtN x hxN
    clear hA3 hA4 hA5 hnd
    gi_wp2_with fail
    refine hKK _ _ (Kept.refl _ _) ?_
    intro Wb hkb hrec
    have e1 : Blk Wb A1 #[.pointer none] 109 := b0.kept hkb (by show ¬ _ = _; omega)
    have eX : Blk Wb x.blk _ 129 := (HX.out.kept hK hoffx).kept hkb (by have := HX.out.lt; show ¬ _ = _; omega)
    have eP : Blk Wb w.heap.size _ 51 := (HD.out.2.2.1.kept hK (by show ¬ _ = _; omega)).kept hkb (by show ¬ _ = _; omega)
    have hKb : Kept (fun k => k = A1) w3 Wb := ⟨hkb.os.trans hK.os, hkb.tape.trans hK.tape, hkb.output.trans hK.output, Nat.le_trans hK.size hkb.size, fun k hk hs => (hkb.block k (Nat.lt_of_lt_of_le hk hK.size) (fun e => by have e' : k = l := e; omega)).trans (hK.block k hk hs)⟩
    have x0 := two_cells eX (i := 0) (v := .int .u64 (hiOf (valOf W x.key))) rfl
    have x1 := two_cells eX (i := 1) (v := .int .u64 (loOf (valOf W x.key))) rfl
    have x2 := two_cells eX (i := 2) (v := .int .i64 x.key.length) rfl
    have y0 := two_cells eP (i := 0) (v := .int .u64 (hiOf (valOf W p))) rfl
    have y1 := two_cells eP (i := 1) (v := .int .u64 (loOf (valOf W p))) rfl
    have y2 := two_cells eP (i := 2) (v := .int .i64 p.length) rfl
    have HE : Hid (Blk Wb A1 #[.pointer none] 109 ∧ Blk Wb x.blk #[.int .u64 (hiOf (valOf W x.key)), .int .u64 (loOf (valOf W x.key)), .int .i64 x.key.length, .pointer A3, A4, A5] 129 ∧ Kept (fun k => k = A1) w3 Wb ∧ ∀ y ∈ pre, y.key ≠ p) := ⟨e1, eX, hKb, hne⟩
    clear b0 hne hK hKK hkb hrec e1 eX eP hKb HX hpre hx hxN
    by_cases hk : x.key = p
    · have EQ := fun w => eqK hxl HP.out (decide_eq_true hk) w
      have HF : Hid (thAt p N = x.th) := by
        unfold thAt; rw [← hk, HN.out]; rfl
      clear hk
      gi_wp2_with fail
      refine grows_round hmix (by kernel_rfl) (by kernel_rfl) ?_
      repeat (gi_big_quiet_step (fail))
      refine wpQuietIn_nil ?_
      intro wq hwq
      obtain ⟨zq, rfl⟩ := hwq
      have HE2 : Hid (Blk (gw zq) A1 #[.pointer none] 109 ∧ Blk (gw zq) x.blk #[.int .u64 (hiOf (valOf W x.key)), .int .u64 (loOf (valOf W x.key)), .int .i64 x.key.length, .pointer A3, A4, A5] 129 ∧ Kept (fun k => k = A1) w3 (gw zq) ∧ Kept (fun k => k = A1) Wb (gw zq)) := ⟨HE.out.1.below (gw_below zq), HE.out.2.1.below (gw_below zq), HE.out.2.2.1.trans (Kept.of_below (gw_below zq)), Kept.of_below (gw_below zq)⟩
      clear x0 x1 x2 y0 y1 y2 HE
      generalize gw zq = w5 at *
      have x3 := HE2.out.2.1.cell 3 (v := .pointer A3) rfl
      have c0 := HE2.out.1.cell 0 (v := .pointer none) rfl
      have f0 := HE2.out.1.frozen 0
      have HQ2 : Hid (Kept (fun k => k = A1) Wb (w5.setCell ⟨A1, 0, none⟩ (.pointer A3)) ∧ Blk (w5.setCell ⟨A1, 0, none⟩ (.pointer A3)) A1 #[thP (thAt p N)] 109 ∧ Kept (fun k => k = A1) w3 (w5.setCell ⟨A1, 0, none⟩ (.pointer A3))) := by
        have ks : Kept (fun k => k = A1) w5 (w5.setCell ⟨A1, 0, none⟩ (.pointer A3)) := (Kept.refl (fun k => k = A1) w5).set (p := ⟨A1, 0, none⟩) rfl _
        refine ⟨HE2.out.2.2.2.trans ks, ?_, HE2.out.2.2.1.trans ks⟩
        have := HE2.out.1.set 0 (.pointer A3)
        rw [HF.out]
        have e : thP x.th = .pointer A3 := by rw [HA3.out]; cases x.th <;> rfl
        rw [e]; exact this
      gi_wp2_with fail
      exact ⟨HQ2.out.1, rfl, HQ2.out.2.1, HQ2.out.2.2⟩
    · have EQ := fun w => eqK hxl HP.out (decide_eq_false hk) w
      have HK : Hid (x.key ≠ p) := hk
      clear hk
      gi_wp2_with fail
      refine grows_round hmix (by kernel_rfl) (by kernel_rfl) ?_
      repeat (gi_big_quiet_step (fail))
      refine wpQuietIn_nil ?_
      intro wq hwq
      obtain ⟨zq, rfl⟩ := hwq
      have HQ2 : Hid (Kept (fun k => k = A1) Wb (gw zq) ∧ Blk (gw zq) A1 #[.pointer none] 109 ∧ (∀ y ∈ pre ++ [x], y.key ≠ p) ∧ Kept (fun k => k = A1) w3 (gw zq)) := ⟨Kept.of_below (gw_below zq), HE.out.1.below (gw_below zq), fun y hy => by
        rcases List.mem_append.1 hy with hy | hy
        · exact HE.out.2.2.2 y hy
        · rw [List.mem_singleton.1 hy]; exact HK.out, HE.out.2.2.1.trans (Kept.of_below (gw_below zq))⟩
      clear x0 x1 x2 y0 y1 y2 HE
      gi_wp2_with fail
      exact HQ2.out
  case done =>
    rintro W' ⟨b0, hne, hK⟩ hks hD'
    have HW : Hid (thAt p N = none) := way_none hne
    have c0 := b0.cell 0 (v := .pointer none) rfl
    have f0 := b0.frozen 0
    have ks : Kept (fun k => k = A1) W' (W'.setCell ⟨A1, 0, none⟩ (.pointer none)) := (Kept.refl (fun k => k = A1) W').set (p := ⟨A1, 0, none⟩) rfl _
    have HF : Hid (Blk (W'.setCell ⟨A1, 0, none⟩ (.pointer none)) A1 #[.pointer none] 109 ∧ (W'.setCell ⟨A1, 0, none⟩ (.pointer none)).heap[w3.heap.size]? = some (.deferred (some [])) ∧ Below w.heap.size w (W'.setCell ⟨A1, 0, none⟩ (.pointer none)) ∧ w3.heap.size ≤ (W'.setCell ⟨A1, 0, none⟩ (.pointer none)).heap.size) := by
      have hb : Below w.heap.size w W' := HD.out.2.1.trans (hks.below HD.out.2.1.size (fun k e => by have e' : k = A1 := e; omega))
      have hwl : w3.heap.size < W'.heap.size := (Array.getElem?_eq_some_iff.1 hD').1
      have hb2 := hb.trans (ks.below hb.size (fun k e => by have e' : k = A1 := e; omega))
      exact ⟨b0.set 0 _, (ks.block _ hwl (by show ¬ _ = _; omega)).trans hD', hb2, Nat.le_trans (Nat.le_of_lt hwl) ks.size⟩
    have hlo : w.heap.size ≤ w3.heap.size := HD.out.2.1.size
    clear b0 hne hK hks hD' ks
    gi_wp2_with fail
    generalize W'.setCell _ _ = W5 at HF ⊢
    refine ⟨by simp, .inl ⟨_, _, rfl, run_takeDeferred HF.out.2.1, ?_⟩⟩
    have hkk := kept_putObj (fun k => k = w3.heap.size) W5 w3.heap.size (.deferred none) rfl
    have z1 := (HF.out.1.kept hkk (by show ¬ _ = _; omega)).cell 0 (v := .pointer none) rfl
    refine ⟨.pointer none, ?_, by rw [HW.out]; rfl, HF.out.2.2.1.trans (hkk.below (Nat.le_trans hlo HF.out.2.2.2) (fun k e => by have e' : k = w3.heap.size := e; omega))⟩
    simp [results, Try.results58, go_sem, z1]
  case stop =>
    rintro c pre W' _ ⟨rfl, b0, hK⟩ hks hD'
    have HF : Hid (Blk W' A1 #[thP (thAt p N)] 109 ∧ W'.heap[w3.heap.size]? = some (.deferred (some [])) ∧ Below w.heap.size w W' ∧ w3.heap.size ≤ W'.heap.size) := ⟨b0, hD', HD.out.2.1.trans (hks.below HD.out.2.1.size (fun k e => by have e' : k = A1 := e; omega)), hks.size⟩
    have hlo : w.heap.size ≤ w3.heap.size := HD.out.2.1.size
    clear b0 hK hks hD'
    gi_wp2_with fail
    refine ⟨by simp, .inl ⟨_, _, rfl, run_takeDeferred HF.out.2.1, ?_⟩⟩
    have hkk := kept_putObj (fun k => k = w3.heap.size) W' w3.heap.size (.deferred none) rfl
    have z1 := (HF.out.1.kept hkk (by show ¬ _ = _; omega)).cell 0 (v := thP (thAt p N)) rfl
    refine ⟨thP (thAt p N), ?_, rfl, HF.out.2.2.1.trans (hkk.below (Nat.le_trans hlo HF.out.2.2.2) (fun k e => by have e' : k = w3.heap.size := e; omega))⟩
    simp [results, Try.results58, go_sem, z1]
end Go.Proofs.Ytgdpplipahhffaa.St
namespace Go.Proofs.Ytgdpplipahhffaa.St
open Go.RowKit
set_option linter.unusedVariables false
set_option linter.unusedSimpArgs false

set_option maxHeartbeats 1000000 in
theorem new_ok (W most : Nat) (h1 : 1 ≤ W) (h2 : W ≤ 128) (h3 : 1 ≤ most) (h4 : most ≤ 4096) (w : World) : Calls Try.prog 29 #[.int .i64 W, .int .i64 most] w fun e w' => e = .returned (.tuple #[.pointer (some ⟨w.heap.size, 0, none⟩), .int .i64 0]) ∧ TrieAt w' w.heap.size W most none 0 [] ∧ Below w.heap.size w w' := by
  have HF : Hid (TrieAt (w.alloc (.cells #[.int .i64 W, .int .i64 most, .int .i64 0, .pointer none] 108)) w.heap.size W most none 0 [] ∧ Below w.heap.size w (w.alloc (.cells #[.int .i64 W, .int .i64 most, .int .i64 0, .pointer none] 108))) := ⟨⟨Blk.new w _ 108, Hang.nil 0, ⟨h1, h2⟩, Nat.zero_le _, h3, h4⟩, (Below.refl _ _).alloc (Nat.le_refl _) _⟩
  have d1 : ¬ (W : Int) < 1 := by omega
  have d2 : ¬ (128 : Int) < W := by omega
  have d3 : ¬ (most : Int) < 1 := by omega
  have d4 : ¬ (4096 : Int) < most := by omega
  go_enter Try.func29, Try.ntmps29
  go_wp2
  go_ret2
  exact ⟨rfl, HF.out⟩
set_option maxHeartbeats 1000000 in
theorem new_bad (W most : Int) (h : W < 1 ∨ 128 < W ∨ most < 1 ∨ 4096 < most) (w : World) : Calls Try.prog 29 #[.int .i64 W, .int .i64 most] w fun e w' => e = .returned (.tuple #[.pointer none, .int .i64 1]) ∧ w' = w := by
  by_cases d1 : W < 1
  · go_enter Try.func29, Try.ntmps29
    go_wp2
    go_ret2
    exact ⟨rfl, rfl⟩
  by_cases d2 : 128 < W
  · go_enter Try.func29, Try.ntmps29
    go_wp2
    go_ret2
    exact ⟨rfl, rfl⟩
  by_cases d3 : most < 1
  · go_enter Try.func29, Try.ntmps29
    go_wp2
    go_ret2
    exact ⟨rfl, rfl⟩
  have d4 : 4096 < most := by omega
  go_enter Try.func29, Try.ntmps29
  go_wp2
  go_ret2
  exact ⟨rfl, rfl⟩
section
variable {w : World} {q W most : Nat} {a : Option Nat} {n : Nat} {N : List (Nd ByteArray)}
theorem len_any (h : TrieAt w q W most a n N) : Calls Try.prog 34 #[.pointer (some ⟨q, 0, none⟩)] w fun e w' => e = .returned (.int .i64 (kept N).length) ∧ w' = w := by
  have c2 := h.hd.cell 2 (v := .int .i64 (kept N).length) rfl
  clear h
  go_enter Try.func34, Try.ntmps34
  go_wp2
  go_ret
  exact ⟨rfl, rfl⟩
/-- A trie written over at its head. -/
theorem TrieAt.over {w' : World} {a' : Option Nat} {n' : Nat} {N' : List (Nd ByteArray)} (h : TrieAt w q W most a n N) (hd : Blk w' q #[.int .i64 W, .int .i64 most, .int .i64 (kept N').length, pt a'] 108) (hh : HangI W w' n' a' N') (hm : (kept N').length ≤ most) : TrieAt w' q W most a' n' N' := ⟨hd, hh, h.wd, hm, h.most.2⟩
/-- The head is none of its nodes. -/
theorem Hang.off_head {w : World} {n : Nat} {a : Option Nat} {N : List (Nd ByteArray)} (h : HangI W w n a N) {cs : Array Value} (hq : Blk w q cs 108) : Off (fun k => k = q) N := fun x hx => by
  obtain ⟨b0, b1, hn⟩ := h.thing x hx
  refine ⟨fun e => ?_, fun t v e1 e2 => ?_⟩
  · have h1 := hn.cells
    rw [show x.blk = q from e] at h1
    have h2 := h1.symm.trans hq
    simp at h2
  · have h1 := hn.thing t v e1
    rw [show t = q from e2] at h1
    have h2 := h1.symm.trans hq
    simp at h2
def okI (o : Option ByteArray) : Value := .tuple #[.string (o.getD ⟨#[]⟩), .bool o.isSome]
theorem get_yes (hT : TrieAt w q W most a n N) {p : List Bool} (hp : p.length ≤ W) : Calls Try.prog 31 #[.pointer (some ⟨q, 0, none⟩), Pf (valOf W p) p.length] w fun e w' => e = .returned (okI (look p (kept N))) ∧ Below w.heap.size w w' := by
  have HL : Hid ((thAt p N).map (·.2) = look p (kept N)) := thAt_look hT.hang.srtN p
  have HB : Hid _ := one_new w #[.int .u64 (hiOf (valOf W p)), .int .u64 (loOf (valOf W p)), .int .i64 p.length] 51
  have C : Hid (∀ w1, Below w.heap.size w w1 → Calls Try.prog 58 #[.pointer (some ⟨q, 0, none⟩), Pf (valOf W p) p.length] w1 fun e w' => e = .returned (thP (thAt p N)) ∧ Hid (Below w1.heap.size w1 w')) := fun w1 h => kept_yes (hT.below h) hp
  have HT : Hid (∀ t v, thAt p N = some (t, v) → ∀ w1, Below w.heap.size w w1 → Blk w1 t #[encV v] 9) := fun t v e w1 h => (hT.hang.below h).th_at e
  clear hT
  obtain ⟨r, hr⟩ : ∃ r, r = look p (kept N) := ⟨_, rfl⟩
  rw [← hr] at HL ⊢
  obtain ⟨o, ho⟩ : ∃ o, o = thAt p N := ⟨_, rfl⟩
  rw [← ho] at HL C HT
  clear hr ho
  cases o with
  | none =>
    have hl : r = none := by rw [← HL.out]; rfl
    subst hl
    have C' : Hid (∀ w1, Below w.heap.size w w1 → Calls Try.prog 58 #[.pointer (some ⟨q, 0, none⟩), Pf (valOf W p) p.length] w1 fun e w' => e = .returned (.pointer none) ∧ Hid (Below w1.heap.size w1 w')) := C
    clear HL HT C
    go_enter Try.func31, Try.ntmps31
    go_wp2_with fail
    refine (C'.out _ HB.out.2.1).mono ?_
    rintro e w2 ⟨rfl, H2⟩
    have HC : Hid (Below w.heap.size w w2) := bst HB.out.2.1 H2.out
    clear H2 C' HB
    go_wp2
    go_ret2
    exact ⟨rfl, HC.out⟩
  | some t =>
    obtain ⟨t, v⟩ := t
    have hl : r = some v := by rw [← HL.out]; rfl
    subst hl
    have C' : Hid (∀ w1, Below w.heap.size w w1 → Calls Try.prog 58 #[.pointer (some ⟨q, 0, none⟩), Pf (valOf W p) p.length] w1 fun e w' => e = .returned (.pointer (some ⟨t, 0, none⟩)) ∧ Hid (Below w1.heap.size w1 w')) := C
    clear HL C
    go_enter Try.func31, Try.ntmps31
    go_wp2_with fail
    refine (C'.out _ HB.out.2.1).mono ?_
    rintro e w2 ⟨rfl, H2⟩
    have HC : Hid (Below w.heap.size w w2) := bst HB.out.2.1 H2.out
    have c0 := (HT.out t v rfl w2 HC.out).cell 0 (v := .string v) rfl
    clear H2 C' HB HT
    go_wp2
    go_ret2
    exact ⟨rfl, HC.out⟩
end
theorem get_no {W : Nat} (h1 : 1 ≤ W) (h2 : W ≤ 128) (q : Nat) (v : Nat) (hv : Is128 v) (l : Int) (hP : isP W v l = false) (w : World) (hq : w.cell? ⟨q, 0, none⟩ = some (.int .i64 W)) :
    Calls Try.prog 31 #[.pointer (some ⟨q, 0, none⟩), Pf v l] w fun e w' => e = .returned (okI none) ∧ Below w.heap.size w w' := by
  have HB : Hid _ := one_new w #[.int .u64 (hiOf v), .int .u64 (loOf v), .int .i64 l] 51
  have C : Hid (∀ w1, Below w.heap.size w w1 → Calls Try.prog 58 #[.pointer (some ⟨q, 0, none⟩), Pf v l] w1 fun e w' => e = .returned (.pointer none) ∧ Hid (Below w1.heap.size w1 w')) := fun w1 h => kept_no h1 h2 q v hv l hP w1 ((World.cell?_of_block (h.block q (World.block_lt_of_cell? w _ hq))).trans hq)
  clear hP hq
  go_enter Try.func31, Try.ntmps31
  go_wp2_with fail
  refine (C.out _ HB.out.2.1).mono ?_
  rintro e w2 ⟨rfl, H2⟩
  have HC : Hid (Below w.heap.size w w2) := bst HB.out.2.1 H2.out
  clear H2 C HB
  go_wp2
  go_ret2
  exact ⟨rfl, HC.out⟩
end Go.Proofs.Ytgdpplipahhffaa.St
namespace Go.Proofs.Ytgdpplipahhffaa.St
open Go.RowKit
set_option linter.unusedVariables false
set_option linter.unusedSimpArgs false

section
variable {w : World} {q W most : Nat} {a : Option Nat} {n : Nat} {N : List (Nd ByteArray)}
set_option maxHeartbeats 2000000 in
theorem put_bad (hT : TrieAt w q W most a n N) (v : Nat) (hv : Is128 v) (l : Int) (u : ByteArray) (hP : isP W v l = false) :
    Calls Try.prog 30 #[.pointer (some ⟨q, 0, none⟩), Pf v l, .string u] w fun e w' => e = .returned (.int .i64 111) ∧ Below w.heap.size w w' := by
  obtain ⟨h1, h2⟩ := hT.wd
  have C49 : Hid (∀ w1, Calls Try.prog 49 #[Pf v l, .int .i64 W] w1 fun e w' => e = .returned (.bool false) ∧ Below w1.heap.size w1 w') := fun w1 => by rw [← hP]; exact isPrefix_any v hv l W h1 h2 w1
  have HB := two_new' w #[.int .u64 (hiOf v), .int .u64 (loOf v), .int .i64 l] #[.string u] 51 9
  have hlq : q < w.heap.size := hT.hd.lt
  have HQ : Hid (w.cell? ⟨q, 0, none⟩ = some (.int .i64 W)) := hT.hd.cell 0 rfl
  clear hT hP
  go_enter Try.func30, Try.ntmps30
  go_upto_region 3 with fail
  generalize ((w.alloc _).alloc _) = w0 at HB ⊢
  have lA := HB.out.2.2.2
  have x0 := two_cells HB.out.1 (i := 0) (v := .int .u64 (hiOf v)) rfl
  have x1 := two_cells HB.out.1 (i := 1) (v := .int .u64 (loOf v)) rfl
  have x2 := two_cells HB.out.1 (i := 2) (v := .int .i64 l) rfl
  have z0 : ∀ z : Grown w0, (gw z).cell? ⟨q, 0, none⟩ = some (.int .i64 W) := gw_cell ((World.cell?_of_block (HB.out.2.2.1.block q hlq)).trans HQ.out)
  refine region_grows (by kernel_rfl) (by kernel_rfl) ?_
  repeat (go_big_quiet_step ((go_at_call 49; exact calls_gw (C49.out _))))
  refine wpQuiet_nil ?_
  intro wq hwq
  obtain ⟨zq, rfl⟩ := hwq
  have HF : Hid (Below w.heap.size w (gw zq)) := bst HB.out.2.2.1 (gw_below zq)
  clear x0 x1 x2 z0 HB C49
  go_wp2
  go_ret
  exact ⟨rfl, HF.out⟩
set_option maxHeartbeats 2000000 in
theorem put_dup (hT : TrieAt w q W most a n N) {p : List Bool} (hp : p.length ≤ W) (u : ByteArray) (hl : look p (kept N) ≠ none) :
    Calls Try.prog 30 #[.pointer (some ⟨q, 0, none⟩), Pf (valOf W p) p.length, .string u] w fun e w' => e = .returned (.int .i64 121) ∧ Below w.heap.size w w' := by
  obtain ⟨h1, h2⟩ := hT.wd
  have C49 : Hid (∀ w1, Calls Try.prog 49 #[Pf (valOf W p) p.length, .int .i64 W] w1 fun e w' => e = .returned (.bool true) ∧ Below w1.heap.size w1 w') := fun w1 => by
    have := isPrefix_any (valOf W p) (val_is h2 hp) p.length W h1 h2 w1
    rw [isP_mk hp] at this; exact this
  have C55 : Hid (∀ w1, Below w.heap.size w w1 → Calls Try.prog 58 #[.pointer (some ⟨q, 0, none⟩), Pf (valOf W p) p.length] w1 fun e w' => e = .returned (thP (thAt p N)) ∧ Hid (Below w1.heap.size w1 w')) := fun w1 h => kept_yes (hT.below h) hp
  have HT : Hid (TrieAt w q W most a n N) := hT
  have HL : Hid ((thAt p N).map (·.2) = look p (kept N)) := thAt_look hT.hang.srtN p
  have HB := two_new' w #[.int .u64 (hiOf (valOf W p)), .int .u64 (loOf (valOf W p)), .int .i64 p.length] #[.string u] 51 9
  have hlq : q < w.heap.size := hT.hd.lt
  have HQ : Hid (w.cell? ⟨q, 0, none⟩ = some (.int .i64 W)) := hT.hd.cell 0 rfl
  have HP : Hid (p.length ≤ W) := hp
  obtain ⟨r, hr⟩ : ∃ r, r = thAt p N := ⟨_, rfl⟩
  rw [← hr] at C55 HL
  cases r with
  | none => have := HL.out; rw [← this] at hl; exact absurd rfl hl
  | some t =>
  obtain ⟨t, v⟩ := t
  have C55 : Hid (∀ w1, Below w.heap.size w w1 → Calls Try.prog 58 #[.pointer (some ⟨q, 0, none⟩), Pf (valOf W p) p.length] w1 fun e w' => e = .returned (.pointer (some ⟨t, 0, none⟩)) ∧ Hid (Below w1.heap.size w1 w')) := C55
  clear hT hl HL hr HT
  go_enter Try.func30, Try.ntmps30
  go_upto_region 3 with fail
  generalize ((w.alloc _).alloc _) = w0 at HB ⊢
  generalize hA : w.heap.size + 1 = A1 at *
  have lA := HB.out.2.2.2
  have x0 := two_cells HB.out.1 (i := 0) (v := .int .u64 (hiOf (valOf W p))) rfl
  have x1 := two_cells HB.out.1 (i := 1) (v := .int .u64 (loOf (valOf W p))) rfl
  have x2 := two_cells HB.out.1 (i := 2) (v := .int .i64 p.length) rfl
  have z0 : ∀ z : Grown w0, (gw z).cell? ⟨q, 0, none⟩ = some (.int .i64 W) := gw_cell ((World.cell?_of_block (HB.out.2.2.1.block q hlq)).trans HQ.out)
  refine region_grows (by kernel_rfl) (by kernel_rfl) ?_
  repeat (go_big_quiet_step ((go_at_call 49; exact calls_gw (C49.out _))))
  refine wpQuiet_nil ?_
  intro wq hwq
  obtain ⟨zq, rfl⟩ := hwq
  have HC : Hid (Below w.heap.size w (gw zq) ∧ Blk (gw zq) w.heap.size #[.int .u64 (hiOf (valOf W p)), .int .u64 (loOf (valOf W p)), .int .i64 p.length] 51 ∧ Blk (gw zq) A1 #[.string u] 9) := ⟨bst HB.out.2.2.1 (gw_below zq), HB.out.1.below (gw_below zq), HB.out.2.1.below (gw_below zq)⟩
  clear x0 x1 x2 z0 HB C49
  generalize gw zq = w2 at *
  have y0 := HC.out.2.1.cell 0 (v := .int .u64 (hiOf (valOf W p))) rfl
  have y1 := HC.out.2.1.cell 1 (v := .int .u64 (loOf (valOf W p))) rfl
  have y2 := HC.out.2.1.cell 2 (v := .int .i64 p.length) rfl
  go_wp2_with fail
  refine (C55.out _ HC.out.1).mono ?_
  rintro e w3 ⟨rfl, H3⟩
  clear y0 y1 y2 C55
  have HD : Hid (Below w.heap.size w w3 ∧ Blk w3 w.heap.size #[.int .u64 (hiOf (valOf W p)), .int .u64 (loOf (valOf W p)), .int .i64 p.length] 51 ∧ Blk w3 A1 #[.string u] 9) := ⟨bst HC.out.1 H3.out, HC.out.2.1.below H3.out, HC.out.2.2.below H3.out⟩
  clear H3 HC
  go_wp2
  go_ret
  exact ⟨rfl, HD.out.1⟩
set_option maxHeartbeats 2000000 in
theorem put_full (hT : TrieAt w q W most a n N) {p : List Bool} (hp : p.length ≤ W) (u : ByteArray) (hl : look p (kept N) = none) (hm : (kept N).length = most) :
    Calls Try.prog 30 #[.pointer (some ⟨q, 0, none⟩), Pf (valOf W p) p.length, .string u] w fun e w' => e = .returned (.int .i64 120) ∧ Below w.heap.size w w' := by
  obtain ⟨h1, h2⟩ := hT.wd
  have C49 : Hid (∀ w1, Calls Try.prog 49 #[Pf (valOf W p) p.length, .int .i64 W] w1 fun e w' => e = .returned (.bool true) ∧ Below w1.heap.size w1 w') := fun w1 => by
    have := isPrefix_any (valOf W p) (val_is h2 hp) p.length W h1 h2 w1
    rw [isP_mk hp] at this; exact this
  have C55 : Hid (∀ w1, Below w.heap.size w w1 → Calls Try.prog 58 #[.pointer (some ⟨q, 0, none⟩), Pf (valOf W p) p.length] w1 fun e w' => e = .returned (thP (thAt p N)) ∧ Hid (Below w1.heap.size w1 w')) := fun w1 h => kept_yes (hT.below h) hp
  have HT : Hid (TrieAt w q W most a n N) := hT
  have HL : Hid ((thAt p N).map (·.2) = look p (kept N)) := thAt_look hT.hang.srtN p
  have HB := two_new' w #[.int .u64 (hiOf (valOf W p)), .int .u64 (loOf (valOf W p)), .int .i64 p.length] #[.string u] 51 9
  have hlq : q < w.heap.size := hT.hd.lt
  have HQ : Hid (w.cell? ⟨q, 0, none⟩ = some (.int .i64 W)) := hT.hd.cell 0 rfl
  have HP : Hid (p.length ≤ W) := hp
  have ht : thAt p N = none := by
    have := HL.out; rw [hl] at this
    cases h : thAt p N with
    | none => rfl
    | some t => rw [h] at this; cases this
  rw [ht] at C55
  have C55 : Hid (∀ w1, Below w.heap.size w w1 → Calls Try.prog 58 #[.pointer (some ⟨q, 0, none⟩), Pf (valOf W p) p.length] w1 fun e w' => e = .returned (.pointer none) ∧ Hid (Below w1.heap.size w1 w')) := C55
  have hd := hT.hd
  rw [hm] at hd
  have HH : Hid (Blk w q #[.int .i64 W, .int .i64 most, .int .i64 most, pt a] 108) := hd
  clear hT hl HL ht hd HT hm
  go_enter Try.func30, Try.ntmps30
  go_upto_region 3 with fail
  generalize ((w.alloc _).alloc _) = w0 at HB ⊢
  generalize hA : w.heap.size + 1 = A1 at *
  have lA := HB.out.2.2.2
  have x0 := two_cells HB.out.1 (i := 0) (v := .int .u64 (hiOf (valOf W p))) rfl
  have x1 := two_cells HB.out.1 (i := 1) (v := .int .u64 (loOf (valOf W p))) rfl
  have x2 := two_cells HB.out.1 (i := 2) (v := .int .i64 p.length) rfl
  have z0 : ∀ z : Grown w0, (gw z).cell? ⟨q, 0, none⟩ = some (.int .i64 W) := gw_cell ((World.cell?_of_block (HB.out.2.2.1.block q hlq)).trans HQ.out)
  refine region_grows (by kernel_rfl) (by kernel_rfl) ?_
  repeat (go_big_quiet_step ((go_at_call 49; exact calls_gw (C49.out _))))
  refine wpQuiet_nil ?_
  intro wq hwq
  obtain ⟨zq, rfl⟩ := hwq
  have HC : Hid (Below w.heap.size w (gw zq) ∧ Blk (gw zq) w.heap.size #[.int .u64 (hiOf (valOf W p)), .int .u64 (loOf (valOf W p)), .int .i64 p.length] 51 ∧ Blk (gw zq) A1 #[.string u] 9) := ⟨bst HB.out.2.2.1 (gw_below zq), HB.out.1.below (gw_below zq), HB.out.2.1.below (gw_below zq)⟩
  clear x0 x1 x2 z0 HB C49
  generalize gw zq = w2 at *
  have y0 := HC.out.2.1.cell 0 (v := .int .u64 (hiOf (valOf W p))) rfl
  have y1 := HC.out.2.1.cell 1 (v := .int .u64 (loOf (valOf W p))) rfl
  have y2 := HC.out.2.1.cell 2 (v := .int .i64 p.length) rfl
  go_wp2_with fail
  refine (C55.out _ HC.out.1).mono ?_
  rintro e w3 ⟨rfl, H3⟩
  clear y0 y1 y2 C55
  have HD : Hid (Below w.heap.size w w3 ∧ Blk w3 w.heap.size #[.int .u64 (hiOf (valOf W p)), .int .u64 (loOf (valOf W p)), .int .i64 p.length] 51 ∧ Blk w3 A1 #[.string u] 9) := ⟨bst HC.out.1 H3.out, HC.out.2.1.below H3.out, HC.out.2.2.below H3.out⟩
  clear H3 HC
  have g1 : w3.cell? ⟨q, 1, none⟩ = some (.int .i64 most) := (HH.out.below HD.out.1).cell 1 rfl
  have g2 : w3.cell? ⟨q, 2, none⟩ = some (.int .i64 most) := (HH.out.below HD.out.1).cell 2 rfl
  go_upto_region 7 with fail
  go_quiet (fail)
  rename_i nq
  have HF : Hid (Below w.heap.size w (w3.drewN nq)) := below_drewN HD.out.1 nq
  clear g1 g2 HD
  go_wp2
  go_ret
  exact ⟨rfl, HF.out⟩
set_option maxHeartbeats 2000000 in
theorem put_ok (hT : TrieAt w q W most a n N) {p : List Bool} (hp : p.length ≤ W) (u : ByteArray) (hl : look p (kept N) = none) (hm : (kept N).length < most) :
    Calls Try.prog 30 #[.pointer (some ⟨q, 0, none⟩), Pf (valOf W p) p.length, .string u] w fun e w' => e = .returned (.int .i64 0) ∧ ∃ a' n' N', TrieAt w' q W most a' n' N' ∧ kept N' = upd p u (kept N) ∧ Kept (fun k => k = q) w w' := by
  obtain ⟨h1, h2⟩ := hT.wd
  have C49 : Hid (∀ w1, Calls Try.prog 49 #[Pf (valOf W p) p.length, .int .i64 W] w1 fun e w' => e = .returned (.bool true) ∧ Below w1.heap.size w1 w') := fun w1 => by
    have := isPrefix_any (valOf W p) (val_is h2 hp) p.length W h1 h2 w1
    rw [isP_mk hp] at this; exact this
  have C55 : Hid (∀ w1, Below w.heap.size w w1 → Calls Try.prog 58 #[.pointer (some ⟨q, 0, none⟩), Pf (valOf W p) p.length] w1 fun e w' => e = .returned (thP (thAt p N)) ∧ Hid (Below w1.heap.size w1 w')) := fun w1 h => kept_yes (hT.below h) hp
  have HT : Hid (TrieAt w q W most a n N) := hT
  have HL : Hid ((thAt p N).map (·.2) = look p (kept N)) := thAt_look hT.hang.srtN p
  have HB := two_new' w #[.int .u64 (hiOf (valOf W p)), .int .u64 (loOf (valOf W p)), .int .i64 p.length] #[.string u] 51 9
  have hlq : q < w.heap.size := hT.hd.lt
  have HQ : Hid (w.cell? ⟨q, 0, none⟩ = some (.int .i64 W)) := hT.hd.cell 0 rfl
  have HP : Hid (p.length ≤ W) := hp
  have ht : thAt p N = none := by
    have := HL.out; rw [hl] at this
    cases h : thAt p N with
    | none => rfl
    | some t => rw [h] at this; cases this
  rw [ht] at C55
  have C55 : Hid (∀ w1, Below w.heap.size w w1 → Calls Try.prog 58 #[.pointer (some ⟨q, 0, none⟩), Pf (valOf W p) p.length] w1 fun e w' => e = .returned (.pointer none) ∧ Hid (Below w1.heap.size w1 w')) := C55
  have hlen : (upd p u (kept N)).length = (kept N).length + 1 := by rw [len_upd hT.hang.srt, hl]; rfl
  have HLN : Hid ((upd p u (kept N)).length = (kept N).length + 1) := hlen
  obtain ⟨A, hA9⟩ : ∃ A : Option Addr, A = a.map fun b => ⟨b, 0, none⟩ := ⟨_, rfl⟩
  have C56 : Hid (∀ w1 t, Below w.heap.size w w1 → Blk w1 t #[.string u] 9 → Calls Try.prog 59 #[.pointer (some ⟨q, 0, none⟩), .pointer A, Pf (valOf W p) p.length, .pointer (some ⟨t, 0, none⟩)] w1 fun e w' => ∃ b, e = .returned (.pointer (some ⟨b, 0, none⟩)) ∧ Hid (Put1 W w1 w' p u (kept N) b)) := fun w1 t hb ht => by
    rw [hA9]
    exact with_any h1 h2 hp q t u n w1 a N ht ((hT.hd.below hb).cell 0 rfl) (hT.hang.below hb)
  have HH : Hid (Blk w q #[.int .i64 W, .int .i64 most, .int .i64 (kept N).length, .pointer A] 108) := by rw [hA9]; exact hT.hd
  have hmost : most ≤ 4096 := hT.most.2.2
  clear hT hl HL ht hA9 hlen
  generalize hLL : (kept N).length = LL at *
  have HLL : Hid ((kept N).length = LL) := hLL
  clear hLL
  go_enter Try.func30, Try.ntmps30
  go_upto_region 3 with fail
  generalize ((w.alloc _).alloc _) = w0 at HB ⊢
  generalize hA : w.heap.size + 1 = A1 at *
  have lA := HB.out.2.2.2
  have x0 := two_cells HB.out.1 (i := 0) (v := .int .u64 (hiOf (valOf W p))) rfl
  have x1 := two_cells HB.out.1 (i := 1) (v := .int .u64 (loOf (valOf W p))) rfl
  have x2 := two_cells HB.out.1 (i := 2) (v := .int .i64 p.length) rfl
  have z0 : ∀ z : Grown w0, (gw z).cell? ⟨q, 0, none⟩ = some (.int .i64 W) := gw_cell ((World.cell?_of_block (HB.out.2.2.1.block q hlq)).trans HQ.out)
  refine region_grows (by kernel_rfl) (by kernel_rfl) ?_
  repeat (go_big_quiet_step ((go_at_call 49; exact calls_gw (C49.out _))))
  refine wpQuiet_nil ?_
  intro wq hwq
  obtain ⟨zq, rfl⟩ := hwq
  have HC : Hid (Below w.heap.size w (gw zq) ∧ Blk (gw zq) w.heap.size #[.int .u64 (hiOf (valOf W p)), .int .u64 (loOf (valOf W p)), .int .i64 p.length] 51 ∧ Blk (gw zq) A1 #[.string u] 9) := ⟨bst HB.out.2.2.1 (gw_below zq), HB.out.1.below (gw_below zq), HB.out.2.1.below (gw_below zq)⟩
  clear x0 x1 x2 z0 HB C49
  generalize gw zq = w2 at *
  have y0 := HC.out.2.1.cell 0 (v := .int .u64 (hiOf (valOf W p))) rfl
  have y1 := HC.out.2.1.cell 1 (v := .int .u64 (loOf (valOf W p))) rfl
  have y2 := HC.out.2.1.cell 2 (v := .int .i64 p.length) rfl
  go_wp2_with fail
  refine (C55.out _ HC.out.1).mono ?_
  rintro e w3 ⟨rfl, H3⟩
  clear y0 y1 y2 C55
  have HD : Hid (Below w.heap.size w w3 ∧ Blk w3 w.heap.size #[.int .u64 (hiOf (valOf W p)), .int .u64 (loOf (valOf W p)), .int .i64 p.length] 51 ∧ Blk w3 A1 #[.string u] 9) := ⟨bst HC.out.1 H3.out, HC.out.2.1.below H3.out, HC.out.2.2.below H3.out⟩
  clear H3 HC
  have g1 : w3.cell? ⟨q, 1, none⟩ = some (.int .i64 most) := (HH.out.below HD.out.1).cell 1 rfl
  have g2 : w3.cell? ⟨q, 2, none⟩ = some (.int .i64 LL) := (HH.out.below HD.out.1).cell 2 rfl
  have t1 : ((LL : Int) == (most : Int)) = false := by rw [beq_eq_false_iff_ne]; omega
  go_upto_region 7 with fail
  go_quiet (fail)
  rename_i nq
  have HE : Hid (Below w.heap.size w (w3.drewN nq) ∧ Blk (w3.drewN nq) w.heap.size #[.int .u64 (hiOf (valOf W p)), .int .u64 (loOf (valOf W p)), .int .i64 p.length] 51 ∧ Blk (w3.drewN nq) A1 #[.string u] 9) := ⟨below_drewN HD.out.1 nq, HD.out.2.1, HD.out.2.2⟩
  clear g1 g2 HD t1
  generalize w3.drewN nq = w4 at *
  have y0 := HE.out.2.1.cell 0 (v := .int .u64 (hiOf (valOf W p))) rfl
  have y1 := HE.out.2.1.cell 1 (v := .int .u64 (loOf (valOf W p))) rfl
  have y2 := HE.out.2.1.cell 2 (v := .int .i64 p.length) rfl
  have q3 : w4.cell? ⟨q, 3, none⟩ = some (.pointer A) := (HH.out.below HE.out.1).cell 3 rfl
  have CC : Hid (∀ V, Below w4.heap.size w4 V → Calls Try.prog 59 #[.pointer (some ⟨q, 0, none⟩), .pointer A, Pf (valOf W p) p.length, .pointer (some ⟨A1, 0, none⟩)] V fun e w' => ∃ b, e = .returned (.pointer (some ⟨b, 0, none⟩)) ∧ w'.cell? ⟨q, 3, none⟩ = some (.pointer A) ∧ w'.frozen? ⟨q, 3, none⟩ = false ∧ Hid (Blk w' q #[.int .i64 W, .int .i64 most, .int .i64 LL, .pointer A] 108 ∧ Below w.heap.size w w' ∧ ∃ n N', HangI W w' n (some b) N' ∧ kept N' = upd p u (kept N))) := fun V hV => (C56.out V A1 (bst HE.out.1 hV) (HE.out.2.2.below hV)).mono (by
    rintro e w' ⟨b, rfl, hP⟩
    have hb := bst (bst HE.out.1 hV) hP.out.2
    have g := HH.out.below hb
    exact ⟨b, rfl, g.cell 3 rfl, g.frozen 3, (⟨g, hb, hP.out.1⟩ : _ ∧ _)⟩)
  clear C56
  go_upto_region 9 with fail
  go_region_with ((go_at_call 59; refine (CC.out _ (by exact ⟨rfl, rfl, rfl, Nat.le_refl _, fun _ _ => rfl⟩)).mono ?_; rintro e w5 ⟨b, rfl, d3, e3, H5⟩))
  all_goals (
    have hks : Kept (fun k => k = q) w5 ((w5.setCell ⟨q, 3, none⟩ (.pointer (some ⟨b, 0, none⟩))).setCell ⟨q, 2, none⟩ (.int .i64 ((LL : Int) + 1))) := ((Kept.refl (fun k => k = q) w5).set (p := ⟨q, 3, none⟩) rfl _).set (p := ⟨q, 2, none⟩) rfl _
    have HF : Hid (∃ a' n' N', TrieAt ((w5.setCell ⟨q, 3, none⟩ (.pointer (some ⟨b, 0, none⟩))).setCell ⟨q, 2, none⟩ (.int .i64 ((LL : Int) + 1))) q W most a' n' N' ∧ kept N' = upd p u (kept N) ∧ Kept (fun k => k = q) w ((w5.setCell ⟨q, 3, none⟩ (.pointer (some ⟨b, 0, none⟩))).setCell ⟨q, 2, none⟩ (.int .i64 ((LL : Int) + 1)))) := by
      obtain ⟨g1, g2, n', N', g3, g4⟩ := H5.out
      have hl2 : (kept N').length = LL + 1 := by rw [g4]; exact HLN.out
      refine ⟨some b, n', N', HT.out.over ?_ (g3.keptW hks (Hang.off_head g3 g1)) (by omega), g4, (Kept.of_below g2).trans hks⟩
      rw [hl2]
      exact (g1.set 3 _).set 2 _
    have HG : Hid (Blk (w5.setCell ⟨q, 3, none⟩ (.pointer (some ⟨b, 0, none⟩))) q #[.int .i64 W, .int .i64 most, .int .i64 LL, .pointer (some ⟨b, 0, none⟩)] 108) := H5.out.1.set 3 _
    clear H5 hks CC y0 y1 y2 q3 d3 e3
    go_upto_region 10 with fail
    generalize w5.setCell _ _ = w6 at HF HG ⊢
    have c2 := HG.out.cell 2 (v := .int .i64 LL) rfl
    have f2 := HG.out.frozen 2
    go_wp2
    go_ret
    exact ⟨rfl, HF.out⟩)
end
end Go.Proofs.Ytgdpplipahhffaa.St
namespace Go.Proofs.Ytgdpplipahhffaa.St
open Go.RowKit
set_option linter.unusedVariables false
set_option linter.unusedSimpArgs false

section
variable {w : World} {q W most : Nat} {a : Option Nat} {n : Nat} {N : List (Nd ByteArray)}
set_option maxHeartbeats 2000000 in
theorem set_bad (hT : TrieAt w q W most a n N) (v : Nat) (hv : Is128 v) (l : Int) (u : ByteArray) (hP : isP W v l = false) :
    Calls Try.prog 32 #[.pointer (some ⟨q, 0, none⟩), Pf v l, .string u] w fun e w' => e = .returned (.int .i64 111) ∧ Below w.heap.size w w' := by
  obtain ⟨h1, h2⟩ := hT.wd
  have C49 : Hid (∀ w1, Calls Try.prog 49 #[Pf v l, .int .i64 W] w1 fun e w' => e = .returned (.bool false) ∧ Below w1.heap.size w1 w') := fun w1 => by rw [← hP]; exact isPrefix_any v hv l W h1 h2 w1
  have HB := two_new' w #[.int .u64 (hiOf v), .int .u64 (loOf v), .int .i64 l] #[.string u] 51 9
  have hlq : q < w.heap.size := hT.hd.lt
  have HQ : Hid (w.cell? ⟨q, 0, none⟩ = some (.int .i64 W)) := hT.hd.cell 0 rfl
  clear hT hP
  go_enter Try.func32, Try.ntmps32
  go_upto_region 3 with fail
  generalize ((w.alloc _).alloc _) = w0 at HB ⊢
  have lA := HB.out.2.2.2
  have x0 := two_cells HB.out.1 (i := 0) (v := .int .u64 (hiOf v)) rfl
  have x1 := two_cells HB.out.1 (i := 1) (v := .int .u64 (loOf v)) rfl
  have x2 := two_cells HB.out.1 (i := 2) (v := .int .i64 l) rfl
  have z0 : ∀ z : Grown w0, (gw z).cell? ⟨q, 0, none⟩ = some (.int .i64 W) := gw_cell ((World.cell?_of_block (HB.out.2.2.1.block q hlq)).trans HQ.out)
  refine region_grows (by kernel_rfl) (by kernel_rfl) ?_
  repeat (go_big_quiet_step ((go_at_call 49; exact calls_gw (C49.out _))))
  refine wpQuiet_nil ?_
  intro wq hwq
  obtain ⟨zq, rfl⟩ := hwq
  have HF : Hid (Below w.heap.size w (gw zq)) := bst HB.out.2.2.1 (gw_below zq)
  clear x0 x1 x2 z0 HB C49
  go_wp2
  go_ret
  exact ⟨rfl, HF.out⟩
set_option maxHeartbeats 2000000 in
theorem set_absent (hT : TrieAt w q W most a n N) {p : List Bool} (hp : p.length ≤ W) (u : ByteArray) (hl : look p (kept N) = none) :
    Calls Try.prog 32 #[.pointer (some ⟨q, 0, none⟩), Pf (valOf W p) p.length, .string u] w fun e w' => e = .returned (.int .i64 122) ∧ Below w.heap.size w w' := by
  obtain ⟨h1, h2⟩ := hT.wd
  have C49 : Hid (∀ w1, Calls Try.prog 49 #[Pf (valOf W p) p.length, .int .i64 W] w1 fun e w' => e = .returned (.bool true) ∧ Below w1.heap.size w1 w') := fun w1 => by
    have := isPrefix_any (valOf W p) (val_is h2 hp) p.length W h1 h2 w1
    rw [isP_mk hp] at this; exact this
  have C55 : Hid (∀ w1, Below w.heap.size w w1 → Calls Try.prog 58 #[.pointer (some ⟨q, 0, none⟩), Pf (valOf W p) p.length] w1 fun e w' => e = .returned (thP (thAt p N)) ∧ Hid (Below w1.heap.size w1 w')) := fun w1 h => kept_yes (hT.below h) hp
  have HT : Hid (TrieAt w q W most a n N) := hT
  have HL : Hid ((thAt p N).map (·.2) = look p (kept N)) := thAt_look hT.hang.srtN p
  have HB := two_new' w #[.int .u64 (hiOf (valOf W p)), .int .u64 (loOf (valOf W p)), .int .i64 p.length] #[.string u] 51 9
  have hlq : q < w.heap.size := hT.hd.lt
  have HQ : Hid (w.cell? ⟨q, 0, none⟩ = some (.int .i64 W)) := hT.hd.cell 0 rfl
  have HP : Hid (p.length ≤ W) := hp
  have ht : thAt p N = none := by
    have := HL.out; rw [hl] at this
    cases h : thAt p N with
    | none => rfl
    | some t => rw [h] at this; cases this
  rw [ht] at C55
  have C55 : Hid (∀ w1, Below w.heap.size w w1 → Calls Try.prog 58 #[.pointer (some ⟨q, 0, none⟩), Pf (valOf W p) p.length] w1 fun e w' => e = .returned (.pointer none) ∧ Hid (Below w1.heap.size w1 w')) := C55
  clear hT hl HL ht HT
  go_enter Try.func32, Try.ntmps32
  go_upto_region 3 with fail
  generalize ((w.alloc _).alloc _) = w0 at HB ⊢
  generalize hA : w.heap.size + 1 = A1 at *
  have lA := HB.out.2.2.2
  have x0 := two_cells HB.out.1 (i := 0) (v := .int .u64 (hiOf (valOf W p))) rfl
  have x1 := two_cells HB.out.1 (i := 1) (v := .int .u64 (loOf (valOf W p))) rfl
  have x2 := two_cells HB.out.1 (i := 2) (v := .int .i64 p.length) rfl
  have z0 : ∀ z : Grown w0, (gw z).cell? ⟨q, 0, none⟩ = some (.int .i64 W) := gw_cell ((World.cell?_of_block (HB.out.2.2.1.block q hlq)).trans HQ.out)
  refine region_grows (by kernel_rfl) (by kernel_rfl) ?_
  repeat (go_big_quiet_step ((go_at_call 49; exact calls_gw (C49.out _))))
  refine wpQuiet_nil ?_
  intro wq hwq
  obtain ⟨zq, rfl⟩ := hwq
  have HC : Hid (Below w.heap.size w (gw zq) ∧ Blk (gw zq) w.heap.size #[.int .u64 (hiOf (valOf W p)), .int .u64 (loOf (valOf W p)), .int .i64 p.length] 51 ∧ Blk (gw zq) A1 #[.string u] 9) := ⟨bst HB.out.2.2.1 (gw_below zq), HB.out.1.below (gw_below zq), HB.out.2.1.below (gw_below zq)⟩
  clear x0 x1 x2 z0 HB C49
  generalize gw zq = w2 at *
  have y0 := HC.out.2.1.cell 0 (v := .int .u64 (hiOf (valOf W p))) rfl
  have y1 := HC.out.2.1.cell 1 (v := .int .u64 (loOf (valOf W p))) rfl
  have y2 := HC.out.2.1.cell 2 (v := .int .i64 p.length) rfl
  go_wp2_with fail
  refine (C55.out _ HC.out.1).mono ?_
  rintro e w3 ⟨rfl, H3⟩
  clear y0 y1 y2 C55
  have HD : Hid (Below w.heap.size w w3 ∧ Blk w3 w.heap.size #[.int .u64 (hiOf (valOf W p)), .int .u64 (loOf (valOf W p)), .int .i64 p.length] 51 ∧ Blk w3 A1 #[.string u] 9) := ⟨bst HC.out.1 H3.out, HC.out.2.1.below H3.out, HC.out.2.2.below H3.out⟩
  clear H3 HC
  go_wp2
  go_ret
  exact ⟨rfl, HD.out.1⟩
set_option maxHeartbeats 2000000 in
theorem set_ok (hT : TrieAt w q W most a n N) {p : List Bool} (hp : p.length ≤ W) (u : ByteArray) (hl : look p (kept N) ≠ none) :
    Calls Try.prog 32 #[.pointer (some ⟨q, 0, none⟩), Pf (valOf W p) p.length, .string u] w fun e w' => e = .returned (.int .i64 0) ∧ ∃ a' n' N', TrieAt w' q W most a' n' N' ∧ kept N' = upd p u (kept N) ∧ Kept (fun k => k = q) w w' := by
  obtain ⟨h1, h2⟩ := hT.wd
  have C49 : Hid (∀ w1, Calls Try.prog 49 #[Pf (valOf W p) p.length, .int .i64 W] w1 fun e w' => e = .returned (.bool true) ∧ Below w1.heap.size w1 w') := fun w1 => by
    have := isPrefix_any (valOf W p) (val_is h2 hp) p.length W h1 h2 w1
    rw [isP_mk hp] at this; exact this
  have C55 : Hid (∀ w1, Below w.heap.size w w1 → Calls Try.prog 58 #[.pointer (some ⟨q, 0, none⟩), Pf (valOf W p) p.length] w1 fun e w' => e = .returned (thP (thAt p N)) ∧ Hid (Below w1.heap.size w1 w')) := fun w1 h => kept_yes (hT.below h) hp
  have HT : Hid (TrieAt w q W most a n N) := hT
  have HL : Hid ((thAt p N).map (·.2) = look p (kept N)) := thAt_look hT.hang.srtN p
  have HB := two_new' w #[.int .u64 (hiOf (valOf W p)), .int .u64 (loOf (valOf W p)), .int .i64 p.length] #[.string u] 51 9
  have hlq : q < w.heap.size := hT.hd.lt
  have HQ : Hid (w.cell? ⟨q, 0, none⟩ = some (.int .i64 W)) := hT.hd.cell 0 rfl
  have HP : Hid (p.length ≤ W) := hp
  have hlen : (upd p u (kept N)).length = (kept N).length := by
    rw [len_upd hT.hang.srt]
    cases e : look p (kept N) with
    | none => exact absurd e hl
    | some x => rfl
  have HLN : Hid ((upd p u (kept N)).length = (kept N).length) := hlen
  obtain ⟨A, hA9⟩ : ∃ A : Option Addr, A = a.map fun b => ⟨b, 0, none⟩ := ⟨_, rfl⟩
  have C56 : Hid (∀ w1 t, Below w.heap.size w w1 → Blk w1 t #[.string u] 9 → Calls Try.prog 59 #[.pointer (some ⟨q, 0, none⟩), .pointer A, Pf (valOf W p) p.length, .pointer (some ⟨t, 0, none⟩)] w1 fun e w' => ∃ b, e = .returned (.pointer (some ⟨b, 0, none⟩)) ∧ Hid (Put1 W w1 w' p u (kept N) b)) := fun w1 t hb ht => by
    rw [hA9]
    exact with_any h1 h2 hp q t u n w1 a N ht ((hT.hd.below hb).cell 0 rfl) (hT.hang.below hb)
  have HH : Hid (Blk w q #[.int .i64 W, .int .i64 most, .int .i64 (kept N).length, .pointer A] 108) := by rw [hA9]; exact hT.hd
  have hmost : (kept N).length ≤ most := hT.most.1
  obtain ⟨r, hr⟩ : ∃ r, r = thAt p N := ⟨_, rfl⟩
  rw [← hr] at C55 HL
  cases r with
  | none => have := HL.out; rw [← this] at hl; exact absurd rfl hl
  | some t =>
  obtain ⟨t, v⟩ := t
  have C55 : Hid (∀ w1, Below w.heap.size w w1 → Calls Try.prog 58 #[.pointer (some ⟨q, 0, none⟩), Pf (valOf W p) p.length] w1 fun e w' => e = .returned (.pointer (some ⟨t, 0, none⟩)) ∧ Hid (Below w1.heap.size w1 w')) := C55
  clear hT hl HL hr hA9 hlen
  generalize hLL : (kept N).length = LL at *
  have HLL : Hid ((kept N).length = LL) := hLL
  clear hLL
  go_enter Try.func32, Try.ntmps32
  go_upto_region 3 with fail
  generalize ((w.alloc _).alloc _) = w0 at HB ⊢
  generalize hA : w.heap.size + 1 = A1 at *
  have lA := HB.out.2.2.2
  have x0 := two_cells HB.out.1 (i := 0) (v := .int .u64 (hiOf (valOf W p))) rfl
  have x1 := two_cells HB.out.1 (i := 1) (v := .int .u64 (loOf (valOf W p))) rfl
  have x2 := two_cells HB.out.1 (i := 2) (v := .int .i64 p.length) rfl
  have z0 : ∀ z : Grown w0, (gw z).cell? ⟨q, 0, none⟩ = some (.int .i64 W) := gw_cell ((World.cell?_of_block (HB.out.2.2.1.block q hlq)).trans HQ.out)
  refine region_grows (by kernel_rfl) (by kernel_rfl) ?_
  repeat (go_big_quiet_step ((go_at_call 49; exact calls_gw (C49.out _))))
  refine wpQuiet_nil ?_
  intro wq hwq
  obtain ⟨zq, rfl⟩ := hwq
  have HC : Hid (Below w.heap.size w (gw zq) ∧ Blk (gw zq) w.heap.size #[.int .u64 (hiOf (valOf W p)), .int .u64 (loOf (valOf W p)), .int .i64 p.length] 51 ∧ Blk (gw zq) A1 #[.string u] 9) := ⟨bst HB.out.2.2.1 (gw_below zq), HB.out.1.below (gw_below zq), HB.out.2.1.below (gw_below zq)⟩
  clear x0 x1 x2 z0 HB C49
  generalize gw zq = w2 at *
  have y0 := HC.out.2.1.cell 0 (v := .int .u64 (hiOf (valOf W p))) rfl
  have y1 := HC.out.2.1.cell 1 (v := .int .u64 (loOf (valOf W p))) rfl
  have y2 := HC.out.2.1.cell 2 (v := .int .i64 p.length) rfl
  go_wp2_with fail
  refine (C55.out _ HC.out.1).mono ?_
  rintro e w3 ⟨rfl, H3⟩
  clear y0 y1 y2 C55
  have HD : Hid (Below w.heap.size w w3 ∧ Blk w3 w.heap.size #[.int .u64 (hiOf (valOf W p)), .int .u64 (loOf (valOf W p)), .int .i64 p.length] 51 ∧ Blk w3 A1 #[.string u] 9) := ⟨bst HC.out.1 H3.out, HC.out.2.1.below H3.out, HC.out.2.2.below H3.out⟩
  clear H3 HC
  have HE : Hid (Below w.heap.size w w3 ∧ Blk w3 w.heap.size #[.int .u64 (hiOf (valOf W p)), .int .u64 (loOf (valOf W p)), .int .i64 p.length] 51 ∧ Blk w3 A1 #[.string u] 9) := HD.out
  clear HD
  go_upto_region 7 with fail
  generalize w3 = w4 at *
  have y0 := HE.out.2.1.cell 0 (v := .int .u64 (hiOf (valOf W p))) rfl
  have y1 := HE.out.2.1.cell 1 (v := .int .u64 (loOf (valOf W p))) rfl
  have y2 := HE.out.2.1.cell 2 (v := .int .i64 p.length) rfl
  have q3 : w4.cell? ⟨q, 3, none⟩ = some (.pointer A) := (HH.out.below HE.out.1).cell 3 rfl
  have CC : Hid (∀ V, Below w4.heap.size w4 V → Calls Try.prog 59 #[.pointer (some ⟨q, 0, none⟩), .pointer A, Pf (valOf W p) p.length, .pointer (some ⟨A1, 0, none⟩)] V fun e w' => ∃ b, e = .returned (.pointer (some ⟨b, 0, none⟩)) ∧ w'.cell? ⟨q, 3, none⟩ = some (.pointer A) ∧ w'.frozen? ⟨q, 3, none⟩ = false ∧ Hid (Blk w' q #[.int .i64 W, .int .i64 most, .int .i64 LL, .pointer A] 108 ∧ Below w.heap.size w w' ∧ ∃ n N', HangI W w' n (some b) N' ∧ kept N' = upd p u (kept N))) := fun V hV => (C56.out V A1 (bst HE.out.1 hV) (HE.out.2.2.below hV)).mono (by
    rintro e w' ⟨b, rfl, hP⟩
    have hb := bst (bst HE.out.1 hV) hP.out.2
    have g := HH.out.below hb
    exact ⟨b, rfl, g.cell 3 rfl, g.frozen 3, (⟨g, hb, hP.out.1⟩ : _ ∧ _)⟩)
  clear C56
  skip
  go_region_with ((go_at_call 59; refine (CC.out _ (by exact ⟨rfl, rfl, rfl, Nat.le_refl _, fun _ _ => rfl⟩)).mono ?_; rintro e w5 ⟨b, rfl, d3, e3, H5⟩))
  all_goals (
    have hks : Kept (fun k => k = q) w5 (w5.setCell ⟨q, 3, none⟩ (.pointer (some ⟨b, 0, none⟩))) := (Kept.refl (fun k => k = q) w5).set (p := ⟨q, 3, none⟩) rfl _
    have HF : Hid (∃ a' n' N', TrieAt (w5.setCell ⟨q, 3, none⟩ (.pointer (some ⟨b, 0, none⟩))) q W most a' n' N' ∧ kept N' = upd p u (kept N) ∧ Kept (fun k => k = q) w (w5.setCell ⟨q, 3, none⟩ (.pointer (some ⟨b, 0, none⟩)))) := by
      obtain ⟨g1, g2, n', N', g3, g4⟩ := H5.out
      have hl2 : (kept N').length = LL := by rw [g4]; exact HLN.out
      refine ⟨some b, n', N', HT.out.over ?_ (g3.keptW hks (Hang.off_head g3 g1)) (by rw [hl2]; exact hmost), g4, (Kept.of_below g2).trans hks⟩
      rw [hl2]
      exact g1.set 3 _
    clear H5 hks CC y0 y1 y2 q3 d3 e3
    go_wp2
    go_ret
    exact ⟨rfl, HF.out⟩)
end
end Go.Proofs.Ytgdpplipahhffaa.St
namespace Go.Proofs.Ytgdpplipahhffaa.St
open Go.RowKit
set_option linter.unusedVariables false
set_option linter.unusedSimpArgs false

theorem drop_none (qa : Option Addr) (v : Nat) (l : Int) (w : World) (hC : ∀ w1, Below w.heap.size w w1 → Calls Try.prog 31 #[.pointer qa, Pf v l] w1 fun e w' => e = .returned (okI none) ∧ Below w1.heap.size w1 w') :
    Calls Try.prog 33 #[.pointer qa, Pf v l] w fun e w' => e = .returned (okI none) ∧ Below w.heap.size w w' := by
  have C : Hid (∀ w1, Below w.heap.size w w1 → Calls Try.prog 31 #[.pointer qa, Pf v l] w1 fun e w' => e = .returned (.tuple #[.string ⟨#[]⟩, .bool false]) ∧ Hid (Below w1.heap.size w1 w')) := hC
  have HB : Hid _ := one_new w #[.int .u64 (hiOf v), .int .u64 (loOf v), .int .i64 l] 51
  clear hC
  go_enter Try.func33, Try.ntmps33
  go_wp2_with fail
  refine (C.out _ HB.out.2.1).mono ?_
  rintro e w2 ⟨rfl, H2⟩
  have HC : Hid (Below w.heap.size w w2) := bst HB.out.2.1 H2.out
  clear H2 C HB
  go_wp2
  go_ret2
  exact ⟨rfl, HC.out⟩
section
variable {w : World} {q W most : Nat} {a : Option Nat} {n : Nat} {N : List (Nd ByteArray)}
set_option maxHeartbeats 2000000 in
theorem drop_some (hT : TrieAt w q W most a n N) {p : List Bool} (hp : p.length ≤ W) (v : ByteArray) (hl : look p (kept N) = some v) :
    Calls Try.prog 33 #[.pointer (some ⟨q, 0, none⟩), Pf (valOf W p) p.length] w fun e w' => e = .returned (okI (some v)) ∧ ∃ a' n' N', TrieAt w' q W most a' n' N' ∧ kept N' = del p (kept N) ∧ Kept (fun k => k = q) w w' := by
  obtain ⟨h1, h2⟩ := hT.wd
  have CG : Hid (∀ w1, Below w.heap.size w w1 → Calls Try.prog 31 #[.pointer (some ⟨q, 0, none⟩), Pf (valOf W p) p.length] w1 fun e w' => e = .returned (.tuple #[.string v, .bool true]) ∧ Hid (Below w1.heap.size w1 w')) := fun w1 h => by
    have := get_yes (hT.below h) hp
    rw [hl] at this; exact this
  have hsm : (look p (kept N)).isSome = true := by rw [hl]; rfl
  have hlen : (del p (kept N)).length + 1 = (kept N).length := len_del hT.hang.srt hsm
  have HLN : Hid ((del p (kept N)).length + 1 = (kept N).length) := hlen
  have HT : Hid (TrieAt w q W most a n N) := hT
  obtain ⟨A, hA9⟩ : ∃ A : Option Addr, A = a.map fun b => ⟨b, 0, none⟩ := ⟨_, rfl⟩
  have C63 : Hid (∀ w1, Below w.heap.size w w1 → Calls Try.prog 60 #[.pointer (some ⟨q, 0, none⟩), .pointer A, Pf (valOf W p) p.length] w1 fun e w' => ∃ b, e = .returned (pt b) ∧ Hid (Del1 W w1 w' p (kept N) b)) := fun w1 hb => by
    rw [hA9]
    exact without_any h1 h2 hp q n w1 a N ((hT.hd.below hb).cell 0 rfl) (hT.hang.below hb) (by rw [hl]; simp)
  have HH : Hid (Blk w q #[.int .i64 W, .int .i64 most, .int .i64 (kept N).length, .pointer A] 108) := by rw [hA9]; exact hT.hd
  have HM : Hid ((kept N).length ≤ most ∧ most ≤ 4096) := ⟨hT.most.1, hT.most.2.2⟩
  have hlq : q < w.heap.size := hT.hd.lt
  have HB : Hid _ := one_new w #[.int .u64 (hiOf (valOf W p)), .int .u64 (loOf (valOf W p)), .int .i64 p.length] 51
  have hll : 1 ≤ (kept N).length := by omega
  have hlm : (kept N).length ≤ 4096 := by have := HM.out; omega
  clear hT hl hsm hlen hA9
  generalize hLL : (kept N).length = LL at *
  have HLL : Hid ((kept N).length = LL) := hLL
  clear hLL
  go_enter Try.func33, Try.ntmps33
  go_wp2_with fail
  refine (CG.out _ HB.out.2.1).mono ?_
  rintro e w4 ⟨rfl, H2⟩
  have HE : Hid (Below w.heap.size w w4 ∧ Blk w4 w.heap.size #[.int .u64 (hiOf (valOf W p)), .int .u64 (loOf (valOf W p)), .int .i64 p.length] 51) := ⟨bst HB.out.2.1 H2.out, HB.out.1.below H2.out⟩
  clear H2 CG HB
  have y0 := HE.out.2.cell 0 (v := .int .u64 (hiOf (valOf W p))) rfl
  have y1 := HE.out.2.cell 1 (v := .int .u64 (loOf (valOf W p))) rfl
  have y2 := HE.out.2.cell 2 (v := .int .i64 p.length) rfl
  have q3 : w4.cell? ⟨q, 3, none⟩ = some (.pointer A) := (HH.out.below HE.out.1).cell 3 rfl
  have CC : Hid (∀ V, Below w4.heap.size w4 V → Calls Try.prog 60 #[.pointer (some ⟨q, 0, none⟩), .pointer A, Pf (valOf W p) p.length] V fun e w' => ∃ B, e = .returned (.pointer B) ∧ w'.cell? ⟨q, 3, none⟩ = some (.pointer A) ∧ w'.frozen? ⟨q, 3, none⟩ = false ∧ Hid (Blk w' q #[.int .i64 W, .int .i64 most, .int .i64 LL, .pointer A] 108 ∧ Below w.heap.size w w' ∧ ∃ a' n N', B = (a'.map fun b => ⟨b, 0, none⟩) ∧ HangI W w' n a' N' ∧ kept N' = del p (kept N))) := fun V hV => (C63.out V (bst HE.out.1 hV)).mono (by
    rintro e w' ⟨b, rfl, hP⟩
    have hb := bst (bst HE.out.1 hV) hP.out.2
    have g := HH.out.below hb
    obtain ⟨n', N', g1, g2⟩ := hP.out.1
    exact ⟨_, rfl, g.cell 3 rfl, g.frozen 3, (⟨g, hb, b, n', N', rfl, g1, g2⟩ : _ ∧ _)⟩)
  clear C63
  go_upto_region 3 with fail
  go_region_with ((go_at_call 60; refine (CC.out _ (by exact ⟨rfl, rfl, rfl, Nat.le_refl _, fun _ _ => rfl⟩)).mono ?_; rintro e w5 ⟨B, rfl, d3, e3, H5⟩))
  all_goals (
    have hks : Kept (fun k => k = q) w5 ((w5.setCell ⟨q, 3, none⟩ (.pointer B)).setCell ⟨q, 2, none⟩ (.int .i64 ((LL : Int) - 1))) := ((Kept.refl (fun k => k = q) w5).set (p := ⟨q, 3, none⟩) rfl _).set (p := ⟨q, 2, none⟩) rfl _
    have HF : Hid (∃ a' n' N', TrieAt ((w5.setCell ⟨q, 3, none⟩ (.pointer B)).setCell ⟨q, 2, none⟩ (.int .i64 ((LL : Int) - 1))) q W most a' n' N' ∧ kept N' = del p (kept N) ∧ Kept (fun k => k = q) w ((w5.setCell ⟨q, 3, none⟩ (.pointer B)).setCell ⟨q, 2, none⟩ (.int .i64 ((LL : Int) - 1)))) := by
      obtain ⟨g1, g2, a', n', N', g5, g3, g4⟩ := H5.out
      have hl2 : (kept N').length + 1 = LL := by rw [g4]; exact HLN.out
      refine ⟨a', n', N', HT.out.over ?_ (g3.keptW hks (Hang.off_head g3 g1)) (by have := HM.out; omega), g4, (Kept.of_below g2).trans hks⟩
      rw [show (((kept N').length : Nat) : Int) = (LL : Int) - 1 by omega]
      have := (g1.set 3 (.pointer B)).set 2 (.int .i64 ((LL : Int) - 1))
      rw [g5] at this ⊢
      exact this
    have HG : Hid (Blk (w5.setCell ⟨q, 3, none⟩ (.pointer B)) q #[.int .i64 W, .int .i64 most, .int .i64 LL, .pointer B] 108) := H5.out.1.set 3 _
    clear H5 hks CC y0 y1 y2 q3 d3 e3
    go_upto_region 4 with fail
    generalize w5.setCell _ _ = w6 at HF HG ⊢
    have c2 := HG.out.cell 2 (v := .int .i64 LL) rfl
    have f2 := HG.out.frozen 2
    go_wp2
    go_ret2
    exact ⟨rfl, HF.out⟩)
end
end Go.Proofs.Ytgdpplipahhffaa.St
namespace Go.Proofs.Ytgdpplipahhffaa.St
open Go.RowKit
set_option linter.unusedVariables false
set_option linter.unusedSimpArgs false

/-- A trie that was made since. -/
structure Own (w W' : World) (q W most : Nat) (L : List (List Bool × ByteArray)) : Prop where
  tr : ∃ a n N, TrieAt W' q W most a n N ∧ kept N = L
  be : Below w.heap.size w W'
  lo : w.heap.size ≤ q
theorem Own.below {w A C : World} {q W most : Nat} {L : List (List Bool × ByteArray)} (h : Own w A q W most L) (hb : Below A.heap.size A C) : Own w C q W most L := by
  obtain ⟨⟨a, n, N, h1, h2⟩, h3, h4⟩ := h
  exact ⟨⟨a, n, N, h1.below hb, h2⟩, bst h3 hb, h4⟩
/-- Put, in all cases: its word tells which. -/
theorem put_all {w0 w : World} {q W : Nat} {L : List (List Bool × ByteArray)} (hO : Own w0 w q W 4096 L) (hW : 1 ≤ W ∧ W ≤ 128) (hlen : L.length < 4096) (v : Nat) (hv : Is128 v) (l : Int) (u : ByteArray) :
    Calls Try.prog 30 #[.pointer (some ⟨q, 0, none⟩), Pf v l, .string u] w fun e w' => ∃ c : Int, e = .returned (.int .i64 c) ∧ Hid (∃ L', Own w0 w' q W 4096 L' ∧ ((c = 111 ∧ isP W v l = false ∧ L' = L) ∨ (c = 121 ∧ isP W v l = true ∧ L' = L) ∨ (c = 0 ∧ ∃ p : List Bool, p.length ≤ W ∧ v = valOf W p ∧ l = p.length ∧ look p L = none ∧ L' = upd p u L)) ∧ Kept (fun k => k = q) w w') := by
  obtain ⟨⟨a, n, N, hT, hk⟩, hb, hlo⟩ := hO
  have hq := hT.hd.lt
  by_cases hP : isP W v l = true
  · obtain ⟨p, h1, rfl, rfl⟩ := isP_yes hP
    by_cases hl : look p (kept N) = none
    · refine (put_ok hT h1 u hl (by rw [hk]; exact hlen)).mono ?_
      rintro e w' ⟨rfl, a', n', N', g1, g2, g3⟩
      exact ⟨0, rfl, (⟨_, ⟨⟨a', n', N', g1, g2⟩, hb.trans (g3.below hb.size (fun k e => by have e' : k = q := e; omega)), hlo⟩, .inr (.inr ⟨rfl, p, h1, rfl, rfl, by rw [← hk]; exact hl, by rw [hk]⟩), g3⟩ : ∃ _, _)⟩
    · refine (put_dup hT h1 u hl).mono ?_
      rintro e w' ⟨rfl, h⟩
      exact ⟨121, rfl, (⟨_, ⟨⟨a, n, N, hT.below h, hk⟩, bst hb h, hlo⟩, .inr (.inl ⟨rfl, hP, rfl⟩), Kept.of_below h⟩ : ∃ _, _)⟩
  · have hP : isP W v l = false := Bool.eq_false_iff.2 hP
    refine (put_bad hT v hv l u hP).mono ?_
    rintro e w' ⟨rfl, h⟩
    exact ⟨111, rfl, (⟨_, ⟨⟨a, n, N, hT.below h, hk⟩, bst hb h, hlo⟩, .inl ⟨rfl, hP, rfl⟩, Kept.of_below h⟩ : ∃ _, _)⟩
theorem get_all {w0 w : World} {q W : Nat} {L : List (List Bool × ByteArray)} (hO : Own w0 w q W 4096 L) (p : List Bool) (hp : p.length ≤ W) :
    Calls Try.prog 31 #[.pointer (some ⟨q, 0, none⟩), Pf (valOf W p) p.length] w fun e w' => e = .returned (okI (look p L)) ∧ Below w.heap.size w w' := by
  obtain ⟨⟨b, n, N, hT, hk⟩, hb, hlo⟩ := hO
  have := get_yes hT hp
  rw [hk] at this
  exact this
theorem Own.srt {w0 w : World} {q W m : Nat} {L : List (List Bool × ByteArray)} (hO : Own w0 w q W m L) : Srt L := by
  obtain ⟨⟨b, n, N, hT, hk⟩, hb, hlo⟩ := hO
  rw [← hk]; exact hT.hang.srt
theorem Own.lens {w0 w : World} {q W m : Nat} {L : List (List Bool × ByteArray)} (hO : Own w0 w q W m L) : ∀ y ∈ L, y.1.length ≤ W := by
  obtain ⟨⟨b, n, N, hT, hk⟩, hb, hlo⟩ := hO
  intro y hy
  rw [← hk] at hy
  obtain ⟨x, h1, h2⟩ := kept_key hy
  rw [← h2]; exact hT.hang.lens x h1
theorem Own.cap {w0 w : World} {q W m : Nat} {L : List (List Bool × ByteArray)} (hO : Own w0 w q W m L) : L.length ≤ m ∧ 1 ≤ W ∧ W ≤ 128 := by
  obtain ⟨⟨b, n, N, hT, hk⟩, hb, hlo⟩ := hO
  rw [← hk]; exact ⟨hT.most.1, hT.wd⟩
end Go.Proofs.Ytgdpplipahhffaa.St
namespace Go.Proofs.Ytgdpplipahhffaa.St
open Go.RowKit
set_option linter.unusedVariables false
set_option linter.unusedSimpArgs false

theorem under_any (qa : Option Addr) (v : Nat) (l : Int) (w : World) : Calls Try.prog 62 #[.pointer qa, Pf v l] w fun e w' => e = .returned (.func (.func 79) #[] #[.pointer (some ⟨w.heap.size, 0, none⟩), .pointer (some ⟨w.heap.size + 1, 0, none⟩)]) ∧ Blk w' w.heap.size #[.pointer qa] 70 ∧ Blk w' (w.heap.size + 1) #[.int .u64 (hiOf v), .int .u64 (loOf v), .int .i64 l] 51 ∧ Below w.heap.size w w' := by
  have hmf := mf
  have HB := two_new' w #[.pointer qa] #[.int .u64 (hiOf v), .int .u64 (loOf v), .int .i64 l] 70 51
  go_enter Try.func62, Try.ntmps62
  go_wp2
  go_ret
  exact ⟨rfl, HB.out.1, HB.out.2.1, HB.out.2.2.1⟩
theorem all_any (qa : Option Addr) (w : World) : Calls Try.prog 36 #[.pointer qa] w fun e w' => e = .returned (.func (.func 79) #[] #[.pointer (some ⟨w.heap.size, 0, none⟩), .pointer (some ⟨w.heap.size + 1, 0, none⟩)]) ∧ Blk w' w.heap.size #[.pointer qa] 70 ∧ Blk w' (w.heap.size + 1) #[.int .u64 (hiOf 0), .int .u64 (loOf 0), .int .i64 0] 51 ∧ Below w.heap.size w w' := by
  have C : Hid (Calls Try.prog 62 #[.pointer qa, .agg #[.int .u64 0, .int .u64 0, .int .i64 0]] w fun e w' => e = .returned (.func (.func 79) #[] #[.pointer (some ⟨w.heap.size, 0, none⟩), .pointer (some ⟨w.heap.size + 1, 0, none⟩)]) ∧ Hid (Blk w' w.heap.size #[.pointer qa] 70 ∧ Blk w' (w.heap.size + 1) #[.int .u64 (hiOf 0), .int .u64 (loOf 0), .int .i64 0] 51 ∧ Below w.heap.size w w')) := under_any qa 0 0 w
  go_enter Try.func36, Try.ntmps36
  go_wp2_with fail
  refine C.out.mono ?_
  rintro e w2 ⟨rfl, H2⟩
  clear C
  go_wp2
  go_ret
  exact ⟨rfl, H2.out⟩
end Go.Proofs.Ytgdpplipahhffaa.St
namespace Go.Proofs.Ytgdpplipahhffaa.St
open Go.RowKit
set_option linter.unusedVariables false
set_option linter.unusedSimpArgs false

theorem eq_nil82 (a : Addr) (w : World) : (binOp .eql 106 (.pointer (some a)) (.pointer none)).run Try.prog w = .ok (.bool false) w := by kernel_rfl
set_option maxHeartbeats 4000000 in
set_option maxRecDepth 100000 in
theorem under51 {W : Nat} (h1 : 1 ≤ W) (h2 : W ≤ 128) {p : List Bool} (hp : p.length ≤ W) (q : Nat) (w : World) (cnt most : Value) (a : Option Nat) (hq : Blk w q #[.int .i64 W, most, cnt, pt a] 108) {n0 : Nat} {N : List (Nd ByteArray)} (hH : HangI W w n0 a N) :
    Calls Try.prog 80 #[.pointer (some ⟨q, 0, none⟩), Pf (valOf W p) p.length] w fun e w' => ∃ a', e = .returned (pt a') ∧ Hid ((∃ n', HangI W w' n' a' (undN p N)) ∧ Below w.heap.size w w') := by
  have HB : Hid _ := one_new w #[.int .u64 (hiOf (valOf W p)), .int .u64 (loOf (valOf W p)), .int .i64 p.length] 51
  have HH : Hid (HangI W w n0 a N) := hH
  have C70 : Hid (∀ c : List Bool, c.length ≤ W → ∀ w1, Calls Try.prog 70 #[Pf (valOf W p) p.length, Pf (valOf W c) c.length, .int .i64 W] w1 fun e w' => e = .returned (.bool (decide (p <+: c))) ∧ Below w1.heap.size w1 w') := fun c hc w1 => begins_any h1 h2 hp hc w1
  have C69 : Hid (∀ k : Nat, ∀ w1, Calls Try.prog 69 #[B (valOf W p), .int .i64 W, .int .i64 k] w1 fun e w' => e = .returned (.int .i64 (if p[k]?.getD false = true then 1 else 0)) ∧ Below w1.heap.size w1 w') := fun k w1 => by
    have := side_any h1 h2 hp k w1
    unfold sideN at this
    cases hb : p[k]?.getD false <;> rw [hb] at this <;> exact this
  obtain ⟨A, hA⟩ : ∃ A : Option Addr, A = a.map fun b => ⟨b, 0, none⟩ := ⟨_, rfl⟩
  have HA : Hid (A = a.map fun b => (⟨b, 0, none⟩ : Addr)) := hA
  have HQA : Hid (Blk w q #[.int .i64 W, most, cnt, .pointer A] 108) := by rw [hA]; exact hq
  clear hA hq hH
  go_enter Try.func80, Try.ntmps80
  go_upto_region 1 with fail
  generalize (w.alloc _) = w1 at HB ⊢
  have q3 := (HQA.out.below HB.out.2.1).cell 3 (v := .pointer A) rfl
  go_wp2_with fail
  go_loopw [5] (fun t wr => ∃ a' n' N', t = pt a' ∧ Hid (HangI W wr n' a' N' ∧ undN p N' = undN p N ∧ Below w1.heap.size w1 wr)) (fun t wr => msr W t wr)
  case atStart => exact ⟨a, n0, N, by rw [HA.out], HH.out.below HB.out.2.1, rfl, Below.refl _ _⟩
  case round =>
    obtain ⟨a', n', N', rfl, HR⟩ := hrel
    have HW : Hid (Blk wr q #[.int .i64 W, most, cnt, .pointer A] 108 ∧ Blk wr w.heap.size #[.int .u64 (hiOf (valOf W p)), .int .u64 (loOf (valOf W p)), .int .i64 p.length] 51 ∧ Below w.heap.size w wr) := ⟨(HQA.out.below HB.out.2.1).below HR.out.2.2, HB.out.1.below HR.out.2.2, HB.out.2.1.trans (HR.out.2.2.mono HB.out.2.1.size)⟩
    have y0 := two_cells HW.out.2.1 (i := 0) (v := .int .u64 (hiOf (valOf W p))) rfl
    have y1 := two_cells HW.out.2.1 (i := 1) (v := .int .u64 (loOf (valOf W p))) rfl
    have y2 := two_cells HW.out.2.1 (i := 2) (v := .int .i64 p.length) rfl
    have z0 := two_cells HW.out.1 (i := 0) (v := .int .i64 W) rfl
    have fin : Hid (∀ z : Grown wr, Below w.heap.size w (gw z)) := fun z => HW.out.2.2.trans ((gw_below z).mono HW.out.2.2.size)
    cases a' with
    | none =>
      rw [show pt none = Value.pointer none from rfl]
      have HE : Hid (undN p N = []) := by
        obtain ⟨g1, g2, g3⟩ := HR.out
        rw [g1.of_none] at g2
        rw [← g2]; rfl
      clear HR HH C70 C69 HW
      go_upto_region 2 with fail
      refine region_grows (by kernel_rfl) (by kernel_rfl) ?_
      repeat (go_big_quiet_step (fail))
      refine wpQuiet_nil ?_
      intro wq hwq
      obtain ⟨zq, rfl⟩ := hwq
      have fin2 : Hid (Below w.heap.size w (gw zq)) := fin.out zq
      clear fin y0 y1 y2 z0
      generalize gw zq = wA at *
      go_wp2_with fail
      refine region_grows (by kernel_rfl) (by kernel_rfl) ?_
      repeat (go_big_quiet_step (fail))
      refine wpQuiet_nil ?_
      intro wq hwq
      obtain ⟨zq2, rfl⟩ := hwq
      have HF : Hid ((∃ n', HangI W (gw zq2) n' none (undN p N)) ∧ Below w.heap.size w (gw zq2)) := ⟨⟨0, by rw [HE.out]; exact Hang.nil 0⟩, fin2.out.trans ((gw_below zq2).mono fin2.out.size)⟩
      clear fin2 HE
      go_wp2_with fail
      go_ret
      exact ⟨none, rfl, HF⟩
    | some b =>
      rw [show pt (some b) = Value.pointer (some ⟨b, 0, none⟩) from rfl]
      obtain ⟨m, x, a0, a1, N0, N1, hn', hbx, hN', hR, hf⟩ := HR.out.1.root
      subst hbx
      have HX : Hid (RootI W wr m x a0 a1 N0 N1 ∧ N' = x :: (N0 ++ N1) ∧ (x.th = none → N0 ≠ [] ∧ N1 ≠ [])) := ⟨hR, hN', hf⟩
      have hl := hR.node.len
      obtain ⟨A3, hA3⟩ : ∃ A : Option Addr, A = (x.th.map (·.1)).map fun b => ⟨b, 0, none⟩ := ⟨_, rfl⟩
      obtain ⟨A4, hA4⟩ : ∃ A : Option Addr, A = a0.map fun b => ⟨b, 0, none⟩ := ⟨_, rfl⟩
      obtain ⟨A5, hA5⟩ : ∃ A : Option Addr, A = a1.map fun b => ⟨b, 0, none⟩ := ⟨_, rfl⟩
      have HXA : Hid (A4 = (a0.map fun b => (⟨b, 0, none⟩ : Addr)) ∧ A5 = (a1.map fun b => (⟨b, 0, none⟩ : Addr))) := ⟨hA4, hA5⟩
      have xb0 : Blk wr x.blk #[.int .u64 (hiOf (valOf W x.key)), .int .u64 (loOf (valOf W x.key)), .int .i64 x.key.length, .pointer A3, .pointer A4, .pointer A5] 129 := by rw [hA3, hA4, hA5]; exact hR.node.cells
      have x0 := two_cells xb0 (i := 0) (v := .int .u64 (hiOf (valOf W x.key))) rfl
      have x1 := two_cells xb0 (i := 1) (v := .int .u64 (loOf (valOf W x.key))) rfl
      have x2 := two_cells xb0 (i := 2) (v := .int .i64 x.key.length) rfl
      have x4 := two_cells xb0 (i := 4) (v := .pointer A4) rfl
      have x5 := two_cells xb0 (i := 5) (v := .pointer A5) rfl
      have hms : msr W (.pointer (some ⟨x.blk, 0, none⟩)) wr = W + 1 - x.key.length := msr_at (xb0.cell 2 rfl)
      have nn := ne_nil82 ⟨x.blk, 0, none⟩
      clear hA3 hA4 hA5 hf hN' hR hn' HH
      by_cases hx : x.key.length < p.length
      · have C2 : Hid (∀ w1, Calls Try.prog 69 #[B (valOf W p), .int .i64 W, .int .i64 x.key.length] w1 fun e w' => e = .returned (.int .i64 (if p[x.key.length]?.getD false = true then 1 else 0)) ∧ Below w1.heap.size w1 w') := C69.out x.key.length
        have HN : Hid (∀ w9, Below wr.heap.size wr w9 → ∀ (bit : Bool), p[x.key.length]?.getD false = bit → Hid (HangI W w9 m (if bit then a1 else a0) (if bit then N1 else N0) ∧ undN p (if bit then N1 else N0) = undN p N ∧ Below w1.heap.size w1 w9) ∧ msr W (pt (if bit then a1 else a0)) w9 < W + 1 - x.key.length) := fun w9 h9 bit hbit => by
          have e2 := HR.out.2.1
          rw [HX.out.2.1, und_off HX.out.1 hx, hbit] at e2
          have hh : HangI W w9 m (if bit then a1 else a0) (if bit then N1 else N0) := by
            cases bit
            · exact HX.out.1.h0.below h9
            · exact HX.out.1.h1.below h9
          refine ⟨(⟨hh, e2, HR.out.2.2.trans (h9.mono HR.out.2.2.size)⟩ : _ ∧ _), ?_⟩
          have hpr : ∀ y ∈ (if bit then N1 else N0), x.key ++ [bit] <+: y.key := by
            cases bit
            · exact HX.out.1.pre0
            · exact HX.out.1.pre1
          generalize (if bit = true then a1 else a0) = ac at *
          generalize (if bit = true then N1 else N0) = Nc at *
          cases ac with
          | none => show 0 < _; omega
          | some c =>
            obtain ⟨m2, y, b0, b1, M0, M1, _, rfl, rfl, hR2, _⟩ := hh.root
            rw [show pt (some y.blk) = Value.pointer (some ⟨y.blk, 0, none⟩) from rfl, msr_at (hR2.node.cells.cell 2 rfl)]
            have := (hpr y (by simp)).length_le
            simp at this
            have := hR2.node.len
            omega
        have hx' : (x.key.length : Int) < p.length := by omega
        obtain ⟨bit, hbit⟩ : ∃ bit, p[x.key.length]?.getD false = bit := ⟨_, rfl⟩
        have HBit : Hid (p[x.key.length]?.getD false = bit) := hbit
        rw [hbit] at C2
        clear C69 C70 HX HR fin hbit
        go_upto_region 2 with fail
        refine region_grows (by kernel_rfl) (by kernel_rfl) ?_
        repeat (go_big_quiet_step (fail))
        refine wpQuiet_nil ?_
        intro wq hwq
        obtain ⟨zq, rfl⟩ := hwq
        have HN2 : Hid (∀ w9, Below (gw zq).heap.size (gw zq) w9 → Hid (HangI W w9 m (if bit then a1 else a0) (if bit then N1 else N0) ∧ undN p (if bit then N1 else N0) = undN p N ∧ Below w1.heap.size w1 w9) ∧ msr W (pt (if bit then a1 else a0)) w9 < W + 1 - x.key.length) := fun w9 h9 => HN.out w9 (bst (gw_below zq) h9) bit HBit.out
        have g0 := two_cells (HW.out.1.below (gw_below zq)) (i := 0) (v := .int .i64 W) rfl
        have g1 := two_cells (HW.out.2.1.below (gw_below zq)) (i := 0) (v := .int .u64 (hiOf (valOf W p))) rfl
        have g2 := two_cells (HW.out.2.1.below (gw_below zq)) (i := 1) (v := .int .u64 (loOf (valOf W p))) rfl
        have g3 := two_cells (xb0.below (gw_below zq)) (i := 2) (v := .int .i64 x.key.length) rfl
        have g4 := two_cells (xb0.below (gw_below zq)) (i := 4) (v := .pointer A4) rfl
        have g5 := two_cells (xb0.below (gw_below zq)) (i := 5) (v := .pointer A5) rfl
        clear x0 x1 x2 x4 x5 y0 y1 y2 z0 HN xb0
        generalize gw zq = wA at *
        go_wp2_with fail
        cases bit
        all_goals
          refine region_grows (by kernel_rfl) (by kernel_rfl) ?_
          repeat (go_big_quiet_step ((go_at_call 69; exact calls_gw (C2.out _))))
          refine wpQuiet_nil ?_
          intro wq hwq
          obtain ⟨zq2, rfl⟩ := hwq
          obtain ⟨H2, hm2⟩ := HN2.out (gw zq2) (gw_below zq2)
          have HM2 : Hid (msr W _ (gw zq2) < W + 1 - x.key.length) := hm2
          clear g0 g1 g2 g3 g4 g5 hm2 HN2
          go_wp2_with fail
          go_roundw
          case rel => exact ⟨_, m, _, by first | rw [HXA.out.1]; rfl | rw [HXA.out.2]; rfl, H2⟩
          case measure => rw [hms]; first | (rw [HXA.out.1]; exact HM2.out) | (rw [HXA.out.2]; exact HM2.out)
      · have hx' : ¬ (x.key.length : Int) < p.length := by omega
        have hx2 : decide ((x.key.length : Int) < p.length) = false := decide_eq_false hx'
        have HB2 : Hid (undN p N = if p <+: x.key then N' else []) := by
          rw [← HR.out.2.1, HX.out.2.1]
          exact und_on HX.out.1 (by omega)
        have HH' : Hid (∀ w9, Below wr.heap.size wr w9 → HangI W w9 n' (some x.blk) N') := fun w9 h9 => HR.out.1.below h9
        have C2 : Hid (∀ w1, Calls Try.prog 70 #[Pf (valOf W p) p.length, Pf (valOf W x.key) x.key.length, .int .i64 W] w1 fun e w' => e = .returned (.bool (decide (p <+: x.key))) ∧ Below w1.heap.size w1 w') := C70.out x.key hl
        clear C69 C70 HX HR
        go_upto_region 2 with fail
        refine region_grows (by kernel_rfl) (by kernel_rfl) ?_
        repeat (go_big_quiet_step (fail))
        refine wpQuiet_nil ?_
        intro wq hwq
        obtain ⟨zq, rfl⟩ := hwq
        have HN2 : Hid (∀ w9, Below (gw zq).heap.size (gw zq) w9 → HangI W w9 n' (some x.blk) N' ∧ Below w.heap.size w w9) := fun w9 h9 => ⟨HH'.out w9 (bst (gw_below zq) h9), (fin.out zq).trans (h9.mono (fin.out zq).size)⟩
        have g0 := two_cells (HW.out.1.below (gw_below zq)) (i := 0) (v := .int .i64 W) rfl
        have g1 := two_cells (HW.out.2.1.below (gw_below zq)) (i := 0) (v := .int .u64 (hiOf (valOf W p))) rfl
        have g2 := two_cells (HW.out.2.1.below (gw_below zq)) (i := 1) (v := .int .u64 (loOf (valOf W p))) rfl
        have g6 := two_cells (HW.out.2.1.below (gw_below zq)) (i := 2) (v := .int .i64 p.length) rfl
        have g3 := two_cells (xb0.below (gw_below zq)) (i := 2) (v := .int .i64 x.key.length) rfl
        have g4 := two_cells (xb0.below (gw_below zq)) (i := 0) (v := .int .u64 (hiOf (valOf W x.key))) rfl
        have g5 := two_cells (xb0.below (gw_below zq)) (i := 1) (v := .int .u64 (loOf (valOf W x.key))) rfl
        have nn2 := eq_nil82 ⟨x.blk, 0, none⟩
        clear x0 x1 x2 x4 x5 y0 y1 y2 z0 HH' xb0 fin
        generalize gw zq = wA at *
        go_wp2_with fail
        by_cases hpk : p <+: x.key
        · rw [decide_eq_true hpk] at C2
          rw [if_pos hpk] at HB2
          clear hpk
          refine region_grows (by kernel_rfl) (by kernel_rfl) ?_
          repeat (go_big_quiet_step ((go_at_call 70; exact calls_gw (C2.out _))))
          refine wpQuiet_nil ?_
          intro wq hwq
          obtain ⟨zq2, rfl⟩ := hwq
          have HF : Hid ((∃ n', HangI W (gw zq2) n' (some x.blk) (undN p N)) ∧ Below w.heap.size w (gw zq2)) := by
            have := HN2.out (gw zq2) (gw_below zq2)
            exact ⟨⟨n', by rw [HB2.out]; exact this.1⟩, this.2⟩
          clear g0 g1 g2 g3 g4 g5 g6 HN2 HB2 C2
          go_wp2_with fail
          go_ret
          exact ⟨some x.blk, rfl, HF⟩
        · rw [decide_eq_false hpk] at C2
          rw [if_neg hpk] at HB2
          clear hpk
          refine region_grows (by kernel_rfl) (by kernel_rfl) ?_
          repeat (go_big_quiet_step ((go_at_call 70; exact calls_gw (C2.out _))))
          refine wpQuiet_nil ?_
          intro wq hwq
          obtain ⟨zq2, rfl⟩ := hwq
          have HF : Hid ((∃ n', HangI W (gw zq2) n' none (undN p N)) ∧ Below w.heap.size w (gw zq2)) := by
            have := HN2.out (gw zq2) (gw_below zq2)
            exact ⟨⟨0, by rw [HB2.out]; exact Hang.nil 0⟩, this.2⟩
          clear g0 g1 g2 g3 g4 g5 g6 HN2 HB2 C2
          go_wp2_with fail
          go_ret
          exact ⟨none, rfl, HF⟩
end Go.Proofs.Ytgdpplipahhffaa.St
