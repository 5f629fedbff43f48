/- Package exact: All: what its iterator tells. -/
import Derived.Test.YtkcjcidndckgbaaSc
import Derived.Test.YtkcjcidndckgbaaNl
import Derived.Stop.RegionWithIn
namespace Go.Proofs.Ytkcjcidndckgbaa
open Go.RowKit Go.Sort
set_option linter.unusedVariables false
set_option linter.unusedSimpArgs false

theorem take_pre {α : Type} (l : List α) (k : Nat) : l.take k <+: l := List.take_prefix k l
theorem take_snoc {α : Type} {l : List α} {k : Nat} {x : α} (h : l[k]? = some x) : l.take (k + 1) = l.take k ++ [x] := by
  rw [List.take_add_one, h]; rfl
set_option maxHeartbeats 4000000 in
set_option maxRecDepth 100000 in
theorem allI_tells (q b most cap : Nat) (r : List (Pl Int)) (ys : List (ByteArray × Int)) (hys : ys.Perm (cont r)) (hsr : Srt ys) (hok : ∀ x ∈ ys, x.1.size ≤ 281474976710656) (w : World) (h : MapAt w q b most r cap) (bx : Nat) (hbx : Blk w bx #[.pointer (some ⟨q, 0, none⟩)] 24) (S : Nat → Prop) (hS : ∀ k, S k → k < w.heap.size) :
    Tells Try.prog 42 #[.pointer (some ⟨bx, 0, none⟩)] (fun x : ByteArray × Int => #[Value.string x.1, Value.int .i64 x.2]) ys S w := by
  intro n l J Jx W hW hl hJ hJx hY h0
  have HMW : Hid (MapAt W q b most r cap) := h.below hW
  have HBW : Hid (Blk W bx #[.pointer (some ⟨q, 0, none⟩)] 24) := hbx.below hW
  have HS : Hid (∀ k, S k → k < W.heap.size) := fun k hk => Nat.lt_of_lt_of_le (hS k hk) hW.size
  have HY : Hid (∀ (pre : List (ByteArray × Int)) x W1, pre ++ [x] <+: ys → J pre W1 → YieldAt Fence.wide (n - 1) Try.prog l #[Value.string x.1, Value.int .i64 x.2] W1 fun e W' => (e = .returned (.bool true) ∧ J (pre ++ [x]) W' ∧ Kept S W1 W') ∨ (e = .returned (.bool false) ∧ Jx (pre ++ [x]) W' ∧ Kept (fun k => S k ∨ k = l) W1 W')) := hY
  have HJ : Hid (Low W.heap.size J) := hJ
  have H0 : Hid (J (ys.take 0) W) := h0
  have HOK : Hid (ys.Perm (cont r) ∧ Srt ys ∧ ∀ x ∈ ys, x.1.size ≤ 281474976710656) := ⟨hys, hsr, hok⟩
  have c0 := HBW.out.cell 0 (v := .pointer (some ⟨q, 0, none⟩)) rfl
  have CS : Hid (∀ m, CallsIn Fence.wide m Try.prog 43 #[.pointer (some ⟨q, 0, none⟩)] W fun e w' => ∃ g cp zs, e = .returned (.slice (some ⟨g, 0, none⟩) zs cp) ∧ Hid (zs = ys.length ∧ CellsOf 4 encS w' g ys ∧ Below W.heap.size W w' ∧ W.heap.size ≤ g ∧ g < w'.heap.size)) := fun m => (sortedI_any q b most cap r W HMW.out m).mono (by
    rintro e w' ⟨g, cp, zs, rfl, h1, h2, h3, h4, h5, h6⟩
    have e : zs = ys := h2.eq hsr (h1.trans hys.symm)
    subst e
    exact ⟨g, cp, _, rfl, rfl, h3, h4, h5, h6⟩)
  have hlen : ys.length ≤ 16384 := by rw [hys.length_eq]; exact Nat.le_trans (cont_len_le r) h.big.2
  obtain ⟨N, hN⟩ : ∃ N, N = ys.length := ⟨_, rfl⟩
  have HN : Hid (N = ys.length) := hN
  rw [← hN] at hlen
  clear hN h hbx hW hY h0 hJ hys hsr hok hS
  refine callsIn_of_wp Try.func42 rfl trivial ?_ rfl
  simp only [Try.ntmps42, List.size_toArray, List.length_cons, List.length_nil, Nat.reduceAdd, Nat.reduceSub, Array.replicate_succ, Array.replicate_zero, List.push_toArray, List.append_toArray, List.nil_append, List.cons_append]
  gi_wp2_with fail
  refine ⟨trivial, no_depth _, ?_⟩
  refine (CS.out _).mono ?_
  rintro e W0 ⟨g, cp, zs, rfl, HG⟩
  obtain ⟨hzs, hG2⟩ := HG.out
  have HG : Hid (CellsOf 4 encS W0 g ys ∧ Below W.heap.size W W0 ∧ W.heap.size ≤ g ∧ g < W0.heap.size) := hG2
  rw [← HN.out] at hzs
  subst hzs
  have hgl := HG.out.2.2.2
  have hgW := HG.out.2.2.1
  have HJ0 : Hid (J (ys.take 0) W0) := HJ.out _ _ _ (Kept.of_below HG.out.2.1) H0.out
  clear hG2 CS H0 c0 HBW HMW
  gi_wp2_with fail
  gi_loopw [8] (fun t wr => ∃ k : Nat, k ≤ zs ∧ t = .int .i64 k ∧ J (ys.take k) wr ∧ Kept S W0 wr) (fun t _ => zs - (intOf t).toNat)
  case atStart => exact ⟨0, Nat.zero_le _, rfl, HJ0.out, Kept.refl _ _⟩
  case round =>
    obtain ⟨k, hk, rfl, hj, hkS⟩ := hrel
    by_cases hkN : k < zs
    · obtain ⟨x, hx⟩ : ∃ x, ys[k]? = some x := ⟨ys[k]'(by rw [← HN.out]; exact hkN), List.getElem?_eq_getElem _⟩
      have HX : Hid (ys[k]? = some x) := hx
      obtain ⟨k', v⟩ := x
      have hzz := hkS.size
      have hcl : CellsOf 4 encS wr g ys := HG.out.1.kept hkS (fun e => by have := HS.out _ e; omega)
      have q0 : wr.cell? ⟨g, k * 4, none⟩ = some (.bool true) := hcl k _ hx 0 _ rfl
      have q1 : wr.cell? ⟨g, k * 4 + 1, none⟩ = some (.int .u32 (spr k')) := hcl k _ hx 1 _ rfl
      have q2 : wr.cell? ⟨g, k * 4 + 2, none⟩ = some (.string k') := hcl k _ hx 2 _ rfl
      have q3 : wr.cell? ⟨g, k * 4 + 3, none⟩ = some (.int .i64 v) := hcl k _ hx 3 _ rfl
      have HE : Hid (ys.take (k + 1) = ys.take k ++ [(k', v)]) := take_snoc hx
      have HB : Hid (Blk (wr.alloc (.cells #[.bool true, .int .u32 (spr k'), .string k', .int .i64 v] 89)) wr.heap.size #[.bool true, .int .u32 (spr k'), .string k', .int .i64 v] 89 ∧ Below wr.heap.size wr (wr.alloc (.cells #[.bool true, .int .u32 (spr k'), .string k', .int .i64 v] 89))) := ⟨Blk.new wr _ 89, (Below.refl _ _).alloc (Nat.le_refl _) _⟩
      have hks : k'.size ≤ 281474976710656 := HOK.out.2.2 _ (List.mem_of_getElem? hx)
      have HJK : Hid (J (ys.take k) wr ∧ Kept S W0 wr) := ⟨hj, hkS⟩
      have hWz : W.heap.size ≤ wr.heap.size := by have := HG.out.2.1.size; omega
      clear hx hcl hj hkS HJ0
      gi_upto_region 3 with fail
      generalize wr.alloc (.cells #[.bool true, .int .u32 (spr k'), .string k', .int .i64 v] 89) = W1 at *
      have CT : Hid (∀ W2, Below W1.heap.size W1 W2 → ∃ fn tmps assign body, (Instr.yield l #[.string k', .int .i64 v]).run Try.prog W2 = .ok (.round l fn tmps assign body) W2 ∧ Hid (RoundIn Fence.wide (n - 1) Try.prog l fn tmps assign body W2 fun e w' => ∃ bb : Bool, e = .returned (.bool bb) ∧ Hid ((bb = true → J (ys.take (k + 1)) w' ∧ Kept S W0 w') ∧ (bb = false → Jx (ys.take (k + 1)) w')))) := fun W2 h2 => by
        have hb2 : Below wr.heap.size wr W2 := HB.out.2.trans (h2.mono HB.out.2.size)
        obtain ⟨fn, tmps, assign, body, h1, h2⟩ := HY.out (ys.take k) (k', v) W2 (by rw [← HE.out]; exact take_pre _ _) (HJ.out _ _ _ (Kept.of_below hb2) HJK.out.1)
        refine ⟨fn, tmps, assign, body, h1, h2.mono ?_⟩
        rw [HE.out]
        rintro e w' (⟨rfl, hj, hk⟩ | ⟨rfl, hj, hk⟩)
        · exact ⟨true, rfl, (⟨fun _ => ⟨hj, (HJK.out.2.trans (Kept.of_below hb2)).trans hk⟩, fun e => (nomatch e)⟩ : _ ∧ _)⟩
        · exact ⟨false, rfl, (⟨fun e => (nomatch e), fun _ => hj⟩ : _ ∧ _)⟩
      have CC : Hid (CallsIn Fence.wide (n - 1) Try.prog 44 #[.string k'] W1.drew fun e w' => e = .returned (.string k') ∧ w'.cell? ⟨wr.heap.size, 2, none⟩ = some (.string k') ∧ w'.cell? ⟨wr.heap.size, 3, none⟩ = some (.int .i64 v) ∧ Below W1.heap.size W1 w') := (callsIn_wide.2 (cloneI_any k' hks W1.drew)).mono (by
        rintro e w' ⟨rfl, hb⟩
        have hb2 : Below W1.heap.size W1 w' := ⟨hb.os, hb.tape, hb.output, hb.size, hb.block⟩
        have hx := HB.out.1.below hb2
        exact ⟨rfl, hx.cell 2 rfl, hx.cell 3 rfl, hb2⟩)
      have x2 := HB.out.1.cell 2 (v := .string k') rfl
      have x3 := HB.out.1.cell 3 (v := .int .i64 v) rfl
      clear q0 q1 q2 q3 HB HJK hks HE HX
      gi_region_with (first
        | (refine ⟨trivial, no_depth _, ?_⟩; gi_at_call 44; refine CC.out.mono ?_; rintro e W2 ⟨rfl, y2, y3, hb2⟩; obtain ⟨fn, tmps, assign, body, hyi, HRd⟩ := CT.out W2 hb2)
        | (refine ⟨no_depth _, ?_⟩; refine HRd.out.mono ?_; rintro e w7 ⟨bb, rfl, HM7⟩))
      all_goals (
        cases bb
        · have HJ7 : Hid (Jx (ys.take (k + 1)) w7) := HM7.out.2 rfl
          clear HM7 HRd hyi y2 y3 x2 x3 CC CT hb2
          gi_wp2_with fail
          first | go_end0 | refine bodyPost_ret (results_none rfl _ _ _) rfl ?_
          exact ⟨⟨_, rfl⟩, .inr ⟨_, take_pre _ _, HJ7.out⟩⟩
        · have HM8 : Hid (J (ys.take (k + 1)) w7 ∧ Kept S W0 w7) := HM7.out.1 rfl
          clear HM7 HRd hyi y2 y3 x2 x3 CC CT hb2
          gi_wp2_with fail
          go_roundw
          case rel => exact ⟨k + 1, by omega, by go_num, HM8.out.1, HM8.out.2⟩
          case measure => simp only [intOf]; omega)
    · have e : k = zs := by omega
      subst e
      have HJ1 : Hid (J ys wr) := by
        have : ys.take k = ys := List.take_of_length_le (by rw [HN.out]; exact Nat.le_refl _)
        rw [this] at hj; exact hj
      clear hj hkS
      gi_wp2_with fail
      go_end0
      exact ⟨⟨_, rfl⟩, .inl HJ1.out⟩
end Go.Proofs.Ytkcjcidndckgbaa
