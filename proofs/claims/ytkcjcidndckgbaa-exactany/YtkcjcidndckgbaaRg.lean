/- Package exact: roomFor. -/
import Derived.Test.YtkcjcidndckgbaaRf
namespace Go.Proofs.Ytkcjcidndckgbaa
open Go.RowKit
set_option linter.unusedVariables false
set_option linter.unusedSimpArgs false

theorem roomI_same (ad : Option Addr) (n cap c : Nat) (h : 2 * c ≤ n) (hn : n ≤ 16384) (w : World) : Calls Try.prog 58 #[.slice ad n cap, .int .i64 c] w fun e w' => e = .returned (.slice ad n cap) ∧ w' = w := by
  go_enter Try.func58, Try.ntmps58
  go_wp2
  go_ret
  exact ⟨rfl, rfl⟩
attribute [local go_sem] Oper.semAt_some
set_option maxHeartbeats 4000000 in
set_option maxRecDepth 100000 in
theorem roomI_wide (b cap c : Nat) (r : List (Pl Int)) (w : World) (hr : RowOf 89 4 encI w b r) (hR : Rw spr r) (h8 : r.length ≤ 8192) (hc : r.length < 2 * c) (hc2 : c ≤ 4096) :
    Calls Try.prog 58 #[.slice (some ⟨b, 0, none⟩) r.length cap, .int .i64 c] w fun e w' => ∃ b' cap' r', e = .returned (.slice (some ⟨b', 0, none⟩) r'.length cap') ∧ RowOf 89 4 encI w' b' r' ∧ Rw spr r' ∧ r'.length = 2 * r.length ∧ (cont r').Perm (cont r) ∧ Below w.heap.size w w' ∧ w.heap.size ≤ b' := by
  suffices h : ∀ m, CallsIn Fence.wide m Try.prog 58 #[.slice (some ⟨b, 0, none⟩) r.length cap, .int .i64 c] w fun e w' => ∃ b' cap' r', e = .returned (.slice (some ⟨b', 0, none⟩) r'.length cap') ∧ RowOf 89 4 encI w' b' r' ∧ Rw spr r' ∧ r'.length = 2 * r.length ∧ (cont r').Perm (cont r) ∧ Below w.heap.size w w' ∧ w.heap.size ≤ b' from callsIn_wide.1 (h 0)
  intro m
  have h2 := hR.pos
  have hbl := hr.lt
  have HR : Hid (RowOf 89 4 encI w b r ∧ Rw spr r) := ⟨hr, hR⟩
  have CB : Hid (∀ w, CallsIn Fence.wide (m - 1) Try.prog 63 #[.slice (some ⟨b, 0, none⟩) r.length cap] w fun e w' => e = .returned (.func (.func 86) #[] #[.pointer (some ⟨w.heap.size, 0, none⟩)]) ∧ Blk w' w.heap.size #[.slice (some ⟨b, 0, none⟩) r.length cap] 75 ∧ Below w.heap.size w w') := fun w => callsIn_wide.2 (takenI_any (some ⟨b, 0, none⟩) r.length cap w)
  obtain ⟨i0, hi, hz0, hz1, hz2⟩ := info_of info89
  obtain ⟨n, hn⟩ : ∃ n, n = r.length := ⟨_, rfl⟩
  have HN : Hid (n = r.length) := hn
  rw [← hn] at CB h8 hc h2 ⊢
  have hb1 : i0.bytes * (2 * n) ≤ 281474976710656 := by rw [hz2]; omega
  have hb2 : 2 * n ≤ maxLen := by unfold maxLen; omega
  have hm2 : IntKind.i64.wrap (2 * (n : Int)) = ((2 * n : Nat) : Int) := by rw [IntKind.wrap_i64]; omega
  have hc3 : IntKind.i64.wrap (2 * (c : Int)) = ((2 * c : Nat) : Int) := by rw [IntKind.wrap_i64]; omega
  clear hr hR hn
  refine callsIn_of_wp_marks Try.func58 rfl trivial ?_ rfl
  simp only [Try.ntmps58, List.size_toArray, List.length_cons, List.length_nil, Nat.reduceAdd, Nat.reduceSub, Array.replicate_succ, Array.replicate_zero, List.push_toArray, List.append_toArray, List.nil_append, List.cons_append]
  gi_wp2_with (gi_at_make; refine wpListIn_make_full _ rfl _ _ 75 rfl w.heap.size 89 i0 (.agg #[.bool false, .int .u32 0, .string ⟨#[]⟩, .int .i64 0]) 4 Try.underlying75 hi hz0 hz1 _ _ _ _ (2 * n) rfl rfl (by omega) (by omega) hb1 hb2 (Nat.le_refl _) ?_)
  intro w0 hown hgr
  have HW : Hid (RowOf 89 4 encI w0 w.heap.size (List.replicate (2 * n) none)) := RowOf.made hown
  have HB0 : Hid (Below w.heap.size w w0) := ⟨hgr.os, hgr.tape, hgr.output, hgr.size, fun k hk => hgr.block k hk (by simp)⟩
  clear hown hgr hi hz0 hz1 hz2 hb1 hb2 hm2 hc3
  have HA : Hid (Below w0.heap.size w0 (w0.alloc (.cells #[.slice (some ⟨w.heap.size, 0, none⟩) (2 * n) (2 * n)] 75))) := (Below.refl _ _).alloc (Nat.le_refl _) _
  have HX : Hid (Blk (w0.alloc (.cells #[.slice (some ⟨w.heap.size, 0, none⟩) (2 * n) (2 * n)] 75)) w0.heap.size #[.slice (some ⟨w.heap.size, 0, none⟩) (2 * n) (2 * n)] 75) := Blk.new w0 _ 75
  gi_wp2_with fail
  refine ⟨trivial, no_depth _, ?_⟩
  refine (CB.out _).mono ?_
  rintro e w1 ⟨rfl, hbx, hb1⟩
  have HB1 : Hid (Below w0.heap.size w0 w1) := HA.out.trans (hb1.mono HA.out.size)
  have HX1 : Hid (Blk w1 w0.heap.size #[.slice (some ⟨w.heap.size, 0, none⟩) (2 * n) (2 * n)] 75) := HX.out.below hb1
  rw [World.size_alloc] at hbx ⊢
  have HY1 : Hid (Blk w1 (w0.heap.size + 1) #[.slice (some ⟨b, 0, none⟩) n cap] 75) := hbx
  have HW1 : Hid (RowOf 89 4 encI w1 w.heap.size (List.replicate (2 * n) none)) := HW.out.below HB1.out
  have HBw : Hid (Below w.heap.size w w1) := HB0.out.trans (HB1.out.mono HB0.out.size)
  have HR1 : Hid (RowOf 89 4 encI w1 b r) := HR.out.1.below HBw.out
  have hz0 := HB0.out.size
  have hgl := HW.out.lt
  clear hbx hb1 CB HA HX HW
  gi_wp2_with fail
  have hlt1 := HX1.out.lt
  have hlty := HY1.out.lt
  refine range_outer (gf := 86) (lb := #[.pointer (some ⟨w0.heap.size + 1, 0, none⟩)]) (encs := fun x : ByteArray × Int => #[Value.agg (encI (some x)).toArray]) (xs := cont r) (S := fun k => k = w.heap.size) rfl (enters_of Try.func86 (by kernel_rfl) rfl)
    (fun k e => by have e' : k = w.heap.size := e; omega)
    (takenI_tells r b cap (by rw [← HN.out]; omega) w1 HR1.out _ (by rw [← HN.out]; exact HY1.out) (fun k => k = w.heap.size) (fun e => by have e' : w0.heap.size + 1 = w.heap.size := e; omega) (fun e => by have e' : b = w.heap.size := e; omega)) (Below.refl _ _) (fun _ => rfl)
    (fun pre W => (∃ r1, RowOf 89 4 encI W w.heap.size r1 ∧ Rw spr r1 ∧ r1.length = 2 * n ∧ (cont r1).Perm pre) ∧ Kept (fun k => k = w.heap.size) w1 W)
    (fun _ _ _ => False)
    ((low_row _ _ (fun pre r1 => Rw spr r1 ∧ r1.length = 2 * n ∧ (cont r1).Perm pre) (by omega)).and (low_kept _ _ _ (Nat.le_refl _)))
    (fun c => low_pure _ _)
    ⟨⟨_, HW1.out, Rw.empty spr (by omega), by simp, by rw [cont_replicate]⟩, Kept.refl _ _⟩ ?round ?done ?stop
  case round =>
    rintro l pre x W K hl hlt hz hpre ⟨⟨r1, hr1, hR1, hl1, hp1⟩, hK⟩ hKK
    obtain ⟨k', v⟩ := x
    have hnew := told_new (cont_keys HR.out.2) hpre
    have HNW : Hid (∀ y ∈ cont r1, y.1 ≠ k') := fun y hy => hnew y (hp1.mem_iff.1 hy)
    have hlen : (pre ++ [(k', v)]).length ≤ (cont r).length := hpre.length_le
    have hle := cont_len_le r
    have HFR : Hid (∃ f : Nat, r1[f]? = some none) := free_of r1 (by
      have := hp1.length_eq
      have e := HN.out
      simp at hlen
      omega)
    have hzw := hK.size
    have hxw := HX1.out.kept hK (by show ¬ _ = _; omega)
    have HXN : Hid (Blk (W.alloc (.cells #[.bool true, .int .u32 (spr k'), .string k', .int .i64 v] 89)) W.heap.size #[.bool true, .int .u32 (spr k'), .string k', .int .i64 v] 89) := Blk.new W _ 89
    simp only [encI, List.size_toArray]
    gi_wp2_with fail
    refine hKK _ _ ((Kept.refl _ _).alloc _) ?_
    intro Wb hkb hrec
    have hk1 : Kept (fun k => k = l) W Wb := ((Kept.refl (fun k => k = l) W).alloc _).trans hkb
    have HXB : Hid (Blk Wb W.heap.size #[.bool true, .int .u32 (spr k'), .string k', .int .i64 v] 89) := HXN.out.kept hkb (by show ¬ _ = _; omega)
    have HVB : Hid (Blk Wb w0.heap.size #[.slice (some ⟨w.heap.size, 0, none⟩) (2 * n) (2 * n)] 75) := hxw.kept hk1 (by show ¬ _ = _; omega)
    have HRB : Hid (RowOf 89 4 encI Wb w.heap.size r1 ∧ Rw spr r1 ∧ r1.length = 2 * n ∧ (cont r1).Perm pre) := ⟨hr1.kept hk1 (by show ¬ _ = _; omega), hR1, hl1, hp1⟩
    have HKB : Hid (Kept (fun k => k = w.heap.size) w1 Wb) := ⟨hk1.os.trans hK.os, hk1.tape.trans hK.tape, hk1.output.trans hK.output, Nat.le_trans hK.size hk1.size, fun k hk hs => (hk1.block k (Nat.lt_of_lt_of_le hk hK.size) (fun e => by have e' : k = l := e; omega)).trans (hK.block k hk hs)⟩
    obtain ⟨f, hf⟩ := HFR.out
    have CL : Hid (CallsIn Fence.wide (m - 1 - 1 - 1) Try.prog 59 #[.slice (some ⟨w.heap.size, 0, none⟩) (2 * n) (2 * n), .agg #[.bool true, .int .u32 (spr k'), .string k', .int .i64 v]] Wb fun e w' => e = .returned (.tuple #[]) ∧ Kept (fun z => z = w.heap.size) Wb w' ∧ ∃ r', RowOf 89 4 encI w' w.heap.size r' ∧ Rw spr r' ∧ r'.length = 2 * n ∧ (cont r').Perm ((k', v) :: cont r1)) := by
      have h := layI_any w.heap.size (2 * n) r1 k' v Wb HRB.out.1 hR1 (by rw [hl1]; omega) hf HNW.out
      rw [hl1] at h
      exact callsIn_wide.2 h
    have x0 := HXB.out.cell 0 (v := .bool true) rfl
    have x1 := HXB.out.cell 1 (v := .int .u32 (spr k')) rfl
    have x2 := HXB.out.cell 2 (v := .string k') rfl
    have x3 := HXB.out.cell 3 (v := .int .i64 v) rfl
    have v0 := HVB.out.cell 0 (v := .slice (some ⟨w.heap.size, 0, none⟩) (2 * n) (2 * n)) rfl
    clear hKK hpre hr1 hK hkb hrec hk1 hxw HXN HFR hf hnew hlen hle hR1 hl1 hp1
    gi_wp2_with fail
    refine ⟨trivial, no_depth _, ?_⟩
    refine CL.out.mono ?_
    rintro e w5 ⟨rfl, hk5, r', q1, q2, q3, q4⟩
    have HQ : Hid (Kept (fun k => k = w.heap.size) Wb w5 ∧ ((∃ r1, RowOf 89 4 encI w5 w.heap.size r1 ∧ Rw spr r1 ∧ r1.length = 2 * n ∧ (cont r1).Perm (pre ++ [(k', v)])) ∧ Kept (fun k => k = w.heap.size) w1 w5)) :=
      ⟨hk5, ⟨r', q1, q2, q3, (q4.trans (HRB.out.2.2.2.cons _)).trans (List.perm_append_comm (l₁ := [(k', v)]) (l₂ := pre))⟩, HKB.out.trans hk5⟩
    clear hk5 q1 q2 q3 q4 CL HXB HVB HKB HRB
    gi_wp2_with fail
    exact HQ.out
  case done =>
    rintro W ⟨⟨r1, hr1, hR1, hl1, hp1⟩, hK⟩ hks hD
    have hxw := HX1.out.kept hK (by show ¬ _ = _; omega)
    have v0 := hxw.cell 0 (v := .slice (some ⟨w.heap.size, 0, none⟩) (2 * n) (2 * n)) rfl
    have HBW : Hid (Below w.heap.size w W) := HBw.out.trans (hks.below HBw.out.size (fun k e => by have e' : k = w.heap.size := e; omega))
    have HQ : Hid (RowOf 89 4 encI W w.heap.size r1 ∧ Rw spr r1 ∧ r1.length = 2 * n ∧ (cont r1).Perm (cont r)) := ⟨hr1, hR1, hl1, hp1⟩
    have hzz := HB1.out.size
    have hzk := hK.size
    clear hks hK hxw hr1 hR1 hl1 hp1
    gi_wp2_with fail
    refine ⟨by simp, .inl ⟨_, _, rfl, run_takeDeferred hD, ?_⟩⟩
    have hkk := kept_putObj (fun k => k = w1.heap.size) W w1.heap.size (.deferred none) rfl
    refine ⟨.slice (some ⟨w.heap.size, 0, none⟩) (2 * n) (2 * n), ?_, w.heap.size, 2 * n, r1, by rw [HQ.out.2.2.1], HQ.out.1.kept hkk (by show ¬ _ = _; omega), HQ.out.2.1, HQ.out.2.2.1, HQ.out.2.2.2, HBW.out.trans (hkk.below HBW.out.size (fun k e => by have e' : k = w1.heap.size := e; omega)), Nat.le_refl _⟩
    simp [results, Try.results58, go_sem]
  case stop =>
    rintro c pre2 W' _ hf
    exact hf.elim
end Go.Proofs.Ytkcjcidndckgbaa
