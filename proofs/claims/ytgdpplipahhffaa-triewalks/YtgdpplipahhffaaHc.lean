/- An iterator that tells just what a row keeps: told answers true. What is asked of both: Find, Every, All, Under; both tell the same. -/
import Derived.Test.YtgdpplipahhffaaVa
import Derived.Test.YtgdpplipahhffaaQn
import Derived.Test.YtgdpplipahhffaaUy
import Derived.Test.YtgdpplipahhffaaNo
import Derived.Test.YtgdpplipahhffaaGh
namespace Go.Proofs.Ytgdpplipahhffaa
open Go.RowKit
set_option linter.unusedVariables false
set_option linter.unusedSimpArgs false

/-- What a round is handed. -/
def encK (W : Nat) (y : List Bool × Int) : Array Value := #[Pf (valOf W y.1) y.1.length, .int .i64 y.2]
theorem fn_eql47 (g : Nat) (caps : Array Value) (w : World) : (binOp .eql 47 (.func (.func g) #[] caps) .nilFunc).run Try.prog w = .ok (.bool false) w := by kernel_rfl
attribute [local go_sem] Oper.semAt_some
set_option maxHeartbeats 4000000 in
set_option maxRecDepth 100000 in
theorem told_yes (w : World) {W : Nat} (h2 : W ≤ 128) (K : List (List Bool × Int)) (hKW : ∀ y ∈ K, y.1.length ≤ W) (hK4 : K.length ≤ 4096) (B : Nat) (ba : Option Addr) (bc : Nat) (hrow : w.ownsRow B 57 2 (.slice ba K.length bc) K.length (rowR K)) (bt bp : Nat)
    (hseq : ∀ w1 S, Below w.heap.size w w1 → (∀ k, S k → w.heap.size ≤ k ∧ k < w1.heap.size) → TellsG 51 Try.prog 48 #[.pointer (some ⟨bt, 0, none⟩), .pointer (some ⟨bp, 0, none⟩)] (fun y : List Bool × Int => #[Pf (valOf W y.1) y.1.length, .int .i64 y.2]) K S w1) :
    Calls Try.prog 20 #[.func (.func 48) #[] #[.pointer (some ⟨bt, 0, none⟩), .pointer (some ⟨bp, 0, none⟩)], .slice ba K.length bc, .int .i64 W] w fun e w' => e = .returned (.bool true) ∧ Below w.heap.size w w' := by
  suffices h : ∀ m, CallsIn Fence.wide m Try.prog 20 #[.func (.func 48) #[] #[.pointer (some ⟨bt, 0, none⟩), .pointer (some ⟨bp, 0, none⟩)], .slice ba K.length bc, .int .i64 W] w fun e w' => e = .returned (.bool true) ∧ Below w.heap.size w w' from callsIn_wide.1 (h 0)
  intro m
  have hmix : Try.prog.follows .mixedOrders = true := by kernel_rfl
  have HR : Hid ((∀ y ∈ K, y.1.length ≤ W) ∧ w.ownsRow B 57 2 (.slice ba K.length bc) K.length (rowR K) ∧ K.length ≤ 4096 ∧ ∀ w1 S, Below w.heap.size w w1 → (∀ k, S k → w.heap.size ≤ k ∧ k < w1.heap.size) → TellsG 51 Try.prog 48 #[.pointer (some ⟨bt, 0, none⟩), .pointer (some ⟨bp, 0, none⟩)] (fun y : List Bool × Int => #[Pf (valOf W y.1) y.1.length, .int .i64 y.2]) K S w1) := ⟨hKW, hrow, hK4, hseq⟩
  obtain ⟨n, hn⟩ : ∃ n, K.length = n := ⟨_, rfl⟩
  have HN : Hid (K.length = n ∧ n ≤ 4096) := ⟨hn, by rw [← hn]; exact hK4⟩
  rw [hn]
  clear hKW hrow hK4 hseq hn
  have HB := three_new w #[.slice ba n bc] #[.int .i64 W] #[.bool false] 38 3 4
  have hsz3 : (((w.alloc (.cells #[.slice ba n bc] 38)).alloc (.cells #[.int .i64 W] 3)).alloc (.cells #[.bool false] 4)).heap.size = w.heap.size + 3 := by rw [World.size_alloc, World.size_alloc, World.size_alloc]
  refine callsIn_of_wp_marks Try.func20 rfl trivial ?_ rfl
  simp only [Try.ntmps20, List.size_toArray, List.length_cons, List.length_nil, Nat.reduceAdd, Nat.reduceSub, Array.replicate_succ, Array.replicate_zero, List.push_toArray, List.append_toArray, List.nil_append, List.cons_append]
  have FE := fn_eql47
  gi_upto_region 1 with fail
  gi_upto_region 3 with fail
  clear FE
  have HC0 := one_new (((w.alloc (.cells #[.slice ba n bc] 38)).alloc (.cells #[.int .i64 W] 3)).alloc (.cells #[.bool false] 4)) #[.int .i64 0] 3
  generalize (((w.alloc (.cells #[.slice ba n bc] 38)).alloc (.cells #[.int .i64 W] 3)).alloc (.cells #[.bool false] 4)) = wa at *
  have hAw : w.heap.size + 3 = wa.heap.size := hsz3.symm
  have HA : Hid (Blk (wa.alloc (.cells #[.int .i64 0] 3)) w.heap.size #[.slice ba n bc] 38 ∧ Blk (wa.alloc (.cells #[.int .i64 0] 3)) (w.heap.size + 1) #[.int .i64 W] 3 ∧ Blk (wa.alloc (.cells #[.int .i64 0] 3)) (w.heap.size + 2) #[.bool false] 4 ∧ Blk (wa.alloc (.cells #[.int .i64 0] 3)) wa.heap.size #[.int .i64 0] 3 ∧ Below w.heap.size w (wa.alloc (.cells #[.int .i64 0] 3))) :=
    ⟨HB.out.1.below HC0.2.1, HB.out.2.1.below HC0.2.1, HB.out.2.2.1.below HC0.2.1, HC0.1, bst HB.out.2.2.2.1 HC0.2.1⟩
  have hAn := HC0.2.2
  clear HB HC0 hsz3
  gi_wp2_with fail
  generalize (wa.alloc _) = w3 at HA hAn ⊢
  generalize wa.heap.size = An at *
  have hseq := HR.out.2.2.2 w3 (fun k => k = An) HA.out.2.2.2.2 (fun k e => by have e' : k = An := e; omega)
  have hHN := HN.out
  refine rangeG_outer (gt := 51) (gf := 48) (lb := #[.pointer (some ⟨bt, 0, none⟩), .pointer (some ⟨bp, 0, none⟩)]) (encs := fun y : List Bool × Int => #[Pf (valOf W y.1) y.1.length, .int .i64 y.2]) (xs := K) (S := fun k => k = An) rfl (enters_of Try.func48 (by kernel_rfl) rfl)
    (fun k e => by have e' : k = An := e; omega) hseq (Below.refl _ _) (fun _ => rfl)
    (Cnt w3 An) (fun c pre W' => False) (cnt_low hAn) (fun c => (low_pure _ _).g)
    ⟨HA.out.2.2.2.1, Kept.refl _ _⟩ ?round ?done ?stop
  case stop =>
    rintro c pre W' _ hf
    exact hf.elim
  case round =>
    rintro l' pre x W' K2 hl' ⟨rl, hlp⟩ hz hpre ⟨b0, hK⟩ hKK
    obtain ⟨c, v⟩ := x
    have hcM : (c, v) ∈ K := hpre.subset (by simp)
    have hc : c.length ≤ W := HR.out.1 _ hcM
    have hcnt : pre.length + 1 ≤ n := by
      have g1 := hpre.length_le
      rw [List.length_append, List.length_singleton] at g1
      omega
    have hkey : K[pre.length]? = some (c, v) := by
      obtain ⟨t, ht⟩ := hpre
      rw [← ht]
      simp
    have hlp' := (Array.getElem?_eq_some_iff.1 hlp).1
    have HN1 := one_new W' #[.int .u64 (hiOf (valOf W c)), .int .u64 (loOf (valOf W c)), .int .i64 c.length] 51
    simp only [List.zip_toArray, List.zip_cons_cons, List.zip_nil_right, List.foldl_toArray', List.foldl_toArray, List.foldl_cons, List.foldl_nil, List.setIfInBounds_toArray, List.set_cons_succ, List.set_cons_zero]
    gi_wp2_with fail
    refine hKK _ _ (Kept.of_below HN1.2.1) ?_
    intro Wb hkb hrec
    have hKW : Kept (fun k => k = l') W' Wb := (Kept.of_below HN1.2.1).trans hkb
    have hKb : Kept (fun k => k = An) w3 Wb := ⟨hKW.os.trans hK.os, hKW.tape.trans hK.tape, hKW.output.trans hK.output, Nat.le_trans hK.size hKW.size, fun k hk hs => (hKW.block k (Nat.lt_of_lt_of_le hk hK.size) (fun e => by have e' : k = l' := e; omega)).trans (hK.block k hk hs)⟩
    obtain ⟨g, hba, hnb, hrow⟩ := rowR_at (by have := HR.out.2.1; rw [HN.out.1] at this; exact this) HN.out.1 (by omega)
    have hr0 := hrow pre.length (c, v) hkey
    have hgw : g < w.heap.size := World.block_lt_of_cell? w _ hr0.1
    have hgl : ∀ {i : Nat} {u : Value}, w.cell? ⟨g, i, none⟩ = some u → Wb.cell? ⟨g, i, none⟩ = some u := fun {i u} h => (World.cell?_of_block (hKb.block g (Nat.lt_of_lt_of_le hgw HA.out.2.2.2.2.size) (by show ¬ _ = _; omega))).trans ((World.cell?_of_block (HA.out.2.2.2.2.block g hgw)).trans h)
    have HE : Hid (Blk Wb An #[.int .i64 pre.length] 3 ∧ Blk Wb W'.heap.size #[.int .u64 (hiOf (valOf W c)), .int .u64 (loOf (valOf W c)), .int .i64 c.length] 51 ∧ Kept (fun k => k = An) w3 Wb ∧ Blk Wb w.heap.size #[.slice ba n bc] 38 ∧ Blk Wb (w.heap.size + 1) #[.int .i64 W] 3 ∧ (Wb.cell? ⟨g, pre.length * 2, none⟩ = some (.string (tx c)) ∧ Wb.cell? ⟨g, pre.length * 2 + 1, none⟩ = some (.int .i64 v))) :=
      ⟨(b0.below HN1.2.1).kept hkb (by show ¬ _ = _; omega), HN1.1.kept hkb (by show ¬ _ = _; omega), hKb, HA.out.1.kept hKb (by show ¬ _ = _; omega), HA.out.2.1.kept hKb (by show ¬ _ = _; omega), hgl hr0.1, hgl hr0.2⟩
    have hge : ¬ ((n : Nat) : Int) ≤ (pre.length : Int) := by omega
    have hge2 : decide (((n : Nat) : Int) ≤ (pre.length : Int)) = false := decide_eq_false hge
    have hlt2 : (pre.length : Int) < ((n : Nat) : Int) := by omega
    have hgn : ¬ n ≤ pre.length := by omega
    have hgn2 : decide (n ≤ pre.length) = false := decide_eq_false hgn
    have hgn3 : pre.length < n := by omega
    have hsm : pre.length + 1 ≤ 5000 := by omega
    have C22 : Hid (∀ mm w1, CallsIn Fence.wide mm Try.prog 22 #[Pf (valOf W c) c.length, .agg #[.string (tx c), .int .i64 v], .int .i64 W] w1 fun e w' => e = .returned (.bool true) ∧ Below w1.heap.size w1 w') := fun mm w1 => callsIn_wide.2 (same_yes w1 h2 hc v)
    generalize hAp : W'.heap.size = Ap at *
    clear b0 hK hKK hkb hrec hKW hKb HN1 hcnt hpre hz hl' hlp hlp' hrow hr0 hnb hkey rl hAp hgl hgw hcM hc
    subst hba
    generalize valOf W c = vc at *
    generalize tx c = tc at *
    have n0 := HE.out.1.cell 0 (v := .int .i64 pre.length) rfl
    have s0 := HE.out.2.2.2.1.cell 0 (v := .slice (some ⟨g, 0, none⟩) n bc) rfl
    gi_upto_region 9 with fail
    have n0' := gw_cell n0
    have s0' := gw_cell s0
    have p0 := gw_cell (HE.out.2.1.cell 0 (v := .int .u64 (hiOf vc)) rfl)
    have p1 := gw_cell (HE.out.2.1.cell 1 (v := .int .u64 (loOf vc)) rfl)
    have p2 := gw_cell (HE.out.2.1.cell 2 (v := .int .i64 c.length) rfl)
    have t0 := gw_cell (HE.out.2.2.2.2.1.cell 0 (v := .int .i64 W) rfl)
    have r0 := gw_cell HE.out.2.2.2.2.2.1
    have r1 := gw_cell HE.out.2.2.2.2.2.2
    clear n0 s0
    refine grows_round hmix (by kernel_rfl) (by kernel_rfl) ?_
    repeat (gi_big_quiet_step (fail))
    refine Go.BigFrame.wpQuietIn_want (fun _ _ _ _ => trivial) (by rfl) ?_
    intro K3 hK3
    gi_big_quiet_op
    apply Exists.intro
    refine ⟨fun _ => ?_, ?_⟩
    · exact ⟨no_depth _, calls_gwIn (C22.out _ _)⟩
    go_big_quiet_on
    repeat (gi_big_quiet_step (fail))
    refine wpQuietIn_nil ?_
    intro wq hwq
    obtain ⟨zq, rfl⟩ := hwq
    have HN5 : Hid (Blk (gw zq) An #[.int .i64 pre.length] 3 ∧ Kept (fun k => k = An) w3 (gw zq) ∧ Below Wb.heap.size Wb (gw zq) ∧ Blk (gw zq) w.heap.size #[.slice (some ⟨g, 0, none⟩) n bc] 38 ∧ (gw zq).cell? ⟨g, pre.length * 2 + 1, none⟩ = some (.int .i64 v)) := ⟨HE.out.1.below (gw_below zq), HE.out.2.2.1.trans (Kept.of_below (gw_below zq)), gw_below zq, HE.out.2.2.2.1.below (gw_below zq), r1 zq⟩
    clear n0' s0' p0 p1 p2 t0 r0 r1 C22 HE
    generalize gw zq = W5 at *
    have n0 := HN5.out.1.cell 0 (v := .int .i64 pre.length) rfl
    have f0 := HN5.out.1.frozen 0
    have s0 := HN5.out.2.2.2.1.cell 0 (v := .slice (some ⟨g, 0, none⟩) n bc) rfl
    have r1 := HN5.out.2.2.2.2
    gi_wp2_with fail
    have e1 : (pre ++ [(c, v)]).length = pre.length + 1 := by simp
    have k5 : Kept (fun k => k = An) W5 (W5.setCell ⟨An, 0, none⟩ (.int .i64 ((pre.length : Int) + 1))) := (Kept.refl (fun k => k = An) W5).set (p := ⟨An, 0, none⟩) rfl _
    refine ⟨(Kept.of_below HN5.out.2.2.1).trans (k5.mono fun k _ e => .inl e), ?_, HN5.out.2.1.trans k5⟩
    have := HN5.out.1.set 0 (.int .i64 ((pre.length : Int) + 1))
    rw [e1]
    exact this
  case done =>
    rintro W' ⟨b0, hK⟩ hks hD'
    have hl3 : w3.heap.size < W'.heap.size := (Array.getElem?_eq_some_iff.1 hD').1
    rw [HN.out.1] at b0
    have hBw : Below w.heap.size w W' := HA.out.2.2.2.2.trans (hK.below HA.out.2.2.2.2.size (fun k e => by have e' : k = An := e; omega))
    have HF : Hid (Blk W' An #[.int .i64 n] 3 ∧ Blk W' w.heap.size #[.slice ba n bc] 38 ∧ Blk W' (w.heap.size + 2) #[.bool false] 4 ∧ W'.heap[w3.heap.size]? = some (.deferred (some [])) ∧ Below w.heap.size w W' ∧ w.heap.size + 2 < w3.heap.size) := ⟨b0, HA.out.1.kept hK (by show ¬ _ = _; omega), HA.out.2.2.1.kept hK (by show ¬ _ = _; omega), hD', hBw, by omega⟩
    have n0 := HF.out.1.cell 0 (v := .int .i64 n) rfl
    have s0 := HF.out.2.1.cell 0 (v := .slice ba n bc) rfl
    have f0 := HF.out.2.2.1.frozen 0
    have d0 := HF.out.2.2.1.cell 0 (v := .bool false) rfl
    clear b0 hK hks hD' hseq hBw
    gi_wp2_with fail
    have k6 : Kept (fun k => k = w.heap.size + 1 + 1) W' (W'.setCell ⟨w.heap.size + 1 + 1, 0, none⟩ (.bool true)) := (Kept.refl (fun k => k = w.heap.size + 1 + 1) W').set (p := ⟨w.heap.size + 1 + 1, 0, none⟩) rfl _
    have HG : Hid (Blk (W'.setCell ⟨w.heap.size + 1 + 1, 0, none⟩ (.bool true)) (w.heap.size + 1 + 1) #[.bool true] 4 ∧ (W'.setCell ⟨w.heap.size + 1 + 1, 0, none⟩ (.bool true)).heap[w3.heap.size]? = some (.deferred (some [])) ∧ Below w.heap.size w (W'.setCell ⟨w.heap.size + 1 + 1, 0, none⟩ (.bool true)) ∧ w.heap.size + 2 < w3.heap.size ∧ w3.heap.size < (W'.setCell ⟨w.heap.size + 1 + 1, 0, none⟩ (.bool true)).heap.size) :=
      ⟨HF.out.2.2.1.set 0 _, (k6.block _ hl3 (by show ¬ _ = _; omega)).trans HF.out.2.2.2.1, HF.out.2.2.2.2.1.trans (k6.below HF.out.2.2.2.2.1.size (fun k e => by have e' : k = w.heap.size + 1 + 1 := e; omega)), HF.out.2.2.2.2.2, Nat.lt_of_lt_of_le hl3 k6.size⟩
    clear k6 HF n0 s0 f0 d0 hl3
    generalize (W'.setCell _ _) = W6 at HG ⊢
    have hb := HG.out.2.2.2.1
    refine ⟨by simp, .inl ⟨_, _, rfl, run_takeDeferred HG.out.2.1, ?_⟩⟩
    have hkk := kept_putObj (fun k => k = w3.heap.size) W6 w3.heap.size (.deferred none) rfl
    have z1 := (HG.out.1.kept hkk (by show ¬ _ = _; omega)).cell 0 (v := .bool true) rfl
    refine ⟨.bool true, ?_, rfl, HG.out.2.2.1.trans (hkk.below HG.out.2.2.1.size (fun k e => by have e' : k = w3.heap.size := e; omega))⟩
    simp [results, Try.results20, go_sem, z1]
end Go.Proofs.Ytgdpplipahhffaa
namespace Go.Proofs.Ytgdpplipahhffaa
open Go.RowKit
set_option linter.unusedVariables false
set_option linter.unusedSimpArgs false

section
variable {W most : Nat} {L : List (List Bool × Int)}
theorem evR_hits {W a : Nat} (h : fitsN a W = true) (L : List (List Bool × Int)) : evR (bitsOf W a) L = hitsL W a L := by
  unfold evR hitsL; rw [if_pos h]
theorem find_both (h1 : 1 ≤ W) (h2 : W ≤ 128) (hm : L.length ≤ 4096) (a : Nat) (ha : Is128 a) :
    (∀ w0 w q, Own w0 w q W most L → Calls Try.prog 26 #[.pointer (some ⟨q, 0, none⟩), B a] w fun e w' => e = .returned (findV W (hitsL W a L).getLast?) ∧ Below w.heap.size w w') ∧
    (∀ w B r, RefAt w B r W most L → Calls Try.prog 45 #[.pointer (some ⟨r, 0, none⟩), Go.Proofs.Ytgdpplipahhffaa.B a] w fun e w' => e = .returned (lastV (hitsL W a L).getLast?) ∧ Below w.heap.size w w') := by
  have hl : (hitsL W a L).length ≤ 4096 := by
    unfold hitsL; split
    · exact Nat.le_trans (List.length_filter_le _ _) hm
    · simp
  refine ⟨fun w0 w q hO => ?_, fun w B r hR => ?_⟩
  · obtain ⟨⟨b, n, N, hT, hk⟩, _⟩ := hO
    cases hf : fitsN a W with
    | false =>
      have := find_no (w := w) (W := W) q a ha hf (hT.hd.cell 0 rfl)
      have e : hitsL W a L = [] := by unfold hitsL; rw [hf]; rfl
      rw [e]; exact this
    | true =>
      have := find_yes hT a ha hf
      rw [kept_way hf, hk] at this
      exact this
  · refine (rfind_of hR a (hitsL W a L) hl fun w1 hb => ?_).mono fun e w' h => ⟨h.1, h.2.below (Nat.le_refl _) (fun k e => e.elim)⟩
    cases hf : fitsN a W with
    | false =>
      have e : hitsL W a L = [] := by unfold hitsL; rw [hf]; rfl
      rw [e]
      exact (revery_no (hR.below hb) h1 h2 a ha hf).mono fun e w' h => ⟨none, 0, h.1, (⟨World.ownsRow_nil _ _ _ _, Kept.of_below h.2⟩ : _ ∧ _)⟩
    | true =>
      have := revery_yes (hR.below hb) h1 h2 a ha hf
      rw [evR_hits hf] at this
      exact this
theorem every_both (h1 : 1 ≤ W) (h2 : W ≤ 128) (hm : L.length ≤ 4096) (a : Nat) (ha : Is128 a) :
    (∀ w0 w q, Own w0 w q W most L → Calls Try.prog 27 #[.pointer (some ⟨q, 0, none⟩), B a] w fun e w' => ∃ ba bc, e = .returned (.slice ba (hitsL W a L).length bc) ∧ Hid (w'.ownsRow w.heap.size 51 3 (.slice ba (hitsL W a L).length bc) (hitsL W a L).length (rowK W (keys (hitsL W a L))) ∧ Below w.heap.size w w')) ∧
    (∀ w B r, RefAt w B r W most L → Calls Try.prog 65 #[.pointer (some ⟨r, 0, none⟩), Go.Proofs.Ytgdpplipahhffaa.B a] w fun e w' => ∃ ba bc, e = .returned (.slice ba (hitsL W a L).length bc) ∧ Hid (w'.ownsRow w.heap.size 57 2 (.slice ba (hitsL W a L).length bc) (hitsL W a L).length (rowR (hitsL W a L)) ∧ Below w.heap.size w w')) := by
  refine ⟨fun w0 w q hO => ?_, fun w B r hR => ?_⟩
  · obtain ⟨⟨b, n, N, hT, hk⟩, _⟩ := hO
    cases hf : fitsN a W with
    | false =>
      have := every_no (w := w) (W := W) q a ha hf (hT.hd.cell 0 rfl)
      have e : hitsL W a L = [] := by unfold hitsL; rw [hf]; rfl
      rw [e]
      exact this.mono fun e w' ⟨h1, h2⟩ => ⟨none, 0, h1, (⟨World.ownsRow_nil _ _ _ _, h2⟩ : _ ∧ _)⟩
    | true =>
      have hlen : N.length ≤ 1000000 := by
        have h1 := hT.most.1
        rcases hT.hang.count with h | h
        · rw [h]; exact Nat.zero_le _
        · rw [hk] at h; omega
      have := every_yes hT hlen a ha hf
      rw [kept_way hf, hk] at this
      refine this.mono ?_
      rintro e w' ⟨s, rfl, h1, h2⟩
      have hkl : (keys (hitsL W a L)).length = (hitsL W a L).length := by simp [keys]
      rw [hkl] at h1
      obtain ⟨ba, bc, rfl⟩ := ownsRow_slice h1
      exact ⟨ba, bc, rfl, (⟨h1, h2⟩ : _ ∧ _)⟩
  · cases hf : fitsN a W with
    | false =>
      have e : hitsL W a L = [] := by unfold hitsL; rw [hf]; rfl
      rw [e]
      exact (revery_no hR h1 h2 a ha hf).mono fun e w' h => ⟨none, 0, h.1, (⟨World.ownsRow_nil _ _ _ _, h.2⟩ : _ ∧ _)⟩
    | true =>
      have := revery_yes hR h1 h2 a ha hf
      rw [evR_hits hf] at this
      exact this.mono fun e w' ⟨ba, bc, h, h2⟩ => ⟨ba, bc, h, (⟨h2.out.1, h2.out.2.below (Nat.le_refl _) (fun k e => e.elim)⟩ : _ ∧ _)⟩
/-- An iterator's word, from a world on. -/
def Tells51 (w : World) (W : Nat) (bt bp : Nat) (K : List (List Bool × Int)) : Prop := ∀ w1 S, Below w.heap.size w w1 → (∀ k, S k → w.heap.size ≤ k ∧ k < w1.heap.size) → TellsG 51 Try.prog 48 #[.pointer (some ⟨bt, 0, none⟩), .pointer (some ⟨bp, 0, none⟩)] (fun y : List Bool × Int => #[Pf (valOf W y.1) y.1.length, .int .i64 y.2]) K S w1
theorem all_tells51 {w0 V : World} {q bt bp : Nat} (hO : Own w0 V q W most L) (hbt : Blk V bt #[.pointer (some ⟨q, 0, none⟩)] 24) (hbp : Blk V bp #[.int .u64 (hiOf 0), .int .u64 (loOf 0), .int .i64 0] 51) : Tells51 V W bt bp L := by
  intro w1 S hb hS
  obtain ⟨⟨a, n, N, hT, hk⟩, _⟩ := hO
  have hbp' : Blk V bp #[.int .u64 (hiOf (valOf W [])), .int .u64 (loOf (valOf W [])), .int .i64 (([] : List Bool).length : Nat)] 51 := by rw [val_nil]; exact hbp
  have := under_tellsG 51 (by decide) (by decide) (hT.below hb) (p := []) (Nat.zero_le _) bt bp (hbt.below hb) (hbp'.below hb) S (fun k e => (hS k e).2) (hT.hang.off_new fun k e => (hS k e).1)
  rw [und_nil, hk] at this
  exact this
theorem under_both (h1 : 1 ≤ W) (h2 : W ≤ 128) (v : Nat) (hv : Is128 v) (l : Int) : ∃ K : List (List Bool × Int), (∀ y ∈ K, y ∈ L) ∧ K.length ≤ L.length ∧
    (∀ w0 V q bt bp, Own w0 V q W most L → Blk V bt #[.pointer (some ⟨q, 0, none⟩)] 24 → Blk V bp #[.int .u64 (hiOf v), .int .u64 (loOf v), .int .i64 l] 51 → Tells51 V W bt bp K) ∧
    (∀ w B r, RefAt w B r W most L → Calls Try.prog 21 #[.pointer (some ⟨r, 0, none⟩), Go.Proofs.Ytgdpplipahhffaa.B v, .int .i64 l] w fun e w' => ∃ ba bc, e = .returned (.slice ba K.length bc) ∧ Hid (w'.ownsRow w.heap.size 57 2 (.slice ba K.length bc) K.length (rowR K) ∧ Below w.heap.size w w')) := by
  by_cases hP : isP W v l = true
  · obtain ⟨p, hp, rfl, rfl⟩ := isP_yes hP
    refine ⟨unR p L, fun y hy => (List.mem_filter.1 hy).1, List.length_filter_le _ _, fun w0 V q bt bp hO hbt hbp w1 S hb hS => ?_, fun w B r hR => ?_⟩
    · obtain ⟨⟨a, n, N, hT, hk⟩, _⟩ := hO
      have := under_tellsG 51 (by decide) (by decide) (hT.below hb) hp bt bp (hbt.below hb) (hbp.below hb) S (fun k e => (hS k e).2) (hT.hang.off_new fun k e => (hS k e).1)
      rw [kept_und, hk] at this
      exact this
    · exact (runder_yes hR h1 h2 (valOf W p) hv p.length hP p (text_mk hp)).mono fun e w' ⟨ba, bc, h, h2⟩ => ⟨ba, bc, h, (⟨h2.out.1, h2.out.2.below (Nat.le_refl _) (fun k e => e.elim)⟩ : _ ∧ _)⟩
  · have hP : isP W v l = false := Bool.eq_false_iff.2 hP
    refine ⟨[], by simp, Nat.zero_le _, fun w0 V q bt bp hO hbt hbp w1 S hb hS => ?_, fun w B r hR => ?_⟩
    · obtain ⟨⟨a, n, N, hT, hk⟩, _⟩ := hO
      exact under_tells_bad 51 _ (hT.below hb) v hv l hP bt bp (hbt.below hb) (hbp.below hb) S
    · exact (runder_no hR h1 h2 v hv l hP).mono fun e w' h => ⟨none, 0, h.1, (⟨World.ownsRow_nil _ _ _ _, h.2⟩ : _ ∧ _)⟩
theorem nodes_both {w0 w : World} {q : Nat} (hO : Own w0 w q W most L) (hm : L.length ≤ 4096) : Calls Try.prog 40 #[.pointer (some ⟨q, 0, none⟩)] w fun e w' => e = .returned (.int .i64 (nodesR L)) ∧ Below w.heap.size w w' := by
  obtain ⟨⟨a, n, N, hT, hk⟩, _⟩ := hO
  have hlen : N.length ≤ 1000000 := by
    rcases hT.hang.count with h | h
    · rw [h]; exact Nat.zero_le _
    · rw [hk] at h; omega
  have := callsIn_wide.1 (nodes_any hT hlen 0)
  rw [nodes_eq hT.hang, hk] at this
  exact this
theorem len_both {w0 w : World} {q : Nat} (hO : Own w0 w q W most L) : Calls Try.prog 37 #[.pointer (some ⟨q, 0, none⟩)] w fun e w' => e = .returned (.int .i64 L.length) ∧ w' = w := by
  obtain ⟨⟨a, n, N, hT, hk⟩, _⟩ := hO
  have := len_any hT
  rw [hk] at this
  exact this
end
end Go.Proofs.Ytgdpplipahhffaa
