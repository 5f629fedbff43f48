/- Package trie: with, at any tree. -/
import Derived.Test.YtgdpplipahhffaaWi
namespace Go.Proofs.Ytgdpplipahhffaa
open Go.RowKit
set_option linter.unusedVariables false
set_option linter.unusedSimpArgs false

theorem root_pre {V : Type} {nt vt : TypeId} {enc : V → Value} {W : Nat} {w : World} {n : Nat} {x : Nd V} {a0 a1 : Option Nat} {N0 N1 : List (Nd V)} (h : Root nt vt enc W w n x a0 a1 N0 N1) : ∀ y ∈ x :: (N0 ++ N1), x.key <+: y.key := fun y hy => by
  simp only [List.mem_cons, List.mem_append] at hy
  rcases hy with rfl | hy | hy
  · exact List.prefix_refl _
  · exact (List.prefix_append _ _).trans (h.pre0 y hy)
  · exact (List.prefix_append _ _).trans (h.pre1 y hy)
theorem fork_facts {c p : List Bool} (h : ¬ c <+: p) : lcp c p < c.length ∧ lcp c p ≤ p.length ∧ c.take (lcp c p) = p.take (lcp c p) ∧ ∃ j, c.take (lcp c p) ++ [j] <+: c ∧ c[lcp c p]? = some j ∧ ∀ i, p.take (lcp c p) ++ [i] <+: p → i = !j := by
  obtain ⟨l1, l2⟩ := lcp_le c p
  have hlt : lcp c p < c.length := Nat.lt_of_le_of_ne l1 (fun e => h (lcp_pre.1 e))
  obtain ⟨j, hj⟩ : ∃ j, c[lcp c p]? = some j := ⟨_, List.getElem?_eq_getElem hlt⟩
  refine ⟨hlt, l2, lcp_take c p, j, ?_, hj, fun i hi => ?_⟩
  · refine ⟨c.drop (lcp c p + 1), ?_⟩
    have e : c.take (lcp c p) ++ [j] = c.take (lcp c p + 1) := by rw [List.take_add_one, hj]; rfl
    rw [e, List.take_append_drop]
  · have hl := hi.length_le
    rw [List.length_append, List.length_take, Nat.min_eq_left l2] at hl
    have hlp : lcp c p < p.length := by simp at hl; omega
    have := lcp_ne hlt hlp
    rw [hj] at this
    have hp : p[lcp c p]? = some i := by
      obtain ⟨s, hs⟩ := hi
      have : p[lcp c p]? = (p.take (lcp c p) ++ [i] ++ s)[lcp c p]? := by rw [hs]
      rw [this]
      have hz : (p.take (lcp c p)).length = lcp c p := by rw [List.length_take]; omega
      rw [List.append_assoc, List.getElem?_append_right (by omega), hz]; simp
    rw [hp] at this
    simp at this
    rw [this]; simp
set_option maxHeartbeats 2000000 in
theorem with_above {W : Nat} (h1 : 1 ≤ W) (h2 : W ≤ 128) {p : List Bool} (hp : p.length ≤ W) (q t : Nat) (v : Int) (w : World) (ht : Blk w t #[encV v] 3) (hq : w.cell? ⟨q, 0, none⟩ = some (.int .i64 W))
    {n : Nat} {x : Nd Int} {a0 a1 : Option Nat} {N0 N1 : List (Nd Int)} (hR : RootI W w n x a0 a1 N0 N1) (hf : x.th = none → N0 ≠ [] ∧ N1 ≠ []) (hx : ¬ x.key <+: p) :
    Calls Try.prog 56 #[.pointer (some ⟨q, 0, none⟩), .pointer (some ⟨x.blk, 0, none⟩), Pf (valOf W p) p.length, .pointer (some ⟨t, 0, none⟩)] w fun e w' => ∃ b, e = .returned (.pointer (some ⟨b, 0, none⟩)) ∧ Put1 W w w' p v (kept (x :: (N0 ++ N1))) b := by
  have hl := hR.node.len
  obtain ⟨f1, f2, f3, j, f4, f5, f6⟩ := fork_facts hx
  have hlp := f2
  have C72 : Hid (∀ w1, Calls Try.prog 72 #[Pf (valOf W x.key) x.key.length, Pf (valOf W p) p.length, .int .i64 W] w1 fun e w' => e = .returned (.int .i64 (lcp x.key p : Nat)) ∧ Below w1.heap.size w1 w') := fun w1 => common_any h1 h2 hl hp w1
  have C66 : Hid (∀ w1, Calls Try.prog 66 #[B (valOf W p), .int .i64 W, .int .i64 (lcp x.key p : Nat)] w1 fun e w' => e = .returned (Pf (valOf W (x.key.take (lcp x.key p))) (lcp x.key p : Nat)) ∧ Below w1.heap.size w1 w') := fun w1 => by
    have := first_any (valOf W p) (val_is h2 hp) W h1 h2 (lcp x.key p) (by omega) w1
    rw [val_mask (by omega) hp, ← f3] at this
    exact this
  have C69 : Hid (∀ w1, Calls Try.prog 69 #[B (valOf W x.key), .int .i64 W, .int .i64 (lcp x.key p : Nat)] w1 fun e w' => e = .returned (.int .i64 (if j then 1 else 0)) ∧ Below w1.heap.size w1 w') := fun w1 => by
    have h := side_any h1 h2 hl (lcp x.key p) w1
    rw [sideN, f5] at h
    cases j <;> exact h
  have hcl : (x.key.take (lcp x.key p)).length = lcp x.key p := by rw [List.length_take]; omega
  have CW : Hid (∀ V D, Below w.heap.size w V → Blk V D (if j then #[.int .u64 (hiOf (valOf W (x.key.take (lcp x.key p)))), .int .u64 (loOf (valOf W (x.key.take (lcp x.key p)))), .int .i64 (lcp x.key p : Nat), .pointer none, .pointer none, .pointer (some ⟨x.blk, 0, none⟩)] else #[.int .u64 (hiOf (valOf W (x.key.take (lcp x.key p)))), .int .u64 (loOf (valOf W (x.key.take (lcp x.key p)))), .int .i64 (lcp x.key p : Nat), .pointer none, .pointer (some ⟨x.blk, 0, none⟩), .pointer none]) 98 →
      Calls Try.prog 56 #[.pointer (some ⟨q, 0, none⟩), .pointer (some ⟨D, 0, none⟩), Pf (valOf W p) p.length, .pointer (some ⟨t, 0, none⟩)] V fun e w' => ∃ b, e = .returned (.pointer (some ⟨b, 0, none⟩)) ∧ Hid (Put1 W w w' p v (kept (x :: (N0 ++ N1))) b)) := fun V D hV hD => by
    have hH : HangI W V (n + 1) (some x.blk) (x :: (N0 ++ N1)) := (hR.below hV).hang hf
    have hpre : ∀ y ∈ x :: (N0 ++ N1), x.key.take (lcp x.key p) ++ [j] <+: y.key := fun y hy => f4.trans (root_pre hR y hy)
    have htV := ht.below hV
    have hqV : V.cell? ⟨q, 0, none⟩ = some (.int .i64 W) := (World.cell?_of_block (hV.block q (World.block_lt_of_cell? w _ hq))).trans hq
    have hcp : x.key.take (lcp x.key p) <+: p := by rw [f3]; exact List.take_prefix _ _
    cases j with
    | false =>
      have hr : RootI W V (n + 1) ⟨D, x.key.take (lcp x.key p), none⟩ (some x.blk) none (x :: (N0 ++ N1)) [] := ⟨⟨by unfold nodeC; rw [hcl]; exact hD, (fun t v e => by cases e), by show (x.key.take (lcp x.key p)).length ≤ W; rw [hcl]; omega⟩, hpre, fun y hy => absurd hy (by simp), hH, Hang.nil _⟩
      refine (with_node h1 h2 hp q t v V htV hqV hr hcp (fun e => ?_) (fun _ _ => by simp) (fun e => ?_) (fun _ V' hV' => with_nil hp q t v V' (htV.below hV'))).mono ?_
      · have e' : x.key.take (lcp x.key p) ++ [false] <+: p := e
        rw [f3] at e'; exact absurd (f6 _ e') (by simp)
      · have e' : x.key.take (lcp x.key p) ++ [false] <+: p := e
        rw [f3] at e'; exact absurd (f6 _ e') (by simp)
      · rintro e w' ⟨b, rfl, hP, hb⟩
        exact ⟨b, rfl, by
          rw [kept_root, show kept ([] : List (Nd Int)) = [] from rfl, List.append_nil] at hP
          exact ⟨hP, bst hV hb⟩⟩
    | true =>
      have hr : RootI W V (n + 1) ⟨D, x.key.take (lcp x.key p), none⟩ none (some x.blk) [] (x :: (N0 ++ N1)) := ⟨⟨by unfold nodeC; rw [hcl]; exact hD, (fun t v e => by cases e), by show (x.key.take (lcp x.key p)).length ≤ W; rw [hcl]; omega⟩, fun y hy => absurd hy (by simp), hpre, Hang.nil _, hH⟩
      refine (with_node h1 h2 hp q t v V htV hqV hr hcp (fun _ _ => by simp) (fun e => ?_) (fun _ V' hV' => with_nil hp q t v V' (htV.below hV')) (fun e => ?_)).mono ?_
      · have e' : x.key.take (lcp x.key p) ++ [true] <+: p := e
        rw [f3] at e'; exact absurd (f6 _ e') (by simp)
      · have e' : x.key.take (lcp x.key p) ++ [true] <+: p := e
        rw [f3] at e'; exact absurd (f6 _ e') (by simp)
      · rintro e w' ⟨b, rfl, hP, hb⟩
        exact ⟨b, rfl, by rw [kept_root] at hP; exact ⟨hP, bst hV hb⟩⟩
  have HXB : Hid (∃ A3 A4 A5, Blk w x.blk #[.int .u64 (hiOf (valOf W x.key)), .int .u64 (loOf (valOf W x.key)), .int .i64 x.key.length, .pointer A3, .pointer A4, .pointer A5] 98) := ⟨_, _, _, hR.node.cells⟩
  have HB : Hid _ := one_new w #[.int .u64 (hiOf (valOf W p)), .int .u64 (loOf (valOf W p)), .int .i64 p.length] 51
  have hlq : q < w.heap.size := World.block_lt_of_cell? w _ hq
  have HQ : Hid (w.cell? ⟨q, 0, none⟩ = some (.int .i64 W)) := hq
  clear ht hx hq hR f2 f3 f4 f5 f6 hcl hf
  obtain ⟨A3, A4, A5, HXB⟩ := HXB.out
  have HXB : Hid (Blk w x.blk #[.int .u64 (hiOf (valOf W x.key)), .int .u64 (loOf (valOf W x.key)), .int .i64 x.key.length, .pointer A3, .pointer A4, .pointer A5] 98) := HXB
  generalize valOf W (x.key.take (lcp x.key p)) = cv at *
  generalize lcp x.key p = s at *
  generalize kept (x :: (N0 ++ N1)) = L at *
  go_enter Try.func56, Try.ntmps56
  go_upto_region 3 with fail
  generalize (w.alloc _) = w0 at HB ⊢
  have hlx := HXB.out.lt
  have xb := HXB.out.below HB.out.2.1
  have x0 := two_cells xb (i := 0) (v := .int .u64 (hiOf (valOf W x.key))) rfl
  have x1 := two_cells xb (i := 1) (v := .int .u64 (loOf (valOf W x.key))) rfl
  have x2 := two_cells xb (i := 2) (v := .int .i64 x.key.length) rfl
  have y0 := two_cells HB.out.1 (i := 0) (v := .int .u64 (hiOf (valOf W p))) rfl
  have y1 := two_cells HB.out.1 (i := 1) (v := .int .u64 (loOf (valOf W p))) rfl
  have y2 := two_cells HB.out.1 (i := 2) (v := .int .i64 p.length) rfl
  have z0 : ∀ z : Grown w0, (gw z).cell? ⟨q, 0, none⟩ = some (.int .i64 W) := gw_cell ((World.cell?_of_block (HB.out.2.1.block q hlq)).trans HQ.out)
  clear xb
  refine region_grows (by kernel_rfl) (by kernel_rfl) ?_
  repeat (go_big_quiet_step ((go_at_call 72; exact calls_gw (C72.out _))))
  refine wpQuiet_nil ?_
  intro wq hwq
  obtain ⟨zq, rfl⟩ := hwq
  have t1 : decide ((s : Int) < (x.key.length : Int)) = true := by simp; omega
  go_upto_region 5 with fail
  have HX2 : Hid (Blk (gw zq) x.blk #[.int .u64 (hiOf (valOf W x.key)), .int .u64 (loOf (valOf W x.key)), .int .i64 x.key.length, .pointer A3, .pointer A4, .pointer A5] 98 ∧ Blk (gw zq) w.heap.size #[.int .u64 (hiOf (valOf W p)), .int .u64 (loOf (valOf W p)), .int .i64 p.length] 51 ∧ Below w.heap.size w (gw zq)) := ⟨(HXB.out.below HB.out.2.1).below (gw_below zq), HB.out.1.below (gw_below zq), bst HB.out.2.1 (gw_below zq)⟩
  have q0 := z0 zq
  clear x0 x1 x2 y0 y1 y2 z0 t1 C72
  generalize gw zq = w2 at *
  have y0 := HX2.out.2.1.cell 0 (v := .int .u64 (hiOf (valOf W p))) rfl
  have y1 := HX2.out.2.1.cell 1 (v := .int .u64 (loOf (valOf W p))) rfl
  have hqz : Hid (w2.cell? ⟨q, 0, none⟩ = some (.int .i64 W)) := q0
  go_region_with ((go_at_call 66; refine (C66.out _).mono ?_; rintro e w3 ⟨rfl, hb3⟩))
  all_goals (
    have HF3 : Hid (Blk (w3.alloc (.cells #[.int .u64 (hiOf cv), .int .u64 (loOf cv), .int .i64 s, .pointer none, .pointer none, .pointer none] 98)) w3.heap.size #[.int .u64 (hiOf cv), .int .u64 (loOf cv), .int .i64 s, .pointer none, .pointer none, .pointer none] 98 ∧ Below w2.heap.size w2 (w3.alloc (.cells #[.int .u64 (hiOf cv), .int .u64 (loOf cv), .int .i64 s, .pointer none, .pointer none, .pointer none] 98)) ∧ w2.heap.size ≤ w3.heap.size) := ⟨Blk.new _ _ _, bst (⟨hb3.os, hb3.tape, hb3.output, hb3.size, hb3.block⟩ : Below w2.heap.size w2 w3) ((Below.refl _ _).alloc (Nat.le_refl _) _), hb3.size⟩
    clear hb3 C66 y0 y1 q0
    go_upto_region 6 with fail
    generalize (w3.alloc _) = w4 at HF3 ⊢
    generalize w3.heap.size = D at *
    have hD2 := HF3.out.2.2
    have lD := HF3.out.1.lt
    have lw := HX2.out.2.2.size
    have lA := HX2.out.2.1.lt
    have H4 : Hid (Blk w4 x.blk #[.int .u64 (hiOf (valOf W x.key)), .int .u64 (loOf (valOf W x.key)), .int .i64 x.key.length, .pointer A3, .pointer A4, .pointer A5] 98 ∧ Blk w4 w.heap.size #[.int .u64 (hiOf (valOf W p)), .int .u64 (loOf (valOf W p)), .int .i64 p.length] 51 ∧ Below w.heap.size w w4) := ⟨HX2.out.1.below HF3.out.2.1, HX2.out.2.1.below HF3.out.2.1, bst HX2.out.2.2 HF3.out.2.1⟩
    have x0 := H4.out.1.cell 0 (v := .int .u64 (hiOf (valOf W x.key))) rfl
    have x1 := H4.out.1.cell 1 (v := .int .u64 (loOf (valOf W x.key))) rfl
    have z0 : w4.cell? ⟨q, 0, none⟩ = some (.int .i64 W) := (World.cell?_of_block (H4.out.2.2.block q hlq)).trans HQ.out
    have C7 : Hid (∀ V, Below w4.heap.size w4 V → Calls Try.prog 69 #[B (valOf W x.key), .int .i64 W, .int .i64 s] V fun e w' => e = .returned (.int .i64 (if j then 1 else 0)) ∧ w'.cell? ⟨D, 4, none⟩ = some (.pointer none) ∧ w'.frozen? ⟨D, 4, none⟩ = false ∧ w'.cell? ⟨D, 5, none⟩ = some (.pointer none) ∧ w'.frozen? ⟨D, 5, none⟩ = false ∧ Hid (Below w4.heap.size w4 w')) := fun V hV => (C69.out V).mono (by
      rintro e w' ⟨rfl, hb⟩
      have hb' := bst hV hb
      have g := HF3.out.1.below hb'
      exact ⟨rfl, g.cell 4 rfl, g.frozen 4, g.cell 5 rfl, g.frozen 5, hb'⟩)
    clear C69
    cases j with
    | false =>
      go_region_with ((go_at_call 69; refine (C7.out _ (by exact ⟨rfl, rfl, rfl, Nat.le_refl _, fun _ _ => rfl⟩)).mono ?_; rintro e w5 ⟨rfl, d4, e4, d5, e5, H5⟩))
      all_goals (
        have HG : Hid (Blk (w5.setCell ⟨D, 4, none⟩ (.pointer (some ⟨x.blk, 0, none⟩))) D #[.int .u64 (hiOf cv), .int .u64 (loOf cv), .int .i64 s, .pointer none, .pointer (some ⟨x.blk, 0, none⟩), .pointer none] 98 ∧ Below w.heap.size w (w5.setCell ⟨D, 4, none⟩ (.pointer (some ⟨x.blk, 0, none⟩))) ∧ Blk (w5.setCell ⟨D, 4, none⟩ (.pointer (some ⟨x.blk, 0, none⟩))) w.heap.size #[.int .u64 (hiOf (valOf W p)), .int .u64 (loOf (valOf W p)), .int .i64 p.length] 51) := ⟨(HF3.out.1.below H5.out).set 4 _, (bst H4.out.2.2 H5.out).setCell (by show _ ≤ D; omega) _, (H4.out.2.1.below H5.out).kept (S := fun k => k = D) ((Kept.refl (fun k => k = D) w5).set (p := ⟨D, 4, none⟩) rfl _) (by show ¬ _ = _; omega)⟩
        have HCZ : Hid (Calls Try.prog 56 #[.pointer (some ⟨q, 0, none⟩), .pointer (some ⟨D, 0, none⟩), Pf (valOf W p) p.length, .pointer (some ⟨t, 0, none⟩)] (w5.setCell ⟨D, 4, none⟩ (.pointer (some ⟨x.blk, 0, none⟩))) fun e w' => ∃ b, e = .returned (.pointer (some ⟨b, 0, none⟩)) ∧ Hid (Put1 W w w' p v L b)) := CW.out _ D HG.out.2.1 HG.out.1
        clear CW C7 x0 x1 z0
        go_upto_region 7 with fail
        generalize w5.setCell _ _ = w6 at HG HCZ ⊢
        have y0 := HG.out.2.2.cell 0 (v := .int .u64 (hiOf (valOf W p))) rfl
        have y1 := HG.out.2.2.cell 1 (v := .int .u64 (loOf (valOf W p))) rfl
        have y2 := HG.out.2.2.cell 2 (v := .int .i64 p.length) rfl
        go_wp2_with fail
        refine HCZ.out.mono ?_
        rintro e w7 ⟨b, rfl, H7⟩
        go_wp2
        go_ret
        exact ⟨_, rfl, H7.out⟩)
    | true =>
      go_region_with ((go_at_call 69; refine (C7.out _ (by exact ⟨rfl, rfl, rfl, Nat.le_refl _, fun _ _ => rfl⟩)).mono ?_; rintro e w5 ⟨rfl, d4, e4, d5, e5, H5⟩))
      all_goals (
        have HG : Hid (Blk (w5.setCell ⟨D, 5, none⟩ (.pointer (some ⟨x.blk, 0, none⟩))) D #[.int .u64 (hiOf cv), .int .u64 (loOf cv), .int .i64 s, .pointer none, .pointer none, .pointer (some ⟨x.blk, 0, none⟩)] 98 ∧ Below w.heap.size w (w5.setCell ⟨D, 5, none⟩ (.pointer (some ⟨x.blk, 0, none⟩))) ∧ Blk (w5.setCell ⟨D, 5, none⟩ (.pointer (some ⟨x.blk, 0, none⟩))) w.heap.size #[.int .u64 (hiOf (valOf W p)), .int .u64 (loOf (valOf W p)), .int .i64 p.length] 51) := ⟨(HF3.out.1.below H5.out).set 5 _, (bst H4.out.2.2 H5.out).setCell (by show _ ≤ D; omega) _, (H4.out.2.1.below H5.out).kept (S := fun k => k = D) ((Kept.refl (fun k => k = D) w5).set (p := ⟨D, 5, none⟩) rfl _) (by show ¬ _ = _; omega)⟩
        have HCZ : Hid (Calls Try.prog 56 #[.pointer (some ⟨q, 0, none⟩), .pointer (some ⟨D, 0, none⟩), Pf (valOf W p) p.length, .pointer (some ⟨t, 0, none⟩)] (w5.setCell ⟨D, 5, none⟩ (.pointer (some ⟨x.blk, 0, none⟩))) fun e w' => ∃ b, e = .returned (.pointer (some ⟨b, 0, none⟩)) ∧ Hid (Put1 W w w' p v L b)) := CW.out _ D HG.out.2.1 HG.out.1
        clear CW C7 x0 x1 z0
        go_upto_region 7 with fail
        generalize w5.setCell _ _ = w6 at HG HCZ ⊢
        have y0 := HG.out.2.2.cell 0 (v := .int .u64 (hiOf (valOf W p))) rfl
        have y1 := HG.out.2.2.cell 1 (v := .int .u64 (loOf (valOf W p))) rfl
        have y2 := HG.out.2.2.cell 2 (v := .int .i64 p.length) rfl
        go_wp2_with fail
        refine HCZ.out.mono ?_
        rintro e w7 ⟨b, rfl, H7⟩
        go_wp2
        go_ret
        exact ⟨_, rfl, H7.out⟩))
theorem with_any {W : Nat} (h1 : 1 ≤ W) (h2 : W ≤ 128) {p : List Bool} (hp : p.length ≤ W) (q t : Nat) (v : Int) : ∀ (n : Nat) (w : World) (a : Option Nat) (N : List (Nd Int)), Blk w t #[encV v] 3 → w.cell? ⟨q, 0, none⟩ = some (.int .i64 W) → HangI W w n a N →
    Calls Try.prog 56 #[.pointer (some ⟨q, 0, none⟩), pt a, Pf (valOf W p) p.length, .pointer (some ⟨t, 0, none⟩)] w fun e w' => ∃ b, e = .returned (.pointer (some ⟨b, 0, none⟩)) ∧ Put1 W w w' p v (kept N) b
  | n, w, none, N, ht, hq, h => by
    rw [h.of_none]
    exact with_nil hp q t v w ht
  | 0, w, some b, N, ht, hq, h => by cases h.1
  | n + 1, w, some b, N, ht, hq, h => by
    obtain ⟨m, x, a0, a1, N0, N1, e, rfl, rfl, hR, hf⟩ := h.root
    have e' : n = m := by omega
    subst e'
    have hqV : ∀ V, Below w.heap.size w V → V.cell? ⟨q, 0, none⟩ = some (.int .i64 W) := fun V hV => (World.cell?_of_block (hV.block q (World.block_lt_of_cell? w _ hq))).trans hq
    by_cases hx : x.key <+: p
    · exact with_node h1 h2 hp q t v w ht hq hR hx (fun _ e => (hf e).2) (fun _ e => (hf e).1) (fun _ V hV => with_any h1 h2 hp q t v n V a0 N0 (ht.below hV) (hqV V hV) (hR.h0.below hV)) (fun _ V hV => with_any h1 h2 hp q t v n V a1 N1 (ht.below hV) (hqV V hV) (hR.h1.below hV))
    · exact with_above h1 h2 hp q t v w ht hq hR hf hx
end Go.Proofs.Ytgdpplipahhffaa
