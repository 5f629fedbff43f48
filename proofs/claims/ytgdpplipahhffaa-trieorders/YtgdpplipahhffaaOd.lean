/- Package trie: Set. -/
import Derived.Test.YtgdpplipahhffaaOc
namespace Go.Proofs.Ytgdpplipahhffaa
open Go.RowKit
set_option linter.unusedVariables false
set_option linter.unusedSimpArgs false

section
variable {w : World} {q W most : Nat} {a : Option Nat} {n : Nat} {N : List (Nd Int)}
set_option maxHeartbeats 2000000 in
theorem set_bad (hT : TrieAt w q W most a n N) (v : Nat) (hv : Is128 v) (l u : Int) (hP : isP W v l = false) :
    Calls Try.prog 38 #[.pointer (some ⟨q, 0, none⟩), Pf v l, .int .i64 u] w fun e w' => e = .returned (.int .i64 111) ∧ Below w.heap.size w w' := by
  obtain ⟨h1, h2⟩ := hT.wd
  have C49 : Hid (∀ w1, Calls Try.prog 49 #[Pf v l, .int .i64 W] w1 fun e w' => e = .returned (.bool false) ∧ Below w1.heap.size w1 w') := fun w1 => by rw [← hP]; exact isPrefix_any v hv l W h1 h2 w1
  have HB := two_new' w #[.int .u64 (hiOf v), .int .u64 (loOf v), .int .i64 l] #[.int .i64 u] 51 3
  have hlq : q < w.heap.size := hT.hd.lt
  have HQ : Hid (w.cell? ⟨q, 0, none⟩ = some (.int .i64 W)) := hT.hd.cell 0 rfl
  clear hT hP
  go_enter Try.func38, Try.ntmps38
  go_upto_region 3 with fail
  generalize ((w.alloc _).alloc _) = w0 at HB ⊢
  have lA := HB.out.2.2.2
  have x0 := two_cells HB.out.1 (i := 0) (v := .int .u64 (hiOf v)) rfl
  have x1 := two_cells HB.out.1 (i := 1) (v := .int .u64 (loOf v)) rfl
  have x2 := two_cells HB.out.1 (i := 2) (v := .int .i64 l) rfl
  have z0 : ∀ z : Grown w0, (gw z).cell? ⟨q, 0, none⟩ = some (.int .i64 W) := gw_cell ((World.cell?_of_block (HB.out.2.2.1.block q hlq)).trans HQ.out)
  refine region_grows (by kernel_rfl) (by kernel_rfl) ?_
  repeat (go_big_quiet_step ((go_at_call 49; exact calls_gw (C49.out _))))
  refine wpQuiet_nil ?_
  intro wq hwq
  obtain ⟨zq, rfl⟩ := hwq
  have HF : Hid (Below w.heap.size w (gw zq)) := bst HB.out.2.2.1 (gw_below zq)
  clear x0 x1 x2 z0 HB C49
  go_wp2
  go_ret
  exact ⟨rfl, HF.out⟩
set_option maxHeartbeats 2000000 in
theorem set_absent (hT : TrieAt w q W most a n N) {p : List Bool} (hp : p.length ≤ W) (u : Int) (hl : look p (kept N) = none) :
    Calls Try.prog 38 #[.pointer (some ⟨q, 0, none⟩), Pf (valOf W p) p.length, .int .i64 u] w fun e w' => e = .returned (.int .i64 122) ∧ Below w.heap.size w w' := by
  obtain ⟨h1, h2⟩ := hT.wd
  have C49 : Hid (∀ w1, Calls Try.prog 49 #[Pf (valOf W p) p.length, .int .i64 W] w1 fun e w' => e = .returned (.bool true) ∧ Below w1.heap.size w1 w') := fun w1 => by
    have := isPrefix_any (valOf W p) (val_is h2 hp) p.length W h1 h2 w1
    rw [isP_mk hp] at this; exact this
  have C55 : Hid (∀ w1, Below w.heap.size w w1 → Calls Try.prog 55 #[.pointer (some ⟨q, 0, none⟩), Pf (valOf W p) p.length] w1 fun e w' => e = .returned (thP (thAt p N)) ∧ Hid (Below w1.heap.size w1 w')) := fun w1 h => kept_yes (hT.below h) hp
  have HT : Hid (TrieAt w q W most a n N) := hT
  have HL : Hid ((thAt p N).map (·.2) = look p (kept N)) := thAt_look hT.hang.srtN p
  have HB := two_new' w #[.int .u64 (hiOf (valOf W p)), .int .u64 (loOf (valOf W p)), .int .i64 p.length] #[.int .i64 u] 51 3
  have hlq : q < w.heap.size := hT.hd.lt
  have HQ : Hid (w.cell? ⟨q, 0, none⟩ = some (.int .i64 W)) := hT.hd.cell 0 rfl
  have HP : Hid (p.length ≤ W) := hp
  have ht : thAt p N = none := by
    have := HL.out; rw [hl] at this
    cases h : thAt p N with
    | none => rfl
    | some t => rw [h] at this; cases this
  rw [ht] at C55
  have C55 : Hid (∀ w1, Below w.heap.size w w1 → Calls Try.prog 55 #[.pointer (some ⟨q, 0, none⟩), Pf (valOf W p) p.length] w1 fun e w' => e = .returned (.pointer none) ∧ Hid (Below w1.heap.size w1 w')) := C55
  clear hT hl HL ht HT
  go_enter Try.func38, Try.ntmps38
  go_upto_region 3 with fail
  generalize ((w.alloc _).alloc _) = w0 at HB ⊢
  generalize hA : w.heap.size + 1 = A1 at *
  have lA := HB.out.2.2.2
  have x0 := two_cells HB.out.1 (i := 0) (v := .int .u64 (hiOf (valOf W p))) rfl
  have x1 := two_cells HB.out.1 (i := 1) (v := .int .u64 (loOf (valOf W p))) rfl
  have x2 := two_cells HB.out.1 (i := 2) (v := .int .i64 p.length) rfl
  have z0 : ∀ z : Grown w0, (gw z).cell? ⟨q, 0, none⟩ = some (.int .i64 W) := gw_cell ((World.cell?_of_block (HB.out.2.2.1.block q hlq)).trans HQ.out)
  refine region_grows (by kernel_rfl) (by kernel_rfl) ?_
  repeat (go_big_quiet_step ((go_at_call 49; exact calls_gw (C49.out _))))
  refine wpQuiet_nil ?_
  intro wq hwq
  obtain ⟨zq, rfl⟩ := hwq
  have HC : Hid (Below w.heap.size w (gw zq) ∧ Blk (gw zq) w.heap.size #[.int .u64 (hiOf (valOf W p)), .int .u64 (loOf (valOf W p)), .int .i64 p.length] 51 ∧ Blk (gw zq) A1 #[.int .i64 u] 3) := ⟨bst HB.out.2.2.1 (gw_below zq), HB.out.1.below (gw_below zq), HB.out.2.1.below (gw_below zq)⟩
  clear x0 x1 x2 z0 HB C49
  generalize gw zq = w2 at *
  have y0 := HC.out.2.1.cell 0 (v := .int .u64 (hiOf (valOf W p))) rfl
  have y1 := HC.out.2.1.cell 1 (v := .int .u64 (loOf (valOf W p))) rfl
  have y2 := HC.out.2.1.cell 2 (v := .int .i64 p.length) rfl
  go_wp2_with fail
  refine (C55.out _ HC.out.1).mono ?_
  rintro e w3 ⟨rfl, H3⟩
  clear y0 y1 y2 C55
  have HD : Hid (Below w.heap.size w w3 ∧ Blk w3 w.heap.size #[.int .u64 (hiOf (valOf W p)), .int .u64 (loOf (valOf W p)), .int .i64 p.length] 51 ∧ Blk w3 A1 #[.int .i64 u] 3) := ⟨bst HC.out.1 H3.out, HC.out.2.1.below H3.out, HC.out.2.2.below H3.out⟩
  clear H3 HC
  go_wp2
  go_ret
  exact ⟨rfl, HD.out.1⟩
set_option maxHeartbeats 2000000 in
theorem set_ok (hT : TrieAt w q W most a n N) {p : List Bool} (hp : p.length ≤ W) (u : Int) (hl : look p (kept N) ≠ none) :
    Calls Try.prog 38 #[.pointer (some ⟨q, 0, none⟩), Pf (valOf W p) p.length, .int .i64 u] w fun e w' => e = .returned (.int .i64 0) ∧ ∃ a' n' N', TrieAt w' q W most a' n' N' ∧ kept N' = upd p u (kept N) ∧ Kept (fun k => k = q) w w' := by
  obtain ⟨h1, h2⟩ := hT.wd
  have C49 : Hid (∀ w1, Calls Try.prog 49 #[Pf (valOf W p) p.length, .int .i64 W] w1 fun e w' => e = .returned (.bool true) ∧ Below w1.heap.size w1 w') := fun w1 => by
    have := isPrefix_any (valOf W p) (val_is h2 hp) p.length W h1 h2 w1
    rw [isP_mk hp] at this; exact this
  have C55 : Hid (∀ w1, Below w.heap.size w w1 → Calls Try.prog 55 #[.pointer (some ⟨q, 0, none⟩), Pf (valOf W p) p.length] w1 fun e w' => e = .returned (thP (thAt p N)) ∧ Hid (Below w1.heap.size w1 w')) := fun w1 h => kept_yes (hT.below h) hp
  have HT : Hid (TrieAt w q W most a n N) := hT
  have HL : Hid ((thAt p N).map (·.2) = look p (kept N)) := thAt_look hT.hang.srtN p
  have HB := two_new' w #[.int .u64 (hiOf (valOf W p)), .int .u64 (loOf (valOf W p)), .int .i64 p.length] #[.int .i64 u] 51 3
  have hlq : q < w.heap.size := hT.hd.lt
  have HQ : Hid (w.cell? ⟨q, 0, none⟩ = some (.int .i64 W)) := hT.hd.cell 0 rfl
  have HP : Hid (p.length ≤ W) := hp
  have hlen : (upd p u (kept N)).length = (kept N).length := by
    rw [len_upd hT.hang.srt]
    cases e : look p (kept N) with
    | none => exact absurd e hl
    | some x => rfl
  have HLN : Hid ((upd p u (kept N)).length = (kept N).length) := hlen
  obtain ⟨A, hA9⟩ : ∃ A : Option Addr, A = a.map fun b => ⟨b, 0, none⟩ := ⟨_, rfl⟩
  have C56 : Hid (∀ w1 t, Below w.heap.size w w1 → Blk w1 t #[.int .i64 u] 3 → Calls Try.prog 56 #[.pointer (some ⟨q, 0, none⟩), .pointer A, Pf (valOf W p) p.length, .pointer (some ⟨t, 0, none⟩)] w1 fun e w' => ∃ b, e = .returned (.pointer (some ⟨b, 0, none⟩)) ∧ Hid (Put1 W w1 w' p u (kept N) b)) := fun w1 t hb ht => by
    rw [hA9]
    exact with_any h1 h2 hp q t u n w1 a N ht ((hT.hd.below hb).cell 0 rfl) (hT.hang.below hb)
  have HH : Hid (Blk w q #[.int .i64 W, .int .i64 most, .int .i64 (kept N).length, .pointer A] 84) := by rw [hA9]; exact hT.hd
  have hmost : (kept N).length ≤ most := hT.most.1
  obtain ⟨r, hr⟩ : ∃ r, r = thAt p N := ⟨_, rfl⟩
  rw [← hr] at C55 HL
  cases r with
  | none => have := HL.out; rw [← this] at hl; exact absurd rfl hl
  | some t =>
  obtain ⟨t, v⟩ := t
  have C55 : Hid (∀ w1, Below w.heap.size w w1 → Calls Try.prog 55 #[.pointer (some ⟨q, 0, none⟩), Pf (valOf W p) p.length] w1 fun e w' => e = .returned (.pointer (some ⟨t, 0, none⟩)) ∧ Hid (Below w1.heap.size w1 w')) := C55
  clear hT hl HL hr hA9 hlen
  generalize hLL : (kept N).length = LL at *
  have HLL : Hid ((kept N).length = LL) := hLL
  clear hLL
  go_enter Try.func38, Try.ntmps38
  go_upto_region 3 with fail
  generalize ((w.alloc _).alloc _) = w0 at HB ⊢
  generalize hA : w.heap.size + 1 = A1 at *
  have lA := HB.out.2.2.2
  have x0 := two_cells HB.out.1 (i := 0) (v := .int .u64 (hiOf (valOf W p))) rfl
  have x1 := two_cells HB.out.1 (i := 1) (v := .int .u64 (loOf (valOf W p))) rfl
  have x2 := two_cells HB.out.1 (i := 2) (v := .int .i64 p.length) rfl
  have z0 : ∀ z : Grown w0, (gw z).cell? ⟨q, 0, none⟩ = some (.int .i64 W) := gw_cell ((World.cell?_of_block (HB.out.2.2.1.block q hlq)).trans HQ.out)
  refine region_grows (by kernel_rfl) (by kernel_rfl) ?_
  repeat (go_big_quiet_step ((go_at_call 49; exact calls_gw (C49.out _))))
  refine wpQuiet_nil ?_
  intro wq hwq
  obtain ⟨zq, rfl⟩ := hwq
  have HC : Hid (Below w.heap.size w (gw zq) ∧ Blk (gw zq) w.heap.size #[.int .u64 (hiOf (valOf W p)), .int .u64 (loOf (valOf W p)), .int .i64 p.length] 51 ∧ Blk (gw zq) A1 #[.int .i64 u] 3) := ⟨bst HB.out.2.2.1 (gw_below zq), HB.out.1.below (gw_below zq), HB.out.2.1.below (gw_below zq)⟩
  clear x0 x1 x2 z0 HB C49
  generalize gw zq = w2 at *
  have y0 := HC.out.2.1.cell 0 (v := .int .u64 (hiOf (valOf W p))) rfl
  have y1 := HC.out.2.1.cell 1 (v := .int .u64 (loOf (valOf W p))) rfl
  have y2 := HC.out.2.1.cell 2 (v := .int .i64 p.length) rfl
  go_wp2_with fail
  refine (C55.out _ HC.out.1).mono ?_
  rintro e w3 ⟨rfl, H3⟩
  clear y0 y1 y2 C55
  have HD : Hid (Below w.heap.size w w3 ∧ Blk w3 w.heap.size #[.int .u64 (hiOf (valOf W p)), .int .u64 (loOf (valOf W p)), .int .i64 p.length] 51 ∧ Blk w3 A1 #[.int .i64 u] 3) := ⟨bst HC.out.1 H3.out, HC.out.2.1.below H3.out, HC.out.2.2.below H3.out⟩
  clear H3 HC
  have HE : Hid (Below w.heap.size w w3 ∧ Blk w3 w.heap.size #[.int .u64 (hiOf (valOf W p)), .int .u64 (loOf (valOf W p)), .int .i64 p.length] 51 ∧ Blk w3 A1 #[.int .i64 u] 3) := HD.out
  clear HD
  go_upto_region 7 with fail
  generalize w3 = w4 at *
  have y0 := HE.out.2.1.cell 0 (v := .int .u64 (hiOf (valOf W p))) rfl
  have y1 := HE.out.2.1.cell 1 (v := .int .u64 (loOf (valOf W p))) rfl
  have y2 := HE.out.2.1.cell 2 (v := .int .i64 p.length) rfl
  have q3 : w4.cell? ⟨q, 3, none⟩ = some (.pointer A) := (HH.out.below HE.out.1).cell 3 rfl
  have CC : Hid (∀ V, Below w4.heap.size w4 V → Calls Try.prog 56 #[.pointer (some ⟨q, 0, none⟩), .pointer A, Pf (valOf W p) p.length, .pointer (some ⟨A1, 0, none⟩)] V fun e w' => ∃ b, e = .returned (.pointer (some ⟨b, 0, none⟩)) ∧ w'.cell? ⟨q, 3, none⟩ = some (.pointer A) ∧ w'.frozen? ⟨q, 3, none⟩ = false ∧ Hid (Blk w' q #[.int .i64 W, .int .i64 most, .int .i64 LL, .pointer A] 84 ∧ Below w.heap.size w w' ∧ ∃ n N', HangI W w' n (some b) N' ∧ kept N' = upd p u (kept N))) := fun V hV => (C56.out V A1 (bst HE.out.1 hV) (HE.out.2.2.below hV)).mono (by
    rintro e w' ⟨b, rfl, hP⟩
    have hb := bst (bst HE.out.1 hV) hP.out.2
    have g := HH.out.below hb
    exact ⟨b, rfl, g.cell 3 rfl, g.frozen 3, (⟨g, hb, hP.out.1⟩ : _ ∧ _)⟩)
  clear C56
  skip
  go_region_with ((go_at_call 56; refine (CC.out _ (by exact ⟨rfl, rfl, rfl, Nat.le_refl _, fun _ _ => rfl⟩)).mono ?_; rintro e w5 ⟨b, rfl, d3, e3, H5⟩))
  all_goals (
    have hks : Kept (fun k => k = q) w5 (w5.setCell ⟨q, 3, none⟩ (.pointer (some ⟨b, 0, none⟩))) := (Kept.refl (fun k => k = q) w5).set (p := ⟨q, 3, none⟩) rfl _
    have HF : Hid (∃ a' n' N', TrieAt (w5.setCell ⟨q, 3, none⟩ (.pointer (some ⟨b, 0, none⟩))) q W most a' n' N' ∧ kept N' = upd p u (kept N) ∧ Kept (fun k => k = q) w (w5.setCell ⟨q, 3, none⟩ (.pointer (some ⟨b, 0, none⟩)))) := by
      obtain ⟨g1, g2, n', N', g3, g4⟩ := H5.out
      have hl2 : (kept N').length = LL := by rw [g4]; exact HLN.out
      refine ⟨some b, n', N', HT.out.over ?_ (g3.keptW hks (g3.off_head g1)) (by rw [hl2]; exact hmost), g4, (Kept.of_below g2).trans hks⟩
      rw [hl2]
      exact g1.set 3 _
    clear H5 hks CC y0 y1 y2 q3 d3 e3
    go_wp2
    go_ret
    exact ⟨rfl, HF.out⟩)
end
end Go.Proofs.Ytgdpplipahhffaa
