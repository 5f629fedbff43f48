/- Package trie: New, Len, Copy, Clear, Get; and what a nil trie answers. Package trie: Put, Set, Drop. Package trie: Set. Package trie: Drop. -/
import Derived.Test.YtgdpplipahhffaaKp
import Derived.Test.YtgdpplipahhffaaWj
import Derived.Test.YtgdpplipahhffaaXa
namespace Go.Proofs.Ytgdpplipahhffaa
open Go.RowKit
set_option linter.unusedVariables false
set_option linter.unusedSimpArgs false

set_option maxHeartbeats 1000000 in
theorem new_ok (W most : Nat) (h1 : 1 ≤ W) (h2 : W ≤ 128) (h3 : 1 ≤ most) (h4 : most ≤ 4096) (w : World) : Calls Try.prog 10 #[.int .i64 W, .int .i64 most] w fun e w' => e = .returned (.tuple #[.pointer (some ⟨w.heap.size, 0, none⟩), .int .i64 0]) ∧ TrieAt w' w.heap.size W most none 0 [] ∧ Below w.heap.size w w' := by
  have HF : Hid (TrieAt (w.alloc (.cells #[.int .i64 W, .int .i64 most, .int .i64 0, .pointer none] 84)) w.heap.size W most none 0 [] ∧ Below w.heap.size w (w.alloc (.cells #[.int .i64 W, .int .i64 most, .int .i64 0, .pointer none] 84))) := ⟨⟨Blk.new w _ 84, Hang.nil 0, ⟨h1, h2⟩, Nat.zero_le _, h3, h4⟩, (Below.refl _ _).alloc (Nat.le_refl _) _⟩
  have d1 : ¬ (W : Int) < 1 := by omega
  have d2 : ¬ (128 : Int) < W := by omega
  have d3 : ¬ (most : Int) < 1 := by omega
  have d4 : ¬ (4096 : Int) < most := by omega
  go_enter Try.func10, Try.ntmps10
  go_wp2
  go_ret2
  exact ⟨rfl, HF.out⟩
set_option maxHeartbeats 1000000 in
theorem new_bad (W most : Int) (h : W < 1 ∨ 128 < W ∨ most < 1 ∨ 4096 < most) (w : World) : Calls Try.prog 10 #[.int .i64 W, .int .i64 most] w fun e w' => e = .returned (.tuple #[.pointer none, .int .i64 1]) ∧ w' = w := by
  by_cases d1 : W < 1
  · go_enter Try.func10, Try.ntmps10
    go_wp2
    go_ret2
    exact ⟨rfl, rfl⟩
  by_cases d2 : 128 < W
  · go_enter Try.func10, Try.ntmps10
    go_wp2
    go_ret2
    exact ⟨rfl, rfl⟩
  by_cases d3 : most < 1
  · go_enter Try.func10, Try.ntmps10
    go_wp2
    go_ret2
    exact ⟨rfl, rfl⟩
  have d4 : 4096 < most := by omega
  go_enter Try.func10, Try.ntmps10
  go_wp2
  go_ret2
  exact ⟨rfl, rfl⟩
section
variable {w : World} {q W most : Nat} {a : Option Nat} {n : Nat} {N : List (Nd Int)}
theorem len_any (h : TrieAt w q W most a n N) : Calls Try.prog 37 #[.pointer (some ⟨q, 0, none⟩)] w fun e w' => e = .returned (.int .i64 (kept N).length) ∧ w' = w := by
  have c2 := h.hd.cell 2 (v := .int .i64 (kept N).length) rfl
  clear h
  go_enter Try.func37, Try.ntmps37
  go_wp2
  go_ret
  exact ⟨rfl, rfl⟩
theorem copy_any (h : TrieAt w q W most a n N) : Calls Try.prog 15 #[.pointer (some ⟨q, 0, none⟩)] w fun e w' => e = .returned (.pointer (some ⟨w.heap.size, 0, none⟩)) ∧ TrieAt w' w.heap.size W most a n N ∧ Below w.heap.size w w' := by
  obtain ⟨A, hA⟩ : ∃ A : Option Addr, A = a.map fun b => ⟨b, 0, none⟩ := ⟨_, rfl⟩
  have hb : Below w.heap.size w (w.alloc (.cells #[.int .i64 W, .int .i64 most, .int .i64 (kept N).length, .pointer A] 84)) := (Below.refl _ _).alloc (Nat.le_refl _) _
  have HF : Hid (TrieAt (w.alloc (.cells #[.int .i64 W, .int .i64 most, .int .i64 (kept N).length, .pointer A] 84)) w.heap.size W most a n N ∧ Below w.heap.size w (w.alloc (.cells #[.int .i64 W, .int .i64 most, .int .i64 (kept N).length, .pointer A] 84))) := ⟨⟨by rw [hA]; exact Blk.new w _ 84, h.hang.below hb, h.wd, h.most⟩, hb⟩
  have hd : Blk w q #[.int .i64 W, .int .i64 most, .int .i64 (kept N).length, .pointer A] 84 := by rw [hA]; exact h.hd
  have c0 := hd.cell 0 (v := .int .i64 W) rfl
  have c1 := hd.cell 1 (v := .int .i64 most) rfl
  have c2 := hd.cell 2 (v := .int .i64 (kept N).length) rfl
  have c3 := hd.cell 3 (v := .pointer A) rfl
  clear h hd hb hA
  go_enter Try.func15, Try.ntmps15
  go_wp2
  go_ret
  exact ⟨rfl, HF.out⟩
/-- A trie written over at its head. -/
theorem TrieAt.over {w' : World} {a' : Option Nat} {n' : Nat} {N' : List (Nd Int)} (h : TrieAt w q W most a n N) (hd : Blk w' q #[.int .i64 W, .int .i64 most, .int .i64 (kept N').length, pt a'] 84) (hh : HangI W w' n' a' N') (hm : (kept N').length ≤ most) : TrieAt w' q W most a' n' N' := ⟨hd, hh, h.wd, hm, h.most.2⟩
/-- The head is none of its nodes. -/
theorem Hang.off_head {w : World} {n : Nat} {a : Option Nat} {N : List (Nd Int)} (h : HangI W w n a N) {cs : Array Value} (hq : Blk w q cs 84) : Off (fun k => k = q) N := fun x hx => by
  obtain ⟨b0, b1, hn⟩ := h.thing x hx
  refine ⟨fun e => ?_, fun t v e1 e2 => ?_⟩
  · have h1 := hn.cells
    rw [show x.blk = q from e] at h1
    have h2 := h1.symm.trans hq
    simp at h2
  · have h1 := hn.thing t v e1
    rw [show t = q from e2] at h1
    have h2 := h1.symm.trans hq
    simp at h2
theorem clear_any (h : TrieAt w q W most a n N) : Calls Try.prog 14 #[.pointer (some ⟨q, 0, none⟩)] w fun e w' => e = .returned (.tuple #[]) ∧ TrieAt w' q W most none 0 [] ∧ Kept (fun k => k = q) w w' := by
  obtain ⟨A, hA⟩ : ∃ A : Option Addr, A = a.map fun b => ⟨b, 0, none⟩ := ⟨_, rfl⟩
  have hd : Blk w q #[.int .i64 W, .int .i64 most, .int .i64 (kept N).length, .pointer A] 84 := by rw [hA]; exact h.hd
  have HF : Hid (TrieAt ((w.setCell ⟨q, 3, none⟩ (.pointer none)).setCell ⟨q, 2, none⟩ (.int .i64 0)) q W most none 0 [] ∧ Kept (fun k => k = q) w ((w.setCell ⟨q, 3, none⟩ (.pointer none)).setCell ⟨q, 2, none⟩ (.int .i64 0))) := ⟨⟨(hd.set 3 (.pointer none)).set 2 (.int .i64 0), Hang.nil 0, h.wd, Nat.zero_le _, h.most.2⟩, ((Kept.refl (fun k => k = q) w).set (p := ⟨q, 3, none⟩) rfl _).set (p := ⟨q, 2, none⟩) rfl _⟩
  have c2 := hd.cell 2 (v := .int .i64 (kept N).length) rfl
  have c3 := hd.cell 3 (v := .pointer A) rfl
  have f2 := hd.frozen 2
  have f3 := hd.frozen 3
  clear h hd hA
  go_enter Try.func14, Try.ntmps14
  go_wp2
  go_end0
  exact ⟨rfl, HF.out⟩
def okI (o : Option Int) : Value := .tuple #[.int .i64 (o.getD 0), .bool o.isSome]
theorem get_yes (hT : TrieAt w q W most a n N) {p : List Bool} (hp : p.length ≤ W) : Calls Try.prog 28 #[.pointer (some ⟨q, 0, none⟩), Pf (valOf W p) p.length] w fun e w' => e = .returned (okI (look p (kept N))) ∧ Below w.heap.size w w' := by
  have HL : Hid ((thAt p N).map (·.2) = look p (kept N)) := thAt_look hT.hang.srtN p
  have HB : Hid _ := one_new w #[.int .u64 (hiOf (valOf W p)), .int .u64 (loOf (valOf W p)), .int .i64 p.length] 51
  have C : Hid (∀ w1, Below w.heap.size w w1 → Calls Try.prog 55 #[.pointer (some ⟨q, 0, none⟩), Pf (valOf W p) p.length] w1 fun e w' => e = .returned (thP (thAt p N)) ∧ Hid (Below w1.heap.size w1 w')) := fun w1 h => kept_yes (hT.below h) hp
  have HT : Hid (∀ t v, thAt p N = some (t, v) → ∀ w1, Below w.heap.size w w1 → Blk w1 t #[encV v] 3) := fun t v e w1 h => (hT.hang.below h).th_at e
  clear hT
  obtain ⟨r, hr⟩ : ∃ r, r = look p (kept N) := ⟨_, rfl⟩
  rw [← hr] at HL ⊢
  obtain ⟨o, ho⟩ : ∃ o, o = thAt p N := ⟨_, rfl⟩
  rw [← ho] at HL C HT
  clear hr ho
  cases o with
  | none =>
    have hl : r = none := by rw [← HL.out]; rfl
    subst hl
    have C' : Hid (∀ w1, Below w.heap.size w w1 → Calls Try.prog 55 #[.pointer (some ⟨q, 0, none⟩), Pf (valOf W p) p.length] w1 fun e w' => e = .returned (.pointer none) ∧ Hid (Below w1.heap.size w1 w')) := C
    clear HL HT C
    go_enter Try.func28, Try.ntmps28
    go_wp2_with fail
    refine (C'.out _ HB.out.2.1).mono ?_
    rintro e w2 ⟨rfl, H2⟩
    have HC : Hid (Below w.heap.size w w2) := bst HB.out.2.1 H2.out
    clear H2 C' HB
    go_wp2
    go_ret2
    exact ⟨rfl, HC.out⟩
  | some t =>
    obtain ⟨t, v⟩ := t
    have hl : r = some v := by rw [← HL.out]; rfl
    subst hl
    have C' : Hid (∀ w1, Below w.heap.size w w1 → Calls Try.prog 55 #[.pointer (some ⟨q, 0, none⟩), Pf (valOf W p) p.length] w1 fun e w' => e = .returned (.pointer (some ⟨t, 0, none⟩)) ∧ Hid (Below w1.heap.size w1 w')) := C
    clear HL C
    go_enter Try.func28, Try.ntmps28
    go_wp2_with fail
    refine (C'.out _ HB.out.2.1).mono ?_
    rintro e w2 ⟨rfl, H2⟩
    have HC : Hid (Below w.heap.size w w2) := bst HB.out.2.1 H2.out
    have c0 := (HT.out t v rfl w2 HC.out).cell 0 (v := .int .i64 v) rfl
    clear H2 C' HB HT
    go_wp2
    go_ret2
    exact ⟨rfl, HC.out⟩
end
theorem get_no {W : Nat} (h1 : 1 ≤ W) (h2 : W ≤ 128) (q : Nat) (v : Nat) (hv : Is128 v) (l : Int) (hP : isP W v l = false) (w : World) (hq : w.cell? ⟨q, 0, none⟩ = some (.int .i64 W)) :
    Calls Try.prog 28 #[.pointer (some ⟨q, 0, none⟩), Pf v l] w fun e w' => e = .returned (okI none) ∧ Below w.heap.size w w' := by
  have HB : Hid _ := one_new w #[.int .u64 (hiOf v), .int .u64 (loOf v), .int .i64 l] 51
  have C : Hid (∀ w1, Below w.heap.size w w1 → Calls Try.prog 55 #[.pointer (some ⟨q, 0, none⟩), Pf v l] w1 fun e w' => e = .returned (.pointer none) ∧ Hid (Below w1.heap.size w1 w')) := fun w1 h => kept_no h1 h2 q v hv l hP w1 ((World.cell?_of_block (h.block q (World.block_lt_of_cell? w _ hq))).trans hq)
  clear hP hq
  go_enter Try.func28, Try.ntmps28
  go_wp2_with fail
  refine (C.out _ HB.out.2.1).mono ?_
  rintro e w2 ⟨rfl, H2⟩
  have HC : Hid (Below w.heap.size w w2) := bst HB.out.2.1 H2.out
  clear H2 C HB
  go_wp2
  go_ret2
  exact ⟨rfl, HC.out⟩
end Go.Proofs.Ytgdpplipahhffaa
namespace Go.Proofs.Ytgdpplipahhffaa
open Go.RowKit
set_option linter.unusedVariables false
set_option linter.unusedSimpArgs false

section
variable {w : World} {q W most : Nat} {a : Option Nat} {n : Nat} {N : List (Nd Int)}
set_option maxHeartbeats 2000000 in
theorem put_bad (hT : TrieAt w q W most a n N) (v : Nat) (hv : Is128 v) (l u : Int) (hP : isP W v l = false) :
    Calls Try.prog 24 #[.pointer (some ⟨q, 0, none⟩), Pf v l, .int .i64 u] w fun e w' => e = .returned (.int .i64 111) ∧ Below w.heap.size w w' := by
  obtain ⟨h1, h2⟩ := hT.wd
  have C49 : Hid (∀ w1, Calls Try.prog 49 #[Pf v l, .int .i64 W] w1 fun e w' => e = .returned (.bool false) ∧ Below w1.heap.size w1 w') := fun w1 => by rw [← hP]; exact isPrefix_any v hv l W h1 h2 w1
  have HB := two_new' w #[.int .u64 (hiOf v), .int .u64 (loOf v), .int .i64 l] #[.int .i64 u] 51 3
  have hlq : q < w.heap.size := hT.hd.lt
  have HQ : Hid (w.cell? ⟨q, 0, none⟩ = some (.int .i64 W)) := hT.hd.cell 0 rfl
  clear hT hP
  go_enter Try.func24, Try.ntmps24
  go_upto_region 3 with fail
  generalize ((w.alloc _).alloc _) = w0 at HB ⊢
  have lA := HB.out.2.2.2
  have x0 := two_cells HB.out.1 (i := 0) (v := .int .u64 (hiOf v)) rfl
  have x1 := two_cells HB.out.1 (i := 1) (v := .int .u64 (loOf v)) rfl
  have x2 := two_cells HB.out.1 (i := 2) (v := .int .i64 l) rfl
  have z0 : ∀ z : Grown w0, (gw z).cell? ⟨q, 0, none⟩ = some (.int .i64 W) := gw_cell ((World.cell?_of_block (HB.out.2.2.1.block q hlq)).trans HQ.out)
  refine region_grows (by kernel_rfl) (by kernel_rfl) ?_
  repeat (go_big_quiet_step ((go_at_call 49; exact calls_gw (C49.out _))))
  refine wpQuiet_nil ?_
  intro wq hwq
  obtain ⟨zq, rfl⟩ := hwq
  have HF : Hid (Below w.heap.size w (gw zq)) := bst HB.out.2.2.1 (gw_below zq)
  clear x0 x1 x2 z0 HB C49
  go_wp2
  go_ret
  exact ⟨rfl, HF.out⟩
set_option maxHeartbeats 2000000 in
theorem put_dup (hT : TrieAt w q W most a n N) {p : List Bool} (hp : p.length ≤ W) (u : Int) (hl : look p (kept N) ≠ none) :
    Calls Try.prog 24 #[.pointer (some ⟨q, 0, none⟩), Pf (valOf W p) p.length, .int .i64 u] w fun e w' => e = .returned (.int .i64 121) ∧ Below w.heap.size w w' := by
  obtain ⟨h1, h2⟩ := hT.wd
  have C49 : Hid (∀ w1, Calls Try.prog 49 #[Pf (valOf W p) p.length, .int .i64 W] w1 fun e w' => e = .returned (.bool true) ∧ Below w1.heap.size w1 w') := fun w1 => by
    have := isPrefix_any (valOf W p) (val_is h2 hp) p.length W h1 h2 w1
    rw [isP_mk hp] at this; exact this
  have C55 : Hid (∀ w1, Below w.heap.size w w1 → Calls Try.prog 55 #[.pointer (some ⟨q, 0, none⟩), Pf (valOf W p) p.length] w1 fun e w' => e = .returned (thP (thAt p N)) ∧ Hid (Below w1.heap.size w1 w')) := fun w1 h => kept_yes (hT.below h) hp
  have HT : Hid (TrieAt w q W most a n N) := hT
  have HL : Hid ((thAt p N).map (·.2) = look p (kept N)) := thAt_look hT.hang.srtN p
  have HB := two_new' w #[.int .u64 (hiOf (valOf W p)), .int .u64 (loOf (valOf W p)), .int .i64 p.length] #[.int .i64 u] 51 3
  have hlq : q < w.heap.size := hT.hd.lt
  have HQ : Hid (w.cell? ⟨q, 0, none⟩ = some (.int .i64 W)) := hT.hd.cell 0 rfl
  have HP : Hid (p.length ≤ W) := hp
  obtain ⟨r, hr⟩ : ∃ r, r = thAt p N := ⟨_, rfl⟩
  rw [← hr] at C55 HL
  cases r with
  | none => have := HL.out; rw [← this] at hl; exact absurd rfl hl
  | some t =>
  obtain ⟨t, v⟩ := t
  have C55 : Hid (∀ w1, Below w.heap.size w w1 → Calls Try.prog 55 #[.pointer (some ⟨q, 0, none⟩), Pf (valOf W p) p.length] w1 fun e w' => e = .returned (.pointer (some ⟨t, 0, none⟩)) ∧ Hid (Below w1.heap.size w1 w')) := C55
  clear hT hl HL hr HT
  go_enter Try.func24, Try.ntmps24
  go_upto_region 3 with fail
  generalize ((w.alloc _).alloc _) = w0 at HB ⊢
  generalize hA : w.heap.size + 1 = A1 at *
  have lA := HB.out.2.2.2
  have x0 := two_cells HB.out.1 (i := 0) (v := .int .u64 (hiOf (valOf W p))) rfl
  have x1 := two_cells HB.out.1 (i := 1) (v := .int .u64 (loOf (valOf W p))) rfl
  have x2 := two_cells HB.out.1 (i := 2) (v := .int .i64 p.length) rfl
  have z0 : ∀ z : Grown w0, (gw z).cell? ⟨q, 0, none⟩ = some (.int .i64 W) := gw_cell ((World.cell?_of_block (HB.out.2.2.1.block q hlq)).trans HQ.out)
  refine region_grows (by kernel_rfl) (by kernel_rfl) ?_
  repeat (go_big_quiet_step ((go_at_call 49; exact calls_gw (C49.out _))))
  refine wpQuiet_nil ?_
  intro wq hwq
  obtain ⟨zq, rfl⟩ := hwq
  have HC : Hid (Below w.heap.size w (gw zq) ∧ Blk (gw zq) w.heap.size #[.int .u64 (hiOf (valOf W p)), .int .u64 (loOf (valOf W p)), .int .i64 p.length] 51 ∧ Blk (gw zq) A1 #[.int .i64 u] 3) := ⟨bst HB.out.2.2.1 (gw_below zq), HB.out.1.below (gw_below zq), HB.out.2.1.below (gw_below zq)⟩
  clear x0 x1 x2 z0 HB C49
  generalize gw zq = w2 at *
  have y0 := HC.out.2.1.cell 0 (v := .int .u64 (hiOf (valOf W p))) rfl
  have y1 := HC.out.2.1.cell 1 (v := .int .u64 (loOf (valOf W p))) rfl
  have y2 := HC.out.2.1.cell 2 (v := .int .i64 p.length) rfl
  go_wp2_with fail
  refine (C55.out _ HC.out.1).mono ?_
  rintro e w3 ⟨rfl, H3⟩
  clear y0 y1 y2 C55
  have HD : Hid (Below w.heap.size w w3 ∧ Blk w3 w.heap.size #[.int .u64 (hiOf (valOf W p)), .int .u64 (loOf (valOf W p)), .int .i64 p.length] 51 ∧ Blk w3 A1 #[.int .i64 u] 3) := ⟨bst HC.out.1 H3.out, HC.out.2.1.below H3.out, HC.out.2.2.below H3.out⟩
  clear H3 HC
  go_wp2
  go_ret
  exact ⟨rfl, HD.out.1⟩
set_option maxHeartbeats 2000000 in
theorem put_full (hT : TrieAt w q W most a n N) {p : List Bool} (hp : p.length ≤ W) (u : Int) (hl : look p (kept N) = none) (hm : (kept N).length = most) :
    Calls Try.prog 24 #[.pointer (some ⟨q, 0, none⟩), Pf (valOf W p) p.length, .int .i64 u] w fun e w' => e = .returned (.int .i64 120) ∧ Below w.heap.size w w' := by
  obtain ⟨h1, h2⟩ := hT.wd
  have C49 : Hid (∀ w1, Calls Try.prog 49 #[Pf (valOf W p) p.length, .int .i64 W] w1 fun e w' => e = .returned (.bool true) ∧ Below w1.heap.size w1 w') := fun w1 => by
    have := isPrefix_any (valOf W p) (val_is h2 hp) p.length W h1 h2 w1
    rw [isP_mk hp] at this; exact this
  have C55 : Hid (∀ w1, Below w.heap.size w w1 → Calls Try.prog 55 #[.pointer (some ⟨q, 0, none⟩), Pf (valOf W p) p.length] w1 fun e w' => e = .returned (thP (thAt p N)) ∧ Hid (Below w1.heap.size w1 w')) := fun w1 h => kept_yes (hT.below h) hp
  have HT : Hid (TrieAt w q W most a n N) := hT
  have HL : Hid ((thAt p N).map (·.2) = look p (kept N)) := thAt_look hT.hang.srtN p
  have HB := two_new' w #[.int .u64 (hiOf (valOf W p)), .int .u64 (loOf (valOf W p)), .int .i64 p.length] #[.int .i64 u] 51 3
  have hlq : q < w.heap.size := hT.hd.lt
  have HQ : Hid (w.cell? ⟨q, 0, none⟩ = some (.int .i64 W)) := hT.hd.cell 0 rfl
  have HP : Hid (p.length ≤ W) := hp
  have ht : thAt p N = none := by
    have := HL.out; rw [hl] at this
    cases h : thAt p N with
    | none => rfl
    | some t => rw [h] at this; cases this
  rw [ht] at C55
  have C55 : Hid (∀ w1, Below w.heap.size w w1 → Calls Try.prog 55 #[.pointer (some ⟨q, 0, none⟩), Pf (valOf W p) p.length] w1 fun e w' => e = .returned (.pointer none) ∧ Hid (Below w1.heap.size w1 w')) := C55
  have hd := hT.hd
  rw [hm] at hd
  have HH : Hid (Blk w q #[.int .i64 W, .int .i64 most, .int .i64 most, pt a] 84) := hd
  clear hT hl HL ht hd HT hm
  go_enter Try.func24, Try.ntmps24
  go_upto_region 3 with fail
  generalize ((w.alloc _).alloc _) = w0 at HB ⊢
  generalize hA : w.heap.size + 1 = A1 at *
  have lA := HB.out.2.2.2
  have x0 := two_cells HB.out.1 (i := 0) (v := .int .u64 (hiOf (valOf W p))) rfl
  have x1 := two_cells HB.out.1 (i := 1) (v := .int .u64 (loOf (valOf W p))) rfl
  have x2 := two_cells HB.out.1 (i := 2) (v := .int .i64 p.length) rfl
  have z0 : ∀ z : Grown w0, (gw z).cell? ⟨q, 0, none⟩ = some (.int .i64 W) := gw_cell ((World.cell?_of_block (HB.out.2.2.1.block q hlq)).trans HQ.out)
  refine region_grows (by kernel_rfl) (by kernel_rfl) ?_
  repeat (go_big_quiet_step ((go_at_call 49; exact calls_gw (C49.out _))))
  refine wpQuiet_nil ?_
  intro wq hwq
  obtain ⟨zq, rfl⟩ := hwq
  have HC : Hid (Below w.heap.size w (gw zq) ∧ Blk (gw zq) w.heap.size #[.int .u64 (hiOf (valOf W p)), .int .u64 (loOf (valOf W p)), .int .i64 p.length] 51 ∧ Blk (gw zq) A1 #[.int .i64 u] 3) := ⟨bst HB.out.2.2.1 (gw_below zq), HB.out.1.below (gw_below zq), HB.out.2.1.below (gw_below zq)⟩
  clear x0 x1 x2 z0 HB C49
  generalize gw zq = w2 at *
  have y0 := HC.out.2.1.cell 0 (v := .int .u64 (hiOf (valOf W p))) rfl
  have y1 := HC.out.2.1.cell 1 (v := .int .u64 (loOf (valOf W p))) rfl
  have y2 := HC.out.2.1.cell 2 (v := .int .i64 p.length) rfl
  go_wp2_with fail
  refine (C55.out _ HC.out.1).mono ?_
  rintro e w3 ⟨rfl, H3⟩
  clear y0 y1 y2 C55
  have HD : Hid (Below w.heap.size w w3 ∧ Blk w3 w.heap.size #[.int .u64 (hiOf (valOf W p)), .int .u64 (loOf (valOf W p)), .int .i64 p.length] 51 ∧ Blk w3 A1 #[.int .i64 u] 3) := ⟨bst HC.out.1 H3.out, HC.out.2.1.below H3.out, HC.out.2.2.below H3.out⟩
  clear H3 HC
  have g1 : w3.cell? ⟨q, 1, none⟩ = some (.int .i64 most) := (HH.out.below HD.out.1).cell 1 rfl
  have g2 : w3.cell? ⟨q, 2, none⟩ = some (.int .i64 most) := (HH.out.below HD.out.1).cell 2 rfl
  go_upto_region 7 with fail
  go_quiet (fail)
  rename_i nq
  have HF : Hid (Below w.heap.size w (w3.drewN nq)) := below_drewN HD.out.1 nq
  clear g1 g2 HD
  go_wp2
  go_ret
  exact ⟨rfl, HF.out⟩
set_option maxHeartbeats 2000000 in
theorem put_ok (hT : TrieAt w q W most a n N) {p : List Bool} (hp : p.length ≤ W) (u : Int) (hl : look p (kept N) = none) (hm : (kept N).length < most) :
    Calls Try.prog 24 #[.pointer (some ⟨q, 0, none⟩), Pf (valOf W p) p.length, .int .i64 u] w fun e w' => e = .returned (.int .i64 0) ∧ ∃ a' n' N', TrieAt w' q W most a' n' N' ∧ kept N' = upd p u (kept N) ∧ Kept (fun k => k = q) w w' := by
  obtain ⟨h1, h2⟩ := hT.wd
  have C49 : Hid (∀ w1, Calls Try.prog 49 #[Pf (valOf W p) p.length, .int .i64 W] w1 fun e w' => e = .returned (.bool true) ∧ Below w1.heap.size w1 w') := fun w1 => by
    have := isPrefix_any (valOf W p) (val_is h2 hp) p.length W h1 h2 w1
    rw [isP_mk hp] at this; exact this
  have C55 : Hid (∀ w1, Below w.heap.size w w1 → Calls Try.prog 55 #[.pointer (some ⟨q, 0, none⟩), Pf (valOf W p) p.length] w1 fun e w' => e = .returned (thP (thAt p N)) ∧ Hid (Below w1.heap.size w1 w')) := fun w1 h => kept_yes (hT.below h) hp
  have HT : Hid (TrieAt w q W most a n N) := hT
  have HL : Hid ((thAt p N).map (·.2) = look p (kept N)) := thAt_look hT.hang.srtN p
  have HB := two_new' w #[.int .u64 (hiOf (valOf W p)), .int .u64 (loOf (valOf W p)), .int .i64 p.length] #[.int .i64 u] 51 3
  have hlq : q < w.heap.size := hT.hd.lt
  have HQ : Hid (w.cell? ⟨q, 0, none⟩ = some (.int .i64 W)) := hT.hd.cell 0 rfl
  have HP : Hid (p.length ≤ W) := hp
  have ht : thAt p N = none := by
    have := HL.out; rw [hl] at this
    cases h : thAt p N with
    | none => rfl
    | some t => rw [h] at this; cases this
  rw [ht] at C55
  have C55 : Hid (∀ w1, Below w.heap.size w w1 → Calls Try.prog 55 #[.pointer (some ⟨q, 0, none⟩), Pf (valOf W p) p.length] w1 fun e w' => e = .returned (.pointer none) ∧ Hid (Below w1.heap.size w1 w')) := C55
  have hlen : (upd p u (kept N)).length = (kept N).length + 1 := by rw [len_upd hT.hang.srt, hl]; rfl
  have HLN : Hid ((upd p u (kept N)).length = (kept N).length + 1) := hlen
  obtain ⟨A, hA9⟩ : ∃ A : Option Addr, A = a.map fun b => ⟨b, 0, none⟩ := ⟨_, rfl⟩
  have C56 : Hid (∀ w1 t, Below w.heap.size w w1 → Blk w1 t #[.int .i64 u] 3 → Calls Try.prog 56 #[.pointer (some ⟨q, 0, none⟩), .pointer A, Pf (valOf W p) p.length, .pointer (some ⟨t, 0, none⟩)] w1 fun e w' => ∃ b, e = .returned (.pointer (some ⟨b, 0, none⟩)) ∧ Hid (Put1 W w1 w' p u (kept N) b)) := fun w1 t hb ht => by
    rw [hA9]
    exact with_any h1 h2 hp q t u n w1 a N ht ((hT.hd.below hb).cell 0 rfl) (hT.hang.below hb)
  have HH : Hid (Blk w q #[.int .i64 W, .int .i64 most, .int .i64 (kept N).length, .pointer A] 84) := by rw [hA9]; exact hT.hd
  have hmost : most ≤ 4096 := hT.most.2.2
  clear hT hl HL ht hA9 hlen
  generalize hLL : (kept N).length = LL at *
  have HLL : Hid ((kept N).length = LL) := hLL
  clear hLL
  go_enter Try.func24, Try.ntmps24
  go_upto_region 3 with fail
  generalize ((w.alloc _).alloc _) = w0 at HB ⊢
  generalize hA : w.heap.size + 1 = A1 at *
  have lA := HB.out.2.2.2
  have x0 := two_cells HB.out.1 (i := 0) (v := .int .u64 (hiOf (valOf W p))) rfl
  have x1 := two_cells HB.out.1 (i := 1) (v := .int .u64 (loOf (valOf W p))) rfl
  have x2 := two_cells HB.out.1 (i := 2) (v := .int .i64 p.length) rfl
  have z0 : ∀ z : Grown w0, (gw z).cell? ⟨q, 0, none⟩ = some (.int .i64 W) := gw_cell ((World.cell?_of_block (HB.out.2.2.1.block q hlq)).trans HQ.out)
  refine region_grows (by kernel_rfl) (by kernel_rfl) ?_
  repeat (go_big_quiet_step ((go_at_call 49; exact calls_gw (C49.out _))))
  refine wpQuiet_nil ?_
  intro wq hwq
  obtain ⟨zq, rfl⟩ := hwq
  have HC : Hid (Below w.heap.size w (gw zq) ∧ Blk (gw zq) w.heap.size #[.int .u64 (hiOf (valOf W p)), .int .u64 (loOf (valOf W p)), .int .i64 p.length] 51 ∧ Blk (gw zq) A1 #[.int .i64 u] 3) := ⟨bst HB.out.2.2.1 (gw_below zq), HB.out.1.below (gw_below zq), HB.out.2.1.below (gw_below zq)⟩
  clear x0 x1 x2 z0 HB C49
  generalize gw zq = w2 at *
  have y0 := HC.out.2.1.cell 0 (v := .int .u64 (hiOf (valOf W p))) rfl
  have y1 := HC.out.2.1.cell 1 (v := .int .u64 (loOf (valOf W p))) rfl
  have y2 := HC.out.2.1.cell 2 (v := .int .i64 p.length) rfl
  go_wp2_with fail
  refine (C55.out _ HC.out.1).mono ?_
  rintro e w3 ⟨rfl, H3⟩
  clear y0 y1 y2 C55
  have HD : Hid (Below w.heap.size w w3 ∧ Blk w3 w.heap.size #[.int .u64 (hiOf (valOf W p)), .int .u64 (loOf (valOf W p)), .int .i64 p.length] 51 ∧ Blk w3 A1 #[.int .i64 u] 3) := ⟨bst HC.out.1 H3.out, HC.out.2.1.below H3.out, HC.out.2.2.below H3.out⟩
  clear H3 HC
  have g1 : w3.cell? ⟨q, 1, none⟩ = some (.int .i64 most) := (HH.out.below HD.out.1).cell 1 rfl
  have g2 : w3.cell? ⟨q, 2, none⟩ = some (.int .i64 LL) := (HH.out.below HD.out.1).cell 2 rfl
  have t1 : ((LL : Int) == (most : Int)) = false := by rw [beq_eq_false_iff_ne]; omega
  go_upto_region 7 with fail
  go_quiet (fail)
  rename_i nq
  have HE : Hid (Below w.heap.size w (w3.drewN nq) ∧ Blk (w3.drewN nq) w.heap.size #[.int .u64 (hiOf (valOf W p)), .int .u64 (loOf (valOf W p)), .int .i64 p.length] 51 ∧ Blk (w3.drewN nq) A1 #[.int .i64 u] 3) := ⟨below_drewN HD.out.1 nq, HD.out.2.1, HD.out.2.2⟩
  clear g1 g2 HD t1
  generalize w3.drewN nq = w4 at *
  have y0 := HE.out.2.1.cell 0 (v := .int .u64 (hiOf (valOf W p))) rfl
  have y1 := HE.out.2.1.cell 1 (v := .int .u64 (loOf (valOf W p))) rfl
  have y2 := HE.out.2.1.cell 2 (v := .int .i64 p.length) rfl
  have q3 : w4.cell? ⟨q, 3, none⟩ = some (.pointer A) := (HH.out.below HE.out.1).cell 3 rfl
  have CC : Hid (∀ V, Below w4.heap.size w4 V → Calls Try.prog 56 #[.pointer (some ⟨q, 0, none⟩), .pointer A, Pf (valOf W p) p.length, .pointer (some ⟨A1, 0, none⟩)] V fun e w' => ∃ b, e = .returned (.pointer (some ⟨b, 0, none⟩)) ∧ w'.cell? ⟨q, 3, none⟩ = some (.pointer A) ∧ w'.frozen? ⟨q, 3, none⟩ = false ∧ Hid (Blk w' q #[.int .i64 W, .int .i64 most, .int .i64 LL, .pointer A] 84 ∧ Below w.heap.size w w' ∧ ∃ n N', HangI W w' n (some b) N' ∧ kept N' = upd p u (kept N))) := fun V hV => (C56.out V A1 (bst HE.out.1 hV) (HE.out.2.2.below hV)).mono (by
    rintro e w' ⟨b, rfl, hP⟩
    have hb := bst (bst HE.out.1 hV) hP.out.2
    have g := HH.out.below hb
    exact ⟨b, rfl, g.cell 3 rfl, g.frozen 3, (⟨g, hb, hP.out.1⟩ : _ ∧ _)⟩)
  clear C56
  go_upto_region 9 with fail
  go_region_with ((go_at_call 56; refine (CC.out _ (by exact ⟨rfl, rfl, rfl, Nat.le_refl _, fun _ _ => rfl⟩)).mono ?_; rintro e w5 ⟨b, rfl, d3, e3, H5⟩))
  all_goals (
    have hks : Kept (fun k => k = q) w5 ((w5.setCell ⟨q, 3, none⟩ (.pointer (some ⟨b, 0, none⟩))).setCell ⟨q, 2, none⟩ (.int .i64 ((LL : Int) + 1))) := ((Kept.refl (fun k => k = q) w5).set (p := ⟨q, 3, none⟩) rfl _).set (p := ⟨q, 2, none⟩) rfl _
    have HF : Hid (∃ a' n' N', TrieAt ((w5.setCell ⟨q, 3, none⟩ (.pointer (some ⟨b, 0, none⟩))).setCell ⟨q, 2, none⟩ (.int .i64 ((LL : Int) + 1))) q W most a' n' N' ∧ kept N' = upd p u (kept N) ∧ Kept (fun k => k = q) w ((w5.setCell ⟨q, 3, none⟩ (.pointer (some ⟨b, 0, none⟩))).setCell ⟨q, 2, none⟩ (.int .i64 ((LL : Int) + 1)))) := by
      obtain ⟨g1, g2, n', N', g3, g4⟩ := H5.out
      have hl2 : (kept N').length = LL + 1 := by rw [g4]; exact HLN.out
      refine ⟨some b, n', N', HT.out.over ?_ (g3.keptW hks (g3.off_head g1)) (by omega), g4, (Kept.of_below g2).trans hks⟩
      rw [hl2]
      exact (g1.set 3 _).set 2 _
    have HG : Hid (Blk (w5.setCell ⟨q, 3, none⟩ (.pointer (some ⟨b, 0, none⟩))) q #[.int .i64 W, .int .i64 most, .int .i64 LL, .pointer (some ⟨b, 0, none⟩)] 84) := H5.out.1.set 3 _
    clear H5 hks CC y0 y1 y2 q3 d3 e3
    go_upto_region 10 with fail
    generalize w5.setCell _ _ = w6 at HF HG ⊢
    have c2 := HG.out.cell 2 (v := .int .i64 LL) rfl
    have f2 := HG.out.frozen 2
    go_wp2
    go_ret
    exact ⟨rfl, HF.out⟩)
end
end Go.Proofs.Ytgdpplipahhffaa
namespace Go.Proofs.Ytgdpplipahhffaa
open Go.RowKit
set_option linter.unusedVariables false
set_option linter.unusedSimpArgs false

section
variable {w : World} {q W most : Nat} {a : Option Nat} {n : Nat} {N : List (Nd Int)}
set_option maxHeartbeats 2000000 in
theorem set_bad (hT : TrieAt w q W most a n N) (v : Nat) (hv : Is128 v) (l u : Int) (hP : isP W v l = false) :
    Calls Try.prog 38 #[.pointer (some ⟨q, 0, none⟩), Pf v l, .int .i64 u] w fun e w' => e = .returned (.int .i64 111) ∧ Below w.heap.size w w' := by
  obtain ⟨h1, h2⟩ := hT.wd
  have C49 : Hid (∀ w1, Calls Try.prog 49 #[Pf v l, .int .i64 W] w1 fun e w' => e = .returned (.bool false) ∧ Below w1.heap.size w1 w') := fun w1 => by rw [← hP]; exact isPrefix_any v hv l W h1 h2 w1
  have HB := two_new' w #[.int .u64 (hiOf v), .int .u64 (loOf v), .int .i64 l] #[.int .i64 u] 51 3
  have hlq : q < w.heap.size := hT.hd.lt
  have HQ : Hid (w.cell? ⟨q, 0, none⟩ = some (.int .i64 W)) := hT.hd.cell 0 rfl
  clear hT hP
  go_enter Try.func38, Try.ntmps38
  go_upto_region 3 with fail
  generalize ((w.alloc _).alloc _) = w0 at HB ⊢
  have lA := HB.out.2.2.2
  have x0 := two_cells HB.out.1 (i := 0) (v := .int .u64 (hiOf v)) rfl
  have x1 := two_cells HB.out.1 (i := 1) (v := .int .u64 (loOf v)) rfl
  have x2 := two_cells HB.out.1 (i := 2) (v := .int .i64 l) rfl
  have z0 : ∀ z : Grown w0, (gw z).cell? ⟨q, 0, none⟩ = some (.int .i64 W) := gw_cell ((World.cell?_of_block (HB.out.2.2.1.block q hlq)).trans HQ.out)
  refine region_grows (by kernel_rfl) (by kernel_rfl) ?_
  repeat (go_big_quiet_step ((go_at_call 49; exact calls_gw (C49.out _))))
  refine wpQuiet_nil ?_
  intro wq hwq
  obtain ⟨zq, rfl⟩ := hwq
  have HF : Hid (Below w.heap.size w (gw zq)) := bst HB.out.2.2.1 (gw_below zq)
  clear x0 x1 x2 z0 HB C49
  go_wp2
  go_ret
  exact ⟨rfl, HF.out⟩
set_option maxHeartbeats 2000000 in
theorem set_absent (hT : TrieAt w q W most a n N) {p : List Bool} (hp : p.length ≤ W) (u : Int) (hl : look p (kept N) = none) :
    Calls Try.prog 38 #[.pointer (some ⟨q, 0, none⟩), Pf (valOf W p) p.length, .int .i64 u] w fun e w' => e = .returned (.int .i64 122) ∧ Below w.heap.size w w' := by
  obtain ⟨h1, h2⟩ := hT.wd
  have C49 : Hid (∀ w1, Calls Try.prog 49 #[Pf (valOf W p) p.length, .int .i64 W] w1 fun e w' => e = .returned (.bool true) ∧ Below w1.heap.size w1 w') := fun w1 => by
    have := isPrefix_any (valOf W p) (val_is h2 hp) p.length W h1 h2 w1
    rw [isP_mk hp] at this; exact this
  have C55 : Hid (∀ w1, Below w.heap.size w w1 → Calls Try.prog 55 #[.pointer (some ⟨q, 0, none⟩), Pf (valOf W p) p.length] w1 fun e w' => e = .returned (thP (thAt p N)) ∧ Hid (Below w1.heap.size w1 w')) := fun w1 h => kept_yes (hT.below h) hp
  have HT : Hid (TrieAt w q W most a n N) := hT
  have HL : Hid ((thAt p N).map (·.2) = look p (kept N)) := thAt_look hT.hang.srtN p
  have HB := two_new' w #[.int .u64 (hiOf (valOf W p)), .int .u64 (loOf (valOf W p)), .int .i64 p.length] #[.int .i64 u] 51 3
  have hlq : q < w.heap.size := hT.hd.lt
  have HQ : Hid (w.cell? ⟨q, 0, none⟩ = some (.int .i64 W)) := hT.hd.cell 0 rfl
  have HP : Hid (p.length ≤ W) := hp
  have ht : thAt p N = none := by
    have := HL.out; rw [hl] at this
    cases h : thAt p N with
    | none => rfl
    | some t => rw [h] at this; cases this
  rw [ht] at C55
  have C55 : Hid (∀ w1, Below w.heap.size w w1 → Calls Try.prog 55 #[.pointer (some ⟨q, 0, none⟩), Pf (valOf W p) p.length] w1 fun e w' => e = .returned (.pointer none) ∧ Hid (Below w1.heap.size w1 w')) := C55
  clear hT hl HL ht HT
  go_enter Try.func38, Try.ntmps38
  go_upto_region 3 with fail
  generalize ((w.alloc _).alloc _) = w0 at HB ⊢
  generalize hA : w.heap.size + 1 = A1 at *
  have lA := HB.out.2.2.2
  have x0 := two_cells HB.out.1 (i := 0) (v := .int .u64 (hiOf (valOf W p))) rfl
  have x1 := two_cells HB.out.1 (i := 1) (v := .int .u64 (loOf (valOf W p))) rfl
  have x2 := two_cells HB.out.1 (i := 2) (v := .int .i64 p.length) rfl
  have z0 : ∀ z : Grown w0, (gw z).cell? ⟨q, 0, none⟩ = some (.int .i64 W) := gw_cell ((World.cell?_of_block (HB.out.2.2.1.block q hlq)).trans HQ.out)
  refine region_grows (by kernel_rfl) (by kernel_rfl) ?_
  repeat (go_big_quiet_step ((go_at_call 49; exact calls_gw (C49.out _))))
  refine wpQuiet_nil ?_
  intro wq hwq
  obtain ⟨zq, rfl⟩ := hwq
  have HC : Hid (Below w.heap.size w (gw zq) ∧ Blk (gw zq) w.heap.size #[.int .u64 (hiOf (valOf W p)), .int .u64 (loOf (valOf W p)), .int .i64 p.length] 51 ∧ Blk (gw zq) A1 #[.int .i64 u] 3) := ⟨bst HB.out.2.2.1 (gw_below zq), HB.out.1.below (gw_below zq), HB.out.2.1.below (gw_below zq)⟩
  clear x0 x1 x2 z0 HB C49
  generalize gw zq = w2 at *
  have y0 := HC.out.2.1.cell 0 (v := .int .u64 (hiOf (valOf W p))) rfl
  have y1 := HC.out.2.1.cell 1 (v := .int .u64 (loOf (valOf W p))) rfl
  have y2 := HC.out.2.1.cell 2 (v := .int .i64 p.length) rfl
  go_wp2_with fail
  refine (C55.out _ HC.out.1).mono ?_
  rintro e w3 ⟨rfl, H3⟩
  clear y0 y1 y2 C55
  have HD : Hid (Below w.heap.size w w3 ∧ Blk w3 w.heap.size #[.int .u64 (hiOf (valOf W p)), .int .u64 (loOf (valOf W p)), .int .i64 p.length] 51 ∧ Blk w3 A1 #[.int .i64 u] 3) := ⟨bst HC.out.1 H3.out, HC.out.2.1.below H3.out, HC.out.2.2.below H3.out⟩
  clear H3 HC
  go_wp2
  go_ret
  exact ⟨rfl, HD.out.1⟩
set_option maxHeartbeats 2000000 in
theorem set_ok (hT : TrieAt w q W most a n N) {p : List Bool} (hp : p.length ≤ W) (u : Int) (hl : look p (kept N) ≠ none) :
    Calls Try.prog 38 #[.pointer (some ⟨q, 0, none⟩), Pf (valOf W p) p.length, .int .i64 u] w fun e w' => e = .returned (.int .i64 0) ∧ ∃ a' n' N', TrieAt w' q W most a' n' N' ∧ kept N' = upd p u (kept N) ∧ Kept (fun k => k = q) w w' := by
  obtain ⟨h1, h2⟩ := hT.wd
  have C49 : Hid (∀ w1, Calls Try.prog 49 #[Pf (valOf W p) p.length, .int .i64 W] w1 fun e w' => e = .returned (.bool true) ∧ Below w1.heap.size w1 w') := fun w1 => by
    have := isPrefix_any (valOf W p) (val_is h2 hp) p.length W h1 h2 w1
    rw [isP_mk hp] at this; exact this
  have C55 : Hid (∀ w1, Below w.heap.size w w1 → Calls Try.prog 55 #[.pointer (some ⟨q, 0, none⟩), Pf (valOf W p) p.length] w1 fun e w' => e = .returned (thP (thAt p N)) ∧ Hid (Below w1.heap.size w1 w')) := fun w1 h => kept_yes (hT.below h) hp
  have HT : Hid (TrieAt w q W most a n N) := hT
  have HL : Hid ((thAt p N).map (·.2) = look p (kept N)) := thAt_look hT.hang.srtN p
  have HB := two_new' w #[.int .u64 (hiOf (valOf W p)), .int .u64 (loOf (valOf W p)), .int .i64 p.length] #[.int .i64 u] 51 3
  have hlq : q < w.heap.size := hT.hd.lt
  have HQ : Hid (w.cell? ⟨q, 0, none⟩ = some (.int .i64 W)) := hT.hd.cell 0 rfl
  have HP : Hid (p.length ≤ W) := hp
  have hlen : (upd p u (kept N)).length = (kept N).length := by
    rw [len_upd hT.hang.srt]
    cases e : look p (kept N) with
    | none => exact absurd e hl
    | some x => rfl
  have HLN : Hid ((upd p u (kept N)).length = (kept N).length) := hlen
  obtain ⟨A, hA9⟩ : ∃ A : Option Addr, A = a.map fun b => ⟨b, 0, none⟩ := ⟨_, rfl⟩
  have C56 : Hid (∀ w1 t, Below w.heap.size w w1 → Blk w1 t #[.int .i64 u] 3 → Calls Try.prog 56 #[.pointer (some ⟨q, 0, none⟩), .pointer A, Pf (valOf W p) p.length, .pointer (some ⟨t, 0, none⟩)] w1 fun e w' => ∃ b, e = .returned (.pointer (some ⟨b, 0, none⟩)) ∧ Hid (Put1 W w1 w' p u (kept N) b)) := fun w1 t hb ht => by
    rw [hA9]
    exact with_any h1 h2 hp q t u n w1 a N ht ((hT.hd.below hb).cell 0 rfl) (hT.hang.below hb)
  have HH : Hid (Blk w q #[.int .i64 W, .int .i64 most, .int .i64 (kept N).length, .pointer A] 84) := by rw [hA9]; exact hT.hd
  have hmost : (kept N).length ≤ most := hT.most.1
  obtain ⟨r, hr⟩ : ∃ r, r = thAt p N := ⟨_, rfl⟩
  rw [← hr] at C55 HL
  cases r with
  | none => have := HL.out; rw [← this] at hl; exact absurd rfl hl
  | some t =>
  obtain ⟨t, v⟩ := t
  have C55 : Hid (∀ w1, Below w.heap.size w w1 → Calls Try.prog 55 #[.pointer (some ⟨q, 0, none⟩), Pf (valOf W p) p.length] w1 fun e w' => e = .returned (.pointer (some ⟨t, 0, none⟩)) ∧ Hid (Below w1.heap.size w1 w')) := C55
  clear hT hl HL hr hA9 hlen
  generalize hLL : (kept N).length = LL at *
  have HLL : Hid ((kept N).length = LL) := hLL
  clear hLL
  go_enter Try.func38, Try.ntmps38
  go_upto_region 3 with fail
  generalize ((w.alloc _).alloc _) = w0 at HB ⊢
  generalize hA : w.heap.size + 1 = A1 at *
  have lA := HB.out.2.2.2
  have x0 := two_cells HB.out.1 (i := 0) (v := .int .u64 (hiOf (valOf W p))) rfl
  have x1 := two_cells HB.out.1 (i := 1) (v := .int .u64 (loOf (valOf W p))) rfl
  have x2 := two_cells HB.out.1 (i := 2) (v := .int .i64 p.length) rfl
  have z0 : ∀ z : Grown w0, (gw z).cell? ⟨q, 0, none⟩ = some (.int .i64 W) := gw_cell ((World.cell?_of_block (HB.out.2.2.1.block q hlq)).trans HQ.out)
  refine region_grows (by kernel_rfl) (by kernel_rfl) ?_
  repeat (go_big_quiet_step ((go_at_call 49; exact calls_gw (C49.out _))))
  refine wpQuiet_nil ?_
  intro wq hwq
  obtain ⟨zq, rfl⟩ := hwq
  have HC : Hid (Below w.heap.size w (gw zq) ∧ Blk (gw zq) w.heap.size #[.int .u64 (hiOf (valOf W p)), .int .u64 (loOf (valOf W p)), .int .i64 p.length] 51 ∧ Blk (gw zq) A1 #[.int .i64 u] 3) := ⟨bst HB.out.2.2.1 (gw_below zq), HB.out.1.below (gw_below zq), HB.out.2.1.below (gw_below zq)⟩
  clear x0 x1 x2 z0 HB C49
  generalize gw zq = w2 at *
  have y0 := HC.out.2.1.cell 0 (v := .int .u64 (hiOf (valOf W p))) rfl
  have y1 := HC.out.2.1.cell 1 (v := .int .u64 (loOf (valOf W p))) rfl
  have y2 := HC.out.2.1.cell 2 (v := .int .i64 p.length) rfl
  go_wp2_with fail
  refine (C55.out _ HC.out.1).mono ?_
  rintro e w3 ⟨rfl, H3⟩
  clear y0 y1 y2 C55
  have HD : Hid (Below w.heap.size w w3 ∧ Blk w3 w.heap.size #[.int .u64 (hiOf (valOf W p)), .int .u64 (loOf (valOf W p)), .int .i64 p.length] 51 ∧ Blk w3 A1 #[.int .i64 u] 3) := ⟨bst HC.out.1 H3.out, HC.out.2.1.below H3.out, HC.out.2.2.below H3.out⟩
  clear H3 HC
  have HE : Hid (Below w.heap.size w w3 ∧ Blk w3 w.heap.size #[.int .u64 (hiOf (valOf W p)), .int .u64 (loOf (valOf W p)), .int .i64 p.length] 51 ∧ Blk w3 A1 #[.int .i64 u] 3) := HD.out
  clear HD
  go_upto_region 7 with fail
  generalize w3 = w4 at *
  have y0 := HE.out.2.1.cell 0 (v := .int .u64 (hiOf (valOf W p))) rfl
  have y1 := HE.out.2.1.cell 1 (v := .int .u64 (loOf (valOf W p))) rfl
  have y2 := HE.out.2.1.cell 2 (v := .int .i64 p.length) rfl
  have q3 : w4.cell? ⟨q, 3, none⟩ = some (.pointer A) := (HH.out.below HE.out.1).cell 3 rfl
  have CC : Hid (∀ V, Below w4.heap.size w4 V → Calls Try.prog 56 #[.pointer (some ⟨q, 0, none⟩), .pointer A, Pf (valOf W p) p.length, .pointer (some ⟨A1, 0, none⟩)] V fun e w' => ∃ b, e = .returned (.pointer (some ⟨b, 0, none⟩)) ∧ w'.cell? ⟨q, 3, none⟩ = some (.pointer A) ∧ w'.frozen? ⟨q, 3, none⟩ = false ∧ Hid (Blk w' q #[.int .i64 W, .int .i64 most, .int .i64 LL, .pointer A] 84 ∧ Below w.heap.size w w' ∧ ∃ n N', HangI W w' n (some b) N' ∧ kept N' = upd p u (kept N))) := fun V hV => (C56.out V A1 (bst HE.out.1 hV) (HE.out.2.2.below hV)).mono (by
    rintro e w' ⟨b, rfl, hP⟩
    have hb := bst (bst HE.out.1 hV) hP.out.2
    have g := HH.out.below hb
    exact ⟨b, rfl, g.cell 3 rfl, g.frozen 3, (⟨g, hb, hP.out.1⟩ : _ ∧ _)⟩)
  clear C56
  skip
  go_region_with ((go_at_call 56; refine (CC.out _ (by exact ⟨rfl, rfl, rfl, Nat.le_refl _, fun _ _ => rfl⟩)).mono ?_; rintro e w5 ⟨b, rfl, d3, e3, H5⟩))
  all_goals (
    have hks : Kept (fun k => k = q) w5 (w5.setCell ⟨q, 3, none⟩ (.pointer (some ⟨b, 0, none⟩))) := (Kept.refl (fun k => k = q) w5).set (p := ⟨q, 3, none⟩) rfl _
    have HF : Hid (∃ a' n' N', TrieAt (w5.setCell ⟨q, 3, none⟩ (.pointer (some ⟨b, 0, none⟩))) q W most a' n' N' ∧ kept N' = upd p u (kept N) ∧ Kept (fun k => k = q) w (w5.setCell ⟨q, 3, none⟩ (.pointer (some ⟨b, 0, none⟩)))) := by
      obtain ⟨g1, g2, n', N', g3, g4⟩ := H5.out
      have hl2 : (kept N').length = LL := by rw [g4]; exact HLN.out
      refine ⟨some b, n', N', HT.out.over ?_ (g3.keptW hks (g3.off_head g1)) (by rw [hl2]; exact hmost), g4, (Kept.of_below g2).trans hks⟩
      rw [hl2]
      exact g1.set 3 _
    clear H5 hks CC y0 y1 y2 q3 d3 e3
    go_wp2
    go_ret
    exact ⟨rfl, HF.out⟩)
end
end Go.Proofs.Ytgdpplipahhffaa
namespace Go.Proofs.Ytgdpplipahhffaa
open Go.RowKit
set_option linter.unusedVariables false
set_option linter.unusedSimpArgs false

theorem drop_none (qa : Option Addr) (v : Nat) (l : Int) (w : World) (hC : ∀ w1, Below w.heap.size w w1 → Calls Try.prog 28 #[.pointer qa, Pf v l] w1 fun e w' => e = .returned (okI none) ∧ Below w1.heap.size w1 w') :
    Calls Try.prog 39 #[.pointer qa, Pf v l] w fun e w' => e = .returned (okI none) ∧ Below w.heap.size w w' := by
  have C : Hid (∀ w1, Below w.heap.size w w1 → Calls Try.prog 28 #[.pointer qa, Pf v l] w1 fun e w' => e = .returned (.tuple #[.int .i64 0, .bool false]) ∧ Hid (Below w1.heap.size w1 w')) := hC
  have HB : Hid _ := one_new w #[.int .u64 (hiOf v), .int .u64 (loOf v), .int .i64 l] 51
  clear hC
  go_enter Try.func39, Try.ntmps39
  go_wp2_with fail
  refine (C.out _ HB.out.2.1).mono ?_
  rintro e w2 ⟨rfl, H2⟩
  have HC : Hid (Below w.heap.size w w2) := bst HB.out.2.1 H2.out
  clear H2 C HB
  go_wp2
  go_ret2
  exact ⟨rfl, HC.out⟩
section
variable {w : World} {q W most : Nat} {a : Option Nat} {n : Nat} {N : List (Nd Int)}
set_option maxHeartbeats 2000000 in
theorem drop_some (hT : TrieAt w q W most a n N) {p : List Bool} (hp : p.length ≤ W) (v : Int) (hl : look p (kept N) = some v) :
    Calls Try.prog 39 #[.pointer (some ⟨q, 0, none⟩), Pf (valOf W p) p.length] w fun e w' => e = .returned (okI (some v)) ∧ ∃ a' n' N', TrieAt w' q W most a' n' N' ∧ kept N' = del p (kept N) ∧ Kept (fun k => k = q) w w' := by
  obtain ⟨h1, h2⟩ := hT.wd
  have CG : Hid (∀ w1, Below w.heap.size w w1 → Calls Try.prog 28 #[.pointer (some ⟨q, 0, none⟩), Pf (valOf W p) p.length] w1 fun e w' => e = .returned (.tuple #[.int .i64 v, .bool true]) ∧ Hid (Below w1.heap.size w1 w')) := fun w1 h => by
    have := get_yes (hT.below h) hp
    rw [hl] at this; exact this
  have hsm : (look p (kept N)).isSome = true := by rw [hl]; rfl
  have hlen : (del p (kept N)).length + 1 = (kept N).length := len_del hT.hang.srt hsm
  have HLN : Hid ((del p (kept N)).length + 1 = (kept N).length) := hlen
  have HT : Hid (TrieAt w q W most a n N) := hT
  obtain ⟨A, hA9⟩ : ∃ A : Option Addr, A = a.map fun b => ⟨b, 0, none⟩ := ⟨_, rfl⟩
  have C63 : Hid (∀ w1, Below w.heap.size w w1 → Calls Try.prog 63 #[.pointer (some ⟨q, 0, none⟩), .pointer A, Pf (valOf W p) p.length] w1 fun e w' => ∃ b, e = .returned (pt b) ∧ Hid (Del1 W w1 w' p (kept N) b)) := fun w1 hb => by
    rw [hA9]
    exact without_any h1 h2 hp q n w1 a N ((hT.hd.below hb).cell 0 rfl) (hT.hang.below hb) (by rw [hl]; simp)
  have HH : Hid (Blk w q #[.int .i64 W, .int .i64 most, .int .i64 (kept N).length, .pointer A] 84) := by rw [hA9]; exact hT.hd
  have HM : Hid ((kept N).length ≤ most ∧ most ≤ 4096) := ⟨hT.most.1, hT.most.2.2⟩
  have hlq : q < w.heap.size := hT.hd.lt
  have HB : Hid _ := one_new w #[.int .u64 (hiOf (valOf W p)), .int .u64 (loOf (valOf W p)), .int .i64 p.length] 51
  have hll : 1 ≤ (kept N).length := by omega
  have hlm : (kept N).length ≤ 4096 := by have := HM.out; omega
  clear hT hl hsm hlen hA9
  generalize hLL : (kept N).length = LL at *
  have HLL : Hid ((kept N).length = LL) := hLL
  clear hLL
  go_enter Try.func39, Try.ntmps39
  go_wp2_with fail
  refine (CG.out _ HB.out.2.1).mono ?_
  rintro e w4 ⟨rfl, H2⟩
  have HE : Hid (Below w.heap.size w w4 ∧ Blk w4 w.heap.size #[.int .u64 (hiOf (valOf W p)), .int .u64 (loOf (valOf W p)), .int .i64 p.length] 51) := ⟨bst HB.out.2.1 H2.out, HB.out.1.below H2.out⟩
  clear H2 CG HB
  have y0 := HE.out.2.cell 0 (v := .int .u64 (hiOf (valOf W p))) rfl
  have y1 := HE.out.2.cell 1 (v := .int .u64 (loOf (valOf W p))) rfl
  have y2 := HE.out.2.cell 2 (v := .int .i64 p.length) rfl
  have q3 : w4.cell? ⟨q, 3, none⟩ = some (.pointer A) := (HH.out.below HE.out.1).cell 3 rfl
  have CC : Hid (∀ V, Below w4.heap.size w4 V → Calls Try.prog 63 #[.pointer (some ⟨q, 0, none⟩), .pointer A, Pf (valOf W p) p.length] V fun e w' => ∃ B, e = .returned (.pointer B) ∧ w'.cell? ⟨q, 3, none⟩ = some (.pointer A) ∧ w'.frozen? ⟨q, 3, none⟩ = false ∧ Hid (Blk w' q #[.int .i64 W, .int .i64 most, .int .i64 LL, .pointer A] 84 ∧ Below w.heap.size w w' ∧ ∃ a' n N', B = (a'.map fun b => ⟨b, 0, none⟩) ∧ HangI W w' n a' N' ∧ kept N' = del p (kept N))) := fun V hV => (C63.out V (bst HE.out.1 hV)).mono (by
    rintro e w' ⟨b, rfl, hP⟩
    have hb := bst (bst HE.out.1 hV) hP.out.2
    have g := HH.out.below hb
    obtain ⟨n', N', g1, g2⟩ := hP.out.1
    exact ⟨_, rfl, g.cell 3 rfl, g.frozen 3, (⟨g, hb, b, n', N', rfl, g1, g2⟩ : _ ∧ _)⟩)
  clear C63
  go_upto_region 3 with fail
  go_region_with ((go_at_call 63; refine (CC.out _ (by exact ⟨rfl, rfl, rfl, Nat.le_refl _, fun _ _ => rfl⟩)).mono ?_; rintro e w5 ⟨B, rfl, d3, e3, H5⟩))
  all_goals (
    have hks : Kept (fun k => k = q) w5 ((w5.setCell ⟨q, 3, none⟩ (.pointer B)).setCell ⟨q, 2, none⟩ (.int .i64 ((LL : Int) - 1))) := ((Kept.refl (fun k => k = q) w5).set (p := ⟨q, 3, none⟩) rfl _).set (p := ⟨q, 2, none⟩) rfl _
    have HF : Hid (∃ a' n' N', TrieAt ((w5.setCell ⟨q, 3, none⟩ (.pointer B)).setCell ⟨q, 2, none⟩ (.int .i64 ((LL : Int) - 1))) q W most a' n' N' ∧ kept N' = del p (kept N) ∧ Kept (fun k => k = q) w ((w5.setCell ⟨q, 3, none⟩ (.pointer B)).setCell ⟨q, 2, none⟩ (.int .i64 ((LL : Int) - 1)))) := by
      obtain ⟨g1, g2, a', n', N', g5, g3, g4⟩ := H5.out
      have hl2 : (kept N').length + 1 = LL := by rw [g4]; exact HLN.out
      refine ⟨a', n', N', HT.out.over ?_ (g3.keptW hks (g3.off_head g1)) (by have := HM.out; omega), g4, (Kept.of_below g2).trans hks⟩
      rw [show (((kept N').length : Nat) : Int) = (LL : Int) - 1 by omega]
      have := (g1.set 3 (.pointer B)).set 2 (.int .i64 ((LL : Int) - 1))
      rw [g5] at this ⊢
      exact this
    have HG : Hid (Blk (w5.setCell ⟨q, 3, none⟩ (.pointer B)) q #[.int .i64 W, .int .i64 most, .int .i64 LL, .pointer B] 84) := H5.out.1.set 3 _
    clear H5 hks CC y0 y1 y2 q3 d3 e3
    go_upto_region 4 with fail
    generalize w5.setCell _ _ = w6 at HF HG ⊢
    have c2 := HG.out.cell 2 (v := .int .i64 LL) rfl
    have f2 := HG.out.frozen 2
    go_wp2
    go_ret2
    exact ⟨rfl, HF.out⟩)
end
end Go.Proofs.Ytgdpplipahhffaa
