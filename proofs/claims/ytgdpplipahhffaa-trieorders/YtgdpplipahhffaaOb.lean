/- Package trie: New, Len, Copy, Clear, Get; and what a nil trie answers. -/
import Derived.Test.YtgdpplipahhffaaKp
namespace Go.Proofs.Ytgdpplipahhffaa
open Go.RowKit
set_option linter.unusedVariables false
set_option linter.unusedSimpArgs false

set_option maxHeartbeats 1000000 in
theorem new_ok (W most : Nat) (h1 : 1 ≤ W) (h2 : W ≤ 128) (h3 : 1 ≤ most) (h4 : most ≤ 4096) (w : World) : Calls Try.prog 10 #[.int .i64 W, .int .i64 most] w fun e w' => e = .returned (.tuple #[.pointer (some ⟨w.heap.size, 0, none⟩), .int .i64 0]) ∧ TrieAt w' w.heap.size W most none 0 [] ∧ Below w.heap.size w w' := by
  have HF : Hid (TrieAt (w.alloc (.cells #[.int .i64 W, .int .i64 most, .int .i64 0, .pointer none] 84)) w.heap.size W most none 0 [] ∧ Below w.heap.size w (w.alloc (.cells #[.int .i64 W, .int .i64 most, .int .i64 0, .pointer none] 84))) := ⟨⟨Blk.new w _ 84, Hang.nil 0, ⟨h1, h2⟩, Nat.zero_le _, h3, h4⟩, (Below.refl _ _).alloc (Nat.le_refl _) _⟩
  have d1 : ¬ (W : Int) < 1 := by omega
  have d2 : ¬ (128 : Int) < W := by omega
  have d3 : ¬ (most : Int) < 1 := by omega
  have d4 : ¬ (4096 : Int) < most := by omega
  go_enter Try.func10, Try.ntmps10
  go_wp2
  go_ret2
  exact ⟨rfl, HF.out⟩
set_option maxHeartbeats 1000000 in
theorem new_bad (W most : Int) (h : W < 1 ∨ 128 < W ∨ most < 1 ∨ 4096 < most) (w : World) : Calls Try.prog 10 #[.int .i64 W, .int .i64 most] w fun e w' => e = .returned (.tuple #[.pointer none, .int .i64 1]) ∧ w' = w := by
  by_cases d1 : W < 1
  · go_enter Try.func10, Try.ntmps10
    go_wp2
    go_ret2
    exact ⟨rfl, rfl⟩
  by_cases d2 : 128 < W
  · go_enter Try.func10, Try.ntmps10
    go_wp2
    go_ret2
    exact ⟨rfl, rfl⟩
  by_cases d3 : most < 1
  · go_enter Try.func10, Try.ntmps10
    go_wp2
    go_ret2
    exact ⟨rfl, rfl⟩
  have d4 : 4096 < most := by omega
  go_enter Try.func10, Try.ntmps10
  go_wp2
  go_ret2
  exact ⟨rfl, rfl⟩
section
variable {w : World} {q W most : Nat} {a : Option Nat} {n : Nat} {N : List (Nd Int)}
theorem len_any (h : TrieAt w q W most a n N) : Calls Try.prog 37 #[.pointer (some ⟨q, 0, none⟩)] w fun e w' => e = .returned (.int .i64 (kept N).length) ∧ w' = w := by
  have c2 := h.hd.cell 2 (v := .int .i64 (kept N).length) rfl
  clear h
  go_enter Try.func37, Try.ntmps37
  go_wp2
  go_ret
  exact ⟨rfl, rfl⟩
theorem copy_any (h : TrieAt w q W most a n N) : Calls Try.prog 15 #[.pointer (some ⟨q, 0, none⟩)] w fun e w' => e = .returned (.pointer (some ⟨w.heap.size, 0, none⟩)) ∧ TrieAt w' w.heap.size W most a n N ∧ Below w.heap.size w w' := by
  obtain ⟨A, hA⟩ : ∃ A : Option Addr, A = a.map fun b => ⟨b, 0, none⟩ := ⟨_, rfl⟩
  have hb : Below w.heap.size w (w.alloc (.cells #[.int .i64 W, .int .i64 most, .int .i64 (kept N).length, .pointer A] 84)) := (Below.refl _ _).alloc (Nat.le_refl _) _
  have HF : Hid (TrieAt (w.alloc (.cells #[.int .i64 W, .int .i64 most, .int .i64 (kept N).length, .pointer A] 84)) w.heap.size W most a n N ∧ Below w.heap.size w (w.alloc (.cells #[.int .i64 W, .int .i64 most, .int .i64 (kept N).length, .pointer A] 84))) := ⟨⟨by rw [hA]; exact Blk.new w _ 84, h.hang.below hb, h.wd, h.most⟩, hb⟩
  have hd : Blk w q #[.int .i64 W, .int .i64 most, .int .i64 (kept N).length, .pointer A] 84 := by rw [hA]; exact h.hd
  have c0 := hd.cell 0 (v := .int .i64 W) rfl
  have c1 := hd.cell 1 (v := .int .i64 most) rfl
  have c2 := hd.cell 2 (v := .int .i64 (kept N).length) rfl
  have c3 := hd.cell 3 (v := .pointer A) rfl
  clear h hd hb hA
  go_enter Try.func15, Try.ntmps15
  go_wp2
  go_ret
  exact ⟨rfl, HF.out⟩
/-- A trie written over at its head. -/
theorem TrieAt.over {w' : World} {a' : Option Nat} {n' : Nat} {N' : List (Nd Int)} (h : TrieAt w q W most a n N) (hd : Blk w' q #[.int .i64 W, .int .i64 most, .int .i64 (kept N').length, pt a'] 84) (hh : HangI W w' n' a' N') (hm : (kept N').length ≤ most) : TrieAt w' q W most a' n' N' := ⟨hd, hh, h.wd, hm, h.most.2⟩
/-- The head is none of its nodes. -/
theorem Hang.off_head {w : World} {n : Nat} {a : Option Nat} {N : List (Nd Int)} (h : HangI W w n a N) {cs : Array Value} (hq : Blk w q cs 84) : Off (fun k => k = q) N := fun x hx => by
  obtain ⟨b0, b1, hn⟩ := h.thing x hx
  refine ⟨fun e => ?_, fun t v e1 e2 => ?_⟩
  · have h1 := hn.cells
    rw [show x.blk = q from e] at h1
    have h2 := h1.symm.trans hq
    simp at h2
  · have h1 := hn.thing t v e1
    rw [show t = q from e2] at h1
    have h2 := h1.symm.trans hq
    simp at h2
theorem clear_any (h : TrieAt w q W most a n N) : Calls Try.prog 14 #[.pointer (some ⟨q, 0, none⟩)] w fun e w' => e = .returned (.tuple #[]) ∧ TrieAt w' q W most none 0 [] ∧ Kept (fun k => k = q) w w' := by
  obtain ⟨A, hA⟩ : ∃ A : Option Addr, A = a.map fun b => ⟨b, 0, none⟩ := ⟨_, rfl⟩
  have hd : Blk w q #[.int .i64 W, .int .i64 most, .int .i64 (kept N).length, .pointer A] 84 := by rw [hA]; exact h.hd
  have HF : Hid (TrieAt ((w.setCell ⟨q, 3, none⟩ (.pointer none)).setCell ⟨q, 2, none⟩ (.int .i64 0)) q W most none 0 [] ∧ Kept (fun k => k = q) w ((w.setCell ⟨q, 3, none⟩ (.pointer none)).setCell ⟨q, 2, none⟩ (.int .i64 0))) := ⟨⟨(hd.set 3 (.pointer none)).set 2 (.int .i64 0), Hang.nil 0, h.wd, Nat.zero_le _, h.most.2⟩, ((Kept.refl (fun k => k = q) w).set (p := ⟨q, 3, none⟩) rfl _).set (p := ⟨q, 2, none⟩) rfl _⟩
  have c2 := hd.cell 2 (v := .int .i64 (kept N).length) rfl
  have c3 := hd.cell 3 (v := .pointer A) rfl
  have f2 := hd.frozen 2
  have f3 := hd.frozen 3
  clear h hd hA
  go_enter Try.func14, Try.ntmps14
  go_wp2
  go_end0
  exact ⟨rfl, HF.out⟩
def okI (o : Option Int) : Value := .tuple #[.int .i64 (o.getD 0), .bool o.isSome]
theorem get_yes (hT : TrieAt w q W most a n N) {p : List Bool} (hp : p.length ≤ W) : Calls Try.prog 28 #[.pointer (some ⟨q, 0, none⟩), Pf (valOf W p) p.length] w fun e w' => e = .returned (okI (look p (kept N))) ∧ Below w.heap.size w w' := by
  have HL : Hid ((thAt p N).map (·.2) = look p (kept N)) := thAt_look hT.hang.srtN p
  have HB : Hid _ := one_new w #[.int .u64 (hiOf (valOf W p)), .int .u64 (loOf (valOf W p)), .int .i64 p.length] 51
  have C : Hid (∀ w1, Below w.heap.size w w1 → Calls Try.prog 55 #[.pointer (some ⟨q, 0, none⟩), Pf (valOf W p) p.length] w1 fun e w' => e = .returned (thP (thAt p N)) ∧ Hid (Below w1.heap.size w1 w')) := fun w1 h => kept_yes (hT.below h) hp
  have HT : Hid (∀ t v, thAt p N = some (t, v) → ∀ w1, Below w.heap.size w w1 → Blk w1 t #[encV v] 3) := fun t v e w1 h => (hT.hang.below h).th_at e
  clear hT
  obtain ⟨r, hr⟩ : ∃ r, r = look p (kept N) := ⟨_, rfl⟩
  rw [← hr] at HL ⊢
  obtain ⟨o, ho⟩ : ∃ o, o = thAt p N := ⟨_, rfl⟩
  rw [← ho] at HL C HT
  clear hr ho
  cases o with
  | none =>
    have hl : r = none := by rw [← HL.out]; rfl
    subst hl
    have C' : Hid (∀ w1, Below w.heap.size w w1 → Calls Try.prog 55 #[.pointer (some ⟨q, 0, none⟩), Pf (valOf W p) p.length] w1 fun e w' => e = .returned (.pointer none) ∧ Hid (Below w1.heap.size w1 w')) := C
    clear HL HT C
    go_enter Try.func28, Try.ntmps28
    go_wp2_with fail
    refine (C'.out _ HB.out.2.1).mono ?_
    rintro e w2 ⟨rfl, H2⟩
    have HC : Hid (Below w.heap.size w w2) := bst HB.out.2.1 H2.out
    clear H2 C' HB
    go_wp2
    go_ret2
    exact ⟨rfl, HC.out⟩
  | some t =>
    obtain ⟨t, v⟩ := t
    have hl : r = some v := by rw [← HL.out]; rfl
    subst hl
    have C' : Hid (∀ w1, Below w.heap.size w w1 → Calls Try.prog 55 #[.pointer (some ⟨q, 0, none⟩), Pf (valOf W p) p.length] w1 fun e w' => e = .returned (.pointer (some ⟨t, 0, none⟩)) ∧ Hid (Below w1.heap.size w1 w')) := C
    clear HL C
    go_enter Try.func28, Try.ntmps28
    go_wp2_with fail
    refine (C'.out _ HB.out.2.1).mono ?_
    rintro e w2 ⟨rfl, H2⟩
    have HC : Hid (Below w.heap.size w w2) := bst HB.out.2.1 H2.out
    have c0 := (HT.out t v rfl w2 HC.out).cell 0 (v := .int .i64 v) rfl
    clear H2 C' HB HT
    go_wp2
    go_ret2
    exact ⟨rfl, HC.out⟩
end
theorem get_no {W : Nat} (h1 : 1 ≤ W) (h2 : W ≤ 128) (q : Nat) (v : Nat) (hv : Is128 v) (l : Int) (hP : isP W v l = false) (w : World) (hq : w.cell? ⟨q, 0, none⟩ = some (.int .i64 W)) :
    Calls Try.prog 28 #[.pointer (some ⟨q, 0, none⟩), Pf v l] w fun e w' => e = .returned (okI none) ∧ Below w.heap.size w w' := by
  have HB : Hid _ := one_new w #[.int .u64 (hiOf v), .int .u64 (loOf v), .int .i64 l] 51
  have C : Hid (∀ w1, Below w.heap.size w w1 → Calls Try.prog 55 #[.pointer (some ⟨q, 0, none⟩), Pf v l] w1 fun e w' => e = .returned (.pointer none) ∧ Hid (Below w1.heap.size w1 w')) := fun w1 h => kept_no h1 h2 q v hv l hP w1 ((World.cell?_of_block (h.block q (World.block_lt_of_cell? w _ hq))).trans hq)
  clear hP hq
  go_enter Try.func28, Try.ntmps28
  go_wp2_with fail
  refine (C.out _ HB.out.2.1).mono ?_
  rintro e w2 ⟨rfl, H2⟩
  have HC : Hid (Below w.heap.size w w2) := bst HB.out.2.1 H2.out
  clear H2 C HB
  go_wp2
  go_ret2
  exact ⟨rfl, HC.out⟩
end Go.Proofs.Ytgdpplipahhffaa
