/- Rows of what the document's trie keeps, appended to one another. The document's trie: Put. The document's trie: Drop. The document's trie: New, Copy. -/
import Derived.Test.YtgdpplipahhffaaGa
namespace Go.Proofs.Ytgdpplipahhffaa
open Go.RowKit
set_option linter.unusedVariables false
set_option linter.unusedSimpArgs false

theorem info57 : (Try.prog.info? 57).map (fun i => (i.zero, i.size, i.bytes)) = some (some (.agg #[.string ⟨#[]⟩, .int .i64 0]), 2, 24) := by kernel_rfl
/-- A slice over what is kept. -/
def Src (w : World) (sv : Value) (K : List (List Bool × Int)) : Prop := (sv = .slice none 0 0 ∧ K = []) ∨ ∃ a c, sv = .slice (some a) K.length c ∧ ∀ j u, (rowR K)[j]? = some u → w.cell? (a.add j) = some u
theorem app_rf (w : World) (B : Nat) (s sv : Value) (K1 K2 : List (List Bool × Int)) (hown : w.ownsRow B 57 2 s K1.length (rowR K1)) (hsrc : Src w sv K2) (hB : B ≤ w.heap.size) (hK : K1.length + K2.length ≤ 1000000) :
    ∃ s' W2, Sem.run Try.prog (appd #[38, 38] 38 #[s, sv]) w = .ok s' W2 ∧ W2.ownsRow B 57 2 s' (K1 ++ K2).length (rowR (K1 ++ K2)) ∧ (∃ ba bc, s' = .slice ba (K1 ++ K2).length bc) ∧ Kept (fun k => s.ownBlock = some k) w W2 ∧ (s'.ownBlock = s.ownBlock ∨ ∃ g, s'.ownBlock = some g ∧ w.heap.size ≤ g) := by
  obtain ⟨i0, hi, hz0, hz1, hz2⟩ := info_parts info57
  rcases hsrc with ⟨rfl, rfl⟩ | ⟨a, c, rfl, hc⟩
  · have hrun : Sem.run Try.prog (appd #[38, 38] 38 #[s, .slice none 0 0]) w = .ok s w := by
      rcases hown.2 with ⟨h', h0⟩ | ⟨g, cap, cur, h', _, hg, hnc, _⟩
      · subst h'
        simp [appd, Builtin.append_, run_underlying Try.underlying38, sizeOf, typeInfo, hi, Builtin.lenOf, Builtin.firstCells, Sem.run_bind, Result.andThen, go_sem]
      · subst h'
        simp [appd, Builtin.append_, run_underlying Try.underlying38, sizeOf, typeInfo, hi, Builtin.lenOf, Builtin.firstCells, Sem.run_bind, Result.andThen, go_sem, hnc, storeCells]
    refine ⟨s, w, hrun, by rw [List.append_nil]; exact hown, ?_, Kept.refl _ _, .inl rfl⟩
    rw [List.append_nil]
    exact ownsRow_slice hown
  · obtain ⟨s', W2, hr, ho2, hg2, _, hat⟩ := run_append_own_at (P := Try.prog) (w := w) B 38 38 57 i0 _ 2 24 Try.underlying38 hi hz0 hz1 hz2 rfl (by decide) s _ _ hown a K2.length c (rowR K2) (rowR_len K2) hc (fun u hu => by
        obtain ⟨y, _, hy⟩ := List.mem_flatMap.1 hu
        simp only [rfC, List.mem_cons, List.not_mem_nil, or_false] at hy
        rcases hy with rfl | rfl <;> rfl) (by unfold maxLen; omega) (by omega) hB
    refine ⟨s', W2, hr, ?_, ?_, ⟨hg2.os, hg2.tape, hg2.output, hg2.size, fun k hk hs => hg2.block k hk (fun e => hs e.symm)⟩, ?_⟩
    · rw [rowR_append, List.length_append]; exact ho2
    · rw [List.length_append]; exact ownsRow_slice ho2
    · rcases hat with h | h
      · exact .inl h
      · exact .inr ⟨_, h, Nat.le_refl _⟩
theorem src_take {w : World} {B n k : Nat} {ba : Option Addr} {bc : Nat} {L : List (List Bool × Int)} (hO : w.ownsRow B 57 2 (.slice ba n bc) n (rowR L)) (hL : L.length = n) (hk : k ≤ n) : Src w (.slice ba k bc) (L.take k) := by
  rcases hO.2 with ⟨h', h0⟩ | ⟨g, cap, cur, h', _, hg, hnc, _⟩
  · left
    simp only [Value.slice.injEq] at h'
    obtain ⟨rfl, h2, rfl⟩ := h'
    have hk0 : k = 0 := by omega
    subst hk0
    exact ⟨rfl, by simp⟩
  · right
    simp only [Value.slice.injEq, true_and] at h'
    obtain ⟨rfl, rfl⟩ := h'
    refine ⟨⟨g, 0, none⟩, bc, by rw [List.length_take]; congr 1; omega, fun j u hj => ?_⟩
    refine hO.cells (g := g) rfl j u ?_
    have e : rowR L = rowR (L.take k) ++ rowR (L.drop k) := by rw [← rowR_append, List.take_append_drop]
    rw [e, List.getElem?_append_left (List.getElem?_eq_some_iff.1 hj).1]
    exact hj
theorem src_drop {w : World} {B n k : Nat} {g : Nat} {bc : Nat} {L : List (List Bool × Int)} (hO : w.ownsRow B 57 2 (.slice (some ⟨g, 0, none⟩) n bc) n (rowR L)) (hL : L.length = n) (hk : k ≤ n) (a : Addr) (c : Nat) (ha : k < n → a = ⟨g, k * 2, none⟩) : Src w (.slice (some a) (n - k) c) (L.drop k) := by
  right
  refine ⟨a, c, by rw [List.length_drop, hL], fun j u hj => ?_⟩
  have hjl := (List.getElem?_eq_some_iff.1 hj).1
  rw [rowR_len, List.length_drop, hL] at hjl
  have hkn : k < n := by omega
  rw [ha hkn]
  have h1 := hO.cells (g := g) rfl (k * 2 + j) u (by
    have e : rowR L = rowR (L.take k) ++ rowR (L.drop k) := by rw [← rowR_append, List.take_append_drop]
    rw [e, List.getElem?_append_right (by rw [rowR_len, List.length_take]; omega), rowR_len, List.length_take, show k * 2 + j - min k L.length * 2 = j by omega]
    exact hj)
  rw [Addr.add_mid, Nat.zero_add] at h1
  rw [Addr.add_mid]
  exact h1
end Go.Proofs.Ytgdpplipahhffaa
namespace Go.Proofs.Ytgdpplipahhffaa
open Go.RowKit
set_option linter.unusedVariables false
set_option linter.unusedSimpArgs false

section
variable {w : World} {B q W most : Nat} {L : List (List Bool × Int)}
set_option maxHeartbeats 1000000 in
theorem rput_bad (hT : RefAt w B q W most L) (h1 : 1 ≤ W) (h2 : W ≤ 128) (v : Nat) (hv : Is128 v) (l u : Int) (hP : isP W v l = false) :
    Calls Try.prog 41 #[.pointer (some ⟨q, 0, none⟩), Go.Proofs.Ytgdpplipahhffaa.B v, .int .i64 l, .int .i64 u] w fun e w' => e = .returned (.int .i64 111) ∧ Below w.heap.size w w' := by
  obtain ⟨⟨ba, bc, hB, hO⟩, hs, hf⟩ := hT
  have HB : Hid _ := one_new w #[.int .u64 (hiOf v), .int .u64 (loOf v)] 33
  have HH : Hid (Blk w q #[.int .i64 W, .int .i64 most, .slice ba L.length bc] 40) := hB
  have C25 : Hid (∀ w1, Calls Try.prog 25 #[Go.Proofs.Ytgdpplipahhffaa.B v, .int .i64 l, .int .i64 W] w1 fun e w' => e = .returned (.tuple #[.string (textT W v l), .bool false]) ∧ Below w1.heap.size w1 w') := fun w1 => by
    have := rtext_any v hv l W h1 h2 w1
    rw [hP] at this; exact this
  clear hB hO hs hf hP
  generalize textT W v l = tt at *
  go_enter Try.func41, Try.ntmps41
  go_upto_region 1 with fail
  generalize (w.alloc _) = w0 at HB ⊢
  have x0 := gw_cell (HB.out.1.cell 0 (v := .int .u64 (hiOf v)) rfl)
  have x1 := gw_cell (HB.out.1.cell 1 (v := .int .u64 (loOf v)) rfl)
  have z0 := gw_cell ((HH.out.below HB.out.2.1).cell 0 (v := .int .i64 W) rfl)
  have fin : Hid (∀ z : Grown w0, Below w.heap.size w (gw z)) := fun z => HB.out.2.1.trans ((gw_below z).mono (Nat.le_of_lt HB.out.2.2))
  refine region_grows (by kernel_rfl) (by kernel_rfl) ?_
  repeat (go_big_quiet_step ((go_at_call 25; exact calls_gw (C25.out _))))
  refine wpQuiet_nil ?_
  intro wq hwq
  obtain ⟨zq, rfl⟩ := hwq
  have HF : Hid (Below w.heap.size w (gw zq)) := fin.out zq
  clear x0 x1 z0 C25 fin HB HH
  go_wp2
  go_ret
  exact ⟨rfl, HF.out⟩
set_option maxHeartbeats 1000000 in
theorem rput_dup (hT : RefAt w B q W most L) (h1 : 1 ≤ W) (h2 : W ≤ 128) {p : List Bool} (hp : p.length ≤ W) (u : Int) {x : Int} (hl : look p L = some x) :
    Calls Try.prog 41 #[.pointer (some ⟨q, 0, none⟩), Go.Proofs.Ytgdpplipahhffaa.B (valOf W p), .int .i64 p.length, .int .i64 u] w fun e w' => e = .returned (.int .i64 121) ∧ Below w.heap.size w w' := by
  have HT : Hid (RefAt w B q W most L) := hT
  obtain ⟨⟨ba, bc, hB, hO⟩, hs, hf⟩ := hT
  have HB : Hid _ := one_new w #[.int .u64 (hiOf (valOf W p)), .int .u64 (loOf (valOf W p))] 33
  have HH : Hid (Blk w q #[.int .i64 W, .int .i64 most, .slice ba L.length bc] 40 ∧ w.ownsRow B 57 2 (.slice ba L.length bc) L.length (rowR L) ∧ Srt L ∧ L.length ≤ 4096) := ⟨hB, hO, hs, hf⟩
  have C25 : Hid (∀ w1, Calls Try.prog 25 #[Go.Proofs.Ytgdpplipahhffaa.B (valOf W p), .int .i64 p.length, .int .i64 W] w1 fun e w' => e = .returned (.tuple #[.string (tx p), .bool true]) ∧ Below w1.heap.size w1 w') := fun w1 => by
    have := rtext_any (valOf W p) (val_is h2 hp) p.length W h1 h2 w1
    rw [text_mk hp, isP_mk hp] at this; exact this
  have C64 : Hid (∀ w1, Below w.heap.size w w1 → Calls Try.prog 64 #[.pointer (some ⟨q, 0, none⟩), .string (tx p)] w1 fun e w' => e = .returned (.tuple #[.int .i64 (pos p L), .bool (look p L).isSome]) ∧ Hid (Below w1.heap.size w1 w')) := fun w1 hb => at64 (HT.out.below hb) p
  clear hB hO hs hf
  rw [hl] at C64
  generalize tx p = tp at *
  go_enter Try.func41, Try.ntmps41
  go_upto_region 1 with fail
  generalize (w.alloc _) = w0 at HB ⊢
  have x0 := gw_cell (HB.out.1.cell 0 (v := .int .u64 (hiOf (valOf W p))) rfl)
  have x1 := gw_cell (HB.out.1.cell 1 (v := .int .u64 (loOf (valOf W p))) rfl)
  have z0 := gw_cell ((HH.out.1.below HB.out.2.1).cell 0 (v := .int .i64 W) rfl)
  have fin : Hid (∀ z : Grown w0, Below w.heap.size w (gw z)) := fun z => HB.out.2.1.trans ((gw_below z).mono (Nat.le_of_lt HB.out.2.2))
  refine region_grows (by kernel_rfl) (by kernel_rfl) ?_
  repeat (go_big_quiet_step ((go_at_call 25; exact calls_gw (C25.out _))))
  refine wpQuiet_nil ?_
  intro wq hwq
  obtain ⟨zq, rfl⟩ := hwq
  have HF : Hid (Below w.heap.size w (gw zq)) := fin.out zq
  clear x0 x1 z0 C25 fin HB
  generalize gw zq = w1 at *
  go_wp2_with fail
  refine (C64.out _ HF.out).mono ?_
  rintro e w2 ⟨rfl, H2⟩
  have HF2 : Hid (Below w.heap.size w w2) := bst HF.out H2.out
  rw [show (some x : Option Int).isSome = true from rfl]
  clear C64 HF HH H2
  go_wp2
  go_ret
  exact ⟨rfl, HF2.out⟩
set_option maxHeartbeats 1000000 in
theorem rput_full (hT : RefAt w B q W most L) (h1 : 1 ≤ W) (h2 : W ≤ 128) {p : List Bool} (hp : p.length ≤ W) (u : Int) (hl : look p L = none) (hm : most ≤ L.length) :
    Calls Try.prog 41 #[.pointer (some ⟨q, 0, none⟩), Go.Proofs.Ytgdpplipahhffaa.B (valOf W p), .int .i64 p.length, .int .i64 u] w fun e w' => e = .returned (.int .i64 120) ∧ Below w.heap.size w w' := by
  have HT : Hid (RefAt w B q W most L) := hT
  obtain ⟨⟨ba, bc, hB, hO⟩, hs, hf⟩ := hT
  have HB : Hid _ := one_new w #[.int .u64 (hiOf (valOf W p)), .int .u64 (loOf (valOf W p))] 33
  have HH : Hid (Blk w q #[.int .i64 W, .int .i64 most, .slice ba L.length bc] 40 ∧ w.ownsRow B 57 2 (.slice ba L.length bc) L.length (rowR L) ∧ Srt L ∧ L.length ≤ 4096) := ⟨hB, hO, hs, hf⟩
  have C25 : Hid (∀ w1, Calls Try.prog 25 #[Go.Proofs.Ytgdpplipahhffaa.B (valOf W p), .int .i64 p.length, .int .i64 W] w1 fun e w' => e = .returned (.tuple #[.string (tx p), .bool true]) ∧ Below w1.heap.size w1 w') := fun w1 => by
    have := rtext_any (valOf W p) (val_is h2 hp) p.length W h1 h2 w1
    rw [text_mk hp, isP_mk hp] at this; exact this
  have C64 : Hid (∀ w1, Below w.heap.size w w1 → Calls Try.prog 64 #[.pointer (some ⟨q, 0, none⟩), .string (tx p)] w1 fun e w' => e = .returned (.tuple #[.int .i64 (pos p L), .bool (look p L).isSome]) ∧ Hid (Below w1.heap.size w1 w')) := fun w1 hb => at64 (HT.out.below hb) p
  clear hB hO hs hf
  rw [hl] at C64
  generalize tx p = tp at *
  go_enter Try.func41, Try.ntmps41
  go_upto_region 1 with fail
  generalize (w.alloc _) = w0 at HB ⊢
  have x0 := gw_cell (HB.out.1.cell 0 (v := .int .u64 (hiOf (valOf W p))) rfl)
  have x1 := gw_cell (HB.out.1.cell 1 (v := .int .u64 (loOf (valOf W p))) rfl)
  have z0 := gw_cell ((HH.out.1.below HB.out.2.1).cell 0 (v := .int .i64 W) rfl)
  have fin : Hid (∀ z : Grown w0, Below w.heap.size w (gw z)) := fun z => HB.out.2.1.trans ((gw_below z).mono (Nat.le_of_lt HB.out.2.2))
  refine region_grows (by kernel_rfl) (by kernel_rfl) ?_
  repeat (go_big_quiet_step ((go_at_call 25; exact calls_gw (C25.out _))))
  refine wpQuiet_nil ?_
  intro wq hwq
  obtain ⟨zq, rfl⟩ := hwq
  have HF : Hid (Below w.heap.size w (gw zq)) := fin.out zq
  clear x0 x1 z0 C25 fin HB
  generalize gw zq = w1 at *
  go_wp2_with fail
  refine (C64.out _ HF.out).mono ?_
  rintro e w2 ⟨rfl, H2⟩
  have HF2 : Hid (Below w.heap.size w w2) := bst HF.out H2.out
  rw [show (none : Option Int).isSome = false from rfl]
  have c2 := gw_cell ((HH.out.1.below HF2.out).cell 2 (v := .slice ba L.length bc) rfl)
  have c1 := gw_cell ((HH.out.1.below HF2.out).cell 1 (v := .int .i64 most) rfl)
  have hm' : (most : Int) ≤ L.length := by omega
  have fin : Hid (∀ z : Grown w2, Below w.heap.size w (gw z)) := fun z => bst HF2.out (gw_below z)
  clear C64 HF HH H2 HF2
  go_upto_region 7 with fail
  refine region_grows (by kernel_rfl) (by kernel_rfl) ?_
  repeat (go_big_quiet_step (fail))
  refine wpQuiet_nil ?_
  intro wq hwq
  obtain ⟨zq, rfl⟩ := hwq
  have HF3 : Hid (Below w.heap.size w (gw zq)) := fin.out zq
  clear c1 c2 fin
  go_wp2
  go_ret
  exact ⟨rfl, HF3.out⟩
attribute [local go_sem ↓] append_appd
set_option maxHeartbeats 1000000 in
/-- A new key: a new row is made. -/
theorem rput_ok {ba : Option Addr} {bc : Nat} (hB : Blk w q #[.int .i64 W, .int .i64 most, .slice ba L.length bc] 40) (hO : w.ownsRow B 57 2 (.slice ba L.length bc) L.length (rowR L)) (hs : Srt L) (hf : L.length ≤ 4096) (h1 : 1 ≤ W) (h2 : W ≤ 128) {p : List Bool} (hp : p.length ≤ W) (u : Int) (hl : look p L = none) (hm : L.length < most) :
    Calls Try.prog 41 #[.pointer (some ⟨q, 0, none⟩), Go.Proofs.Ytgdpplipahhffaa.B (valOf W p), .int .i64 p.length, .int .i64 u] w fun e w' => e = .returned (.int .i64 0) ∧ ∃ ba' bc', Hid (Blk w' q #[.int .i64 W, .int .i64 most, .slice ba' (upd p u L).length bc'] 40 ∧ w'.ownsRow w.heap.size 57 2 (.slice ba' (upd p u L).length bc') (upd p u L).length (rowR (upd p u L)) ∧ Kept (fun k => k = q) w w') := by
  have hT : RefAt w B q W most L := ⟨⟨ba, bc, hB, hO⟩, hs, hf⟩
  have HT : Hid (RefAt w B q W most L) := hT
  have HB : Hid _ := one_new w #[.int .u64 (hiOf (valOf W p)), .int .u64 (loOf (valOf W p))] 33
  have HH : Hid (Blk w q #[.int .i64 W, .int .i64 most, .slice ba L.length bc] 40 ∧ w.ownsRow B 57 2 (.slice ba L.length bc) L.length (rowR L) ∧ Srt L ∧ L.length ≤ 4096) := ⟨hB, hO, hs, hf⟩
  have C25 : Hid (∀ w1, Calls Try.prog 25 #[Go.Proofs.Ytgdpplipahhffaa.B (valOf W p), .int .i64 p.length, .int .i64 W] w1 fun e w' => e = .returned (.tuple #[.string (tx p), .bool true]) ∧ Below w1.heap.size w1 w') := fun w1 => by
    have := rtext_any (valOf W p) (val_is h2 hp) p.length W h1 h2 w1
    rw [text_mk hp, isP_mk hp] at this; exact this
  have C64 : Hid (∀ w1, Below w.heap.size w w1 → Calls Try.prog 64 #[.pointer (some ⟨q, 0, none⟩), .string (tx p)] w1 fun e w' => e = .returned (.tuple #[.int .i64 (pos p L), .bool (look p L).isSome]) ∧ Hid (Below w1.heap.size w1 w')) := fun w1 hb => at64 (HT.out.below hb) p
  clear hB hO hs hf HT
  rw [hl] at C64
  obtain ⟨tp, htp⟩ : ∃ tp, tx p = tp := ⟨_, rfl⟩
  have HTP : Hid (tx p = tp) := htp
  rw [htp] at C25 C64
  clear htp
  go_enter Try.func41, Try.ntmps41
  go_upto_region 1 with fail
  generalize (w.alloc _) = w0 at HB ⊢
  have x0 := gw_cell (HB.out.1.cell 0 (v := .int .u64 (hiOf (valOf W p))) rfl)
  have x1 := gw_cell (HB.out.1.cell 1 (v := .int .u64 (loOf (valOf W p))) rfl)
  have z0 := gw_cell ((HH.out.1.below HB.out.2.1).cell 0 (v := .int .i64 W) rfl)
  have fin : Hid (∀ z : Grown w0, Below w.heap.size w (gw z)) := fun z => HB.out.2.1.trans ((gw_below z).mono (Nat.le_of_lt HB.out.2.2))
  refine region_grows (by kernel_rfl) (by kernel_rfl) ?_
  repeat (go_big_quiet_step ((go_at_call 25; exact calls_gw (C25.out _))))
  refine wpQuiet_nil ?_
  intro wq hwq
  obtain ⟨zq, rfl⟩ := hwq
  have HF : Hid (Below w.heap.size w (gw zq)) := fin.out zq
  clear x0 x1 z0 C25 fin HB
  generalize gw zq = w1 at *
  go_wp2_with fail
  refine (C64.out _ HF.out).mono ?_
  rintro e w2 ⟨rfl, H2⟩
  have HF2 : Hid (Below w.heap.size w w2) := bst HF.out H2.out
  rw [show (none : Option Int).isSome = false from rfl]
  have c2 := gw_cell ((HH.out.1.below HF2.out).cell 2 (v := .slice ba L.length bc) rfl)
  have c1 := gw_cell ((HH.out.1.below HF2.out).cell 1 (v := .int .i64 most) rfl)
  have hm' : ¬ (most : Int) ≤ L.length := by omega
  have hm'' : decide ((most : Int) ≤ L.length) = false := decide_eq_false hm'
  have hm3 : ¬ most ≤ L.length := by omega
  have fin : Hid (∀ z : Grown w2, Below w.heap.size w (gw z)) := fun z => bst HF2.out (gw_below z)
  clear C64 HF H2 HF2
  go_upto_region 7 with fail
  refine region_grows (by kernel_rfl) (by kernel_rfl) ?_
  repeat (go_big_quiet_step (fail))
  refine wpQuiet_nil ?_
  intro wq hwq
  obtain ⟨zq, rfl⟩ := hwq
  have HF3 : Hid (Below w.heap.size w (gw zq)) := fin.out zq
  clear c1 c2 fin
  generalize gw zq = w3 at *
  have HP : Hid (pos p L ≤ L.length) := pos_le p L
  have hpl : (pos p L : Int) ≤ L.length := by have := HP.out; omega
  have hpl2 : pos p L ≤ L.length := HP.out
  have c2 := (HH.out.1.below HF3.out).cell 2 (v := .slice ba L.length bc) rfl
  have hbc : L.length ≤ bc := by
    rcases HH.out.2.1.2 with ⟨h', h0⟩ | ⟨g', cap', cur, h', _, hg, hnc, _⟩
    · omega
    · simp only [Value.slice.injEq] at h'
      omega
  have hbi : (L.length : Int) ≤ bc := by omega
  have hk4 : L.length ≤ 4096 := HH.out.2.2.2
  have hO3 := ownsRow_kept HH.out.2.1 (Kept.of_below (S := fun _ => False) HF3.out) (fun k _ e => e)
  obtain ⟨s1, W1, hr1, ho1, ⟨ba1, bc1, rfl⟩, hk1, hat1⟩ := app_rf w3 w.heap.size (.slice none 0 0) (.slice ba (pos p L) bc) [] (L.take (pos p L)) (World.ownsRow_nil _ _ _ _) (src_take hO3 rfl hpl2) HF3.out.size (by rw [List.length_take]; simp; omega)
  have HR1 : Hid (W1.ownsRow w.heap.size 57 2 (.slice ba1 ([] ++ L.take (pos p L)).length bc1) ([] ++ L.take (pos p L)).length (rowR ([] ++ L.take (pos p L))) ∧ Kept (fun _ => False) w3 W1) := ⟨ho1, hk1.mono fun k _ e => by simp [Value.ownBlock] at e⟩
  clear ho1 hk1 hat1 hO3
  obtain ⟨m1, hm1⟩ : ∃ m1, ([] ++ L.take (pos p L)).length = m1 := ⟨_, rfl⟩
  rw [hm1] at hr1 HR1
  go_upto_region 11 with fail
  clear hr1 c2
  have hb4 : Below W1.heap.size W1 (W1.alloc (.cells #[.string tp, .int .i64 u] 57)) := (Below.refl _ _).alloc (Nat.le_refl _) _
  have hB4 := Blk.new W1 #[.string tp, .int .i64 u] 57
  have hs13 : w.heap.size ≤ W1.heap.size := Nat.le_trans HF3.out.size HR1.out.2.size
  obtain ⟨s2, W2, hr2, ho2, ⟨ba2, bc2, rfl⟩, hk2, hat2⟩ := app_rf (W1.alloc (.cells #[.string tp, .int .i64 u] 57)) w.heap.size (.slice ba1 m1 bc1) (.slice (some ⟨W1.heap.size, 0, none⟩) 1 1) ([] ++ L.take (pos p L)) [(p, u)] (by rw [hm1]; exact ownsRow_kept HR1.out.1 (Kept.of_below (S := fun _ => False) hb4) (fun k _ e => e)) (.inr ⟨_, 1, rfl, fun j v hj => by
    rw [Addr.add_mid, Nat.zero_add]
    have hj' : (#[Value.string tp, .int .i64 u] : Array Value)[j]? = some v := by
      rw [← HTP.out]
      rw [← List.getElem?_toArray] at hj
      exact hj
    exact hB4.cell j hj'⟩) (Nat.le_trans hs13 hb4.size) (by rw [hm1]; simp at hm1 ⊢; omega)
  have HR2 : Hid (W2.ownsRow w.heap.size 57 2 (.slice ba2 ([] ++ L.take (pos p L) ++ [(p, u)]).length bc2) ([] ++ L.take (pos p L) ++ [(p, u)]).length (rowR ([] ++ L.take (pos p L) ++ [(p, u)])) ∧ Kept (fun k => w.heap.size ≤ k) w W2) := by
    refine ⟨ho2, ((Kept.of_below HF3.out).trans (HR1.out.2.mono fun k _ e => e.elim)).trans ((Kept.of_below hb4).trans (hk2.mono fun k _ e => ?_))⟩
    rcases HR1.out.1.2 with ⟨h', _⟩ | ⟨g', cap', cur, h', hb', _⟩
    · rw [h'] at e; simp [Value.ownBlock] at e
    · rw [h'] at e; simp [Value.ownBlock] at e; omega
  clear ho2 hk2 hat2 hb4 hB4
  obtain ⟨m2, hm2⟩ : ∃ m2, ([] ++ L.take (pos p L) ++ [(p, u)]).length = m2 := ⟨_, rfl⟩
  rw [hm2] at hr2 HR2
  go_upto_region 12 with fail
  clear hr2
  have hqw : Blk W2 q #[.int .i64 W, .int .i64 most, .slice ba L.length bc] 40 := HH.out.1.kept HR2.out.2 (by have := HH.out.1.lt; show ¬ _ ≤ _; omega)
  have hrow2 : W2.ownsRow B 57 2 (.slice ba L.length bc) L.length (rowR L) := ownsRow_kept HH.out.2.1 HR2.out.2 (fun k hk e => by
    rcases HH.out.2.1.2 with ⟨h', _⟩ | ⟨g', cap', cur, h', _, hg', _⟩
    · rw [h'] at hk; simp [Value.ownBlock] at hk
    · rw [h'] at hk; simp [Value.ownBlock] at hk
      have := (Array.getElem?_eq_some_iff.1 hg').1
      omega)
  have c2 := hqw.cell 2 (v := .slice ba L.length bc) rfl
  have hmm : m2 = pos p L + 1 := by rw [← hm2]; simp; omega
  have fin3 : ∀ sv, Src W2 sv (L.drop (pos p L)) → ∃ ba3 bc3 W3, Sem.run Try.prog (appd #[38, 38] 38 #[.slice ba2 m2 bc2, sv]) W2 = .ok (.slice ba3 (L.length + 1) bc3) W3 ∧ W3.cell? ⟨q, 2, none⟩ = some (.slice ba L.length bc) ∧ W3.frozen? ⟨q, 2, none⟩ = false ∧ Hid (Blk (W3.setCell ⟨q, 2, none⟩ (.slice ba3 (L.length + 1) bc3)) q #[.int .i64 W, .int .i64 most, .slice ba3 (upd p u L).length bc3] 40 ∧ (W3.setCell ⟨q, 2, none⟩ (.slice ba3 (L.length + 1) bc3)).ownsRow w.heap.size 57 2 (.slice ba3 (upd p u L).length bc3) (upd p u L).length (rowR (upd p u L)) ∧ Kept (fun k => k = q) w (W3.setCell ⟨q, 2, none⟩ (.slice ba3 (L.length + 1) bc3))) := fun sv hsv => by
    obtain ⟨s3, W3, hr3, ho3, ⟨ba3, bc3, rfl⟩, hk3, _⟩ := app_rf W2 w.heap.size (.slice ba2 m2 bc2) sv ([] ++ L.take (pos p L) ++ [(p, u)]) (L.drop (pos p L)) (by rw [hm2]; exact HR2.out.1) hsv HR2.out.2.size (by rw [hm2, List.length_drop]; omega)
    have hl : ([] ++ L.take (pos p L) ++ [(p, u)] ++ L.drop (pos p L)) = upd p u L := by rw [upd_pos hl]; simp
    have hlen : (upd p u L).length = L.length + 1 := by rw [← hl]; simp; omega
    rw [hl] at ho3 hr3
    rw [hlen] at hr3
    have hnq : ∀ k, (Value.slice ba2 m2 bc2).ownBlock = some k → w.heap.size ≤ k := fun k e => by
      rcases HR2.out.1.2 with ⟨h', _⟩ | ⟨g', cap', cur, h', hb', _⟩
      · rw [h'] at e; simp [Value.ownBlock] at e
      · rw [h'] at e; simp [Value.ownBlock] at e; omega
    have hql := HH.out.1.lt
    have hq3 : Blk W3 q #[.int .i64 W, .int .i64 most, .slice ba L.length bc] 40 := hqw.kept hk3 (fun e => by have := hnq q e; omega)
    have ks := (Kept.refl (fun k => k = q) W3).set (p := ⟨q, 2, none⟩) rfl (.slice ba3 (L.length + 1) bc3)
    refine ⟨ba3, bc3, W3, hr3, hq3.cell 2 rfl, hq3.frozen 2, (⟨?_, ?_, ?_⟩ : _ ∧ _)⟩
    · rw [hlen]; exact hq3.set 2 _
    · rw [hlen] at ho3 ⊢
      exact ownsRow_kept ho3 ks fun k hk e => by
        have e' : k = q := e
        rcases ho3.2 with ⟨h', _⟩ | ⟨g', cap', cur, h', hb', _⟩
        · rw [h'] at hk; simp [Value.ownBlock] at hk
        · rw [h'] at hk; simp [Value.ownBlock] at hk; omega
    · have h1 := HR2.out.2
      have h13 : Kept (fun k => w.heap.size ≤ k) w W3 := h1.trans (hk3.mono fun k _ e => hnq k e)
      exact ⟨ks.os.trans h13.os, ks.tape.trans h13.tape, ks.output.trans h13.output, Nat.le_trans h13.size ks.size, fun k hk hs => (ks.block k (Nat.lt_of_lt_of_le hk h13.size) hs).trans (h13.block k hk (by show ¬ _ ≤ _; omega))⟩
  clear HR2 hqw HR1
  rcases ba with _ | g
  · obtain ⟨hb0, hl0⟩ : bc = 0 ∧ L.length = 0 := by
      rcases HH.out.2.1.2 with ⟨h', h0⟩ | ⟨g', cap', cur, h', _⟩
      · simp only [Value.slice.injEq] at h'
        omega
      · simp at h'
    have hp0 : pos p L = 0 := by omega
    obtain ⟨ba3, bc3, W3, hr3, hc3, hf3, hfin⟩ := fin3 (.slice none (L.length - pos p L) (bc - pos p L)) (.inl ⟨by rw [hl0, hp0, hb0], by rw [List.eq_nil_of_length_eq_zero hl0]; simp⟩)
    clear fin3 HH HP HF3 HTP hm3 hm'' hm' hl hm hm1 hm2 hrow2 hb0 hl0 hp0 hmm
    generalize pos p L = k at *
    generalize L.length = n at *
    go_wp2
    go_ret
    exact ⟨rfl, _, _, hfin⟩
  · obtain ⟨g, rfl⟩ : ∃ g0, g = ⟨g0, 0, none⟩ := by
      rcases hrow2.2 with ⟨h', _⟩ | ⟨g', cap', cur, h', _⟩
      · simp at h'
      · simp only [Value.slice.injEq, Option.some.injEq] at h'
        exact ⟨g', h'.1⟩
    have hsd := fun a c => src_drop hrow2 rfl hpl2 a c
    by_cases hbk : bc = pos p L
    · obtain ⟨ba3, bc3, W3, hr3, hc3, hf3, hfin⟩ := fin3 (.slice (some ⟨g, 0, none⟩) (L.length - pos p L) (bc - pos p L)) (hsd _ _ (fun h => by omega))
      clear fin3 HH HP HF3 HTP hm3 hm'' hm' hl hm hm1 hm2 hrow2 hmm hsd
      generalize pos p L = k at *
      generalize L.length = n at *
      have hnk : n = k := by omega
      subst hnk
      subst hbk
      rw [Nat.sub_self] at hr3
      set_option maxRecDepth 4000 in go_wp2_with fail
      go_ret
      exact ⟨rfl, _, _, hfin⟩
    · obtain ⟨ba3, bc3, W3, hr3, hc3, hf3, hfin⟩ := fin3 (.slice (some ⟨g, pos p L * 2, none⟩) (L.length - pos p L) (bc - pos p L)) (hsd _ _ (fun h => rfl))
      clear fin3 HH HP HF3 HTP hm3 hm'' hm' hl hm hm1 hm2 hrow2 hmm hsd
      generalize pos p L = k at *
      generalize L.length = n at *
      go_wp2
      go_ret
      exact ⟨rfl, _, _, hfin⟩
end
end Go.Proofs.Ytgdpplipahhffaa
namespace Go.Proofs.Ytgdpplipahhffaa
open Go.RowKit
set_option linter.unusedVariables false
set_option linter.unusedSimpArgs false

section
variable {w : World} {B q W most : Nat} {L : List (List Bool × Int)}
set_option maxHeartbeats 1000000 in
theorem rdrop_none (hT : RefAt w B q W most L) (v : Nat) (l : Int) (C : ∀ w1, Below w.heap.size w w1 → Calls Try.prog 44 #[.pointer (some ⟨q, 0, none⟩), Go.Proofs.Ytgdpplipahhffaa.B v, .int .i64 l] w1 fun e w' => e = .returned (okI none) ∧ Below w1.heap.size w1 w') :
    Calls Try.prog 43 #[.pointer (some ⟨q, 0, none⟩), Go.Proofs.Ytgdpplipahhffaa.B v, .int .i64 l] w fun e w' => e = .returned (okI none) ∧ Below w.heap.size w w' := by
  obtain ⟨⟨ba, bc, hB, hO⟩, hs, hf⟩ := hT
  have HB : Hid _ := one_new w #[.int .u64 (hiOf v), .int .u64 (loOf v)] 33
  have C44 : Hid (∀ w1, Below w.heap.size w w1 → Calls Try.prog 44 #[.pointer (some ⟨q, 0, none⟩), Go.Proofs.Ytgdpplipahhffaa.B v, .int .i64 l] w1 fun e w' => e = .returned (okI none) ∧ Hid (Below w1.heap.size w1 w')) := fun w1 hb => (C w1 hb).mono fun _ _ h => ⟨h.1, h.2⟩
  clear hB hO hs hf C
  go_enter Try.func43, Try.ntmps43
  go_upto_region 1 with fail
  generalize (w.alloc _) = w0 at HB ⊢
  have x0 := HB.out.1.cell 0 (v := .int .u64 (hiOf v)) rfl
  have x1 := HB.out.1.cell 1 (v := .int .u64 (loOf v)) rfl
  go_wp2_with fail
  refine (C44.out _ HB.out.2.1).mono ?_
  rintro e w2 ⟨rfl, H2⟩
  have HF2 : Hid (Below w.heap.size w w2) := bst HB.out.2.1 H2.out
  clear C44 HB H2 x0 x1
  unfold okI
  go_wp2
  go_ret2
  exact ⟨rfl, HF2.out⟩
attribute [local go_sem ↓] append_appd
set_option maxHeartbeats 1000000 in
theorem rdrop_some {ba : Option Addr} {bc : Nat} (hB : Blk w q #[.int .i64 W, .int .i64 most, .slice ba L.length bc] 40) (hO : w.ownsRow B 57 2 (.slice ba L.length bc) L.length (rowR L)) (hs : Srt L) (hf : L.length ≤ 4096) (h1 : 1 ≤ W) (h2 : W ≤ 128) {p : List Bool} (hp : p.length ≤ W) {x : Int} (hl : look p L = some x) :
    Calls Try.prog 43 #[.pointer (some ⟨q, 0, none⟩), Go.Proofs.Ytgdpplipahhffaa.B (valOf W p), .int .i64 p.length] w fun e w' => e = .returned (okI (some x)) ∧ ∃ ba' bc', Hid (Blk w' q #[.int .i64 W, .int .i64 most, .slice ba' (del p L).length bc'] 40 ∧ w'.ownsRow w.heap.size 57 2 (.slice ba' (del p L).length bc') (del p L).length (rowR (del p L)) ∧ Kept (fun k => k = q) w w') := by
  have hT : RefAt w B q W most L := ⟨⟨ba, bc, hB, hO⟩, hs, hf⟩
  have HT : Hid (RefAt w B q W most L) := hT
  have HB : Hid _ := one_new w #[.int .u64 (hiOf (valOf W p)), .int .u64 (loOf (valOf W p))] 33
  have HH : Hid (Blk w q #[.int .i64 W, .int .i64 most, .slice ba L.length bc] 40 ∧ w.ownsRow B 57 2 (.slice ba L.length bc) L.length (rowR L) ∧ Srt L ∧ L.length ≤ 4096) := ⟨hB, hO, hs, hf⟩
  have C25 : Hid (∀ w1, Calls Try.prog 25 #[Go.Proofs.Ytgdpplipahhffaa.B (valOf W p), .int .i64 p.length, .int .i64 W] w1 fun e w' => e = .returned (.tuple #[.string (tx p), .bool true]) ∧ Below w1.heap.size w1 w') := fun w1 => by
    have := rtext_any (valOf W p) (val_is h2 hp) p.length W h1 h2 w1
    rw [text_mk hp, isP_mk hp] at this; exact this
  have C64 : Hid (∀ w1, Below w.heap.size w w1 → Calls Try.prog 64 #[.pointer (some ⟨q, 0, none⟩), .string (tx p)] w1 fun e w' => e = .returned (.tuple #[.int .i64 (pos p L), .bool (look p L).isSome]) ∧ Hid (Below w1.heap.size w1 w')) := fun w1 hb => at64 (HT.out.below hb) p
  have C44 : Hid (∀ w1, Below w.heap.size w w1 → Calls Try.prog 44 #[.pointer (some ⟨q, 0, none⟩), Go.Proofs.Ytgdpplipahhffaa.B (valOf W p), .int .i64 p.length] w1 fun e w' => e = .returned (.tuple #[.int .i64 x, .bool true]) ∧ Hid (Below w1.heap.size w1 w')) := fun w1 hb => by
    have := rget_yes (HT.out.below hb) h1 h2 hp
    rw [hl] at this
    exact this.mono fun _ _ h => ⟨h.1, h.2⟩
  clear hB hO hs hf HT
  rw [hl] at C64
  generalize tx p = tp at *
  go_enter Try.func43, Try.ntmps43
  go_upto_region 1 with fail
  generalize (w.alloc _) = w0 at HB ⊢
  have x0 := HB.out.1.cell 0 (v := .int .u64 (hiOf (valOf W p))) rfl
  have x1 := HB.out.1.cell 1 (v := .int .u64 (loOf (valOf W p))) rfl
  go_wp2_with fail
  refine (C44.out _ HB.out.2.1).mono ?_
  rintro e w2 ⟨rfl, H2⟩
  have HF2 : Hid (Below w.heap.size w w2) := bst HB.out.2.1 H2.out
  have B2 := HB.out.1.below H2.out
  clear C44 x0 x1
  have x0 := gw_cell (B2.cell 0 (v := .int .u64 (hiOf (valOf W p))) rfl)
  have x1 := gw_cell (B2.cell 1 (v := .int .u64 (loOf (valOf W p))) rfl)
  have z0 := gw_cell ((HH.out.1.below HF2.out).cell 0 (v := .int .i64 W) rfl)
  have fin : Hid (∀ z : Grown w2, Below w.heap.size w (gw z)) := fun z => bst HF2.out (gw_below z)
  clear B2 H2 HF2 HB
  go_upto_region 4 with fail
  refine region_grows (by kernel_rfl) (by kernel_rfl) ?_
  repeat (go_big_quiet_step ((go_at_call 25; exact calls_gw (C25.out _))))
  refine wpQuiet_nil ?_
  intro wq hwq
  obtain ⟨zq, rfl⟩ := hwq
  have HF : Hid (Below w.heap.size w (gw zq)) := fin.out zq
  clear x0 x1 z0 C25 fin
  generalize gw zq = w1 at *
  go_wp2_with fail
  refine (C64.out _ HF.out).mono ?_
  rintro e w3 ⟨rfl, H2⟩
  have HF3 : Hid (Below w.heap.size w w3) := bst HF.out H2.out
  rw [show (some x : Option Int).isSome = true from rfl]
  obtain ⟨hpos, hy⟩ := ref_found HH.out.2.2.1 hl
  clear C64 HF H2
  have HP : Hid (pos p L ≤ L.length) := pos_le p L
  have hpl : (pos p L : Int) ≤ L.length := by omega
  have hpl2 : pos p L ≤ L.length := HP.out
  have hpl3 : (pos p L : Int) + 1 ≤ L.length := by omega
  have hpl4 : pos p L + 1 ≤ L.length := by omega
  have c2 := (HH.out.1.below HF3.out).cell 2 (v := .slice ba L.length bc) rfl
  have hbc : L.length ≤ bc := by
    rcases HH.out.2.1.2 with ⟨h', h0⟩ | ⟨g', cap', cur, h', _, hg, hnc, _⟩
    · omega
    · simp only [Value.slice.injEq] at h'
      omega
  have hbi : (L.length : Int) ≤ bc := by omega
  have hk4 : L.length ≤ 4096 := HH.out.2.2.2
  have hO3 := ownsRow_kept HH.out.2.1 (Kept.of_below (S := fun _ => False) HF3.out) (fun k _ e => e)
  obtain ⟨s1, W1, hr1, ho1, ⟨ba1, bc1, rfl⟩, hk1, hat1⟩ := app_rf w3 w.heap.size (.slice none 0 0) (.slice ba (pos p L) bc) [] (L.take (pos p L)) (World.ownsRow_nil _ _ _ _) (src_take hO3 rfl hpl2) HF3.out.size (by rw [List.length_take]; simp; omega)
  have HR1 : Hid (W1.ownsRow w.heap.size 57 2 (.slice ba1 ([] ++ L.take (pos p L)).length bc1) ([] ++ L.take (pos p L)).length (rowR ([] ++ L.take (pos p L))) ∧ Kept (fun _ => False) w3 W1) := ⟨ho1, hk1.mono fun k _ e => by simp [Value.ownBlock] at e⟩
  clear ho1 hk1 hat1 hO3
  obtain ⟨m1, hm1⟩ : ∃ m1, ([] ++ L.take (pos p L)).length = m1 := ⟨_, rfl⟩
  rw [hm1] at hr1 HR1
  go_upto_region 8 with fail
  clear hr1 c2
  have h01 : Kept (fun _ => False) w W1 := (Kept.of_below HF3.out).trans HR1.out.2
  have hqw : Blk W1 q #[.int .i64 W, .int .i64 most, .slice ba L.length bc] 40 := HH.out.1.kept h01 (fun e => e)
  have hrow2 : W1.ownsRow B 57 2 (.slice ba L.length bc) L.length (rowR L) := ownsRow_kept HH.out.2.1 h01 (fun k hk e => e)
  have c2 := hqw.cell 2 (v := .slice ba L.length bc) rfl
  have hdel : L.take (pos p L) ++ L.drop (pos p L + 1) = del p L := (del_pos HH.out.2.2.1 (by rw [hl]; simp)).symm
  have hlen : (del p L).length = L.length - 1 := by rw [← hdel]; simp; omega
  have fin3 : ∀ sv, Src W1 sv (L.drop (pos p L + 1)) → ∃ ba3 bc3 W3, Sem.run Try.prog (appd #[38, 38] 38 #[.slice ba1 m1 bc1, sv]) W1 = .ok (.slice ba3 (L.length - 1) bc3) W3 ∧ W3.cell? ⟨q, 2, none⟩ = some (.slice ba L.length bc) ∧ W3.frozen? ⟨q, 2, none⟩ = false ∧ Hid (Blk (W3.setCell ⟨q, 2, none⟩ (.slice ba3 (L.length - 1) bc3)) q #[.int .i64 W, .int .i64 most, .slice ba3 (del p L).length bc3] 40 ∧ (W3.setCell ⟨q, 2, none⟩ (.slice ba3 (L.length - 1) bc3)).ownsRow w.heap.size 57 2 (.slice ba3 (del p L).length bc3) (del p L).length (rowR (del p L)) ∧ Kept (fun k => k = q) w (W3.setCell ⟨q, 2, none⟩ (.slice ba3 (L.length - 1) bc3))) := fun sv hsv => by
    obtain ⟨s3, W3, hr3, ho3, ⟨ba3, bc3, rfl⟩, hk3, _⟩ := app_rf W1 w.heap.size (.slice ba1 m1 bc1) sv ([] ++ L.take (pos p L)) (L.drop (pos p L + 1)) (by rw [hm1]; exact HR1.out.1) hsv h01.size (by rw [hm1, List.length_drop]; simp at hm1; omega)
    rw [List.nil_append, hdel] at ho3 hr3
    rw [hlen] at hr3
    have hnq : ∀ k, (Value.slice ba1 m1 bc1).ownBlock = some k → w.heap.size ≤ k := fun k e => by
      rcases HR1.out.1.2 with ⟨h', _⟩ | ⟨g', cap', cur, h', hb', _⟩
      · rw [h'] at e; simp [Value.ownBlock] at e
      · rw [h'] at e; simp [Value.ownBlock] at e; omega
    have hql := HH.out.1.lt
    have hq3 : Blk W3 q #[.int .i64 W, .int .i64 most, .slice ba L.length bc] 40 := hqw.kept hk3 (fun e => by have := hnq q e; omega)
    have ks := (Kept.refl (fun k => k = q) W3).set (p := ⟨q, 2, none⟩) rfl (.slice ba3 (L.length - 1) bc3)
    refine ⟨ba3, bc3, W3, hr3, hq3.cell 2 rfl, hq3.frozen 2, (⟨?_, ?_, ?_⟩ : _ ∧ _)⟩
    · rw [hlen]; exact hq3.set 2 _
    · rw [hlen] at ho3 ⊢
      exact ownsRow_kept ho3 ks fun k hk e => by
        have e' : k = q := e
        rcases ho3.2 with ⟨h', _⟩ | ⟨g', cap', cur, h', hb', _⟩
        · rw [h'] at hk; simp [Value.ownBlock] at hk
        · rw [h'] at hk; simp [Value.ownBlock] at hk; omega
    · have h13 : Kept (fun k => w.heap.size ≤ k) w W3 := (h01.mono fun k _ e => e.elim).trans (hk3.mono fun k _ e => hnq k e)
      exact ⟨ks.os.trans h13.os, ks.tape.trans h13.tape, ks.output.trans h13.output, Nat.le_trans h13.size ks.size, fun k hk hs => (ks.block k (Nat.lt_of_lt_of_le hk h13.size) hs).trans (h13.block k hk (by show ¬ _ ≤ _; omega))⟩
  clear hqw HR1 hdel
  rcases ba with _ | g
  · exfalso
    rcases HH.out.2.1.2 with ⟨h', h0⟩ | ⟨g', cap', cur, h', _⟩
    · omega
    · simp at h'
  · obtain ⟨g, rfl⟩ : ∃ g0, g = ⟨g0, 0, none⟩ := by
      rcases hrow2.2 with ⟨h', _⟩ | ⟨g', cap', cur, h', _⟩
      · simp at h'
      · simp only [Value.slice.injEq, Option.some.injEq] at h'
        exact ⟨g', h'.1⟩
    have hsd := fun a c => src_drop hrow2 rfl hpl4 a c
    by_cases hbk : bc = pos p L + 1
    · obtain ⟨ba3, bc3, W3, hr3, hc3, hf3, hfin⟩ := fin3 (.slice (some ⟨g, 0, none⟩) (L.length - (pos p L + 1)) (bc - (pos p L + 1))) (hsd _ _ (fun h => by omega))
      clear fin3 HH HP HF3 hm1 hrow2 hsd h01 hlen
      generalize pos p L = k at *
      generalize L.length = n at *
      have hnk : n = k + 1 := by omega
      subst hnk
      subst hbk
      rw [Nat.sub_self] at hr3
      set_option maxRecDepth 4000 in go_wp2_with fail
      go_ret2
      exact ⟨rfl, _, _, hfin⟩
    · obtain ⟨ba3, bc3, W3, hr3, hc3, hf3, hfin⟩ := fin3 (.slice (some ⟨g, (pos p L + 1) * 2, none⟩) (L.length - (pos p L + 1)) (bc - (pos p L + 1))) (hsd _ _ (fun h => rfl))
      clear fin3 HH HP HF3 hm1 hrow2 hsd h01 hlen
      generalize pos p L = k at *
      generalize L.length = n at *
      set_option maxRecDepth 4000 in go_wp2_with fail
      go_ret2
      exact ⟨rfl, _, _, hfin⟩
end
end Go.Proofs.Ytgdpplipahhffaa
namespace Go.Proofs.Ytgdpplipahhffaa
open Go.RowKit
set_option linter.unusedVariables false
set_option linter.unusedSimpArgs false

section
variable {w : World} {B q W most : Nat} {L : List (List Bool × Int)}
set_option maxHeartbeats 1000000 in
theorem rnew_bad (x y : Int) (h : ¬ (1 ≤ x ∧ x ≤ 128 ∧ 1 ≤ y ∧ y ≤ 4096)) :
    Calls Try.prog 11 #[.int .i64 x, .int .i64 y] w fun e w' => e = .returned (.tuple #[.pointer none, .int .i64 1]) ∧ w' = w := by
  go_enter Try.func11, Try.ntmps11
  by_cases h1 : x < 1
  · go_wp2
    go_ret2
    exact ⟨rfl, rfl⟩
  by_cases h2 : 128 < x
  · go_wp2
    go_ret2
    exact ⟨rfl, rfl⟩
  by_cases h3 : y < 1
  · go_wp2
    go_ret2
    exact ⟨rfl, rfl⟩
  by_cases h4 : 4096 < y
  · go_wp2
    go_ret2
    exact ⟨rfl, rfl⟩
  omega
set_option maxHeartbeats 1000000 in
theorem rnew_ok (x y : Int) (a : 1 ≤ x) (b : x ≤ 128) (c : 1 ≤ y) (d : y ≤ 4096) :
    Calls Try.prog 11 #[.int .i64 x, .int .i64 y] w fun e w' => e = .returned (.tuple #[.pointer (some ⟨w.heap.size, 0, none⟩), .int .i64 0]) ∧ w' = w.alloc (.cells #[.int .i64 x, .int .i64 y, .slice none 0 0] 40) := by
  go_enter Try.func11, Try.ntmps11
  have a1 : ¬ x < 1 := by omega
  have a2 : ¬ 128 < x := by omega
  have a3 : ¬ y < 1 := by omega
  have a4 : ¬ 4096 < y := by omega
  go_wp2
  go_ret2
  exact ⟨rfl, rfl⟩
attribute [local go_sem ↓] append_appd
set_option maxHeartbeats 1000000 in
theorem rcopy_any (hT : RefAt w B q W most L) :
    Calls Try.prog 16 #[.pointer (some ⟨q, 0, none⟩)] w fun e w' => ∃ q', e = .returned (.pointer (some ⟨q', 0, none⟩)) ∧ Hid (w.heap.size ≤ q' ∧ RefAt w' w.heap.size q' W most L ∧ Kept (fun _ => False) w w') := by
  obtain ⟨⟨ba, bc, hB, hO⟩, hs, hf⟩ := hT
  have HH : Hid (Blk w q #[.int .i64 W, .int .i64 most, .slice ba L.length bc] 40 ∧ w.ownsRow B 57 2 (.slice ba L.length bc) L.length (rowR L) ∧ Srt L ∧ L.length ≤ 4096) := ⟨hB, hO, hs, hf⟩
  clear hB hO hs hf
  have z0 := HH.out.1.cell 0 (v := .int .i64 W) rfl
  have z1 := HH.out.1.cell 1 (v := .int .i64 most) rfl
  have z2 := HH.out.1.cell 2 (v := .slice ba L.length bc) rfl
  go_enter Try.func16, Try.ntmps16
  go_upto_region 1 with fail
  clear z2
  have HB : Hid _ := one_new w #[.int .i64 W, .int .i64 most, .slice none 0 0] 40
  go_region
  have HD : Hid (Below w.heap.size w (w.alloc (Obj.cells #[Value.int IntKind.i64 ↑W, Value.int IntKind.i64 ↑most, Value.slice none 0 0] 40)).drew) := HB.out.2.1.drew
  have HE : Hid (Blk (w.alloc (Obj.cells #[Value.int IntKind.i64 ↑W, Value.int IntKind.i64 ↑most, Value.slice none 0 0] 40)).drew w.heap.size #[.int .i64 W, .int .i64 most, .slice none 0 0] 40) := HB.out.1.below ((Below.refl _ _).drew)
  clear HB z0 z1
  generalize World.drew _ = w1 at *
  have hsz : w.heap.size < w1.heap.size := HE.out.lt
  have hqw : Blk w1 q #[.int .i64 W, .int .i64 most, .slice ba L.length bc] 40 := HH.out.1.below HD.out
  have hrow : w1.drew.ownsRow B 57 2 (.slice ba L.length bc) L.length (rowR L) := ownsRow_kept HH.out.2.1 (Kept.of_below (S := fun _ => False) HD.out.drew) (fun k _ e => e)
  have z2 := hqw.cell 2 (v := .slice ba L.length bc) rfl
  have y2 := HE.out.cell 2 (v := .slice none 0 0) rfl
  obtain ⟨s1, W1, hr1, ho1, ⟨ba1, bc1, rfl⟩, hk1, hat1⟩ := app_rf w1.drew w.heap.size (.slice none 0 0) (.slice ba L.length bc) [] (L.take L.length) (World.ownsRow_nil _ _ _ _) (src_take hrow rfl (Nat.le_refl _)) (Nat.le_of_lt hsz) (by rw [List.length_take]; have := HH.out.2.2.2; simp; omega)
  rw [List.take_length, List.nil_append] at hr1 ho1
  have hqn : q ≠ w.heap.size := by have := HH.out.1.lt; omega
  have hk2 : Kept (fun _ => False) w1.drew W1 := hk1.mono fun k _ e => by simp [Value.ownBlock] at e
  have HE2 := (HE.out.below (Below.refl _ _).drew).kept hk2 (fun e => e)
  have t2 := HE2.cell 2 (v := .slice none 0 0) rfl
  have f2 := HE2.frozen 2
  have HX : Hid (W1.ownsRow w.heap.size 57 2 (Value.slice ba1 L.length bc1) L.length (rowR L) ∧ Blk W1 w.heap.size #[Value.int IntKind.i64 ↑W, Value.int IntKind.i64 ↑most, Value.slice none 0 0] 40 ∧ Kept (fun _ => False) w W1) := ⟨ho1, HE2, (Kept.of_below HD.out.drew).trans hk2⟩
  have HY : Hid (w.heap.size ≤ w.heap.size ∧ RefAt (W1.setCell ⟨w.heap.size, 2, none⟩ (.slice ba1 L.length bc1)) w.heap.size w.heap.size W most L ∧ Kept (fun _ => False) w (W1.setCell ⟨w.heap.size, 2, none⟩ (.slice ba1 L.length bc1))) := by
    have hlW : w.heap.size < W1.heap.size := HX.out.2.1.lt
    have ks := (Kept.refl (fun k => k = w.heap.size) W1).set (p := ⟨w.heap.size, 2, none⟩) rfl (.slice ba1 L.length bc1)
    have h13 := HX.out.2.2
    refine ⟨Nat.le_refl _, ⟨⟨ba1, bc1, HX.out.2.1.set 2 _, ownsRow_kept ho1 ks fun k hk e => ?_⟩, HH.out.2.2.1, HH.out.2.2.2⟩, ks.os.trans h13.os, ks.tape.trans h13.tape, ks.output.trans h13.output, Nat.le_trans h13.size ks.size, fun k hk hs => (ks.block k (Nat.lt_of_lt_of_le hk h13.size) (by show ¬ k = _; omega)).trans (h13.block k hk hs)⟩
    have e' : k = w.heap.size := e
    have hg : ∀ g', (Value.slice ba1 ([] ++ List.take L.length L).length bc1).ownBlock = some g' → w1.heap.size ≤ g' := fun g' h => by
      rcases hat1 with h' | ⟨g, h', hg⟩
      · rw [h'] at h; simp [Value.ownBlock] at h
      · rw [h'] at h; simp only [Option.some.injEq] at h; rw [← h]; exact hg
    have := hg k (by rw [← hk]; simp)
    omega
  clear hk1 hat1 hqw hrow ho1 hk2 HE2 HX
  go_upto_region 2 with fail
  go_region
  clear t2 f2 hr1 y2 z2
  generalize World.setCell _ _ _ = W9 at *
  go_wp2
  go_ret
  exact ⟨_, rfl, HY⟩
end
end Go.Proofs.Ytgdpplipahhffaa
