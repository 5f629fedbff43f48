/- Package trie: what a nil trie answers. Package trie: Every of a nil trie; the statements' opening look. -/
import Derived.Test.YtgdpplipahhffaaGp
import Derived.Test.YtgdpplipahhffaaGf
namespace Go.Proofs.Ytgdpplipahhffaa
open Go.RowKit
set_option linter.unusedVariables false
set_option linter.unusedSimpArgs false

theorem put_nil (v : Nat) (l u : Int) (w : World) : Calls Try.prog 24 #[.pointer none, Pf v l, .int .i64 u] w fun e w' => e = .returned (.int .i64 1) ∧ Below w.heap.size w w' := by
  have HB := two_new' w #[.int .u64 (hiOf v), .int .u64 (loOf v), .int .i64 l] #[.int .i64 u] 51 3
  go_enter Try.func24, Try.ntmps24
  go_wp2
  go_ret
  exact ⟨rfl, HB.out.2.2.1⟩
theorem set_nil (v : Nat) (l u : Int) (w : World) : Calls Try.prog 38 #[.pointer none, Pf v l, .int .i64 u] w fun e w' => e = .returned (.int .i64 1) ∧ Below w.heap.size w w' := by
  have HB := two_new' w #[.int .u64 (hiOf v), .int .u64 (loOf v), .int .i64 l] #[.int .i64 u] 51 3
  go_enter Try.func38, Try.ntmps38
  go_wp2
  go_ret
  exact ⟨rfl, HB.out.2.2.1⟩
theorem len_nil (w : World) : Calls Try.prog 37 #[.pointer none] w fun e w' => e = .returned (.int .i64 0) ∧ w' = w := by
  go_enter Try.func37, Try.ntmps37
  go_wp2
  go_ret
  exact ⟨rfl, rfl⟩
theorem copy_nil (w : World) : Calls Try.prog 15 #[.pointer none] w fun e w' => e = .returned (.pointer none) ∧ w' = w := by
  go_enter Try.func15, Try.ntmps15
  go_wp2
  go_ret
  exact ⟨rfl, rfl⟩
theorem clear_nil (w : World) : Calls Try.prog 14 #[.pointer none] w fun e w' => e = .returned (.tuple #[]) ∧ w' = w := by
  go_enter Try.func14, Try.ntmps14
  go_wp2
  go_end0
  exact ⟨rfl, rfl⟩
theorem met_nil (v : Nat) (w : World) : Calls Try.prog 57 #[.pointer none, B v] w fun e w' => e = .returned (.func (.func 74) #[] #[]) ∧ Below w.heap.size w w' := by
  have HB : Hid _ := one_new w #[.int .u64 (hiOf v), .int .u64 (loOf v)] 33
  go_enter Try.func57, Try.ntmps57
  go_upto_region 1 with fail
  generalize (w.alloc _) = w0 at HB ⊢
  refine region_grows (by kernel_rfl) (by kernel_rfl) ?_
  repeat (go_big_quiet_step (fail))
  refine wpQuiet_nil ?_
  intro wq hwq
  obtain ⟨zq, rfl⟩ := hwq
  have HF : Hid (Below w.heap.size w (gw zq)) := bst HB.out.2.1 (gw_below zq)
  clear HB
  go_wp2
  go_ret
  exact ⟨rfl, HF.out⟩
theorem find_nil (v : Nat) (w : World) : Calls Try.prog 26 #[.pointer none, B v] w fun e w' => e = .returned (findV 0 none) ∧ Below w.heap.size w w' := by
  refine find_core (W := 0) w none v 74 (enters_of Try.func74 (by kernel_rfl) rfl) [] (fun x hx => absurd hx (by simp)) (fun w1 h => ?_)
  refine (met_nil v w1).mono ?_
  rintro e w' ⟨rfl, hb⟩
  exact ⟨_, rfl, (⟨hb, fun S _ => met1_tells _ _ _⟩ : _ ∧ _)⟩
theorem nodes_nil (m : Nat) (w : World) : CallsIn Fence.wide m Try.prog 40 #[.pointer none] w fun e w' => e = .returned (.int .i64 0) ∧ w' = w := by
  refine callsIn_of_wp_marks Try.func40 rfl trivial ?_ rfl
  simp only [Try.ntmps40, List.size_toArray, List.length_cons, List.length_nil, Nat.reduceAdd, Nat.reduceSub, Array.replicate_succ, Array.replicate_zero, List.push_toArray, List.append_toArray, List.nil_append, List.cons_append]
  gi_wp2
  refine ⟨.int .i64 0, ?_, rfl, rfl⟩
  simp [results, Try.results40, go_sem]
theorem kept_nil (v : Nat) (l : Int) (w : World) : Calls Try.prog 55 #[.pointer none, Pf v l] w fun e w' => e = .returned (.pointer none) ∧ Below w.heap.size w w' := by
  suffices h : ∀ m, CallsIn Fence.wide m Try.prog 55 #[.pointer none, Pf v l] w fun e w' => e = .returned (.pointer none) ∧ Below w.heap.size w w' from callsIn_wide.1 (h 0)
  intro m
  have HB := two_new' w #[.int .u64 (hiOf v), .int .u64 (loOf v), .int .i64 l] #[.pointer none] 51 95
  have hmix : Try.prog.follows .mixedOrders = true := by kernel_rfl
  refine callsIn_of_wp_marks Try.func55 rfl trivial ?_ rfl
  simp only [Try.ntmps55, List.size_toArray, List.length_cons, List.length_nil, Nat.reduceAdd, Nat.reduceSub, Array.replicate_succ, Array.replicate_zero, List.push_toArray, List.append_toArray, List.nil_append, List.cons_append]
  gi_upto_region 1 with fail
  generalize ((w.alloc _).alloc _) = w0 at HB ⊢
  generalize hA : w.heap.size + 1 = A1 at *
  refine grows_wide hmix (by kernel_rfl) ?_
  repeat (gi_big_quiet_step (fail))
  refine Go.BigFrame.wpQuietIn_skip (fun _ _ _ _ => trivial) (by rfl) ?_
  go_simp
  repeat (gi_big_quiet_step (fail))
  refine wpQuietIn_nil ?_
  intro zq
  have HC : Hid (Blk (gw zq) A1 #[.pointer none] 95 ∧ Below w.heap.size w (gw zq)) := ⟨HB.out.2.1.below (gw_below zq), bst HB.out.2.2.1 (gw_below zq)⟩
  have c0 := HC.out.1.cell 0 (v := .pointer none) rfl
  have f0 := HC.out.1.frozen 0
  clear HB
  generalize gw zq = w2 at *
  gi_wp2_with fail
  have HF : Hid (Blk (w2.setCell ⟨A1, 0, none⟩ (.pointer none)) A1 #[.pointer none] 95 ∧ Below w.heap.size w (w2.setCell ⟨A1, 0, none⟩ (.pointer none))) := ⟨HC.out.1.set 0 _, HC.out.2.setCell (by show _ ≤ A1; omega) _⟩
  generalize w2.setCell _ _ = w3 at HF ⊢
  have z0 := HF.out.1.cell 0 (v := .pointer none) rfl
  refine ⟨.pointer none, ?_, rfl, HF.out.2⟩
  simp [results, Try.results55, go_sem, z0]
theorem get_nil (v : Nat) (l : Int) (w : World) : Calls Try.prog 28 #[.pointer none, Pf v l] w fun e w' => e = .returned (okI none) ∧ Below w.heap.size w w' := by
  have HB : Hid _ := one_new w #[.int .u64 (hiOf v), .int .u64 (loOf v), .int .i64 l] 51
  have C : Hid (∀ w1, Calls Try.prog 55 #[.pointer none, Pf v l] w1 fun e w' => e = .returned (.pointer none) ∧ Hid (Below w1.heap.size w1 w')) := fun w1 => kept_nil v l w1
  go_enter Try.func28, Try.ntmps28
  go_wp2_with fail
  refine (C.out _).mono ?_
  rintro e w2 ⟨rfl, H2⟩
  have HC : Hid (Below w.heap.size w w2) := bst HB.out.2.1 H2.out
  clear H2 C HB
  go_wp2
  go_ret2
  exact ⟨rfl, HC.out⟩
theorem drop_nil (v : Nat) (l : Int) (w : World) : Calls Try.prog 39 #[.pointer none, Pf v l] w fun e w' => e = .returned (okI none) ∧ Below w.heap.size w w' :=
  drop_none none v l w fun w1 _ => get_nil v l w1
theorem under_any (qa : Option Addr) (v : Nat) (l : Int) (w : World) : Calls Try.prog 19 #[.pointer qa, Pf v l] w fun e w' => e = .returned (.func (.func 48) #[] #[.pointer (some ⟨w.heap.size, 0, none⟩), .pointer (some ⟨w.heap.size + 1, 0, none⟩)]) ∧ Blk w' w.heap.size #[.pointer qa] 24 ∧ Blk w' (w.heap.size + 1) #[.int .u64 (hiOf v), .int .u64 (loOf v), .int .i64 l] 51 ∧ Below w.heap.size w w' := by
  have hmf := mf
  have HB := two_new' w #[.pointer qa] #[.int .u64 (hiOf v), .int .u64 (loOf v), .int .i64 l] 24 51
  go_enter Try.func19, Try.ntmps19
  go_wp2
  go_ret
  exact ⟨rfl, HB.out.1, HB.out.2.1, HB.out.2.2.1⟩
theorem all_any (qa : Option Addr) (w : World) : Calls Try.prog 18 #[.pointer qa] w fun e w' => e = .returned (.func (.func 48) #[] #[.pointer (some ⟨w.heap.size, 0, none⟩), .pointer (some ⟨w.heap.size + 1, 0, none⟩)]) ∧ Blk w' w.heap.size #[.pointer qa] 24 ∧ Blk w' (w.heap.size + 1) #[.int .u64 (hiOf 0), .int .u64 (loOf 0), .int .i64 0] 51 ∧ Below w.heap.size w w' := by
  have C : Hid (Calls Try.prog 19 #[.pointer qa, .agg #[.int .u64 0, .int .u64 0, .int .i64 0]] w fun e w' => e = .returned (.func (.func 48) #[] #[.pointer (some ⟨w.heap.size, 0, none⟩), .pointer (some ⟨w.heap.size + 1, 0, none⟩)]) ∧ Hid (Blk w' w.heap.size #[.pointer qa] 24 ∧ Blk w' (w.heap.size + 1) #[.int .u64 (hiOf 0), .int .u64 (loOf 0), .int .i64 0] 51 ∧ Below w.heap.size w w')) := under_any qa 0 0 w
  go_enter Try.func18, Try.ntmps18
  go_wp2_with fail
  refine C.out.mono ?_
  rintro e w2 ⟨rfl, H2⟩
  clear C
  go_wp2
  go_ret
  exact ⟨rfl, H2.out⟩
theorem under_tells_nil {α : Type} (encs : α → Array Value) (w : World) (bt bp : Nat) (hbt : Blk w bt #[.pointer none] 24) (S : Nat → Prop) : Tells Try.prog 48 #[.pointer (some ⟨bt, 0, none⟩), .pointer (some ⟨bp, 0, none⟩)] encs [] S w := by
  intro n l J Jx W hW hl hJ hJx hY h0
  have HBW : Hid (Blk W bt #[.pointer none] 24) := hbt.below hW
  have HJ : Hid (∀ z : Grown (W.alloc (.cells #[.func (.yield l) #[] #[]] 90)), J [] (gw z)) := fun z => hJ _ _ _ (Kept.of_below (bst ((Below.refl W.heap.size W).alloc (Nat.le_refl _) _) (gw_below z))) h0
  have hb : Below W.heap.size W (W.alloc (.cells #[.func (.yield l) #[] #[]] 90)) := (Below.refl _ _).alloc (Nat.le_refl _) _
  have c0 := two_cells (HBW.out.below hb) (i := 0) (v := .pointer none) rfl
  have hmix : Try.prog.follows .mixedOrders = true := by kernel_rfl
  clear hbt hW hY h0 hJ hJx hb
  refine callsIn_of_wp_marks Try.func48 rfl trivial ?_ rfl
  simp only [Try.ntmps48, List.size_toArray, List.length_cons, List.length_nil, Nat.reduceAdd, Nat.reduceSub, Array.replicate_succ, Array.replicate_zero, List.push_toArray, List.append_toArray, List.nil_append, List.cons_append]
  gi_upto_region 1 with fail
  refine grows_wide hmix (by kernel_rfl) ?_
  repeat (gi_big_quiet_step (fail))
  refine Go.BigFrame.wpQuietIn_skip (fun _ _ _ _ => trivial) (by rfl) ?_
  go_simp
  repeat (gi_big_quiet_step (fail))
  refine wpQuietIn_nil ?_
  intro zq
  have HF : Hid (J [] (gw zq)) := HJ.out zq
  clear HJ c0
  gi_wp2_with fail
  refine ⟨.tuple #[], ?_, ⟨_, rfl⟩, .inl HF.out⟩
  simp [results, Try.results48, go_sem]
end Go.Proofs.Ytgdpplipahhffaa
namespace Go.Proofs.Ytgdpplipahhffaa
open Go.RowKit
set_option linter.unusedVariables false
set_option linter.unusedSimpArgs false

attribute [local go_sem] Oper.semAt_some
set_option maxHeartbeats 4000000 in
set_option maxRecDepth 100000 in
theorem every_none (qa : Option Addr) (v : Nat) (w : World) (hmet : ∀ w1, Below w.heap.size w w1 → Calls Try.prog 57 #[.pointer qa, B v] w1 fun e w' => e = .returned (.func (.func 74) #[] #[]) ∧ Below w1.heap.size w1 w') :
    Calls Try.prog 27 #[.pointer qa, B v] w fun e w' => e = .returned (.slice none 0 0) ∧ Below w.heap.size w w' := by
  suffices h : ∀ m, CallsIn Fence.wide m Try.prog 27 #[.pointer qa, B v] w fun e w' => e = .returned (.slice none 0 0) ∧ Below w.heap.size w w' from callsIn_wide.1 (h 0)
  intro m
  have HB := two_new' w #[.int .u64 (hiOf v), .int .u64 (loOf v)] #[.slice none 0 0] 33 65
  have C57 : Hid (∀ w1, Below w.heap.size w w1 → CallsIn Fence.wide (m - 1) Try.prog 57 #[.pointer qa, B v] w1 fun e w' => e = .returned (.func (.func 74) #[] #[]) ∧ Hid (Below w1.heap.size w1 w')) := fun w1 h => callsIn_wide.2 (hmet w1 h)
  clear hmet
  refine callsIn_of_wp_marks Try.func27 rfl trivial ?_ rfl
  simp only [Try.ntmps27, List.size_toArray, List.length_cons, List.length_nil, Nat.reduceAdd, Nat.reduceSub, Array.replicate_succ, Array.replicate_zero, List.push_toArray, List.append_toArray, List.nil_append, List.cons_append]
  gi_upto_region 2 with fail
  generalize ((w.alloc _).alloc _) = w0 at HB ⊢
  generalize hA : w.heap.size + 1 = A1 at *
  have lA := HB.out.2.2.2
  have y0 := HB.out.1.cell 0 (v := .int .u64 (hiOf v)) rfl
  have y1 := HB.out.1.cell 1 (v := .int .u64 (loOf v)) rfl
  gi_wp2_with fail
  refine ⟨trivial, no_depth _, ?_⟩
  refine (C57.out _ HB.out.2.2.1).mono ?_
  rintro e w3 ⟨rfl, H3⟩
  clear y0 y1 C57
  have HD : Hid (Blk w3 A1 #[.slice none 0 0] 65 ∧ Below w.heap.size w w3) := ⟨HB.out.2.1.below H3.out, bst HB.out.2.2.1 H3.out⟩
  clear H3 HB
  have l3 := HD.out.1.lt
  gi_wp2_with fail
  refine range_outer (gf := 74) (lb := #[]) (encs := fun x : Nd Int => #[Value.pointer (some ⟨x.blk, 0, none⟩)]) (xs := []) (S := fun _ => False) rfl (enters_of Try.func74 (by kernel_rfl) rfl)
    (fun k e => e.elim) (met1_tells _ _ _) (Below.refl _ _) (fun _ => rfl)
    (fun pre W' => Kept (fun _ => False) w3 W') (fun c pre W' => False)
    (low_kept _ _ _ (Nat.le_refl _)) (fun c => low_pure _ _) (Kept.refl _ _) ?round ?done ?stop
  case stop =>
    rintro c pre W' _ hf
    exact hf.elim
  case round =>
    rintro l pre x W' K _ _ _ hpre
    have := hpre.length_le
    simp at this
  case done =>
    rintro W' hK hks hD'
    have hwl : w3.heap.size < W'.heap.size := (Array.getElem?_eq_some_iff.1 hD').1
    have HW : Hid (Blk W' A1 #[.slice none 0 0] 65 ∧ W'.heap[w3.heap.size]? = some (.deferred (some [])) ∧ Below w.heap.size w W') := ⟨HD.out.1.kept hK id, hD', HD.out.2.trans (hK.below HD.out.2.size (fun k e => e.elim))⟩
    have c0 := HW.out.1.cell 0 (v := .slice none 0 0) rfl
    have hlo : w.heap.size ≤ w3.heap.size := HD.out.2.size
    clear hK hks hD'
    gi_wp2_with fail
    refine ⟨by simp, .inl ⟨_, _, rfl, run_takeDeferred HW.out.2.1, ?_⟩⟩
    have hkk := kept_putObj (fun k => k = w3.heap.size) W' w3.heap.size (.deferred none) rfl
    refine ⟨.slice none 0 0, ?_, rfl, HW.out.2.2.trans (hkk.below (Nat.le_trans hlo (Nat.le_of_lt hwl)) (fun k e => by have e' : k = w3.heap.size := e; omega))⟩
    simp [results, Try.results27, go_sem]
theorem every_nil (v : Nat) (w : World) : Calls Try.prog 27 #[.pointer none, B v] w fun e w' => e = .returned (.slice none 0 0) ∧ Below w.heap.size w w' := every_none none v w fun w1 _ => met_nil v w1
/-- A trie that was made since. -/
structure Own (w W' : World) (q W most : Nat) (L : List (List Bool × Int)) : Prop where
  tr : ∃ a n N, TrieAt W' q W most a n N ∧ kept N = L
  be : Below w.heap.size w W'
  lo : w.heap.size ≤ q
theorem Own.below {w A C : World} {q W most : Nat} {L : List (List Bool × Int)} (h : Own w A q W most L) (hb : Below A.heap.size A C) : Own w C q W most L := by
  obtain ⟨⟨a, n, N, h1, h2⟩, h3, h4⟩ := h
  exact ⟨⟨a, n, N, h1.below hb, h2⟩, bst h3 hb, h4⟩
set_option maxHeartbeats 2000000 in
theorem live_any (w : World) : Calls Try.prog 9 #[] w fun e w' => e = .returned (.bool true) ∧ Below w.heap.size w w' := by
  have h128 : valOf 8 [true] = 128 := by decide
  have h192 : valOf 8 [true, true] = 192 := by decide
  have C10 : Hid (Calls Try.prog 10 #[.int .i64 8, .int .i64 2] w fun e w' => e = .returned (.tuple #[.pointer (some ⟨w.heap.size, 0, none⟩), .int .i64 0]) ∧ Hid (TrieAt w' w.heap.size 8 2 none 0 [] ∧ Below w.heap.size w w')) := new_ok 8 2 (by omega) (by omega) (by omega) (by omega) w
  have CP1 : Hid (∀ W, TrieAt W w.heap.size 8 2 none 0 [] → Below w.heap.size w W → Calls Try.prog 24 #[.pointer (some ⟨w.heap.size, 0, none⟩), .agg #[.int .u64 0, .int .u64 128, .int .i64 1], .int .i64 7] W fun e w' => e = .returned (.int .i64 0) ∧ Hid (Own w w' w.heap.size 8 2 [([true], 7)])) := fun W h hb => by
    have := put_ok h (p := [true]) (by decide) 7 rfl (by decide)
    rw [h128] at this
    refine this.mono ?_
    rintro e w' ⟨rfl, a', n', N', g1, g2, g3⟩
    exact ⟨rfl, ⟨⟨a', n', N', g1, g2⟩, hb.trans (g3.below hb.size (fun k e => by have e' : k = w.heap.size := e; omega)), Nat.le_refl _⟩⟩
  have CP2 : Hid (∀ W, Own w W w.heap.size 8 2 [([true], 7)] → Calls Try.prog 24 #[.pointer (some ⟨w.heap.size, 0, none⟩), .agg #[.int .u64 0, .int .u64 192, .int .i64 2], .int .i64 9] W fun e w' => e = .returned (.int .i64 0) ∧ Hid (Own w w' w.heap.size 8 2 [([true], 7), ([true, true], 9)])) := fun W h => by
    obtain ⟨⟨a, n, N, g1, g2⟩, hb, _⟩ := h
    have := put_ok g1 (p := [true, true]) (by decide) 9 (by rw [g2]; rfl) (by rw [g2]; decide)
    rw [h192] at this
    refine this.mono ?_
    rintro e w' ⟨rfl, a', n', N', g1, g3, g4⟩
    exact ⟨rfl, ⟨⟨a', n', N', g1, by rw [g3, g2]; rfl⟩, hb.trans (g4.below hb.size (fun k e => by have e' : k = w.heap.size := e; omega)), Nat.le_refl _⟩⟩
  have CF : Hid (∀ W, Own w W w.heap.size 8 2 [([true], 7), ([true, true], 9)] → Calls Try.prog 26 #[.pointer (some ⟨w.heap.size, 0, none⟩), .agg #[.int .u64 0, .int .u64 200]] W fun e w' => e = .returned (.tuple #[.agg #[.int .u64 0, .int .u64 192, .int .i64 2], .int .i64 9, .bool true]) ∧ Hid (Below w.heap.size w w')) := fun W h => by
    obtain ⟨⟨a, n, N, g1, g2⟩, hb, _⟩ := h
    have := find_yes g1 200 (by unfold Is128; decide) (by decide)
    have e : (kept (wayN (bitsOf 8 200) N)).getLast? = some ([true, true], 9) := by
      have : kept (wayN (bitsOf 8 200) N) = (kept N).filter fun y => decide (y.1 <+: bitsOf 8 200) := kept_filter (fun k => decide (k <+: bitsOf 8 200)) N
      rw [this, g2]; decide
    rw [e] at this
    refine this.mono ?_
    rintro e w' ⟨rfl, hb2⟩
    refine ⟨?_, bst hb hb2⟩
    show Ending.returned (.tuple #[Pf (valOf 8 [true, true]) _, _, _]) = _
    rw [h192]; rfl
  go_enter Try.func9, Try.ntmps9
  go_wp2_with fail
  refine C10.out.mono ?_
  rintro e w1 ⟨rfl, H1⟩
  clear C10
  go_wp2_with fail
  refine (CP1.out _ H1.out.1 H1.out.2).mono ?_
  rintro e w2 ⟨rfl, H2⟩
  clear CP1 H1
  go_wp2_with fail
  refine (CP2.out _ H2.out).mono ?_
  rintro e w3 ⟨rfl, H3⟩
  clear CP2 H2
  go_wp2_with fail
  refine (CF.out _ H3.out).mono ?_
  rintro e w4 ⟨rfl, H4⟩
  have HF : Hid (Below w.heap.size w (w4.alloc (.cells #[.int .u64 0, .int .u64 192, .int .i64 2] 51))) := H4.out.alloc H4.out.size _
  clear CF H3 H4
  go_wp2
  go_ret
  exact ⟨rfl, HF.out⟩
end Go.Proofs.Ytgdpplipahhffaa
