/- Package trie: Every of a nil trie; the statements' opening look. -/
import Derived.Test.YtgdpplipahhffaaNl
namespace Go.Proofs.Ytgdpplipahhffaa
open Go.RowKit
set_option linter.unusedVariables false
set_option linter.unusedSimpArgs false

attribute [local go_sem] Oper.semAt_some
set_option maxHeartbeats 4000000 in
set_option maxRecDepth 100000 in
theorem every_none (qa : Option Addr) (v : Nat) (w : World) (hmet : ∀ w1, Below w.heap.size w w1 → Calls Try.prog 57 #[.pointer qa, B v] w1 fun e w' => e = .returned (.func (.func 74) #[] #[]) ∧ Below w1.heap.size w1 w') :
    Calls Try.prog 27 #[.pointer qa, B v] w fun e w' => e = .returned (.slice none 0 0) ∧ Below w.heap.size w w' := by
  suffices h : ∀ m, CallsIn Fence.wide m Try.prog 27 #[.pointer qa, B v] w fun e w' => e = .returned (.slice none 0 0) ∧ Below w.heap.size w w' from callsIn_wide.1 (h 0)
  intro m
  have HB := two_new' w #[.int .u64 (hiOf v), .int .u64 (loOf v)] #[.slice none 0 0] 33 65
  have C57 : Hid (∀ w1, Below w.heap.size w w1 → CallsIn Fence.wide (m - 1) Try.prog 57 #[.pointer qa, B v] w1 fun e w' => e = .returned (.func (.func 74) #[] #[]) ∧ Hid (Below w1.heap.size w1 w')) := fun w1 h => callsIn_wide.2 (hmet w1 h)
  clear hmet
  refine callsIn_of_wp_marks Try.func27 rfl trivial ?_ rfl
  simp only [Try.ntmps27, List.size_toArray, List.length_cons, List.length_nil, Nat.reduceAdd, Nat.reduceSub, Array.replicate_succ, Array.replicate_zero, List.push_toArray, List.append_toArray, List.nil_append, List.cons_append]
  gi_upto_region 2 with fail
  generalize ((w.alloc _).alloc _) = w0 at HB ⊢
  generalize hA : w.heap.size + 1 = A1 at *
  have lA := HB.out.2.2.2
  have y0 := HB.out.1.cell 0 (v := .int .u64 (hiOf v)) rfl
  have y1 := HB.out.1.cell 1 (v := .int .u64 (loOf v)) rfl
  gi_wp2_with fail
  refine ⟨trivial, no_depth _, ?_⟩
  refine (C57.out _ HB.out.2.2.1).mono ?_
  rintro e w3 ⟨rfl, H3⟩
  clear y0 y1 C57
  have HD : Hid (Blk w3 A1 #[.slice none 0 0] 65 ∧ Below w.heap.size w w3) := ⟨HB.out.2.1.below H3.out, bst HB.out.2.2.1 H3.out⟩
  clear H3 HB
  have l3 := HD.out.1.lt
  gi_wp2_with fail
  refine range_outer (gf := 74) (lb := #[]) (encs := fun x : Nd Int => #[Value.pointer (some ⟨x.blk, 0, none⟩)]) (xs := []) (S := fun _ => False) rfl (enters_of Try.func74 (by kernel_rfl) rfl)
    (fun k e => e.elim) (met1_tells _ _ _) (Below.refl _ _) (fun _ => rfl)
    (fun pre W' => Kept (fun _ => False) w3 W') (fun c pre W' => False)
    (low_kept _ _ _ (Nat.le_refl _)) (fun c => low_pure _ _) (Kept.refl _ _) ?round ?done ?stop
  case stop =>
    rintro c pre W' _ hf
    exact hf.elim
  case round =>
    rintro l pre x W' K _ _ _ hpre
    have := hpre.length_le
    simp at this
  case done =>
    rintro W' hK hks hD'
    have hwl : w3.heap.size < W'.heap.size := (Array.getElem?_eq_some_iff.1 hD').1
    have HW : Hid (Blk W' A1 #[.slice none 0 0] 65 ∧ W'.heap[w3.heap.size]? = some (.deferred (some [])) ∧ Below w.heap.size w W') := ⟨HD.out.1.kept hK id, hD', HD.out.2.trans (hK.below HD.out.2.size (fun k e => e.elim))⟩
    have c0 := HW.out.1.cell 0 (v := .slice none 0 0) rfl
    have hlo : w.heap.size ≤ w3.heap.size := HD.out.2.size
    clear hK hks hD'
    gi_wp2_with fail
    refine ⟨by simp, .inl ⟨_, _, rfl, run_takeDeferred HW.out.2.1, ?_⟩⟩
    have hkk := kept_putObj (fun k => k = w3.heap.size) W' w3.heap.size (.deferred none) rfl
    refine ⟨.slice none 0 0, ?_, rfl, HW.out.2.2.trans (hkk.below (Nat.le_trans hlo (Nat.le_of_lt hwl)) (fun k e => by have e' : k = w3.heap.size := e; omega))⟩
    simp [results, Try.results27, go_sem]
theorem every_nil (v : Nat) (w : World) : Calls Try.prog 27 #[.pointer none, B v] w fun e w' => e = .returned (.slice none 0 0) ∧ Below w.heap.size w w' := every_none none v w fun w1 _ => met_nil v w1
/-- A trie that was made since. -/
structure Own (w W' : World) (q W most : Nat) (L : List (List Bool × Int)) : Prop where
  tr : ∃ a n N, TrieAt W' q W most a n N ∧ kept N = L
  be : Below w.heap.size w W'
  lo : w.heap.size ≤ q
theorem Own.below {w A C : World} {q W most : Nat} {L : List (List Bool × Int)} (h : Own w A q W most L) (hb : Below A.heap.size A C) : Own w C q W most L := by
  obtain ⟨⟨a, n, N, h1, h2⟩, h3, h4⟩ := h
  exact ⟨⟨a, n, N, h1.below hb, h2⟩, bst h3 hb, h4⟩
set_option maxHeartbeats 2000000 in
theorem live_any (w : World) : Calls Try.prog 9 #[] w fun e w' => e = .returned (.bool true) ∧ Below w.heap.size w w' := by
  have h128 : valOf 8 [true] = 128 := by decide
  have h192 : valOf 8 [true, true] = 192 := by decide
  have C10 : Hid (Calls Try.prog 10 #[.int .i64 8, .int .i64 2] w fun e w' => e = .returned (.tuple #[.pointer (some ⟨w.heap.size, 0, none⟩), .int .i64 0]) ∧ Hid (TrieAt w' w.heap.size 8 2 none 0 [] ∧ Below w.heap.size w w')) := new_ok 8 2 (by omega) (by omega) (by omega) (by omega) w
  have CP1 : Hid (∀ W, TrieAt W w.heap.size 8 2 none 0 [] → Below w.heap.size w W → Calls Try.prog 24 #[.pointer (some ⟨w.heap.size, 0, none⟩), .agg #[.int .u64 0, .int .u64 128, .int .i64 1], .int .i64 7] W fun e w' => e = .returned (.int .i64 0) ∧ Hid (Own w w' w.heap.size 8 2 [([true], 7)])) := fun W h hb => by
    have := put_ok h (p := [true]) (by decide) 7 rfl (by decide)
    rw [h128] at this
    refine this.mono ?_
    rintro e w' ⟨rfl, a', n', N', g1, g2, g3⟩
    exact ⟨rfl, ⟨⟨a', n', N', g1, g2⟩, hb.trans (g3.below hb.size (fun k e => by have e' : k = w.heap.size := e; omega)), Nat.le_refl _⟩⟩
  have CP2 : Hid (∀ W, Own w W w.heap.size 8 2 [([true], 7)] → Calls Try.prog 24 #[.pointer (some ⟨w.heap.size, 0, none⟩), .agg #[.int .u64 0, .int .u64 192, .int .i64 2], .int .i64 9] W fun e w' => e = .returned (.int .i64 0) ∧ Hid (Own w w' w.heap.size 8 2 [([true], 7), ([true, true], 9)])) := fun W h => by
    obtain ⟨⟨a, n, N, g1, g2⟩, hb, _⟩ := h
    have := put_ok g1 (p := [true, true]) (by decide) 9 (by rw [g2]; rfl) (by rw [g2]; decide)
    rw [h192] at this
    refine this.mono ?_
    rintro e w' ⟨rfl, a', n', N', g1, g3, g4⟩
    exact ⟨rfl, ⟨⟨a', n', N', g1, by rw [g3, g2]; rfl⟩, hb.trans (g4.below hb.size (fun k e => by have e' : k = w.heap.size := e; omega)), Nat.le_refl _⟩⟩
  have CF : Hid (∀ W, Own w W w.heap.size 8 2 [([true], 7), ([true, true], 9)] → Calls Try.prog 26 #[.pointer (some ⟨w.heap.size, 0, none⟩), .agg #[.int .u64 0, .int .u64 200]] W fun e w' => e = .returned (.tuple #[.agg #[.int .u64 0, .int .u64 192, .int .i64 2], .int .i64 9, .bool true]) ∧ Hid (Below w.heap.size w w')) := fun W h => by
    obtain ⟨⟨a, n, N, g1, g2⟩, hb, _⟩ := h
    have := find_yes g1 200 (by unfold Is128; decide) (by decide)
    have e : (kept (wayN (bitsOf 8 200) N)).getLast? = some ([true, true], 9) := by
      have : kept (wayN (bitsOf 8 200) N) = (kept N).filter fun y => decide (y.1 <+: bitsOf 8 200) := kept_filter (fun k => decide (k <+: bitsOf 8 200)) N
      rw [this, g2]; decide
    rw [e] at this
    refine this.mono ?_
    rintro e w' ⟨rfl, hb2⟩
    refine ⟨?_, bst hb hb2⟩
    show Ending.returned (.tuple #[Pf (valOf 8 [true, true]) _, _, _]) = _
    rw [h192]; rfl
  go_enter Try.func9, Try.ntmps9
  go_wp2_with fail
  refine C10.out.mono ?_
  rintro e w1 ⟨rfl, H1⟩
  clear C10
  go_wp2_with fail
  refine (CP1.out _ H1.out.1 H1.out.2).mono ?_
  rintro e w2 ⟨rfl, H2⟩
  clear CP1 H1
  go_wp2_with fail
  refine (CP2.out _ H2.out).mono ?_
  rintro e w3 ⟨rfl, H3⟩
  clear CP2 H2
  go_wp2_with fail
  refine (CF.out _ H3.out).mono ?_
  rintro e w4 ⟨rfl, H4⟩
  have HF : Hid (Below w.heap.size w (w4.alloc (.cells #[.int .u64 0, .int .u64 192, .int .i64 2] 51))) := H4.out.alloc H4.out.size _
  clear CF H3 H4
  go_wp2
  go_ret
  exact ⟨rfl, HF.out⟩
end Go.Proofs.Ytgdpplipahhffaa
