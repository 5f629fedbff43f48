/- Package trie: Nodes. -/
import Derived.Test.YtgdpplipahhffaaGg
namespace Go.Proofs.Ytgdpplipahhffaa
open Go.RowKit
set_option linter.unusedVariables false
set_option linter.unusedSimpArgs false

def CntN (w3 : World) (An : Nat) (pre : List (Nd Int)) (W' : World) : Prop := Blk W' An #[.int .i64 pre.length] 3 ∧ Kept (fun k => k = An) w3 W'
theorem cntN_low {w3 : World} {An : Nat} (h : An < w3.heap.size) : LowG 51 w3.heap.size (CntN w3 An) :=
  (low_blk _ _ (fun pre : List (Nd Int) => #[.int .i64 pre.length]) _ h).g.and (low_kept _ _ _ (Nat.le_refl _)).g
attribute [local go_sem] Oper.semAt_some
set_option maxHeartbeats 4000000 in
set_option maxRecDepth 100000 in
theorem nodes_any {w : World} {q W most : Nat} {a : Option Nat} {n : Nat} {N : List (Nd Int)} (hT : TrieAt w q W most a n N) (hlen : N.length ≤ 1000000) (m : Nat) :
    CallsIn Fence.wide m Try.prog 40 #[.pointer (some ⟨q, 0, none⟩)] w fun e w' => e = .returned (.int .i64 N.length) ∧ Below w.heap.size w w' := by
  obtain ⟨A, hA⟩ : ∃ A : Option Addr, A = a.map fun b => ⟨b, 0, none⟩ := ⟨_, rfl⟩
  have HB : Hid _ := one_new w #[.int .i64 0] 3
  have HT : Hid (TrieAt w q W most a n N) := hT
  have HQ : Hid (Blk w q #[.int .i64 W, .int .i64 most, .int .i64 (kept N).length, .pointer A] 84) := by rw [hA]; exact hT.hd
  have C50 : Hid (∀ w1, CallsIn Fence.wide (m - 1) Try.prog 50 #[.pointer A] w1 fun e w' => e = .returned (.func (.func 67) #[] #[.pointer (some ⟨w1.heap.size, 0, none⟩)]) ∧ Hid (Blk w' w1.heap.size #[pt a] 82 ∧ Below w1.heap.size w1 w')) := fun w1 => callsIn_wide.2 (by rw [hA]; exact each_any a w1)
  have HL : Hid (N.length ≤ 1000000) := hlen
  clear hT hA hlen
  refine callsIn_of_wp_marks Try.func40 rfl trivial ?_ rfl
  simp only [Try.ntmps40, List.size_toArray, List.length_cons, List.length_nil, Nat.reduceAdd, Nat.reduceSub, Array.replicate_succ, Array.replicate_zero, List.push_toArray, List.append_toArray, List.nil_append, List.cons_append]
  gi_upto_region 4 with fail
  generalize (w.alloc _) = w1 at HB ⊢
  have q3 := (HQ.out.below HB.out.2.1).cell 3 (v := .pointer A) rfl
  gi_wp2_with fail
  refine ⟨trivial, no_depth _, ?_⟩
  refine (C50.out _).mono ?_
  rintro e w3 ⟨rfl, H3⟩
  have hAn : w.heap.size < w3.heap.size := Nat.lt_of_lt_of_le HB.out.1.lt H3.out.2.size
  have HD : Hid (Blk w3 w.heap.size #[.int .i64 0] 3 ∧ Below w.heap.size w w3) := ⟨HB.out.1.below H3.out.2, bst HB.out.2.1 H3.out.2⟩
  have hoff : Off (fun k => k = w.heap.size) N := HT.out.hang.off_new fun k e => by have e' : k = w.heap.size := e; omega
  have hseq := each_tellsG 51 (by decide) w3 (HT.out.hang.below HD.out.2) _ H3.out.1 (fun k => k = w.heap.size) (fun k e => by have e' : k = w.heap.size := e; omega) hoff
  clear q3 C50 HB H3 HQ hoff
  generalize w1.heap.size = bn at *
  gi_wp2_with fail
  refine rangeG_outer (gt := 51) (gf := 67) (lb := #[.pointer (some ⟨bn, 0, none⟩)]) (encs := fun x : Nd Int => #[Value.pointer (some ⟨x.blk, 0, none⟩)]) (xs := N) (S := fun k => k = w.heap.size) rfl (enters_of Try.func67 (by kernel_rfl) rfl)
    (fun k e => by have e' : k = w.heap.size := e; omega) hseq (Below.refl _ _) (fun _ => rfl)
    (CntN w3 w.heap.size) (fun c pre W' => False) (cntN_low hAn) (fun c => (low_pure _ _).g)
    ⟨HD.out.1, Kept.refl _ _⟩ ?round ?done ?stop
  case stop =>
    rintro c pre W' _ hf
    exact hf.elim
  case round =>
    rintro l' pre x W' K hl' ⟨rl, hlp⟩ hz hpre ⟨b0, hK⟩ hKK
    have hcnt : pre.length + 1 ≤ 1000000 := by
      have g1 := hpre.length_le
      rw [List.length_append, List.length_singleton] at g1
      have := HL.out
      omega
    gi_wp2_with fail
    refine hKK _ _ (Kept.refl _ _) ?_
    intro Wb hkb hrec
    have hKb : Kept (fun k => k = w.heap.size) w3 Wb := ⟨hkb.os.trans hK.os, hkb.tape.trans hK.tape, hkb.output.trans hK.output, Nat.le_trans hK.size hkb.size, fun k hk hs => (hkb.block k (Nat.lt_of_lt_of_le hk hK.size) (fun e => by have e' : k = l' := e; omega)).trans (hK.block k hk hs)⟩
    have HE : Hid (Blk Wb w.heap.size #[.int .i64 pre.length] 3 ∧ Kept (fun k => k = w.heap.size) w3 Wb) := ⟨b0.kept hkb (by show ¬ _ = _; omega), hKb⟩
    have n0 := HE.out.1.cell 0 (v := .int .i64 pre.length) rfl
    have f0 := HE.out.1.frozen 0
    clear b0 hK hKK hkb hrec hKb hpre hz hl' hlp rl hseq
    gi_wp2_with fail
    have e1 : (pre ++ [x]).length = pre.length + 1 := by simp
    have k5 : Kept (fun k => k = w.heap.size) Wb (Wb.setCell ⟨w.heap.size, 0, none⟩ (.int .i64 ((pre.length : Int) + 1))) := (Kept.refl (fun k => k = w.heap.size) Wb).set (p := ⟨w.heap.size, 0, none⟩) rfl _
    refine ⟨k5.mono fun k _ e => .inl e, ?_, HE.out.2.trans k5⟩
    have := HE.out.1.set 0 (.int .i64 ((pre.length : Int) + 1))
    rw [e1]
    exact this
  case done =>
    rintro W' ⟨b0, hK⟩ hks hD'
    have hl3 : w3.heap.size < W'.heap.size := (Array.getElem?_eq_some_iff.1 hD').1
    have HF : Hid (Blk W' w.heap.size #[.int .i64 N.length] 3 ∧ W'.heap[w3.heap.size]? = some (.deferred (some [])) ∧ Below w.heap.size w W') := ⟨b0, hD', HD.out.2.trans (hK.below HD.out.2.size (fun k e => by have e' : k = w.heap.size := e; omega))⟩
    have n0 := HF.out.1.cell 0 (v := .int .i64 N.length) rfl
    clear b0 hK hks hD' hseq
    gi_wp2_with fail
    refine ⟨by simp, .inl ⟨_, _, rfl, run_takeDeferred HF.out.2.1, ?_⟩⟩
    have hkk := kept_putObj (fun k => w.heap.size ≤ k) W' w3.heap.size (.deferred none) (Nat.le_of_lt hAn)
    refine ⟨.int .i64 N.length, ?_, rfl, HF.out.2.2.trans (hkk.below HF.out.2.2.size (fun k e => e))⟩
    simp [results, Try.results40, go_sem]
end Go.Proofs.Ytgdpplipahhffaa
