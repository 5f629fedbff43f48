/- The document's Get over the document's disk. -/
import Derived.Test.YtnpcnflfpmjgiaaDoorFh
import Derived.Test.YtnpcnflfpmjgiaaDoorWo
import Derived.Test.YtnpcnflfpmjgiaaDoorRc
namespace Go.Proofs.YtnpcnflfpmjgiaaDoor
open Go.RowKit
set_option linter.unusedVariables false
set_option linter.unusedSimpArgs false

theorem RLeft.size {B b : Nat} {f0 : Nat → Prop} {w0 w : World} {S : DS} (h : RLeft B b f0 w0 S w) : w0.heap.size ≤ w.heap.size := by obtain ⟨_, _, k, _⟩ := h; exact k.size
theorem RLeft.same {B b : Nat} {fp : Nat → Prop} {w w' : World} {S : DS} (d : Rk B w b fp S) (hb : Below w.heap.size w w') : RLeft B b fp w S w' := ⟨fp, d.below hb, Kept.of_below hb, fun k h => .inl h⟩
theorem RLeft.trans {B b : Nat} {fp : Nat → Prop} {w w1 w2 : World} {S : DS} (hk : Kept fp w w1) {fp1 : Nat → Prop} (hn : ∀ k, fp1 k → fp k ∨ w.heap.size ≤ k) (h : RLeft B b fp1 w1 S w2) : RLeft B b fp w S w2 := by
  obtain ⟨fp2, d, hk2, hn2⟩ := h
  refine ⟨fp2, d, ⟨hk2.os.trans hk.os, hk2.tape.trans hk.tape, hk2.output.trans hk.output, Nat.le_trans hk.size hk2.size, fun i hi hs => (hk2.block i (Nat.lt_of_lt_of_le hi hk.size) (fun h => ?_)).trans (hk.block i hi hs)⟩, fun k h => ?_⟩
  · rcases hn i h with x | x
    · exact hs x
    · omega
  · rcases hn2 k h with x | x
    · exact hn k x
    · exact .inr (Nat.le_trans hk.size x)
theorem RLeft.then {B b : Nat} {fp : Nat → Prop} {w w1 w2 : World} {S : DS} (h : RLeft B b fp w S w1) (hb : Below w1.heap.size w1 w2) : RLeft B b fp w S w2 := by
  obtain ⟨fp', d, hk, hn⟩ := h
  exact ⟨fp', d.below hb, hk.trans (Kept.of_below hb), hn⟩
theorem rleft_box {B b : Nat} {fp : Nat → Prop} {w W w1 w' : World} {S : DS} (hb0 : Below w.heap.size w W) (hL : RLeft B b fp W S w1) (hk : Kept (fun k => k = w.heap.size) w1 w') (hg : w.heap.size < W.heap.size) (hnf : ¬ fp w.heap.size) : RLeft B b fp w S w' := by
  obtain ⟨fp1, d1, k1, n1⟩ := hL
  have hz := k1.size
  refine ⟨fp1, d1.kept hk (fun k h1 e => ?_), ⟨hk.os.trans (k1.os.trans hb0.os), hk.tape.trans (k1.tape.trans hb0.tape), hk.output.trans (k1.output.trans hb0.output), Nat.le_trans hb0.size (Nat.le_trans k1.size hk.size), fun i hi hs => ?_⟩, fun k h => ?_⟩
  · have e : k = w.heap.size := e
    subst e
    rcases n1 _ h1 with q | q
    · exact hnf q
    · omega
  · refine (hk.block i (by omega) (by show ¬ i = w.heap.size; omega)).trans ?_
    exact (k1.block i (by omega) hs).trans (hb0.block i hi)
  · rcases n1 k h with q | q
    · exact .inl q
    · exact .inr (by omega)
set_option maxHeartbeats 1000000 in
set_option maxRecDepth 100000 in
theorem rget_any {B : Nat} {w : World} {b : Nat} {fp : Nat → Prop} {S : DS} (d : Rk B w b fp S) (n : Int) : Calls Tryd.prog 77 #[pt b, .int .i64 n] w fun e w' => e = .returned (.tuple #[frV (getF S n), .int .i64 (getE S n)]) ∧ RLeft B b fp w (readD S n) w' := by
  obtain ⟨W, hW⟩ : ∃ W, W = w.alloc (.cells #[.int .i64 0, .int .u64 0, .int .i64 0, .string ⟨#[]⟩] 24) := ⟨_, rfl⟩
  have hb0 : Below w.heap.size w W := by rw [hW]; exact (Below.refl _ _).alloc (Nat.le_refl _) _
  have hblk : Blk W w.heap.size #[.int .i64 0, .int .u64 0, .int .i64 0, .string ⟨#[]⟩] 24 := by rw [hW]; exact Blk.new _ _ _
  have hnf : ¬ fp w.heap.size := fun e => by have := (d.fp _ e).2; omega
  have dW := d.below hb0
  have CR : Hid (Calls Tryd.prog 91 #[pt b, .int .i64 n] W fun e w' => e = .returned (.tuple #[.string (readS S n), .int .i64 (refuseD S n)]) ∧ Hid (RLeft B b fp W (readD S n) w') ∧ Blk w' w.heap.size #[.int .i64 0, .int .u64 0, .int .i64 0, .string ⟨#[]⟩] 24) := by
    refine (rread_any dW n).mono ?_
    rintro e w' ⟨rfl, hL⟩
    refine ⟨rfl, hL, ?_⟩
    obtain ⟨_, _, hk, _⟩ := hL
    exact hblk.kept hk hnf
  have hg : w.heap.size < W.heap.size := hblk.lt
  have hend : Hid (∀ w1 w2 : World, RLeft B b fp W (readD S n) w1 → Kept (fun k => k = w.heap.size) w1 w2 → RLeft B b fp w (readD S n) w2) := fun w1 w2 h1 h2 => rleft_box hb0 h1 h2 hg hnf
  have hok := d.ok
  unfold pt at *
  by_cases hr : refuseD S n = 0
  · have hz := readS_size hok hr
    have e1 : getE S n = openE (readS S n) := by unfold getE; rw [if_pos hr]
    have e2 : getF S n = openR (readS S n) := by unfold getF; rw [if_pos hr]
    rw [e1, e2]
    rw [hr] at CR
    have CO : Hid (∀ w : World, Calls Tryd.prog 16 #[.string (readS S n)] w fun e w' => e = .returned (.tuple #[frV (openR (readS S n)), .int .i64 (openM (readS S n)), .int .i64 (openE (readS S n))]) ∧ Below w.heap.size w w') := fun w => ropen_any _ (by omega) w
    generalize openE (readS S n) = E at *
    generalize openM (readS S n) = M at *
    generalize openR (readS S n) = F at *
    generalize readS S n = s at *
    generalize readD S n = D at *
    obtain ⟨fk, fn, fi, fb⟩ := F
    unfold frV at *
    simp only at CO ⊢
    clear d dW hok e1 e2 hr hblk hnf
    go_enter Tryd.func77, Tryd.ntmps77
    go_wp2_with fail
    rw [← hW]
    clear hW
    refine CR.out.mono ?_
    rintro e w1 ⟨rfl, hL1, hblk1⟩
    clear CR
    go_wp2_with fail
    refine (CO.out _).mono ?_
    rintro e w2 ⟨rfl, hb2⟩
    have hblk2 := hblk1.below hb2
    have c0 := hblk2.cell 0 rfl
    have c1 := hblk2.cell 1 rfl
    have c2 := hblk2.cell 2 rfl
    have c3 := hblk2.cell 3 rfl
    have z0 := hblk2.frozen 0
    have z1 := hblk2.frozen 1
    have z2 := hblk2.frozen 2
    have z3 := hblk2.frozen 3
    have hlt := hblk2.lt
    have hB2 := (blk4 hblk2 (.int .i64 fk) (.int .u64 fn) (.int .i64 fi) (.string fb)).below ((Below.refl _ _).alloc (Nat.le_refl _) (.cells #[.int .i64 fk, .int .u64 fn, .int .i64 fi, .string fb] 24))
    have hL2 := hend.out w1 _ hL1.out ((Kept.of_below hb2).trans (kept4 (.int .i64 fk) (.int .u64 fn) (.int .i64 fi) (.string fb) (.cells #[.int .i64 fk, .int .u64 fn, .int .i64 fi, .string fb] 24)))
    clear CO hb2 hblk1 hL1 hend hb0 hblk2
    go_wp2
    have r0 := hB2.cell 0 (v := .int .i64 fk) rfl
    have r1 := hB2.cell 1 (v := .int .u64 fn) rfl
    have r2 := hB2.cell 2 (v := .int .i64 fi) rfl
    have r3 := hB2.cell 3 (v := .string fb) rfl
    refine bodyPost_ret (v := .tuple #[.agg #[.int .i64 fk, .int .u64 fn, .int .i64 fi, .string fb], .int .i64 E]) ?_ rfl ⟨rfl, hL2⟩
    simp [results, Tryd.results77, go_sem, r0, r1, r2, r3]
  · have e1 : getE S n = refuseD S n := by unfold getE; rw [if_neg hr]
    have e2 : getF S n = zeroF := by unfold getF; rw [if_neg hr]
    rw [e1, e2]
    have hr' : (refuseD S n == 0) = false := by simpa using hr
    generalize refuseD S n = E at *
    generalize readS S n = s at *
    generalize readD S n = D at *
    unfold frV zeroF at *
    clear d dW hok e1 e2 hr hblk hnf
    go_enter Tryd.func77, Tryd.ntmps77
    go_wp2_with fail
    rw [← hW]
    clear hW
    refine CR.out.mono ?_
    rintro e w1 ⟨rfl, hL1, hblk1⟩
    clear CR
    have c0 := hblk1.cell 0 rfl
    have c1 := hblk1.cell 1 rfl
    have c2 := hblk1.cell 2 rfl
    have c3 := hblk1.cell 3 rfl
    have z0 := hblk1.frozen 0
    have z1 := hblk1.frozen 1
    have z2 := hblk1.frozen 2
    have z3 := hblk1.frozen 3
    have hlt := hblk1.lt
    have hB2 := blk4 hblk1 (.int .i64 0) (.int .u64 0) (.int .i64 0) (.string ⟨#[]⟩)
    have hL2 := hend.out w1 _ hL1.out (Kept.set (S := fun k => k = w.heap.size) (Kept.set (S := fun k => k = w.heap.size) (Kept.set (S := fun k => k = w.heap.size) (Kept.set (S := fun k => k = w.heap.size) (p := ⟨w.heap.size, 0, none⟩) (Kept.refl _ _) rfl (.int .i64 0)) (p := ⟨w.heap.size, 1, none⟩) rfl (.int .u64 0)) (p := ⟨w.heap.size, 2, none⟩) rfl (.int .i64 0)) (p := ⟨w.heap.size, 3, none⟩) rfl (.string ⟨#[]⟩))
    clear hblk1 hL1 hend hb0
    go_wp2
    have r0 := hB2.cell 0 (v := .int .i64 0) rfl
    have r1 := hB2.cell 1 (v := .int .u64 0) rfl
    have r2 := hB2.cell 2 (v := .int .i64 0) rfl
    have r3 := hB2.cell 3 (v := .string ⟨#[]⟩) rfl
    refine bodyPost_ret (v := .tuple #[.agg #[.int .i64 0, .int .u64 0, .int .i64 0, .string ⟨#[]⟩], .int .i64 E]) ?_ rfl ⟨rfl, hL2⟩
    simp [results, Tryd.results77, go_sem, r0, r1, r2, r3]

end Go.Proofs.YtnpcnflfpmjgiaaDoor
