/- Package frame's Get and Put over a disk in memory, and with none. -/
import Derived.Test.YtnpcnflfpmjgiaaDoorFq
import Derived.Test.YtnpcnflfpmjgiaaDoorCq
namespace Go.Proofs.YtnpcnflfpmjgiaaDoor
open Go.RowKit
set_option linter.unusedVariables false
set_option linter.unusedSimpArgs false

theorem Tab.kept {S : Nat → Prop} {w w' : World} (h : Tab w) (hk : Kept S w w') (hn : ¬ S 1) : Tab w' := fun d hd => hk.cell (p := ⟨1, d, none⟩) (h d hd) hn
theorem Tab.left {B b : Nat} {fp : Nat → Prop} {w w' : World} {S S0 : DS} (h : Tab w) (d : Dk B w b fp S0) (hL : Left B b fp w S w') (hB : 1 < B) : Tab w' := by
  obtain ⟨_, _, hk, _⟩ := hL
  exact h.kept hk (fun e => by have := (d.fp 1 e).1; omega)
/-- What Get answers. -/
def getE (S : DS) (n : Int) : Int := if refuseD S n = 0 then openE (readS S n) else refuseD S n
def getF (S : DS) (n : Int) : Fr := if refuseD S n = 0 then openR (readS S n) else zeroF
theorem get_nil (n : Int) (w : World) : Calls Tryd.prog 35 #[.pointer none, .int .i64 n] w fun e w' => e = .returned (.tuple #[frV zeroF, .int .i64 1]) ∧ Below w.heap.size w w' := by
  have hb : Below w.heap.size w (w.alloc (.cells #[.int .i64 0, .int .u64 0, .int .i64 0, .string ⟨#[]⟩] 24)) := (Below.refl _ _).alloc (Nat.le_refl _) _
  have CR : Hid (∀ w : World, Calls Tryd.prog 60 #[.pointer none, .int .i64 n] w fun e w' => e = .returned (.tuple #[.string ⟨#[]⟩, .int .i64 1]) ∧ w' = w) := read_nil n
  go_enter Tryd.func35, Tryd.ntmps35
  go_wp2_with fail
  refine (CR.out _).mono ?_
  rintro e w1 ⟨rfl, hw⟩
  rw [hw]
  clear hw
  go_wp2
  exact bodyPost_ret (v := .tuple #[.agg #[.int .i64 0, .int .u64 0, .int .i64 0, .string ⟨#[]⟩], .int .i64 1]) (by simp [results, Tryd.results35, go_sem]) rfl ⟨rfl, hb⟩
theorem put_nil (n : Int) (f : Fr) (w : World) : Calls Tryd.prog 32 #[.pointer none, .int .i64 n, frV f] w fun e w' => e = .returned (.int .i64 1) ∧ Below w.heap.size w w' := by
  have hb : Below w.heap.size w (w.alloc (.cells #[.int .i64 f.kind, .int .u64 f.num, .int .i64 f.idx, .string f.body] 24)) := (Below.refl _ _).alloc (Nat.le_refl _) _
  unfold frV
  go_enter Tryd.func32, Tryd.ntmps32
  go_wp2
  go_ret
  exact ⟨rfl, hb⟩
theorem readS_size {S : DS} (h : S.Ok) {n : Int} (hr : refuseD S n = 0) : (readS S n).size = 512 := by
  obtain ⟨m, rfl, hm⟩ := refuse_zero hr
  unfold readS
  rw [if_pos hr, Int.toNat_natCast]
  exact size_getD (size_over h.size h.len) (by rw [length_over]; exact hm)
/-- A call that keeps something in a box of its own. -/
theorem left_box {B b : Nat} {fp : Nat → Prop} {w W w1 w' : World} {S : DS} (hb0 : Below w.heap.size w W) (hL : Left B b fp W S w1) (hk : Kept (fun k => k = w.heap.size) w1 w') (hg : w.heap.size < W.heap.size) (hnf : ¬ fp w.heap.size) : Left B b fp w S w' := by
  obtain ⟨fp1, d1, k1, n1⟩ := hL
  have hz := k1.size
  refine ⟨fp1, d1.kept hk (fun k h1 e => ?_), ⟨hk.os.trans (k1.os.trans hb0.os), hk.tape.trans (k1.tape.trans hb0.tape), hk.output.trans (k1.output.trans hb0.output), Nat.le_trans hb0.size (Nat.le_trans k1.size hk.size), fun i hi hs => ?_⟩, fun k h => ?_⟩
  · have e : k = w.heap.size := e
    subst e
    rcases n1 _ h1 with q | q
    · exact hnf q
    · omega
  · refine (hk.block i (by omega) (by show ¬ i = w.heap.size; omega)).trans ?_
    exact (k1.block i (by omega) hs).trans (hb0.block i hi)
  · rcases n1 k h with q | q
    · exact .inl q
    · exact .inr (by omega)
theorem kept4 {w : World} {g : Nat} (y0 y1 y2 y3 : Value) (o : Obj) : Kept (fun k => k = g) w (((((w.setCell ⟨g, 0, none⟩ y0).setCell ⟨g, 1, none⟩ y1).setCell ⟨g, 2, none⟩ y2).setCell ⟨g, 3, none⟩ y3).alloc o) :=
  (Kept.set (S := fun k => k = g) (Kept.set (S := fun k => k = g) (Kept.set (S := fun k => k = g) (Kept.set (S := fun k => k = g) (Kept.refl _ _) rfl _) rfl _) rfl _) rfl _).trans (Kept.of_below ((Below.refl _ _).alloc (Nat.le_refl _) _))
theorem blk4 {w : World} {g : Nat} {x0 x1 x2 x3 : Value} {t : TypeId} (h : Blk w g #[x0, x1, x2, x3] t) (y0 y1 y2 y3 : Value) : Blk ((((w.setCell ⟨g, 0, none⟩ y0).setCell ⟨g, 1, none⟩ y1).setCell ⟨g, 2, none⟩ y2).setCell ⟨g, 3, none⟩ y3) g #[y0, y1, y2, y3] t :=
  (((h.set 0 y0).set 1 y1).set 2 y2).set 3 y3
set_option maxHeartbeats 1000000 in
set_option maxRecDepth 100000 in
theorem get_any {B : Nat} {w : World} {b : Nat} {fp : Nat → Prop} {S : DS} (d : Dk B w b fp S) (n : Int) (hT : Tab w) (hB : 1 < B) : Calls Tryd.prog 35 #[pt b, .int .i64 n] w fun e w' => e = .returned (.tuple #[frV (getF S n), .int .i64 (getE S n)]) ∧ Left B b fp w (readD S n) w' := by
  obtain ⟨W, hW⟩ : ∃ W, W = w.alloc (.cells #[.int .i64 0, .int .u64 0, .int .i64 0, .string ⟨#[]⟩] 24) := ⟨_, rfl⟩
  have hb0 : Below w.heap.size w W := by rw [hW]; exact (Below.refl _ _).alloc (Nat.le_refl _) _
  have hblk : Blk W w.heap.size #[.int .i64 0, .int .u64 0, .int .i64 0, .string ⟨#[]⟩] 24 := by rw [hW]; exact Blk.new _ _ _
  have hnf : ¬ fp w.heap.size := fun e => by have := (d.fp _ e).2; omega
  have dW := d.below hb0
  have CR : Hid (Calls Tryd.prog 60 #[pt b, .int .i64 n] W fun e w' => e = .returned (.tuple #[.string (readS S n), .int .i64 (refuseD S n)]) ∧ Hid (Left B b fp W (readD S n) w') ∧ Blk w' w.heap.size #[.int .i64 0, .int .u64 0, .int .i64 0, .string ⟨#[]⟩] 24 ∧ Tab w') := by
    refine (read_any dW n).mono ?_
    rintro e w' ⟨rfl, hL⟩
    refine ⟨rfl, hL, ?_, (hT.below hb0).left dW hL hB⟩
    obtain ⟨_, _, hk, _⟩ := hL
    exact hblk.kept hk hnf
  have hg : w.heap.size < W.heap.size := hblk.lt
  have hend : Hid (∀ w1 w2 : World, Left B b fp W (readD S n) w1 → Kept (fun k => k = w.heap.size) w1 w2 → Left B b fp w (readD S n) w2) := fun w1 w2 h1 h2 => left_box hb0 h1 h2 hg hnf
  have hok := d.ok
  unfold pt at *
  by_cases hr : refuseD S n = 0
  · have hz := readS_size hok hr
    have e1 : getE S n = openE (readS S n) := by unfold getE; rw [if_pos hr]
    have e2 : getF S n = openR (readS S n) := by unfold getF; rw [if_pos hr]
    rw [e1, e2]
    rw [hr] at CR
    have CO : Hid (∀ w : World, Tab w → Calls Tryd.prog 15 #[.string (readS S n)] w fun e w' => e = .returned (.tuple #[frV (openR (readS S n)), .int .i64 (openM (readS S n)), .int .i64 (openE (readS S n))]) ∧ Below w.heap.size w w') := fun w h => open_any _ (by omega) w h
    generalize openE (readS S n) = E at *
    generalize openM (readS S n) = M at *
    generalize openR (readS S n) = F at *
    generalize readS S n = s at *
    generalize readD S n = D at *
    obtain ⟨fk, fn, fi, fb⟩ := F
    unfold frV at *
    simp only at CO ⊢
    clear d dW hok e1 e2 hr hT hblk hnf
    go_enter Tryd.func35, Tryd.ntmps35
    go_wp2_with fail
    rw [← hW]
    clear hW
    refine CR.out.mono ?_
    rintro e w1 ⟨rfl, hL1, hblk1, hT1⟩
    clear CR
    go_wp2_with fail
    refine (CO.out _ hT1).mono ?_
    rintro e w2 ⟨rfl, hb2⟩
    have hblk2 := hblk1.below hb2
    have c0 := hblk2.cell 0 rfl
    have c1 := hblk2.cell 1 rfl
    have c2 := hblk2.cell 2 rfl
    have c3 := hblk2.cell 3 rfl
    have z0 := hblk2.frozen 0
    have z1 := hblk2.frozen 1
    have z2 := hblk2.frozen 2
    have z3 := hblk2.frozen 3
    have hlt := hblk2.lt
    have hB2 := (blk4 hblk2 (.int .i64 fk) (.int .u64 fn) (.int .i64 fi) (.string fb)).below ((Below.refl _ _).alloc (Nat.le_refl _) (.cells #[.int .i64 fk, .int .u64 fn, .int .i64 fi, .string fb] 24))
    have hL2 := hend.out w1 _ hL1.out ((Kept.of_below hb2).trans (kept4 (.int .i64 fk) (.int .u64 fn) (.int .i64 fi) (.string fb) (.cells #[.int .i64 fk, .int .u64 fn, .int .i64 fi, .string fb] 24)))
    clear CO hb2 hblk1 hT1 hL1 hend hb0 hblk2
    go_wp2
    have r0 := hB2.cell 0 (v := .int .i64 fk) rfl
    have r1 := hB2.cell 1 (v := .int .u64 fn) rfl
    have r2 := hB2.cell 2 (v := .int .i64 fi) rfl
    have r3 := hB2.cell 3 (v := .string fb) rfl
    refine bodyPost_ret (v := .tuple #[.agg #[.int .i64 fk, .int .u64 fn, .int .i64 fi, .string fb], .int .i64 E]) ?_ rfl ⟨rfl, hL2⟩
    simp [results, Tryd.results35, go_sem, r0, r1, r2, r3]
  · have e1 : getE S n = refuseD S n := by unfold getE; rw [if_neg hr]
    have e2 : getF S n = zeroF := by unfold getF; rw [if_neg hr]
    rw [e1, e2]
    have hr' : (refuseD S n == 0) = false := by simpa using hr
    generalize refuseD S n = E at *
    generalize readS S n = s at *
    generalize readD S n = D at *
    unfold frV zeroF at *
    clear d dW hok e1 e2 hr hT hblk hnf
    go_enter Tryd.func35, Tryd.ntmps35
    go_wp2_with fail
    rw [← hW]
    clear hW
    refine CR.out.mono ?_
    rintro e w1 ⟨rfl, hL1, hblk1, hT1⟩
    clear CR
    have c0 := hblk1.cell 0 rfl
    have c1 := hblk1.cell 1 rfl
    have c2 := hblk1.cell 2 rfl
    have c3 := hblk1.cell 3 rfl
    have z0 := hblk1.frozen 0
    have z1 := hblk1.frozen 1
    have z2 := hblk1.frozen 2
    have z3 := hblk1.frozen 3
    have hlt := hblk1.lt
    have hB2 := blk4 hblk1 (.int .i64 0) (.int .u64 0) (.int .i64 0) (.string ⟨#[]⟩)
    have hL2 := hend.out w1 _ hL1.out (Kept.set (S := fun k => k = w.heap.size) (Kept.set (S := fun k => k = w.heap.size) (Kept.set (S := fun k => k = w.heap.size) (Kept.set (S := fun k => k = w.heap.size) (p := ⟨w.heap.size, 0, none⟩) (Kept.refl _ _) rfl (.int .i64 0)) (p := ⟨w.heap.size, 1, none⟩) rfl (.int .u64 0)) (p := ⟨w.heap.size, 2, none⟩) rfl (.int .i64 0)) (p := ⟨w.heap.size, 3, none⟩) rfl (.string ⟨#[]⟩))
    clear hblk1 hT1 hL1 hend hb0
    go_wp2
    have r0 := hB2.cell 0 (v := .int .i64 0) rfl
    have r1 := hB2.cell 1 (v := .int .u64 0) rfl
    have r2 := hB2.cell 2 (v := .int .i64 0) rfl
    have r3 := hB2.cell 3 (v := .string ⟨#[]⟩) rfl
    refine bodyPost_ret (v := .tuple #[.agg #[.int .i64 0, .int .u64 0, .int .i64 0, .string ⟨#[]⟩], .int .i64 E]) ?_ rfl ⟨rfl, hL2⟩
    simp [results, Tryd.results35, go_sem, r0, r1, r2, r3]
end Go.Proofs.YtnpcnflfpmjgiaaDoor
