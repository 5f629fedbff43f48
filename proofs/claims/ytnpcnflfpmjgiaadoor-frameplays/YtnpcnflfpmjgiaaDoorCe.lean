/- Package disk: Flush and Crash, on a disk in memory and on none. -/
import Derived.Test.YtnpcnflfpmjgiaaDoorCd
namespace Go.Proofs.YtnpcnflfpmjgiaaDoor
open Go.RowKit
set_option linter.unusedVariables false
set_option linter.unusedSimpArgs false

def pt (b : Nat) : Value := .pointer (some ⟨b, 0, none⟩)
/-- A Flush: what it answers, what it leaves. -/
def flushE (S : DS) : Int := if (stepD S).off then 40 else 0
def flushD (S : DS) : DS := if (stepD S).off then stepD S else { stepD S with safe := S.shown, wait := [], fl := wrap64 (S.fl + 1) }
theorem flush_nil (w : World) : Calls Tryd.prog 33 #[.pointer none] w fun e w' => e = .returned (.int .i64 1) ∧ w' = w := by
  go_enter Tryd.func33, Tryd.ntmps33
  go_wp2
  go_ret
  exact ⟨rfl, rfl⟩
theorem FP_sub {b g h : Nat} {pv : Value} {bx : List (Nat × Nat)} : ∀ k, FP b g h (.slice none 0 0) [] k → FP b g h pv bx k := by
  rintro k (e | e | e | e | ⟨x, hx, _⟩)
  · exact .inl e
  · exact .inr (.inl e)
  · exact .inr (.inr (.inl e))
  · simp [Value.ownBlock] at e
  · simp at hx
set_option maxRecDepth 100000 in
theorem flush_any {B : Nat} {w : World} {b : Nat} {fp : Nat → Prop} {S : DS} (d : Dk B w b fp S) : Calls Tryd.prog 33 #[pt b] w fun e w' => e = .returned (.int .i64 (flushE S)) ∧ Left B b fp w (flushD S) w' := by
  obtain ⟨g, h, cg, ch, pv, bx, rfl, d⟩ := d
  have C1 : Hid (Calls Tryd.prog 62 #[.pointer (some ⟨b, 0, none⟩)] w fun e w' => e = .returned (.bool (!(stepD S).off)) ∧ Dv B w' b g h cg ch pv bx (stepD S) S.shown ∧ Kept (fun k => k = b) w w' ∧ w'.heap.size = w.heap.size) := step_any d
  have hsh : Hid (S.shown = settle (fun _ => 512) 0 S.safe S.wait) := (settle_full (fun _ _ => rfl) d.ok.len).symm
  have hok : Hid S.Ok := d.ok
  unfold pt
  by_cases ho : (stepD S).off = true
  · have HE : Hid (flushE S = 40 ∧ flushD S = stepD S) := by unfold flushE flushD; rw [if_pos ho, if_pos ho]; exact ⟨rfl, rfl⟩
    generalize flushE S = E at *
    generalize flushD S = T at *
    have ho2 : (!(stepD S).off) = false := by rw [ho]; rfl
    rw [ho2] at C1
    clear d ho ho2 hsh
    go_enter Tryd.func33, Tryd.ntmps33
    go_wp2_with fail
    refine C1.out.mono ?_
    rintro e w1 ⟨rfl, hd, hk, hz⟩
    have hend : Hid (Left B b (FP b g h pv bx) w T w1) := by
      rw [HE.out.2]
      exact ⟨_, ⟨g, h, cg, ch, pv, bx, rfl, hd⟩, hk.mono (fun k _ e => .inl e), fun k e => .inl e⟩
    clear hd hk hz C1
    go_wp2
    go_ret
    exact ⟨by rw [HE.out.1]; rfl, hend.out⟩
  · have ho2 : (!(stepD S).off) = true := by simpa using ho
    have HE : Hid (flushE S = 0 ∧ flushD S = { stepD S with safe := S.shown, wait := [], fl := wrap64 (S.fl + 1) }) := by unfold flushE flushD; rw [if_neg ho, if_neg ho]; exact ⟨rfl, rfl⟩
    generalize flushE S = E at *
    generalize flushD S = T at *
    rw [ho2] at C1
    clear d ho ho2
    go_enter Tryd.func33, Tryd.ntmps33
    go_wp2_with fail
    refine C1.out.mono ?_
    rintro e w1 ⟨rfl, hd, hk, hz⟩
    go_wp2_with fail
    refine (settle58 (S := stepD S) hd (fun _ => 512) (fun _ => Nat.le_refl _) (fun w2 i _ _ => (full58 i w2).mono (by rintro e w3 ⟨rfl, rfl⟩; exact ⟨rfl, Below.refl _ _⟩))).mono ?_
    rintro e w2 ⟨rfl, hd2, hk2⟩
    have c7 := hd2.blk.cell 7 (v := .int .i64 S.fl) rfl
    have f7 := hd2.blk.frozen 7
    have hend : Hid (Left B b (FP b g h pv bx) w T (w2.setCell ⟨b, 7, none⟩ (.int .i64 (wrap64 (S.fl + 1))))) := by
      have hk3 : Kept (fun k => k = b) w2 (w2.setCell ⟨b, 7, none⟩ (.int .i64 (wrap64 (S.fl + 1)))) := Kept.set (S := fun k => k = b) (Kept.refl _ _) rfl _
      refine ⟨_, ⟨g, h, cg, ch, .slice none 0 0, [], rfl, ?_⟩, ((hk.mono (fun k _ e => .inl e)).trans hk2).trans (hk3.mono (fun k _ e => .inl e)), fun k e => .inl (FP_sub k e)⟩
      rw [HE.out.2]
      have hs2 : settle (fun _ => 512) 0 (stepD S).safe (stepD S).wait = S.shown := hsh.out.symm
      rw [hs2] at hd2
      exact hd2.upd hk3 (hd2.blk.set 7 _) ⟨hd2.ok.one, hd2.ok.most, hd2.ok.size, hd2.ok.num, hd2.ok.len, hd2.ok.cut0, hd2.ok.cut1, hd2.ok.idle⟩ rfl rfl
    clear hd hk hz C1 hd2 hk2
    go_wp2
    go_ret
    exact ⟨by rw [HE.out.1]; rfl, hend.out⟩
/-- A list of fates, in memory or none. -/
def FtsV (w : World) (fs : List (Int × Int)) (a : Option Addr) : Prop := fs = [] ∨ ∃ fb off, a = some ⟨fb, off, none⟩ ∧ Fts w fb off fs
/-- A Crash. -/
def crashD (S : DS) (fs : List (Int × Int)) : DS := { S with safe := settle (fateK fs) 0 S.safe S.wait, wait := [], off := false, cut := 0 }
theorem crash_nil (a : Option Addr) (n c : Nat) (w : World) : Calls Tryd.prog 34 #[.pointer none, .slice a n c] w fun e w' => e = .returned (.tuple #[]) ∧ Below w.heap.size w w' := by
  go_enter Tryd.func34, Tryd.ntmps34
  go_wp2
  first | go_end0 | refine bodyPost_ret (results_none rfl _ _ _) rfl ?_
  all_goals exact ⟨rfl, (Below.refl _ _).alloc (Nat.le_refl _) _⟩
set_option maxRecDepth 100000 in
theorem crash_any {B : Nat} {w : World} {b : Nat} {fp : Nat → Prop} {S : DS} (d : Dk B w b fp S) (fs : List (Int × Int)) (a : Option Addr) (c : Nat) (hf : FtsV w fs a) (hfp : ∀ fb off, a = some ⟨fb, off, none⟩ → ¬ fp fb) : Calls Tryd.prog 34 #[pt b, .slice a fs.length c] w fun e w' => e = .returned (.tuple #[]) ∧ Left B b fp w (crashD S fs) w' := by
  obtain ⟨g, h, cg, ch, pv, bx, rfl, d⟩ := d
  have hmf := mk_func
  have hb0 : Below w.heap.size w (w.alloc (.cells #[.slice a fs.length c] 44)) := (Below.refl _ _).alloc (Nat.le_refl _) _
  have hd0 := d.below hb0
  have hx : Blk (w.alloc (.cells #[.slice a fs.length c] 44)) w.heap.size #[.slice a fs.length c] 44 := Blk.new _ _ _
  have hnx : ¬ FP b g h pv bx w.heap.size := fun e => by have := (d.fp _ e).2; omega
  have HF : Hid (∀ (w1 : World) (i : Nat), Kept (FP b g h pv bx) (w.alloc (.cells #[.slice a fs.length c] 44)) w1 → i < S.wait.length → Calls Tryd.prog 65 #[.int .i64 i, .pointer (some ⟨w.heap.size, 0, none⟩)] w1 fun e w' => e = .returned (.int .i64 (fateK fs i)) ∧ Below w1.heap.size w1 w') := by
    show ∀ (w1 : World) (i : Nat), _
    intro w1 i hk hi
    have hx1 := (hx.kept hk hnx).cell 0 (v := .slice a fs.length c) rfl
    by_cases hi2 : i < fs.length
    · rcases hf with rfl | ⟨fb, off, rfl, hf⟩
      · simp at hi2
      · have hn : ¬ FP b g h pv bx fb := hfp fb off rfl
        have he : fs[i]? = some (fs[i]) := List.getElem?_eq_getElem hi2
        generalize fs[i] = q at he
        obtain ⟨kd, t⟩ := q
        obtain ⟨e1, e2⟩ := hf i kd t he
        have hlt := World.block_lt_of_cell? w _ e1
        rw [show fateK fs i = keptK kd t by unfold fateK; rw [he]]
        exact some54 i fs.length c fb off w.heap.size kd t hx1 hi2 (hk.cell ((hb0.cell (p := ⟨fb, off + i * 2, none⟩) hlt).trans e1) hn) (hk.cell ((hb0.cell (p := ⟨fb, off + i * 2 + 1, none⟩) hlt).trans e2) hn)
    · rw [show fateK fs i = 0 by unfold fateK; rw [List.getElem?_eq_none (by omega)]]
      exact (none54 i fs.length c a w.heap.size hx1 (by omega)).mono (by rintro e w2 ⟨rfl, rfl⟩; exact ⟨rfl, Below.refl _ _⟩)
  unfold pt
  clear d hx hf hfp
  go_enter Tryd.func34, Tryd.ntmps34
  go_wp2_with fail
  refine (settle54 w.heap.size hd0 (fateK fs) (fateK_le fs) HF.out).mono ?_
  rintro e w2 ⟨rfl, hd2, hk2⟩
  have c3 := hd2.blk.cell 3 (v := .bool S.off) rfl
  have f3 := hd2.blk.frozen 3
  have c4 := hd2.blk.cell 4 (v := .int .i64 S.cut) rfl
  have f4 := hd2.blk.frozen 4
  have hend : Hid (Left B b (FP b g h pv bx) w (crashD S fs) ((w2.setCell ⟨b, 3, none⟩ (.bool false)).setCell ⟨b, 4, none⟩ (.int .i64 0))) := by
    have hk3 : Kept (fun k => k = b) w2 ((w2.setCell ⟨b, 3, none⟩ (.bool false)).setCell ⟨b, 4, none⟩ (.int .i64 0)) := Kept.set (S := fun k => k = b) (Kept.set (S := fun k => k = b) (Kept.refl _ _) rfl _) rfl _
    refine ⟨_, ⟨g, h, cg, ch, .slice none 0 0, [], rfl, ?_⟩, ((Kept.of_below hb0).trans hk2).trans (hk3.mono (fun k _ e => .inl e)), fun k e => .inl (FP_sub k e)⟩
    exact hd2.upd hk3 ((hd2.blk.set 3 _).set 4 _) ⟨hd2.ok.one, hd2.ok.most, hd2.ok.size, hd2.ok.num, hd2.ok.len, Int.le_refl _, (by show (0 : Int) ≤ 9223372036854775807; omega), fun e => rfl⟩ rfl rfl
  clear hd0 hd2 hk2 HF hb0 hnx
  go_wp2
  first | go_end0 | refine bodyPost_ret (results_none rfl _ _ _) rfl ?_
  all_goals exact ⟨rfl, hend.out⟩
end Go.Proofs.YtnpcnflfpmjgiaaDoor
