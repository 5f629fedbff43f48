/- Package disk: step, refusal, Size, Off, Stats, Cut, on a disk in memory and on none. -/
import Derived.Test.YtnpcnflfpmjgiaaDoorCa
namespace Go.Proofs.YtnpcnflfpmjgiaaDoor
open Go.RowKit
set_option linter.unusedVariables false
set_option linter.unusedSimpArgs false

/-- A step comes. -/
def stepD (S : DS) : DS := { S with off := S.off || (S.cut == 1), cut := if S.cut ≤ 0 then 0 else S.cut - 1 }
theorem stepD_ok {S : DS} (h : S.Ok) : (stepD S).Ok := by
  have h0 := h.cut0
  have h1 := h.cut1
  refine ⟨h.one, h.most, h.size, h.num, h.len, ?_, ?_, ?_⟩
  · show 0 ≤ if S.cut ≤ 0 then 0 else S.cut - 1
    split <;> omega
  · show (if S.cut ≤ 0 then 0 else S.cut - 1) ≤ _
    split <;> omega
  · show (S.off || (S.cut == 1)) = true → (if S.cut ≤ 0 then 0 else S.cut - 1) = 0
    intro e
    rcases Bool.or_eq_true _ _ ▸ e with e | e
    · rw [if_pos (by have := h.idle e; omega)]
    · rw [if_neg (by have := beq_iff_eq.1 e; omega)]; have := beq_iff_eq.1 e; omega
section
variable {B : Nat} {w : World} {b g h cg ch : Nat} {pv : Value} {bx : List (Nat × Nat)} {S : DS} {shown : List ByteArray}
set_option maxRecDepth 100000 in
theorem step_any (d : Dv B w b g h cg ch pv bx S shown) : Calls Tryd.prog 62 #[.pointer (some ⟨b, 0, none⟩)] w fun e w' => e = .returned (.bool (!(stepD S).off)) ∧ Dv B w' b g h cg ch pv bx (stepD S) shown ∧ Kept (fun k => k = b) w w' ∧ w'.heap.size = w.heap.size := by
  have c3 := d.blk.cell 3 (v := .bool S.off) rfl
  have c4 := d.blk.cell 4 (v := .int .i64 S.cut) rfl
  have f3 := d.blk.frozen 3
  have f4 := d.blk.frozen 4
  have h0 := d.ok.cut0
  have h1 := d.ok.cut1
  by_cases hc : S.cut = 1
  · have hst : Hid (stepD S = { S with off := true, cut := 0 }) := by show _ = _; unfold stepD; rw [hc]; simp
    have hend : Hid (Dv B ((w.setCell ⟨b, 3, none⟩ (.bool true)).setCell ⟨b, 4, none⟩ (.int .i64 0)) b g h cg ch pv bx (stepD S) shown ∧ Kept (fun k => k = b) w ((w.setCell ⟨b, 3, none⟩ (.bool true)).setCell ⟨b, 4, none⟩ (.int .i64 0)) ∧ ((w.setCell ⟨b, 3, none⟩ (.bool true)).setCell ⟨b, 4, none⟩ (.int .i64 0)).heap.size = w.heap.size) := by
      have hk : Kept (fun k => k = b) w ((w.setCell ⟨b, 3, none⟩ (.bool true)).setCell ⟨b, 4, none⟩ (.int .i64 0)) := Kept.set (S := fun k => k = b) (Kept.set (S := fun k => k = b) (Kept.refl _ _) rfl _) rfl _
      refine ⟨d.upd hk ?_ (stepD_ok d.ok) rfl rfl, hk, by simp⟩
      rw [hst.out]; exact (d.blk.set 3 (.bool true)).set 4 (.int .i64 0)
    have ho : Hid ((stepD S).off = true) := by show _ = _; rw [hst.out]
    generalize stepD S = T at *
    generalize S.cut = c at *
    subst hc
    clear d
    go_enter Tryd.func62, Tryd.ntmps62
    go_wp2
    go_ret
    exact ⟨by rw [ho.out]; rfl, hend.out⟩
  · have hc' : (S.cut == 1) = false := by simpa using hc
    have ho : Hid ((stepD S).off = S.off) := by show (S.off || (S.cut == 1)) = _; rw [hc']; simp
    by_cases hz : S.cut = 0
    · have hst : Hid (stepD S = { S with cut := 0 }) := by show _ = _; unfold stepD; rw [hz]; simp
      have hend : Hid (Dv B (w.setCell ⟨b, 4, none⟩ (.int .i64 0)) b g h cg ch pv bx (stepD S) shown ∧ Kept (fun k => k = b) w (w.setCell ⟨b, 4, none⟩ (.int .i64 0)) ∧ (w.setCell ⟨b, 4, none⟩ (.int .i64 0)).heap.size = w.heap.size) := by
        have hk : Kept (fun k => k = b) w (w.setCell ⟨b, 4, none⟩ (.int .i64 0)) := Kept.set (S := fun k => k = b) (Kept.refl _ _) rfl _
        refine ⟨d.upd hk ?_ (stepD_ok d.ok) rfl rfl, hk, by simp⟩
        rw [hst.out]; exact d.blk.set 4 (.int .i64 0)
      generalize stepD S = T at *
      generalize S.cut = c at *
      subst hz
      clear d
      go_enter Tryd.func62, Tryd.ntmps62
      go_wp2
      go_ret
      exact ⟨by rw [ho.out]; rfl, hend.out⟩
    · have hst : Hid (stepD S = { S with cut := S.cut - 1 }) := by show _ = _; unfold stepD; rw [if_neg (by omega), hc']; simp
      have hend : Hid (Dv B (w.setCell ⟨b, 4, none⟩ (.int .i64 (S.cut - 1))) b g h cg ch pv bx (stepD S) shown ∧ Kept (fun k => k = b) w (w.setCell ⟨b, 4, none⟩ (.int .i64 (S.cut - 1))) ∧ (w.setCell ⟨b, 4, none⟩ (.int .i64 (S.cut - 1))).heap.size = w.heap.size) := by
        have hk : Kept (fun k => k = b) w (w.setCell ⟨b, 4, none⟩ (.int .i64 (S.cut - 1))) := Kept.set (S := fun k => k = b) (Kept.refl _ _) rfl _
        refine ⟨d.upd hk ?_ (stepD_ok d.ok) rfl rfl, hk, by simp⟩
        rw [hst.out]; exact d.blk.set 4 (.int .i64 (S.cut - 1))
      generalize stepD S = T at *
      generalize S.cut = c at *
      have hw : IntKind.i64.wrap (c - 1) = c - 1 := by rw [IntKind.wrap_i64]; omega
      have hpos : 0 < c - 1 := by omega
      clear d
      go_enter Tryd.func62, Tryd.ntmps62
      go_wp2
      go_ret
      exact ⟨by rw [ho.out]; rfl, hend.out⟩
end
/-- Why a sector can be neither read nor written. -/
def refuseD (S : DS) (n : Int) : Int := if S.off then 40 else if n < 0 ∨ (S.safe.length : Int) ≤ n then 41 else 0
theorem refuse_nil (n : Int) (w : World) : Calls Tryd.prog 83 #[.pointer none, .int .i64 n] w fun e w' => e = .returned (.int .i64 1) ∧ w' = w := by
  go_enter Tryd.func83, Tryd.ntmps83
  go_wp2
  go_ret
  exact ⟨rfl, rfl⟩
section
variable {B : Nat} {w : World} {b g h cg ch : Nat} {pv : Value} {bx : List (Nat × Nat)} {S : DS} {shown : List ByteArray}
set_option maxRecDepth 100000 in
theorem refuse_any (d : Dv B w b g h cg ch pv bx S shown) (n : Int) : Calls Tryd.prog 83 #[.pointer (some ⟨b, 0, none⟩), .int .i64 n] w fun e w' => e = .returned (.int .i64 (refuseD S n)) ∧ w' = w := by
  have c0 := d.blk.cell 0 (v := .slice (some ⟨g, 0, none⟩) S.safe.length cg) rfl
  have c3 := d.blk.cell 3 (v := .bool S.off) rfl
  have hm := d.ok.most
  by_cases ho : S.off = true
  · have HR : Hid (refuseD S n = 40) := by show _ = _; unfold refuseD; rw [if_pos ho]
    generalize refuseD S n = R at *
    generalize S.off = o at *
    subst ho
    clear d
    go_enter Tryd.func83, Tryd.ntmps83
    go_wp2
    go_ret
    exact ⟨by rw [HR.out]; rfl, rfl⟩
  · have ho' : S.off = false := by simpa using ho
    by_cases hn : n < 0 ∨ (S.safe.length : Int) ≤ n
    · have HR : Hid (refuseD S n = 41) := by show _ = _; unfold refuseD; rw [if_neg ho, if_pos hn]
      generalize refuseD S n = R at *
      generalize S.off = o at *
      subst ho'
      clear d ho
      rcases hn with hn | hn
      · go_enter Tryd.func83, Tryd.ntmps83
        go_wp2
        go_ret
        exact ⟨by rw [HR.out]; rfl, rfl⟩
      · have hn0 : ¬ n < 0 := by omega
        go_enter Tryd.func83, Tryd.ntmps83
        go_wp2
        go_ret
        exact ⟨by rw [HR.out]; rfl, rfl⟩
    · have HR : Hid (refuseD S n = 0) := by show _ = _; unfold refuseD; rw [if_neg ho, if_neg hn]
      generalize refuseD S n = R at *
      generalize S.off = o at *
      subst ho'
      clear d ho
      have hn0 : ¬ n < 0 := by omega
      have hn1 : ¬ (S.safe.length : Int) ≤ n := by omega
      clear hn
      go_enter Tryd.func83, Tryd.ntmps83
      go_wp2
      go_ret
      exact ⟨by rw [HR.out]; rfl, rfl⟩
theorem off_any (d : Dv B w b g h cg ch pv bx S shown) : Calls Tryd.prog 23 #[.pointer (some ⟨b, 0, none⟩)] w fun e w' => e = .returned (.bool S.off) ∧ w' = w := by
  have c3 := d.blk.cell 3 (v := .bool S.off) rfl
  clear d
  go_enter Tryd.func23, Tryd.ntmps23
  go_wp2
  go_ret
  exact ⟨rfl, rfl⟩
theorem stats_any (d : Dv B w b g h cg ch pv bx S shown) : Calls Tryd.prog 21 #[.pointer (some ⟨b, 0, none⟩)] w fun e w' => e = .returned (.agg #[.int .i64 S.rd, .int .i64 S.wr, .int .i64 S.fl]) ∧ Below w.heap.size w w' := by
  have c5 := d.blk.cell 5 (v := .int .i64 S.rd) rfl
  have c6 := d.blk.cell 6 (v := .int .i64 S.wr) rfl
  have c7 := d.blk.cell 7 (v := .int .i64 S.fl) rfl
  have hlt := d.blk.lt
  clear d
  go_enter Tryd.func21, Tryd.ntmps21
  go_wp2
  exact bodyPost_ret (v := .agg #[.int .i64 S.rd, .int .i64 S.wr, .int .i64 S.fl]) (by simp [results, Tryd.results21, go_sem]) rfl ⟨rfl, (Below.refl _ _).alloc (Nat.le_refl _) _⟩
end
theorem stats_nil (w : World) : Calls Tryd.prog 21 #[.pointer none] w fun e w' => e = .returned (.agg #[.int .i64 0, .int .i64 0, .int .i64 0]) ∧ Below w.heap.size w w' := by
  go_enter Tryd.func21, Tryd.ntmps21
  go_wp2
  exact bodyPost_ret (v := .agg #[.int .i64 0, .int .i64 0, .int .i64 0]) (by simp [results, Tryd.results21, go_sem]) rfl ⟨rfl, (Below.refl _ _).alloc (Nat.le_refl _) _⟩
theorem off_nil (w : World) : Calls Tryd.prog 23 #[.pointer none] w fun e w' => e = .returned (.bool false) ∧ w' = w := by
  go_enter Tryd.func23, Tryd.ntmps23
  go_wp2
  go_ret
  exact ⟨rfl, rfl⟩
/-- A cut is planned. -/
def cutD (S : DS) (k : Int) : DS := if S.off then S else { S with cut := max k 0 }
theorem cutD_ok {S : DS} (h : S.Ok) (k : Int) (hk : k ≤ 9223372036854775807) : (cutD S k).Ok := by
  unfold cutD
  split
  · exact h
  · rename_i ho
    exact ⟨h.one, h.most, h.size, h.num, h.len, by show 0 ≤ max k 0; omega, by show max k 0 ≤ _; omega, fun e => absurd e ho⟩
theorem cut_nil (k : Int) (w : World) : Calls Tryd.prog 52 #[.pointer none, .int .i64 k] w fun e w' => e = .returned (.tuple #[]) ∧ w' = w := by
  go_enter Tryd.func52, Tryd.ntmps52
  go_wp2
  first | go_end0 | refine bodyPost_ret (results_none rfl _ _ _) rfl ?_
  all_goals exact ⟨rfl, rfl⟩
section
variable {B : Nat} {w : World} {b g h cg ch : Nat} {pv : Value} {bx : List (Nat × Nat)} {S : DS} {shown : List ByteArray}
set_option maxRecDepth 100000 in
theorem cut_any (d : Dv B w b g h cg ch pv bx S shown) (k : Int) (hk : k ≤ 9223372036854775807) : Calls Tryd.prog 52 #[.pointer (some ⟨b, 0, none⟩), .int .i64 k] w fun e w' => e = .returned (.tuple #[]) ∧ Dv B w' b g h cg ch pv bx (cutD S k) shown ∧ Kept (fun k => k = b) w w' ∧ w'.heap.size = w.heap.size := by
  have c3 := d.blk.cell 3 (v := .bool S.off) rfl
  have c4 := d.blk.cell 4 (v := .int .i64 S.cut) rfl
  have f4 := d.blk.frozen 4
  by_cases ho : S.off = true
  · have HR : cutD S k = S := by unfold cutD; rw [if_pos ho]
    rw [HR]
    have hend : Hid (Dv B w b g h cg ch pv bx S shown ∧ Kept (fun k => k = b) w w ∧ w.heap.size = w.heap.size) := ⟨d, Kept.refl _ _, rfl⟩
    rw [ho] at c3
    clear d ho HR
    go_enter Tryd.func52, Tryd.ntmps52
    go_wp2
    first | go_end0 | refine bodyPost_ret (results_none rfl _ _ _) rfl ?_
    all_goals exact ⟨rfl, hend.out.1, hend.out.2.1, rfl⟩
  · have ho' : S.off = false := by simpa using ho
    have hend : Hid (∀ q : Int, max k 0 = q → Dv B (w.setCell ⟨b, 4, none⟩ (.int .i64 q)) b g h cg ch pv bx (cutD S k) shown ∧ Kept (fun k => k = b) w (w.setCell ⟨b, 4, none⟩ (.int .i64 q)) ∧ (w.setCell ⟨b, 4, none⟩ (.int .i64 q)).heap.size = w.heap.size) := by
      show ∀ q : Int, _
      rintro q rfl
      have hk' : Kept (fun k => k = b) w (w.setCell ⟨b, 4, none⟩ (.int .i64 (max k 0))) := Kept.set (S := fun k => k = b) (Kept.refl _ _) rfl _
      refine ⟨d.upd hk' ?_ (cutD_ok d.ok k hk) (by unfold cutD; rw [if_neg ho]) (by unfold cutD; rw [if_neg ho]), hk', by simp⟩
      rw [show cutD S k = { S with cut := max k 0 } by unfold cutD; rw [if_neg ho]]; exact d.blk.set 4 (.int .i64 (max k 0))
    rw [ho'] at c3
    clear d ho ho'
    go_enter Tryd.func52, Tryd.ntmps52
    go_wp2
    all_goals first | go_end0 | refine bodyPost_ret (results_none rfl _ _ _) rfl ?_
    all_goals exact ⟨rfl, hend.out _ (by omega)⟩
end
end Go.Proofs.YtnpcnflfpmjgiaaDoor
