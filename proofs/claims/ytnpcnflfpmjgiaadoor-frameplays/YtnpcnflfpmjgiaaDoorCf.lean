/- Package disk: Read and Write, on a disk in memory and on none. -/
import Derived.Test.YtnpcnflfpmjgiaaDoorSf
import Derived.Test.YtnpcnflfpmjgiaaDoorCe
namespace Go.Proofs.YtnpcnflfpmjgiaaDoor
open Go.RowKit
set_option linter.unusedVariables false
set_option linter.unusedSimpArgs false

theorem clone_any (s : ByteArray) (hs : s.size ≤ 140737488355328) (w : World) : Calls Tryd.prog 58 #[.string s] w fun e w' => e = .returned (.string s) ∧ Below w.heap.size w w' := by
  have C : Hid (∀ w : World, Calls Tryd.prog 82 #[.string s] w fun e w' => e = .returned (.string s) ∧ Below w.heap.size w w') := fun w => Tryd.stringslite_Clone s w (by omega)
  clear hs
  go_enter Tryd.func58, Tryd.ntmps58
  go_wp2_with fail
  refine (C.out _).mono ?_
  rintro e w1 ⟨rfl, hb⟩
  go_wp2
  go_ret
  exact ⟨rfl, hb⟩
/-- A Read: what it answers, what it leaves. -/
def readS (S : DS) (n : Int) : ByteArray := if refuseD S n = 0 then S.shown.getD n.toNat ByteArray.empty else ⟨#[]⟩
def readD (S : DS) (n : Int) : DS := if refuseD S n = 0 then { S with rd := wrap64 (S.rd + 1) } else S
theorem refuse_zero {S : DS} {n : Int} (h : refuseD S n = 0) : ∃ m : Nat, n = m ∧ m < S.safe.length := by
  unfold refuseD at h
  split at h
  · omega
  · split at h
    · omega
    · exact ⟨n.toNat, by omega, by omega⟩
theorem refuse_off {S : DS} {n : Int} (h : refuseD S n = 0) : S.off = false := by
  unfold refuseD at h
  split at h
  · omega
  · rename_i ho; simpa using ho
theorem read_nil (n : Int) (w : World) : Calls Tryd.prog 60 #[.pointer none, .int .i64 n] w fun e w' => e = .returned (.tuple #[.string ⟨#[]⟩, .int .i64 1]) ∧ w' = w := by
  go_enter Tryd.func60, Tryd.ntmps60
  go_wp2_with fail
  refine (refuse_nil _ _).mono ?_
  rintro e w1 ⟨rfl, rfl⟩
  go_wp2
  go_ret2
  exact ⟨rfl, rfl⟩
set_option maxRecDepth 100000 in
theorem read_any {B : Nat} {w : World} {b : Nat} {fp : Nat → Prop} {S : DS} (d : Dk B w b fp S) (n : Int) : Calls Tryd.prog 60 #[pt b, .int .i64 n] w fun e w' => e = .returned (.tuple #[.string (readS S n), .int .i64 (refuseD S n)]) ∧ Left B b fp w (readD S n) w' := by
  have hL := Left.refl d
  obtain ⟨g, h, cg, ch, pv, bx, rfl, d⟩ := d
  have C1 : Hid (Calls Tryd.prog 83 #[.pointer (some ⟨b, 0, none⟩), .int .i64 n] w fun e w' => e = .returned (.int .i64 (refuseD S n)) ∧ w' = w) := refuse_any d n
  unfold pt
  by_cases hr : refuseD S n = 0
  · obtain ⟨m, rfl, hm⟩ := refuse_zero hr
    have hs : (S.shown.getD m ByteArray.empty).size = 512 := size_getD (size_over d.ok.size d.ok.len) (by show m < S.shown.length; rw [d.hlen]; exact hm)
    have HE : Hid (readS S (m : Int) = S.shown.getD m ByteArray.empty ∧ readD S (m : Int) = { S with rd := wrap64 (S.rd + 1) } ∧ refuseD S (m : Int) = 0) := by unfold readS readD; rw [if_pos hr, if_pos hr]; exact ⟨by rw [Int.toNat_natCast], rfl, hr⟩
    rw [hr] at C1 ⊢
    have c1 := d.blk.cell 1 (v := .slice (some ⟨h, 0, none⟩) S.safe.length ch) rfl
    have c5 := d.blk.cell 5 (v := .int .i64 S.rd) rfl
    have f5 := d.blk.frozen 5
    have ch1 := shown_at d hm
    have hbh : ¬ h = b := fun e => d.bh e.symm
    have hbh2 : ¬ b = h := d.bh
    have hm' : (m : Int) < (S.safe.length : Int) := by omega
    have hml := d.ok.most
    have hd2 : Hid (Dv B (w.setCell ⟨b, 5, none⟩ (.int .i64 (wrap64 (S.rd + 1)))) b g h cg ch pv bx { S with rd := wrap64 (S.rd + 1) } S.shown ∧ Kept (fun k => k = b) w (w.setCell ⟨b, 5, none⟩ (.int .i64 (wrap64 (S.rd + 1))))) := by
      have hk3 : Kept (fun k => k = b) w (w.setCell ⟨b, 5, none⟩ (.int .i64 (wrap64 (S.rd + 1)))) := Kept.set (S := fun k => k = b) (Kept.refl _ _) rfl _
      exact ⟨d.upd hk3 (d.blk.set 5 _) ⟨d.ok.one, d.ok.most, d.ok.size, d.ok.num, d.ok.len, d.ok.cut0, d.ok.cut1, d.ok.idle⟩ rfl rfl, hk3⟩
    have CC : Hid (∀ w : World, Calls Tryd.prog 58 #[.string (S.shown.getD m ByteArray.empty)] w fun e w' => e = .returned (.string (S.shown.getD m ByteArray.empty)) ∧ Below w.heap.size w w') := clone_any _ (by rw [hs]; omega)
    generalize hq : S.shown.getD m ByteArray.empty = q at *
    generalize readS S (m : Int) = R at *
    generalize readD S (m : Int) = T at *
    clear d hr hs hq hL
    go_enter Tryd.func60, Tryd.ntmps60
    go_wp2_with fail
    refine C1.out.mono ?_
    rintro e w1 ⟨rfl, hw⟩
    rw [hw]
    clear hw
    go_wp2_with fail
    refine (CC.out _).mono ?_
    rintro e w2 ⟨rfl, hb⟩
    have hend : Hid (Left B b (FP b g h pv bx) w T w2) := by
      rw [HE.out.2.1]
      exact Left.trans (hd2.out.2.mono (fun k _ e => .inl e)) (fun k e => .inl e) (Left.same (⟨g, h, cg, ch, pv, bx, rfl, hd2.out.1⟩ : Dk B _ b (FP b g h pv bx) { S with rd := wrap64 (S.rd + 1) }) hb)
    go_wp2
    go_ret2
    exact ⟨by rw [HE.out.1]; rfl, hend.out⟩
  · have HE : Hid (readS S n = ⟨#[]⟩ ∧ readD S n = S) := by unfold readS readD; rw [if_neg hr, if_neg hr]; exact ⟨rfl, rfl⟩
    have hr2 : (refuseD S n != 0) = true := by simpa using hr
    rw [HE.out.2]
    generalize readS S n = R at *
    generalize refuseD S n = E at *
    have HL : Hid (Left B b (FP b g h pv bx) w S w) := hL
    clear d hr hL
    go_enter Tryd.func60, Tryd.ntmps60
    go_wp2_with fail
    refine C1.out.mono ?_
    rintro e w1 ⟨rfl, hw⟩
    rw [hw]
    clear hw
    go_wp2
    go_ret2
    exact ⟨by rw [HE.out.1]; rfl, HL.out⟩
end Go.Proofs.YtnpcnflfpmjgiaaDoor
