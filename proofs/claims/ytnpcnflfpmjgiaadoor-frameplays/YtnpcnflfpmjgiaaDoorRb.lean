/- The document's disks: Look, Read, Write. -/
import Derived.Test.YtnpcnflfpmjgiaaDoorRa
namespace Go.Proofs.YtnpcnflfpmjgiaaDoor
open Go.RowKit
set_option linter.unusedVariables false
set_option linter.unusedSimpArgs false

/-- The document's disk in memory; what a call leaves of it. -/
def Rk (B : Nat) (w : World) (b : Nat) (fp : Nat → Prop) (S : DS) : Prop := ∃ g cg pv, fp = RP b g pv ∧ Rv B w b g cg pv S
def RLeft (B b : Nat) (fp : Nat → Prop) (w : World) (S : DS) (w' : World) : Prop := ∃ fp', Rk B w' b fp' S ∧ Kept fp w w' ∧ ∀ k, fp' k → fp k ∨ w.heap.size ≤ k
theorem Rk.ok {B : Nat} {w : World} {b : Nat} {fp : Nat → Prop} {S : DS} (d : Rk B w b fp S) : S.Ok := by obtain ⟨g, cg, pv, rfl, d⟩ := d; exact d.ok
theorem Rk.fp {B : Nat} {w : World} {b : Nat} {fp : Nat → Prop} {S : DS} (d : Rk B w b fp S) : ∀ k, fp k → B ≤ k ∧ k < w.heap.size := by obtain ⟨g, cg, pv, rfl, d⟩ := d; exact d.fp
theorem Rk.own {B : Nat} {w : World} {b : Nat} {fp : Nat → Prop} {S : DS} (d : Rk B w b fp S) : fp b := by obtain ⟨g, cg, pv, rfl, d⟩ := d; exact .inl rfl
theorem Rk.kept {T : Nat → Prop} {B : Nat} {w w' : World} {b : Nat} {fp : Nat → Prop} {S : DS} (d : Rk B w b fp S) (hk : Kept T w w') (hn : ∀ k, fp k → ¬ T k) : Rk B w' b fp S := by
  obtain ⟨g, cg, pv, rfl, d⟩ := d
  exact ⟨g, cg, pv, rfl, d.kept hk hn⟩
theorem Rk.below {B : Nat} {w w' : World} {b : Nat} {fp : Nat → Prop} {S : DS} (d : Rk B w b fp S) (hb : Below w.heap.size w w') : Rk B w' b fp S := d.kept (T := fun _ => False) (Kept.of_below hb) (fun _ _ => id)
theorem RLeft.refl {B b : Nat} {fp : Nat → Prop} {w : World} {S : DS} (d : Rk B w b fp S) : RLeft B b fp w S w := ⟨fp, d, Kept.refl _ _, fun k h => .inl h⟩
set_option maxHeartbeats 1000000 in
set_option maxRecDepth 100000 in
theorem look_any {B : Nat} {w : World} {b g cg : Nat} {pv : Value} {S : DS} (d : Rv B w b g cg pv S) (n : Nat) (hn : n < S.safe.length) : Calls Tryd.prog 97 #[.pointer (some ⟨b, 0, none⟩), .int .i64 n] w fun e w' => e = .returned (.string (S.shown.getD n ByteArray.empty)) ∧ w' = w := by
  have hwl : S.wait.length ≤ maxLen := by
    rcases d.rowP.2 with ⟨_, h0⟩ | ⟨_, _, _, _, _, _, h1, h2, _⟩ <;> omega
  obtain ⟨pa, pc, rfl⟩ := ownsRow_slice d.rowP
  unfold maxLen at hwl
  have c0 := d.blk.cell 0 (v := .slice (some ⟨g, 0, none⟩) S.safe.length cg) rfl
  have c1 := d.blk.cell 1 (v := .slice pa S.wait.length pc) rfl
  have HD : Hid (Rv B w b g cg (.slice pa S.wait.length pc) S) := d
  have cs := rsafe_at d hn
  have hn' : (n : Int) < (S.safe.length : Int) := by omega
  have hml : (S.safe.length : Int) ≤ 4096 := by have := d.ok.most; omega
  have hwi : (S.wait.length : Int) ≤ 9223372036854775807 := by omega
  obtain ⟨q, hq⟩ : ∃ q, S.shown.getD n ByteArray.empty = q := ⟨_, rfl⟩
  rw [hq]
  have HQ : Hid (S.shown.getD n ByteArray.empty = q) := hq
  clear d hq
  go_enter Tryd.func97, Tryd.ntmps97
  go_wp2
  go_loop [5] (fun t => ∃ k : Nat, k ≤ S.wait.length ∧ t = .int .i64 ((k : Int) - 1) ∧ (over S.safe (S.wait.take k)).getD n ByteArray.empty = q) (fun t => (intOf t + 1).toNat)
  case atStart => exact ⟨S.wait.length, Nat.le_refl _, rfl, by rw [List.take_length]; exact HQ.out⟩
  case round =>
    obtain ⟨k, hk, rfl, hR⟩ := hrel
    have HR : Hid ((over S.safe (S.wait.take k)).getD n ByteArray.empty = q) := hR
    clear hR
    rcases Nat.eq_zero_or_pos k with rfl | hk0
    · have HF : Hid (q = S.safe.getD n ByteArray.empty) := HR.out.symm
      generalize S.safe.getD n ByteArray.empty = r at *
      clear HR
      go_wp2
      go_ret
      exact ⟨by rw [HF.out]; rfl, rfl⟩
    · obtain ⟨j, rfl⟩ : ∃ j, k = j + 1 := ⟨k - 1, by omega⟩
      have hjl : j < S.wait.length := by omega
      have hp : S.wait[j]? = some (S.wait[j]) := List.getElem?_eq_getElem hjl
      have hpn := HD.out.ok.num _ (List.mem_of_getElem? hp)
      generalize S.wait[j] = p at *
      obtain ⟨pg, rfl⟩ : ∃ pg, pa = some ⟨pg, 0, none⟩ := by
        rcases HD.out.rowP.2 with ⟨_, h0⟩ | ⟨pg, cap, cur, e, _⟩
        · exact absurd h0 (by omega)
        · injection e with e; exact ⟨pg, e⟩
      obtain ⟨e1, e2⟩ := wcells_at S.wait j p hp
      have p1 := (HD.out.rowP.cellAt (j * 2) (by omega)).trans e1
      have p2 := (HD.out.rowP.cellAt (j * 2 + 1) (by omega)).trans e2
      have hov : over S.safe (S.wait.take (j + 1)) = (over S.safe (S.wait.take j)).set p.1 p.2 := by rw [List.take_add_one, hp]; exact over_snoc _ _ _
      have hj1 : (((j + 1 : Nat) : Int) - 1) = (j : Int) := by omega
      have hj2 : (0 : Int) ≤ (j : Int) := by omega
      have hj3 : (j : Int) < (S.wait.length : Int) := by omega
      rw [hov] at HR
      have hl : (over S.safe (S.wait.take j)).length = S.safe.length := length_over _ _
      by_cases hpe : p.1 = n
      · have he : ((p.1 : Int) == (n : Int)) = true := by simp [hpe]
        have HF : Hid (q = p.2) := by
          show _ = _
          rw [← HR.out, hpe, List.getD_eq_getElem?_getD, List.getElem?_set_self (by omega)]; rfl
        clear HR hov HD hp e1 e2 hpe hl hpn
        go_wp2
        go_ret
        exact ⟨by rw [HF.out]; rfl, rfl⟩
      · have he : ((p.1 : Int) == (n : Int)) = false := by simp; omega
        have HF : Hid ((over S.safe (S.wait.take j)).getD n ByteArray.empty = q) := by
          show _ = _
          rw [← HR.out, List.getD_eq_getElem?_getD, List.getD_eq_getElem?_getD, List.getElem?_set_ne hpe]
        clear HR hov HD hp e1 e2 hpe hl hpn
        go_wp2
        go_round
        case rel => exact ⟨j, by omega, by go_num, HF.out⟩
        case measure => simp [intOf]
set_option maxRecDepth 100000 in
theorem rread_any {B : Nat} {w : World} {b : Nat} {fp : Nat → Prop} {S : DS} (d : Rk B w b fp S) (n : Int) : Calls Tryd.prog 91 #[pt b, .int .i64 n] w fun e w' => e = .returned (.tuple #[.string (readS S n), .int .i64 (refuseD S n)]) ∧ RLeft B b fp w (readD S n) w' := by
  have hL := RLeft.refl d
  obtain ⟨g, cg, pv, rfl, d⟩ := d
  have c0 := d.blk.cell 0 (v := .slice (some ⟨g, 0, none⟩) S.safe.length cg) rfl
  have c2 := d.blk.cell 2 (v := .bool S.off) rfl
  have hml : (S.safe.length : Int) ≤ 4096 := by have := d.ok.most; omega
  unfold pt
  have HL : Hid (RLeft B b (RP b g pv) w S w) := hL
  by_cases ho : S.off = true
  · have HE : Hid (readS S n = ⟨#[]⟩ ∧ refuseD S n = 40 ∧ readD S n = S) := by
      have : refuseD S n = 40 := by unfold refuseD; rw [if_pos ho]
      unfold readS readD; rw [this]; exact ⟨rfl, rfl, rfl⟩
    rw [HE.out.1, HE.out.2.1, HE.out.2.2]
    rw [ho] at c2
    clear d hL ho HE
    go_enter Tryd.func91, Tryd.ntmps91
    go_wp2
    go_ret2
    exact ⟨rfl, HL.out⟩
  · have ho' : S.off = false := by simpa using ho
    rw [ho'] at c2
    by_cases hr : refuseD S n = 0
    · obtain ⟨m, rfl, hm⟩ := refuse_zero hr
      have HE : Hid (readS S (m : Int) = S.shown.getD m ByteArray.empty ∧ readD S (m : Int) = { S with rd := wrap64 (S.rd + 1) }) := by unfold readS readD; rw [if_pos hr, if_pos hr]; exact ⟨by rw [Int.toNat_natCast], rfl⟩
      rw [hr, HE.out.1, HE.out.2]
      have c4 := d.blk.cell 4 (v := .int .i64 S.rd) rfl
      have f4 := d.blk.frozen 4
      have hm' : (m : Int) < (S.safe.length : Int) := by omega
      have hk3 : Kept (fun k => k = b) w (w.setCell ⟨b, 4, none⟩ (.int .i64 (wrap64 (S.rd + 1)))) := Kept.set (S := fun k => k = b) (Kept.refl _ _) rfl _
      have hd2 : Rv B (w.setCell ⟨b, 4, none⟩ (.int .i64 (wrap64 (S.rd + 1)))) b g cg pv { S with rd := wrap64 (S.rd + 1) } := d.upd hk3 (d.blk.set 4 _) ⟨d.ok.one, d.ok.most, d.ok.size, d.ok.num, d.ok.len, d.ok.cut0, d.ok.cut1, d.ok.idle⟩ rfl rfl
      have CL : Hid (Calls Tryd.prog 97 #[.pointer (some ⟨b, 0, none⟩), .int .i64 (m : Int)] (w.setCell ⟨b, 4, none⟩ (.int .i64 (wrap64 (S.rd + 1)))) fun e w' => e = .returned (.string (S.shown.getD m ByteArray.empty)) ∧ w' = w.setCell ⟨b, 4, none⟩ (.int .i64 (wrap64 (S.rd + 1)))) := look_any hd2 m hm
      have hend : Hid (RLeft B b (RP b g pv) w { S with rd := wrap64 (S.rd + 1) } (w.setCell ⟨b, 4, none⟩ (.int .i64 (wrap64 (S.rd + 1))))) := ⟨_, ⟨g, cg, pv, rfl, hd2⟩, hk3.mono (fun k _ e => .inl e), fun k e => .inl e⟩
      generalize S.shown.getD m ByteArray.empty = q at *
      clear d hL hr HE hd2 hk3 ho ho' HL hm
      go_enter Tryd.func91, Tryd.ntmps91
      go_wp2_with fail
      refine CL.out.mono ?_
      rintro e w2 ⟨rfl, hw⟩
      rw [hw]; clear hw
      go_wp2
      go_ret2
      exact ⟨rfl, hend.out⟩
    · have hq : refuseD S n = 41 ∧ (n < 0 ∨ (S.safe.length : Int) ≤ n) := by
        unfold refuseD at hr ⊢
        rw [if_neg ho] at hr ⊢
        split at hr
        · rename_i h; rw [if_pos h]; exact ⟨rfl, h⟩
        · omega
      have HE : Hid (readS S n = ⟨#[]⟩ ∧ readD S n = S) := by unfold readS readD; rw [if_neg hr, if_neg hr]; exact ⟨rfl, rfl⟩
      rw [HE.out.1, hq.1, HE.out.2]
      have hor : n < 0 ∨ (¬ n < 0 ∧ (S.safe.length : Int) ≤ n) := by omega
      clear d hL hr HE ho ho' hq
      rcases hor with h1 | ⟨h1, h2⟩
      all_goals
        go_enter Tryd.func91, Tryd.ntmps91
        go_wp2
        go_ret2
        exact ⟨rfl, HL.out⟩
end Go.Proofs.YtnpcnflfpmjgiaaDoor
