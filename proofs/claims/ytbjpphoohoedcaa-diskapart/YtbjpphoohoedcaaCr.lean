/- The walk of DiskApart: true; older memory is as it was. -/
import Derived.Test.YtbjpphoohoedcaaCq
namespace Go.Proofs.Ytbjpphoohoedcaa
open Go.RowKit
set_option linter.unusedVariables false
set_option linter.unusedSimpArgs false

set_option maxHeartbeats 4000000 in
set_option maxRecDepth 100000 in
theorem apart_walk (sectors steps : Int) (hs1 : I64 sectors) (hs2 : I64 steps) (ps qs : List Pu) (a1 a2 : Option Addr) (c1 c2 : Nat) (w : World) (hv1 : PtsV w ps a1) (hv2 : PtsV w qs a2) (hl1 : ps.length ≤ 8796093022208) (hl2 : qs.length ≤ 8796093022208) :
    Calls Try.prog 9 #[.int .i64 sectors, .slice a1 ps.length c1, .slice a2 qs.length c2, .int .i64 steps] w fun e w' => e = .returned (.bool true) ∧ Below w.heap.size w w' := by
  have hr5 := pickI_range sectors 5 (by omega)
  have hr3 := pickI_range steps 3 (by omega)
  obtain ⟨N, hN⟩ : ∃ N : Nat, 1 + pickI sectors 5 = (N : Int) := ⟨(1 + pickI sectors 5).toNat, by omega⟩
  have hN1 : 1 ≤ N ∧ N ≤ 5 := by omega
  have hWN : wrap64 (N : Int) = (N : Int) := wrap_small (by omega) (by omega)
  have CP5 : Hid (∀ w : World, Calls Try.prog 20 #[.int .i64 sectors, .int .i64 5] w fun e w' => e = .returned (.int .i64 (pickI sectors 5)) ∧ w' = w) := pick_any sectors 5 hs1 (by omega) (by omega)
  have CP3 : Hid (∀ w : World, Calls Try.prog 20 #[.int .i64 steps, .int .i64 3] w fun e w' => e = .returned (.int .i64 (pickI steps 3)) ∧ w' = w) := pick_any steps 3 hs2 (by omega) (by omega)
  have CW : Hid (∀ w1 : World, Below w.heap.size w w1 → Calls Try.prog 23 #[.int .i64 (N : Int), .slice a1 ps.length c1, .slice a2 qs.length c2] w1 fun e w' => Wrote w1 (wS2 N ps qs qs.length) e w') := by
    show ∀ w1 : World, _
    intro w1 hb
    exact written_all N hN1.1 (by omega) ps qs a1 a2 c1 c2 w1 (hv1.below hb) (hv2.below hb) hl1 hl2
  have CF1 : Hid (∀ w : World, Calls Try.prog 27 #[.int .u8 1, .int .u8 2] w fun r w' => r = .returned (.string (fullB 1 2)) ∧ Below w.heap.size w w') := full_any 1 2
  have CF2 : Hid (∀ w : World, Calls Try.prog 27 #[.int .u8 3, .int .u8 4] w fun r w' => r = .returned (.string (fullB 3 4)) ∧ Below w.heap.size w w') := full_any 3 4
  have HF1 : Hid ((fullB 1 2).size = 512) := fullB_size _ _
  have HF2 : Hid ((fullB 3 4).size = 512) := fullB_size _ _
  have HSW : Hid ((wS2 N ps qs qs.length).wait.length = qs.length) := by show ((qs.take qs.length).map (lw N)).length = _; simp
  have HSO : Hid ((wS2 N ps qs qs.length).off = false) := rfl
  have HL2 : Hid (qs.length ≤ 8796093022208) := hl2
  generalize fullB 1 2 = F1 at *
  generalize fullB 3 4 = F2 at *
  generalize pickI sectors 5 = P5 at *
  generalize pickI steps 3 = P3 at *
  have hP3 : (1 : Int) + P3 ≤ 9223372036854775807 := by omega
  generalize wS2 N ps qs qs.length = SA at *
  clear hv1 hv2 hs1 hs2 hl1 hl2 hr5 hN1
  go_enter Try.func9, Try.ntmps9
  go_wp2_with fail
  refine (awake_any _).mono ?_
  rintro e w1 ⟨rfl, hb1⟩
  go_wp2_with fail
  refine (CP5.out _).mono ?_
  rintro e w1' ⟨rfl, hw⟩
  rw [hw]; clear hw CP5
  go_wp2_with fail
  refine (CW.out _ hb1).mono ?_
  rintro e w2 ⟨a, fa, rfl, da, hb2⟩
  have hB2 := bstep hb1 hb2 (Nat.le_refl _)
  unfold pt
  go_wp2_with fail
  refine (CW.out _ hB2).mono ?_
  rintro e w3 ⟨b, fb, rfl, db, hb3⟩
  have hB3 := bstep hB2 hb3 (Nat.le_refl _)
  unfold pt
  have hdis : Hid (∀ k, fa k → ¬ fb k) := fun k e1 e2 => by have h1 := (da.fp k e1).2; have h2 := (db.fp k e2).1; omega
  have da3 := da.below hb3
  have hz2 : Hid (w2.heap.size ≤ w3.heap.size ∧ w.heap.size ≤ w2.heap.size) := ⟨hb3.size, hB2.size⟩
  clear da hb1 hb2 hb3 hB2 CW
  have CI : Hid (Calls Try.prog 18 #[.pointer (some ⟨a, 0, none⟩)] w3 fun e w' => e = .returned (.string (catB SA.safe)) ∧ Below w3.heap.size w3 w') := l_image (Left.refl da3)
  go_wp2_with fail
  refine CI.out.mono ?_
  rintro e w4 ⟨rfl, hb4⟩
  have da4 := da3.below hb4
  have db4 := db.below hb4
  have hB4 := bstep hB3 hb4 (Nat.le_refl _)
  clear CI da3 db hb4 hB3
  have CQ : Hid (Calls Try.prog 24 #[.pointer (some ⟨a, 0, none⟩)] w4 fun e w' => e = .returned (.slice (some ⟨w4.heap.size, 0, none⟩) SA.wait.length SA.wait.length) ∧ Below w4.heap.size w4 w') := (l_pending (Left.refl da4) (by have := HSW.out; have := HL2.out; omega)).mono (by rintro e w' ⟨rfl, _, hb⟩; exact ⟨rfl, hb⟩)
  go_wp2_with fail
  refine CQ.out.mono ?_
  rintro e w5 ⟨rfl, hb5⟩
  have da5 := da4.below hb5
  have db5 := db4.below hb5
  have hB5 := bstep hB4 hb5 (Nat.le_refl _)
  clear CQ da4 db4 hb5 hB4
  have CS : Hid (Calls Try.prog 33 #[.pointer (some ⟨a, 0, none⟩)] w5 fun e w' => e = .returned (.agg #[.int .i64 SA.rd, .int .i64 SA.wr, .int .i64 SA.fl]) ∧ Below w5.heap.size w5 w') := l_stats (Left.refl da5)
  go_wp2_with fail
  refine CS.out.mono ?_
  rintro e w6 ⟨rfl, hb6⟩
  have hb7 : Below w6.heap.size w6 (w6.alloc (.cells #[.int .i64 SA.rd, .int .i64 SA.wr, .int .i64 SA.fl] 67)) := (Below.refl _ _).alloc (Nat.le_refl _) _
  have da7 := (da5.below hb6).below hb7
  have db7 := (db5.below hb6).below hb7
  have hB7 := bstep (bstep hB5 hb6 (Nat.le_refl _)) hb7 (Nat.le_refl _)
  have hwas := Blk.new w6 #[.int .i64 SA.rd, .int .i64 SA.wr, .int .i64 SA.fl] 67
  have hnwas : Hid (¬ fb w6.heap.size) := fun e => by have := ((db5.below hb6).fp _ e).2; omega
  clear CS da5 db5 hb6 hb7 hB5
  go_wp2_with fail
  generalize w6.alloc (.cells #[.int .i64 SA.rd, .int .i64 SA.wr, .int .i64 SA.fl] 67) = w7 at *
  refine (CP3.out _).mono ?_
  rintro e w8 ⟨rfl, hw⟩
  rw [hw]; clear hw CP3
  have L7 := Left.refl db7
  have CC : Hid (Calls Try.prog 32 #[.pointer (some ⟨b, 0, none⟩), .int .i64 (1 + P3)] w7 fun e w' => e = .returned (.tuple #[]) ∧ Left w2.heap.size b fb w7 (cutD SA (1 + P3)) w') := l_cut L7 _ hP3
  go_wp2_with fail
  refine CC.out.mono ?_
  rintro e w8 ⟨rfl, L8⟩
  clear CC L7
  go_wp2_with fail
  refine (CF1.out _).mono ?_
  rintro e w9 ⟨rfl, hb9⟩
  have L9 := L8.below hb9
  have hBw : Hid (w2.heap.size ≤ w7.heap.size) := by have h1 := hB7.size; have h2 := hz2.out; have h3 := (db7.fp _ db7.own); show _ ≤ _; omega
  have CW1 : Hid (Calls Try.prog 31 #[.pointer (some ⟨b, 0, none⟩), .int .i64 0, .string F1] w9 fun e w' => e = .returned (.int .i64 (writeE (cutD SA (1 + P3)) 0 F1)) ∧ Left w2.heap.size b fb w7 (writeD (cutD SA (1 + P3)) 0 F1) w') := l_write L9 hBw.out 0 F1 (by rw [HF1.out]; omega) (by rw [cutD_wait, HSW.out]; have := HL2.out; omega)
  clear L8 hb9 CF1
  go_wp2_with fail
  refine CW1.out.mono ?_
  rintro e w10 ⟨rfl, L10⟩
  have hw10 : Hid ((writeD (cutD SA (1 + P3)) 0 F1).wait.length ≤ qs.length + 1) := by have := writeD_wait (cutD SA (1 + P3)) 0 F1; rw [cutD_wait, HSW.out] at this; exact this
  generalize writeD (cutD SA (1 + P3)) 0 F1 = SB at *
  generalize writeE (cutD SA (1 + P3)) 0 F1 = E1 at *
  clear L9 CW1
  have CFL : Hid (Calls Try.prog 30 #[.pointer (some ⟨b, 0, none⟩)] w10 fun e w' => e = .returned (.int .i64 (flushE SB)) ∧ Left w2.heap.size b fb w7 (flushD SB) w') := l_flush L10
  go_wp2_with fail
  refine CFL.out.mono ?_
  rintro e w11 ⟨rfl, L11⟩
  have hw11 : Hid ((flushD SB).wait.length ≤ qs.length + 1) := Nat.le_trans (flushD_wait SB) hw10.out
  generalize flushD SB = SC at *
  generalize flushE SB = E2 at *
  clear L10 CFL
  go_wp2_with fail
  refine (CF2.out _).mono ?_
  rintro e w12 ⟨rfl, hb12⟩
  have L12 := L11.below hb12
  have CW2 : Hid (Calls Try.prog 31 #[.pointer (some ⟨b, 0, none⟩), .int .i64 0, .string F2] w12 fun e w' => e = .returned (.int .i64 (writeE SC 0 F2)) ∧ Left w2.heap.size b fb w7 (writeD SC 0 F2) w') := l_write L12 hBw.out 0 F2 (by rw [HF2.out]; omega) (by have := hw11.out; have := HL2.out; omega)
  clear L11 hb12 CF2
  go_wp2_with fail
  refine CW2.out.mono ?_
  rintro e w13 ⟨rfl, L13⟩
  generalize writeD SC 0 F2 = SD at *
  generalize writeE SC 0 F2 = E3 at *
  clear L12 CW2
  have CCR : Hid (Calls Try.prog 25 #[.pointer (some ⟨b, 0, none⟩), .slice (some ⟨w13.heap.size, 0, none⟩) 1 1] (w13.alloc (.cells #[.int .i64 1, .int .i64 0] 59)) fun e w' => e = .returned (.tuple #[]) ∧ Left w2.heap.size b fb w7 (crashD SD [(1, 0)]) w') := l_crash_new L13 [(1, 0)] #[.int .i64 1, .int .i64 0] 1 (fun i kd t hi => by
    match i, hi with
    | 0, hi => simp at hi; obtain ⟨rfl, rfl⟩ := hi; exact ⟨rfl, rfl⟩)
  clear L13
  go_wp2_with fail
  refine CCR.out.mono ?_
  rintro e w14 ⟨rfl, L14⟩
  clear CCR
  have hk := L14.keeps
  have da14 := da7.kept hk (fun k e => hdis.out k e)
  have hwas14 := hwas.kept hk hnwas.out
  have hB14 : Below w.heap.size w w14 := hB7.trans (hk.below hB7.size (fun k e => by have h1 := (db7.fp k e).1; have := hz2.out.2; omega))
  have hz14 := hwas14.lt
  have CI2 : Hid (∀ w1 : World, Below w14.heap.size w14 w1 → Calls Try.prog 18 #[.pointer (some ⟨a, 0, none⟩)] w1 fun e w' => e = .returned (.string (catB SA.safe)) ∧ Hid (Below w14.heap.size w14 w')) := by
    show ∀ w1 : World, _
    intro w1 hb
    exact (l_image (Left.refl (da14.below hb))).mono (by rintro e w' ⟨rfl, h2⟩; exact ⟨rfl, bstep hb h2 (Nat.le_refl _)⟩)
  have CQ2 : Hid (∀ w1 : World, Below w14.heap.size w14 w1 → Calls Try.prog 24 #[.pointer (some ⟨a, 0, none⟩)] w1 fun e w' => (∃ z : Nat, e = .returned (.slice (some ⟨z, 0, none⟩) SA.wait.length SA.wait.length)) ∧ Hid (Below w14.heap.size w14 w')) := by
    show ∀ w1 : World, _
    intro w1 hb
    exact (l_pending (Left.refl (da14.below hb)) (by have := HSW.out; have := HL2.out; omega)).mono (by rintro e w' ⟨rfl, _, h2⟩; exact ⟨⟨_, rfl⟩, bstep hb h2 (Nat.le_refl _)⟩)
  have CS2 : Hid (∀ w1 : World, Below w14.heap.size w14 w1 → Calls Try.prog 33 #[.pointer (some ⟨a, 0, none⟩)] w1 fun e w' => e = .returned (.agg #[.int .i64 SA.rd, .int .i64 SA.wr, .int .i64 SA.fl]) ∧ Hid (Below w14.heap.size w14 w')) := by
    show ∀ w1 : World, _
    intro w1 hb
    exact (l_stats (Left.refl (da14.below hb))).mono (by rintro e w' ⟨rfl, h2⟩; exact ⟨rfl, bstep hb h2 (Nat.le_refl _)⟩)
  have CO2 : Hid (∀ w1 : World, Below w14.heap.size w14 w1 → Calls Try.prog 26 #[.pointer (some ⟨a, 0, none⟩)] w1 fun e w' => e = .returned (.bool false) ∧ w' = w1) := by
    show ∀ w1 : World, _
    intro w1 hb
    have := l_off (Left.refl (da14.below hb))
    rw [HSO.out] at this
    exact this
  have KP : Hid (∀ w1 : World, Below w14.heap.size w14 w1 → w1.cell? ⟨w6.heap.size, 0, none⟩ = some (.int .i64 SA.rd) ∧ w1.cell? ⟨w6.heap.size, 1, none⟩ = some (.int .i64 SA.wr) ∧ w1.cell? ⟨w6.heap.size, 2, none⟩ = some (.int .i64 SA.fl)) := by
    show ∀ w1 : World, _
    intro w1 hb
    have h := hwas14.below hb
    exact ⟨h.cell 0 rfl, h.cell 1 rfl, h.cell 2 rfl⟩
  have k0 := hwas14.cell 0 (v := .int .i64 SA.rd) rfl
  have k1 := hwas14.cell 1 (v := .int .i64 SA.wr) rfl
  have k2 := hwas14.cell 2 (v := .int .i64 SA.fl) rfl
  have heq : ∀ w : World, (binOp .eql 67 (.agg #[.int .i64 SA.rd, .int .i64 SA.wr, .int .i64 SA.fl]) (.agg #[.int .i64 SA.rd, .int .i64 SA.wr, .int .i64 SA.fl])).run Try.prog w = .ok (.bool true) w := fun w => by rw [run_eqS]; simp
  clear L14 hk da14 hwas14 hwas da7 db7 hdis hnwas hB7
  generalize catB SA.safe = IM at *
  generalize SA.rd = A1 at *
  generalize SA.wr = A2 at *
  generalize SA.fl = A3 at *
  generalize SA.wait.length = A4 at *
  go_wp2_with fail
  go_region_held3 (fun w' => w'.cell? ⟨w6.heap.size, 0, none⟩ = some (.int .i64 A1) ∧ w'.cell? ⟨w6.heap.size, 1, none⟩ = some (.int .i64 A2) ∧ w'.cell? ⟨w6.heap.size, 2, none⟩ = some (.int .i64 A3))
    (first | go_keep | exact KP.out _ ⟨hbs.out.os, hbs.out.tape, hbs.out.output, hbs.out.size, hbs.out.block⟩ | exact KP.out _ ⟨hbq.out.os, hbq.out.tape, hbq.out.output, hbq.out.size, hbq.out.block⟩ | exact KP.out _ ⟨hbi.out.os, hbi.out.tape, hbi.out.output, hbi.out.size, hbi.out.block⟩)
    (first | (go_at_call 18; refine (CI2.out _ (by exact ⟨rfl, rfl, rfl, Nat.le_refl _, fun _ _ => rfl⟩)).mono ?_; rintro e wi ⟨rfl, hbi⟩) | (go_at_call 24; refine (CQ2.out _ (by exact ⟨hbi.out.os, hbi.out.tape, hbi.out.output, hbi.out.size, hbi.out.block⟩)).mono ?_; rintro e wq ⟨⟨z, rfl⟩, hbq⟩) | (go_at_call 33; refine (CS2.out _ (by exact ⟨hbq.out.os, hbq.out.tape, hbq.out.output, hbq.out.size, hbq.out.block⟩)).mono ?_; rintro e ws ⟨rfl, hbs⟩) | (go_at_call 26; refine (CO2.out _ (by exact ⟨hbs.out.os, hbs.out.tape, hbs.out.output, hbs.out.size, hbs.out.block⟩)).mono ?_; rintro e wo ⟨rfl, hw⟩; rw [hw]; clear hw))
  have hend : Hid (Below w.heap.size w ws) := bstep hB14 (show Below w14.heap.size w14 ws from ⟨hbs.out.os, hbs.out.tape, hbs.out.output, hbs.out.size, hbs.out.block⟩) (Nat.le_refl _)
  clear hbs hbq hbi KP CI2 CQ2 CS2 CO2
  go_wp2
  go_ret
  exact ⟨rfl, hend.out⟩
end Go.Proofs.Ytbjpphoohoedcaa
