/- Package frame's opened, the last two ways. -/
import Derived.Test.YtnpcnflfpmjgiaaDoorFo
namespace Go.Proofs.YtnpcnflfpmjgiaaDoor
open Go.RowKit
set_option linter.unusedVariables false
set_option linter.unusedSimpArgs false

set_option maxHeartbeats 2000000 in
set_option maxRecDepth 100000 in
theorem opened_rest (s : ByteArray) (hs : s.size = 512) (ht : at8 s 0 = at8 s 511) (hm : s.extract 507 511 = sumB (s.extract 1 507)) (hf : numA s 1 2 ≠ 0 ∧ numA s 10 14 ≤ 2147483647 ∧ numA s 14 16 ≤ 491) (hr : s.extract (16 + numA s 14 16) 507 ≠ zerosB (491 - numA s 14 16)) (w : World) (hT : Tab w) : Calls Tryd.prog 42 #[.string s] w fun e w' => e = .panicked [pe 52] ∧ Below w.heap.size w w' := by
  have h1 : ((s.size : Int) == 512) = true := by rw [hs]; rfl
  have e0 : s[0]'(by omega) = at8 s 0 := at8_of _
  have e1 : s[511]'(by omega) = at8 s 511 := at8_of _
  obtain ⟨W, hW⟩ : ∃ W, W = (w.alloc (.cells #[.int .i64 0, .int .u64 0, .int .i64 0, .string ⟨#[]⟩] 24)) := ⟨_, rfl⟩
  have HSt : Hid (St w W) := by rw [hW]; exact ⟨Blk.new _ _ _, (Below.refl _ _).alloc (Nat.le_refl _) _, hT.below ((Below.refl _ _).alloc (Nat.le_refl _) _)⟩
  have CY : Hid (∀ (f : Int) (w : World), Calls Tryd.prog 71 #[.bool true, .int .i64 f] w fun e w' => e = .returned (.tuple #[]) ∧ w' = w) := need_yes
  have CN : Hid (∀ (f : Int) (w : World), Calls Tryd.prog 71 #[.bool false, .int .i64 f] w fun e w' => e = .panicked [pe f] ∧ w' = w) := need_no
  have q1 : (((at8 s 0).toNat : Int) == ((at8 s 511).toNat : Int)) = true := by
    simp only [beq_iff_eq]; rw [ht]
  have Q1 : Hid True := trivial
  have CS : Hid (∀ a : World, St w a → Calls Tryd.prog 69 #[.string (s.extract 1 507)] a fun e w' => e = .returned (.string (sumB (s.extract 1 507))) ∧ Hid (St w w')) := fun a h => (sumof_any _ (by rw [ByteArray.size_extract]; omega) a h.2.2).mono (fun e w' ⟨he, hb⟩ => ⟨he, h.below hb⟩)
  have q2 : ((s.extract 507 511).toList == (sumB (s.extract 1 507)).toList) = true := teq hm
  generalize sumB (s.extract 1 507) = sb at *
  have CA : Hid (∀ w : World, Calls Tryd.prog 72 #[.string (s.extract 1 2)] w fun e w' => e = .returned (.int .u64 (numA s 1 2)) ∧ w' = w) := numA_any s 1 2 hs (by omega) (by omega) (by omega)
  have CB : Hid (∀ w : World, Calls Tryd.prog 72 #[.string (s.extract 10 14)] w fun e w' => e = .returned (.int .u64 (numA s 10 14)) ∧ w' = w) := numA_any s 10 14 hs (by omega) (by omega) (by omega)
  have CC : Hid (∀ w : World, Calls Tryd.prog 72 #[.string (s.extract 14 16)] w fun e w' => e = .returned (.int .u64 (numA s 14 16)) ∧ w' = w) := numA_any s 14 16 hs (by omega) (by omega) (by omega)
  have l1 := numA_lt s 1 2 hs (by omega) (by omega)
  have l2 := numA_lt s 10 14 hs (by omega) (by omega)
  have l3 := numA_lt s 14 16 hs (by omega) (by omega)
  rw [show (256 : Nat) ^ (2 - 1) = 256 from rfl] at l1
  rw [show (256 : Nat) ^ (14 - 10) = 4294967296 from rfl] at l2
  rw [show (256 : Nat) ^ (16 - 14) = 65536 from rfl] at l3
  have CZ : Hid (∀ a : World, St w a → Calls Tryd.prog 68 #[.int .i64 ((491 - numA s 14 16 : Nat) : Int)] a fun e w' => e = .returned (.string (zerosB (491 - numA s 14 16))) ∧ Hid (St w w')) := fun a h => (noughts68 _ (by omega) a).mono (fun e w' ⟨he, hb⟩ => ⟨he, h.below hb⟩)
  have q4 : ((s.extract (16 + numA s 14 16) 507).toList == (zerosB (491 - numA s 14 16)).toList) = false := tne hr
  have W5 : IntKind.i64.wrap ((491 - numA s 14 16 : Nat) : Int) = ((491 - numA s 14 16 : Nat) : Int) := by rw [IntKind.wrap_i64]; omega
  have W4 : (507 : Int) - (16 + (numA s 14 16 : Int)) = ((491 - numA s 14 16 : Nat) : Int) := by omega
  generalize numA s 1 2 = kk at *
  generalize numA s 10 14 = ii at *
  generalize numA s 14 16 = ll at *
  obtain ⟨hf1, hf2, hf3⟩ := hf
  have f1 : ((kk : Int) != 0) = true := by simp; omega
  have f2 : (ii : Int) ≤ 2147483647 := by omega
  have f3 : (ll : Int) ≤ 491 := by omega
  have g1 : (16 : Int) + (ll : Int) ≤ 507 := by omega
  have g2 : (0 : Int) ≤ 16 + (ll : Int) := by omega
  have g3 : (16 : Int) ≤ 16 + (ll : Int) := by omega
  have g4 : (16 : Int) + (ll : Int) ≤ 512 := by omega
  have g5 : 16 + ll ≤ 507 := by omega
  have g6 : 16 + ll ≤ 512 := by omega
  have W8 : IntKind.i64.wrap (kk : Int) = (kk : Int) := by rw [IntKind.wrap_i64]; omega
  have W9 : IntKind.i64.wrap (ii : Int) = (ii : Int) := by rw [IntKind.wrap_i64]; omega
  have g7 : ((16 : Int) + (ll : Int)).toNat = 16 + ll := by omega
  clear ht
  go_enter Tryd.func42, Tryd.ntmps42
  go_wp2_with fail
  rw [← hW]
  clear hW
  refine (CY.out 42 _).mono ?_
  rintro e w2 ⟨rfl, hw2⟩
  rw [hw2]
  clear hw2
  go_wp2_with fail
  go_quiet ((go_at_call 71; exact Calls.quiet_of_same (CY.out 50 _)))
  go_wp2_with fail
  have HSt2 : Hid (St w (W.drewN nq)) := HSt.out.drewN _
  generalize W.drewN nq = W2 at *
  clear HSt q1 e0 e1
  have HSt3 : Hid (St w W2.drew) := HSt2.out.drewN 1
  go_cut [] (fun wx => Hid (St w wx))
  case first =>
    go_region_with (first
      | (go_at_call 69; refine (CS.out _ HSt3.out).mono ?_; rintro e w4 ⟨rfl, HSt4⟩)
      | (go_at_call 71; refine (CY.out 51 _).mono ?_; rintro e w5 ⟨rfl, hw5⟩; rw [hw5]))
    all_goals (go_wp2_with fail; go_meet; exact HSt4)
  case rest =>
    clear HSt2 HSt3 q2 CS
    go_wp2_with fail
    refine (CA.out _).mono ?_
    rintro e wn ⟨rfl, hwn⟩
    rw [hwn]
    clear hwn
    go_wp2_with fail
    refine (CB.out _).mono ?_
    rintro e wn ⟨rfl, hwn⟩
    rw [hwn]
    clear hwn
    go_wp2_with fail
    refine (CC.out _).mono ?_
    rintro e wn ⟨rfl, hwn⟩
    rw [hwn]
    clear hwn
    go_wp2_with fail
    clear CA CB CC
    refine (CY.out 52 _).mono ?_
    rintro e wn ⟨rfl, hwn⟩
    rw [hwn]
    clear hwn
    have HSt5 : Hid (St w wc.drew) := hcut.out.drewN 1
    go_wp2_with fail
    go_region_with (first
      | (go_at_call 68; refine (CZ.out _ HSt5.out).mono ?_; rintro e w6 ⟨rfl, HSt6⟩)
      | (go_at_call 71; refine (CN.out 52 _).mono ?_; rintro e w7 ⟨rfl, hw7⟩; rw [hw7]; refine left_by (show _ from ⟨rfl, rfl, HSt6.out.2.1⟩) ⟨#[], []⟩ w ?_))
    all_goals trivial
set_option maxHeartbeats 2000000 in
set_option maxRecDepth 100000 in
theorem opened_ok (s : ByteArray) (hs : s.size = 512) (ht : at8 s 0 = at8 s 511) (hm : s.extract 507 511 = sumB (s.extract 1 507)) (hf : numA s 1 2 ≠ 0 ∧ numA s 10 14 ≤ 2147483647 ∧ numA s 14 16 ≤ 491) (hr : s.extract (16 + numA s 14 16) 507 = zerosB (491 - numA s 14 16)) (w : World) (hT : Tab w) : Calls Tryd.prog 42 #[.string s] w fun e w' => e = .returned (frV (openF s)) ∧ Below w.heap.size w w' := by
  have h1 : ((s.size : Int) == 512) = true := by rw [hs]; rfl
  have e0 : s[0]'(by omega) = at8 s 0 := at8_of _
  have e1 : s[511]'(by omega) = at8 s 511 := at8_of _
  obtain ⟨W, hW⟩ : ∃ W, W = (w.alloc (.cells #[.int .i64 0, .int .u64 0, .int .i64 0, .string ⟨#[]⟩] 24)) := ⟨_, rfl⟩
  have HSt : Hid (St w W) := by rw [hW]; exact ⟨Blk.new _ _ _, (Below.refl _ _).alloc (Nat.le_refl _) _, hT.below ((Below.refl _ _).alloc (Nat.le_refl _) _)⟩
  have CY : Hid (∀ (f : Int) (w : World), Calls Tryd.prog 71 #[.bool true, .int .i64 f] w fun e w' => e = .returned (.tuple #[]) ∧ w' = w) := need_yes
  have CN : Hid (∀ (f : Int) (w : World), Calls Tryd.prog 71 #[.bool false, .int .i64 f] w fun e w' => e = .panicked [pe f] ∧ w' = w) := need_no
  have q1 : (((at8 s 0).toNat : Int) == ((at8 s 511).toNat : Int)) = true := by
    simp only [beq_iff_eq]; rw [ht]
  have Q1 : Hid True := trivial
  have CS : Hid (∀ a : World, St w a → Calls Tryd.prog 69 #[.string (s.extract 1 507)] a fun e w' => e = .returned (.string (sumB (s.extract 1 507))) ∧ Hid (St w w')) := fun a h => (sumof_any _ (by rw [ByteArray.size_extract]; omega) a h.2.2).mono (fun e w' ⟨he, hb⟩ => ⟨he, h.below hb⟩)
  have q2 : ((s.extract 507 511).toList == (sumB (s.extract 1 507)).toList) = true := teq hm
  generalize sumB (s.extract 1 507) = sb at *
  have CA : Hid (∀ w : World, Calls Tryd.prog 72 #[.string (s.extract 1 2)] w fun e w' => e = .returned (.int .u64 (numA s 1 2)) ∧ w' = w) := numA_any s 1 2 hs (by omega) (by omega) (by omega)
  have CB : Hid (∀ w : World, Calls Tryd.prog 72 #[.string (s.extract 10 14)] w fun e w' => e = .returned (.int .u64 (numA s 10 14)) ∧ w' = w) := numA_any s 10 14 hs (by omega) (by omega) (by omega)
  have CC : Hid (∀ w : World, Calls Tryd.prog 72 #[.string (s.extract 14 16)] w fun e w' => e = .returned (.int .u64 (numA s 14 16)) ∧ w' = w) := numA_any s 14 16 hs (by omega) (by omega) (by omega)
  have l1 := numA_lt s 1 2 hs (by omega) (by omega)
  have l2 := numA_lt s 10 14 hs (by omega) (by omega)
  have l3 := numA_lt s 14 16 hs (by omega) (by omega)
  rw [show (256 : Nat) ^ (2 - 1) = 256 from rfl] at l1
  rw [show (256 : Nat) ^ (14 - 10) = 4294967296 from rfl] at l2
  rw [show (256 : Nat) ^ (16 - 14) = 65536 from rfl] at l3
  have CZ : Hid (∀ a : World, St w a → Calls Tryd.prog 68 #[.int .i64 ((491 - numA s 14 16 : Nat) : Int)] a fun e w' => e = .returned (.string (zerosB (491 - numA s 14 16))) ∧ Hid (St w w')) := fun a h => (noughts68 _ (by omega) a).mono (fun e w' ⟨he, hb⟩ => ⟨he, h.below hb⟩)
  have q4 : ((s.extract (16 + numA s 14 16) 507).toList == (zerosB (491 - numA s 14 16)).toList) = true := teq hr
  have W5 : IntKind.i64.wrap ((491 - numA s 14 16 : Nat) : Int) = ((491 - numA s 14 16 : Nat) : Int) := by rw [IntKind.wrap_i64]; omega
  have W4 : (507 : Int) - (16 + (numA s 14 16 : Int)) = ((491 - numA s 14 16 : Nat) : Int) := by omega
  have CD : Hid (∀ w : World, Calls Tryd.prog 72 #[.string (s.extract 2 10)] w fun e w' => e = .returned (.int .u64 (numA s 2 10)) ∧ w' = w) := numA_any s 2 10 hs (by omega) (by omega) (by omega)
  have CE : Hid (∀ a : World, St w a → Calls Tryd.prog 58 #[.string (s.extract 16 (16 + numA s 14 16))] a fun e w' => e = .returned (.string (s.extract 16 (16 + numA s 14 16))) ∧ Hid (St w w')) := fun a h => (clone_any _ (by rw [ByteArray.size_extract]; omega) a).mono (fun e w' ⟨he, hb⟩ => ⟨he, h.below hb⟩)
  have HF : Hid (frV (openF s) = .agg #[.int .i64 (numA s 1 2), .int .u64 (numA s 2 10), .int .i64 (numA s 10 14), .string (s.extract 16 (16 + numA s 14 16))]) := by show _ = _; rfl
  generalize frV (openF s) = FV at *
  generalize numA s 1 2 = kk at *
  generalize numA s 10 14 = ii at *
  generalize numA s 14 16 = ll at *
  obtain ⟨hf1, hf2, hf3⟩ := hf
  have f1 : ((kk : Int) != 0) = true := by simp; omega
  have f2 : (ii : Int) ≤ 2147483647 := by omega
  have f3 : (ll : Int) ≤ 491 := by omega
  have g1 : (16 : Int) + (ll : Int) ≤ 507 := by omega
  have g2 : (0 : Int) ≤ 16 + (ll : Int) := by omega
  have g3 : (16 : Int) ≤ 16 + (ll : Int) := by omega
  have g4 : (16 : Int) + (ll : Int) ≤ 512 := by omega
  have g5 : 16 + ll ≤ 507 := by omega
  have g6 : 16 + ll ≤ 512 := by omega
  have W8 : IntKind.i64.wrap (kk : Int) = (kk : Int) := by rw [IntKind.wrap_i64]; omega
  have W9 : IntKind.i64.wrap (ii : Int) = (ii : Int) := by rw [IntKind.wrap_i64]; omega
  have g7 : ((16 : Int) + (ll : Int)).toNat = 16 + ll := by omega
  clear ht
  go_enter Tryd.func42, Tryd.ntmps42
  go_wp2_with fail
  rw [← hW]
  clear hW
  refine (CY.out 42 _).mono ?_
  rintro e w2 ⟨rfl, hw2⟩
  rw [hw2]
  clear hw2
  go_wp2_with fail
  go_quiet ((go_at_call 71; exact Calls.quiet_of_same (CY.out 50 _)))
  go_wp2_with fail
  have HSt2 : Hid (St w (W.drewN nq)) := HSt.out.drewN _
  generalize W.drewN nq = W2 at *
  clear HSt q1 e0 e1
  have HSt3 : Hid (St w W2.drew) := HSt2.out.drewN 1
  go_cut [] (fun wx => Hid (St w wx))
  case first =>
    go_region_with (first
      | (go_at_call 69; refine (CS.out _ HSt3.out).mono ?_; rintro e w4 ⟨rfl, HSt4⟩)
      | (go_at_call 71; refine (CY.out 51 _).mono ?_; rintro e w5 ⟨rfl, hw5⟩; rw [hw5]))
    all_goals (go_wp2_with fail; go_meet; exact HSt4)
  case rest =>
    clear HSt2 HSt3 q2 CS
    go_wp2_with fail
    refine (CA.out _).mono ?_
    rintro e wn ⟨rfl, hwn⟩
    rw [hwn]
    clear hwn
    go_wp2_with fail
    refine (CB.out _).mono ?_
    rintro e wn ⟨rfl, hwn⟩
    rw [hwn]
    clear hwn
    go_wp2_with fail
    refine (CC.out _).mono ?_
    rintro e wn ⟨rfl, hwn⟩
    rw [hwn]
    clear hwn
    go_wp2_with fail
    clear CA CB CC
    refine (CY.out 52 _).mono ?_
    rintro e wn ⟨rfl, hwn⟩
    rw [hwn]
    clear hwn
    have HSt5 : Hid (St w wc.drew) := hcut.out.drewN 1
    go_wp2_with fail
    go_cut [] (fun wx => Hid (St w wx))
    case first =>
      go_region_with (first
      | (go_at_call 68; refine (CZ.out _ HSt5.out).mono ?_; rintro e w6 ⟨rfl, HSt6⟩)
      | (go_at_call 71; refine (CY.out 52 _).mono ?_; rintro e w7 ⟨rfl, hw7⟩; rw [hw7]))
      all_goals (go_wp2_with fail; go_meet; exact HSt6)
    case rest =>
      clear HSt5 q4 CZ
      have HSt7 : Hid (St w wc.drew) := hcut.out.drewN 1
      go_wp2_with fail
      go_region_with (first
        | (go_at_call 72; refine (CD.out _).mono ?_; rintro e w8 ⟨rfl, hw8⟩; rw [hw8]; clear hw8)
        | (go_at_call 58; refine (CE.out _ HSt7.out).mono ?_; rintro e w9 ⟨rfl, HSt9⟩; have c0 := HSt9.out.1.cell 0 rfl; have c1 := HSt9.out.1.cell 1 rfl; have c2 := HSt9.out.1.cell 2 rfl; have c3 := HSt9.out.1.cell 3 rfl; have d0 := HSt9.out.1.frozen 0; have d1 := HSt9.out.1.frozen 1; have d2 := HSt9.out.1.frozen 2; have d3 := HSt9.out.1.frozen 3))
      all_goals
        have hB := (((HSt9.out.1.set 0 (.int .i64 (kk : Int))).set 1 (.int .u64 (numA s 2 10 : Int))).set 2 (.int .i64 (ii : Int))).set 3 (.string (s.extract 16 (16 + ll)))
        have r0 := hB.cell 0 (v := .int .i64 (kk : Int)) rfl
        have r1 := hB.cell 1 (v := .int .u64 (numA s 2 10 : Int)) rfl
        have r2 := hB.cell 2 (v := .int .i64 (ii : Int)) rfl
        have r3 := hB.cell 3 (v := .string (s.extract 16 (16 + ll))) rfl
        have hL := (((HSt9.out.2.1.setCell (p := ⟨w.heap.size, 0, none⟩) (Nat.le_refl _) (.int .i64 (kk : Int))).setCell (p := ⟨w.heap.size, 1, none⟩) (Nat.le_refl _) (.int .u64 (numA s 2 10 : Int))).setCell (p := ⟨w.heap.size, 2, none⟩) (Nat.le_refl _) (.int .i64 (ii : Int))).setCell (p := ⟨w.heap.size, 3, none⟩) (Nat.le_refl _) (.string (s.extract 16 (16 + ll)))
        clear hB c0 c1 c2 c3 d0 d1 d2 d3
        go_wp2
        refine bodyPost_ret (v := FV) ?_ rfl ⟨rfl, hL⟩
        rw [HF.out]
        simp [results, Tryd.results42, go_sem, r0, r1, r2, r3]
end Go.Proofs.YtnpcnflfpmjgiaaDoor
