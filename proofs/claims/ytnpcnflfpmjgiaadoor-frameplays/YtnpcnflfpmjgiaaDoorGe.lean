/- The document's Open: the last two ways. -/
import Derived.Test.YtnpcnflfpmjgiaaDoorGc
namespace Go.Proofs.YtnpcnflfpmjgiaaDoor
open Go.RowKit
set_option linter.unusedVariables false
set_option linter.unusedSimpArgs false

set_option maxHeartbeats 2000000 in
set_option maxRecDepth 100000 in
theorem ropen_ok (s : ByteArray) (hs : s.size = 512) (ht : at8 s 0 = at8 s 511) (hm : s.extract 507 511 = sumB (s.extract 1 507)) (hf : numA s 1 2 ≠ 0 ∧ numA s 10 14 ≤ 2147483647 ∧ numA s 14 16 ≤ 491) (hr : s.extract (16 + numA s 14 16) 507 = zerosB (491 - numA s 14 16)) (w : World) : Calls Tryd.prog 16 #[.string s] w fun e w' => e = .returned (.tuple #[frV (openF s), .int .i64 ((at8 s 0).toNat : Int), .int .i64 0]) ∧ Below w.heap.size w w' := by
  obtain ⟨W, hW⟩ : ∃ W, W = (w.alloc (.cells zeroC 24)) := ⟨_, rfl⟩
  have HS : Hid (Sr w W) := by rw [hW]; exact ⟨Blk.new _ _ _, (Below.refl _ _).alloc (Nat.le_refl _) _⟩
  unfold zeroC at hW
  have h1 : ((s.size : Int) == 512) = true := by rw [hs]; rfl
  have e0 : s[0]'(by omega) = at8 s 0 := at8_of _
  have e1 : s[511]'(by omega) = at8 s 511 := at8_of _
  have q1 : (((at8 s 0).toNat : Int) == ((at8 s 511).toNat : Int)) = true := by
    simp only [beq_iff_eq]; rw [ht]
  have CS : Hid (∀ a : World, Sr w a → Calls Tryd.prog 40 #[.string (s.extract 1 507)] a fun e w' => e = .returned (.string (sumB (s.extract 1 507))) ∧ Hid (Sr w w')) := fun a h => (rsum_any _ (by rw [ByteArray.size_extract]; omega) a).mono (fun e w' ⟨he, hb⟩ => ⟨he, h.below hb⟩)
  have q2 : ((s.extract 507 511).toList == (sumB (s.extract 1 507)).toList) = true := teq hm
  generalize sumB (s.extract 1 507) = sb at *
  have CB : Hid (∀ w : World, Calls Tryd.prog 43 #[.string (s.extract 10 14)] w fun e w' => e = .returned (.int .u64 (numA s 10 14)) ∧ w' = w) := rnumA_any s 10 14 hs (by omega) (by omega) (by omega)
  have CC : Hid (∀ w : World, Calls Tryd.prog 43 #[.string (s.extract 14 16)] w fun e w' => e = .returned (.int .u64 (numA s 14 16)) ∧ w' = w) := rnumA_any s 14 16 hs (by omega) (by omega) (by omega)
  have l2 := numA_lt s 10 14 hs (by omega) (by omega)
  have l3 := numA_lt s 14 16 hs (by omega) (by omega)
  rw [show (256 : Nat) ^ (14 - 10) = 4294967296 from rfl] at l2
  rw [show (256 : Nat) ^ (16 - 14) = 65536 from rfl] at l3
  have hk1 := numA_one s 1 hs (by omega)
  rw [show (1 : Nat) + 1 = 2 from rfl] at hk1
  have e2 : s[1]'(by omega) = at8 s 1 := at8_of _
  have HZ := zeros_iff s (numA s 14 16) hs hf.2.2
  have HA : Hid (∀ t, t < 491 - numA s 14 16 → at8 s (16 + numA s 14 16 + t) = 0) := HZ.1 hr
  clear HZ hr
  have CD : Hid (∀ w : World, Calls Tryd.prog 43 #[.string (s.extract 2 10)] w fun e w' => e = .returned (.int .u64 (numA s 2 10)) ∧ w' = w) := rnumA_any s 2 10 hs (by omega) (by omega) (by omega)
  have HF : Hid (frV (openF s) = .agg #[.int .i64 (numA s 1 2), .int .u64 (numA s 2 10), .int .i64 (numA s 10 14), .string (s.extract 16 (16 + numA s 14 16))]) := by show _ = _; rfl
  generalize frV (openF s) = FV at *
  rw [hk1] at hf
  rw [hk1] at HF
  generalize numA s 10 14 = ii at *
  generalize numA s 14 16 = ll at *
  have W8 : IntKind.i64.wrap (ll : Int) = (ll : Int) := by rw [IntKind.wrap_i64]; omega
  have W9 : IntKind.i64.wrap (ii : Int) = (ii : Int) := by rw [IntKind.wrap_i64]; omega
  obtain ⟨hf1, hf2, hf3⟩ := hf
  have f1 : (((at8 s 1).toNat : Int) == 0) = false := by simp; omega
  have f2 : ¬ (2147483647 : Int) < (ii : Int) := by omega
  have f3 : ¬ (491 : Int) < (ll : Int) := by omega
  have g1 : (ll : Int) ≤ 491 := by omega
  go_enter Tryd.func16, Tryd.ntmps16
  go_wp2_with fail
  rw [← hW]
  clear hW
  go_quiet (fail)
  have HS2 : Hid (Sr w (W.drewN nq)) := HS.out.drewN _
  generalize W.drewN nq = W2 at *
  clear HS
  go_wp2_with fail
  have HS3 : Hid (Sr w W2.drew) := HS2.out.drewN 1
  clear HS2
  go_cut [22] (fun t wx => t = .bool false ∧ Hid (Sr w wx))
  case first =>
    go_region_with (go_at_call 40; refine (CS.out _ HS3.out).mono ?_; rintro e w4 ⟨rfl, HS4⟩)
    all_goals (go_wp2_with fail; go_meet; exact ⟨rfl, HS4⟩)
  case rest =>
    obtain ⟨rfl, HS5⟩ := hcut
    clear HS3 CS q2 q1
    go_wp2_with fail
    refine (CC.out _).mono ?_
    rintro e wn ⟨rfl, hwn⟩
    rw [hwn]
    clear hwn CC
    go_wp2_with fail
    refine (CB.out _).mono ?_
    rintro e wn ⟨rfl, hwn⟩
    rw [hwn]
    clear hwn
    go_wp2_with fail
    clear e0 e1 e2 f1 f2 f3 hk1 ht
    go_loopw [6] (fun t wx => ∃ p : Nat, 16 + ll ≤ p ∧ p ≤ 507 ∧ t = .int .i64 (p : Int) ∧ (∀ q, 16 + ll ≤ q → q < p → at8 s q = 0) ∧ wx = wc) (fun t _ => 507 - (intOf t).toNat)
    case atStart => exact ⟨16 + ll, Nat.le_refl _, by omega, by go_num, fun q h1 h2 => absurd h2 (by omega), rfl⟩
    case round =>
      obtain ⟨p, p1, p2, rfl, hz, rfl⟩ := hrel
      by_cases hlt : p < 507
      · have hlt' : (p : Int) < 507 := by omega
        have a0 : s[p]'(by omega) = at8 s p := at8_of _
        have hp5 : p < 512 := by omega
        have hq := HA.out (p - (16 + ll)) (by omega)
        rw [show 16 + ll + (p - (16 + ll)) = p by omega] at hq
        have q0 : (((at8 s p).toNat : Int) == 0) = true := by rw [hq]; rfl
        have HZ : Hid (∀ q, 16 + ll ≤ q → q < p + 1 → at8 s q = 0) := fun q h1 h2 => by
          by_cases e : q = p
          · rw [e]; exact hq
          · exact hz q h1 (by omega)
        clear hz hq HA CB CD HF
        go_wp2_with fail
        exact ⟨⟨p + 1, by omega, by omega, by go_num, HZ.out, trivial⟩, by simp [intOf]; omega⟩
      · have hlt' : ¬ (p : Int) < 507 := by omega
        clear hz HA p1 p2 hlt
        have e0 : s[0]'(by omega) = at8 s 0 := at8_of _
        have e1 : s[1]'(by omega) = at8 s 1 := at8_of _
        have W1 : IntKind.i64.wrap ((at8 s 0).toNat : Int) = ((at8 s 0).toNat : Int) := by have := (at8 s 0).toNat_lt; rw [IntKind.wrap_i64]; omega
        have W2 : IntKind.i64.wrap ((at8 s 1).toNat : Int) = ((at8 s 1).toNat : Int) := by have := (at8 s 1).toNat_lt; rw [IntKind.wrap_i64]; omega
        have g2 : (0 : Int) ≤ 16 + (ll : Int) := by omega
        have g3 : (16 : Int) ≤ 16 + (ll : Int) := by omega
        have g4 : (16 : Int) + (ll : Int) ≤ 512 := by omega
        have g6 : 16 + ll ≤ 512 := by omega
        have g7 : ((16 : Int) + (ll : Int)).toNat = 16 + ll := by omega
        have g8 : (16 : Int) + (ll : Int) ≤ 507 := by omega
        have W10 : IntKind.i64.wrap ((16 : Int) + (ll : Int)) = 16 + (ll : Int) := by rw [IntKind.wrap_i64]; omega
        obtain ⟨c0, c1, c2, c3, z0, z1, z2, z3⟩ := HS5.out.cells
        obtain ⟨hB, hL⟩ := HS5.out.lay (.int .i64 ((at8 s 1).toNat : Int)) (.int .u64 (numA s 2 10 : Int)) (.int .i64 (ii : Int)) (.string (s.extract 16 (16 + ll)))
        go_wp2_with fail
        go_region_with (first
          | (go_at_call_of 43 (s.extract 2 10); refine (CD.out _).mono ?_; rintro e w8 ⟨rfl, hw8⟩; rw [hw8]; clear hw8)
          | (go_at_call_of 43 (s.extract 10 14); refine (CB.out _).mono ?_; rintro e w9 ⟨rfl, hw9⟩; rw [hw9]; clear hw9))
        all_goals
          go_wp2
          have r0 := hB.cell 0 rfl
          have r1 := hB.cell 1 rfl
          have r2 := hB.cell 2 rfl
          have r3 := hB.cell 3 rfl
          refine bodyPost_ret (v := .tuple #[FV, .int .i64 ((at8 s 0).toNat : Int), .int .i64 0]) ?_ rfl ⟨rfl, hL.drew⟩
          rw [HF.out]
          simp [results, Tryd.results16, go_sem, r0, r1, r2, r3]
end Go.Proofs.YtnpcnflfpmjgiaaDoor
