/- The document's Value, further bases. -/
import Derived.Test.YtlgfpjaomiomjaaGreatDoorYe
namespace Go.Proofs.YtlgfpjaomiomjaaGreatDoor
open Go.RowKit
set_option linter.unusedVariables false
set_option linter.unusedSimpArgs false

set_option maxHeartbeats 4000000 in
set_option maxRecDepth 100000 in
theorem val2 (s : ByteArray) (hs : s.size ≤ 65536) (h2 : 2 < s.size) (h0 : s[0] = 48) (h1 : s[1] = 98) (w : World) (V : Option Nat) (hV : V = growV 2 (s.data.toList.drop 2) 0) :
    Calls Tryz.prog 28 #[.string s] w fun e w' => e = .returned (valA V) ∧ Below w.heap.size w w' := by
  have HV : Hid (V = growV 2 (s.data.toList.drop 2) 0) := hV
  have hs1 : 1 < s.size := by omega
  have hs0 : 0 < s.size := by omega
  have q0 : decide ((1 : Int) < (s.size : Int)) = true := by simp; omega
  have q1 : ((s[0].toNat : Int) == 48) = true := by rw [h0]; rfl
  have q2 : ((s[1].toNat : Int) != 120) = true := by rw [h1]; rfl
  have q2b : ((s[1].toNat : Int) != 98) = false := by rw [h1]; rfl
  have q3 : ((s[1].toNat : Int) == 98) = true := by rw [h1]; rfl
  have q4 : decide ((s.size : Int) ≤ 2) = false := by simp; omega
  clear hV h0 h1
  go_enter Tryz.func28, Tryz.ntmps28
  go_wp2
  go_loopw [6, 7] (fun l i wr => ∃ (k : Nat), 2 ≤ k ∧ k ≤ s.size ∧ i = .int .i64 k ∧ Aside (VAt 2 s w V k l wr)) (fun _ i _ => s.size - (intOf i).toNat)
  case atStart => exact ⟨2, by omega, by omega, rfl, v_start HV.out⟩
  case round =>
    obtain ⟨k, hk0, hk, rfl, hV⟩ := hrel
    obtain ⟨v, g, cap, rfl, hg, hL, hv, hbk, hB, hG⟩ := hV.out
    have HL : Hid (LRow wr g (lmb v)) := hL
    have HK : Hid (Blk wr w.heap.size zero37 37) := hbk
    have HB : Hid (Below w.heap.size w wr) := hB
    have HVV : Hid (v < 65536 ^ 8) := hv
    have b0 := hbk.cell 0 (v := .int .u64 0) rfl
    have b1 := hbk.cell 1 (v := .int .u64 0) rfl
    have bf0 := hbk.frozen 0
    have bf1 := hbk.frozen 1
    by_cases hlt : k < s.size
    · have hG2 : V = growV 2 (s[k] :: s.data.toList.drop (k + 1)) v := by rw [← byteAt s hlt]; exact hG
      have HG : Hid (V = growV 2 (s[k] :: s.data.toList.drop (k + 1)) v) := hG2
      have CS : Hid (∀ w, Calls Tryz.prog 44 #[.int .u8 (s[k].toNat : Int)] w fun e w' => e = .returned (.int .i64 (saysN s[k] : Int)) ∧ w' = w) := rsays_any s[k]
      have hsb : saysN s[k] ≤ 255 := by
        have : s[k].toNat < 256 := UInt8.toNat_lt _
        unfold saysN; split
        · omega
        · split
          · omega
          · split <;> omega
      have HST : Hid (2 ≤ saysN s[k] → V = none) := fun h => by rw [HG.out]; exact grow_stop h
      have HOV : Hid (¬ 2 ≤ saysN s[k] → ¬ v * 2 + saysN s[k] < 65536 ^ 8 → V = none) := fun h h2 => by rw [HG.out]; exact grow_over h h2
      have HGO : Hid (¬ 2 ≤ saysN s[k] → v * 2 + saysN s[k] < 65536 ^ 8 → V = growV 2 (s.data.toList.drop (k + 1)) (v * 2 + saysN s[k])) := fun h h2 => by rw [HG.out]; exact grow_go h h2
      obtain ⟨d, hd⟩ : ∃ d, d = saysN s[k] := ⟨_, rfl⟩
      rw [← hd] at CS hsb HST HOV HGO
      clear hd hG hG2 HG hV hL hv hbk hB
      by_cases hdb : 2 ≤ d
      · have VN : Hid (V = none) := HST.out hdb
        clear HST HOV HGO
        go_wp2_with (go_at_call 44; refine (CS.out _).mono ?_; rintro e w' ⟨rfl, hw'⟩; obtain rfl := Eq.symm hw')
        refine bodyPost_ret (v := .tuple #[.agg #[.int .u64 0, .int .u64 0], .bool false]) ?_ rfl ⟨by rw [valA_none VN.out], ?_⟩
        · have z0 := ((HK.out.set 0 (.int .u64 0)).set 1 (.int .u64 0)).cell 0 (v := .int .u64 0) rfl
          have z1 := ((HK.out.set 0 (.int .u64 0)).set 1 (.int .u64 0)).cell 1 (v := .int .u64 0) rfl
          simp [results, Tryz.results28, go_sem, z0, z1]
        · exact HB.out.trans ((((Kept.refl (fun j => w.heap.size ≤ j) wr).set (by simp) _).set (by simp) _).below HB.out.size (fun _ h => h))
      · have hdl : d < 2 := by omega
        have HNB : Hid (¬ 2 ≤ d) := hdb
        have hdd : decide ((2 : Int) ≤ (d : Int)) = false := by simp; omega
        have CG : Hid (Calls Tryz.prog 45 #[.slice (some ⟨g, 0, none⟩) 8 cap, .int .i64 2, .int .i64 (d : Int)] wr fun e w' => ∃ g2 cap2, e = .returned (.tuple #[.slice (some ⟨g2, 0, none⟩) 8 cap2, .bool (decide (v * 2 + d < 65536 ^ 8))]) ∧ w'.cell? ⟨w.heap.size, 0, none⟩ = some (.int .u64 0) ∧ w'.cell? ⟨w.heap.size, 1, none⟩ = some (.int .u64 0) ∧ w'.frozen? ⟨w.heap.size, 0, none⟩ = false ∧ w'.frozen? ⟨w.heap.size, 1, none⟩ = false ∧ Hid (w.heap.size < g2 ∧ LRow w' g2 (lmb (v * 2 + d)) ∧ Blk w' w.heap.size zero37 37 ∧ Below w.heap.size w w')) := by
          refine (grown_any v 2 d g cap HVV.out hdl (by decide) wr HL.out).mono ?_
          rintro e w' ⟨sv, rfl, hrow, hb'⟩
          obtain ⟨g2, cap2, rfl, hg2, hl2⟩ := lrow_of hrow
          have hk' := HK.out.below hb'
          exact ⟨g2, cap2, rfl, hk'.cell 0 rfl, hk'.cell 1 rfl, hk'.frozen 0, hk'.frozen 1, by have := HK.out.lt; omega, hl2, hk', bst HB.out hb'⟩
        clear HST
        cases hq : decide (v * 2 + d < 65536 ^ 8)
        · rw [hq] at CG
          have VN : Hid (V = none) := HOV.out HNB.out (by simpa using hq)
          clear HOV HGO hq HL HVV
          go_wp2_with (go_at_call 44; refine (CS.out _).mono ?_; rintro e w' ⟨rfl, hw'⟩; obtain rfl := Eq.symm hw')
          refine CG.out.mono ?_
          rintro e w2 ⟨g2, cap2, rfl, y0, y1, yf0, yf1, HX⟩
          go_wp2
          refine bodyPost_ret (v := .tuple #[.agg #[.int .u64 0, .int .u64 0], .bool false]) ?_ rfl ⟨by rw [valA_none VN.out], ?_⟩
          · have z0 := ((HX.out.2.2.1.set 0 (.int .u64 0)).set 1 (.int .u64 0)).cell 0 (v := .int .u64 0) rfl
            have z1 := ((HX.out.2.2.1.set 0 (.int .u64 0)).set 1 (.int .u64 0)).cell 1 (v := .int .u64 0) rfl
            simp [results, Tryz.results28, go_sem, z0, z1]
          · exact HX.out.2.2.2.trans ((((Kept.refl (fun j => w.heap.size ≤ j) w2).set (by simp) _).set (by simp) _).below HX.out.2.2.2.size (fun _ h => h))
        · rw [hq] at CG
          have HLQ : Hid (v * 2 + d < 65536 ^ 8) := (show v * 2 + d < 65536 ^ 8 from of_decide_eq_true hq)
          have HVN : Hid (V = growV 2 (s.data.toList.drop (k + 1)) (v * 2 + d)) := HGO.out HNB.out HLQ.out
          clear HOV HGO hq HL HVV
          go_wp2_with (go_at_call 44; refine (CS.out _).mono ?_; rintro e w' ⟨rfl, hw'⟩; obtain rfl := Eq.symm hw')
          refine CG.out.mono ?_
          rintro e w2 ⟨g2, cap2, rfl, y0, y1, yf0, yf1, HX⟩
          go_wp2
          exact ⟨⟨k + 1, by omega, by omega, by go_num, _, g2, cap2, rfl, HX.out.1, HX.out.2.1, HLQ.out, HX.out.2.2.1, HX.out.2.2.2, HVN.out⟩, by simp only [intOf]; omega⟩
    · have e : k = s.size := by omega
      subst e
      have VS : Hid (V = some v) := by show _ = _; rw [hG, List.drop_of_length_le (by simp)]; rfl
      clear hG hV hL hv hbk hB
      obtain ⟨W1, hW1⟩ : ∃ W1, W1 = wr := ⟨_, rfl⟩
      subst hW1
      have HBA : Hid (Blk (W1.alloc (.cells zero37 37)) W1.heap.size zero37 37) := Blk.new _ _ _
      have HLA : Hid (LRow (W1.alloc (.cells zero37 37)) g (lmb v)) := HL.out.kept ((Kept.refl (fun _ => False) _).alloc _) id
      have HKA : Hid (Blk (W1.alloc (.cells zero37 37)) w.heap.size zero37 37) := HK.out.below ((Below.refl _ _).alloc (Nat.le_refl _) _)
      have HBB : Hid (Below w.heap.size w (W1.alloc (.cells zero37 37))) := bst HB.out ((Below.refl _ _).alloc (Nat.le_refl _) _)
      have hgl : g < W1.heap.size := HL.out.lt
      have hwl : w.heap.size < W1.heap.size := HK.out.lt
      have HZ : Hid (v / 65536 ^ 8 = 0 ∧ (v % 18446744073709551616) / 65536 ^ 4 = 0) := ⟨Nat.div_eq_of_lt HVV.out, Nat.div_eq_of_lt (Nat.mod_lt _ (by decide))⟩
      go_wp2
      go_loopw [12] (fun i wq => ∃ (t : Nat), t ≤ 4 ∧ i = .int .i64 (3 - (t : Int)) ∧ Blk wq W1.heap.size #[.int .u64 ((v / 65536 ^ (8 - t) : Nat) : Int), .int .u64 (((v % 18446744073709551616) / 65536 ^ (4 - t) : Nat) : Int)] 37 ∧ LRow wq g (lmb v) ∧ Blk wq w.heap.size zero37 37 ∧ Below w.heap.size w wq) (fun i _ => (intOf i + 1).toNat)
      case atStart => exact ⟨0, by omega, rfl, by simp only [Nat.sub_zero]; rw [HZ.out.1, HZ.out.2]; exact HBA.out, HLA.out, HKA.out, HBB.out⟩
      case round =>
        obtain ⟨t, ht, rfl, hba, hl, hk0, hB⟩ := hrel
        have X1 : Hid (Blk wr W1.heap.size #[.int .u64 ((v / 65536 ^ (8 - t) : Nat) : Int), .int .u64 (((v % 18446744073709551616) / 65536 ^ (4 - t) : Nat) : Int)] 37) := hba
        have X2 : Hid (LRow wr g (lmb v)) := hl
        have X3 : Hid (Blk wr w.heap.size zero37 37) := hk0
        have X4 : Hid (Below w.heap.size w wr) := hB
        by_cases hlt4 : t < 4
        · obtain ⟨j, hj⟩ : ∃ j, 3 - t = j := ⟨_, rfl⟩
          have hjI : (3 : Int) - (t : Int) = (j : Int) := by omega
          have hb1 := hi_lt v t HVV.out ht
          have hb2 := lo_lt v t ht
          have hpw := pow_le4 t (by omega)
          have e1 := hi_step v t hlt4
          have e2 := lo_step v t hlt4
          have l1 := lmb_lt v (7 - t)
          have l2 := lmb_lt v (3 - t)
          have c1 := (hl (j + 4) (by omega)).1
          have c2 := (hl j (by omega)).1
          rw [show lmb v (j + 4) = lmb v (7 - t) by congr 1; omega] at c1
          rw [show lmb v j = lmb v (3 - t) by congr 1; omega] at c2
          have a0 := hba.cell 0 (v := .int .u64 ((v / 65536 ^ (8 - t) : Nat) : Int)) rfl
          have a1 := hba.cell 1 (v := .int .u64 (((v % 18446744073709551616) / 65536 ^ (4 - t) : Nat) : Int)) rfl
          have af0 := hba.frozen 0
          have af1 := hba.frozen 1
          have hjb : j < 4 := by omega
          have E1 : Hid (v / 65536 ^ (8 - (t + 1)) = 65536 * (v / 65536 ^ (8 - t)) + lmb v (7 - t)) := by show _ = _; rw [show 8 - (t + 1) = 7 - t by omega]; exact e1
          have E2 : Hid ((v % 18446744073709551616) / 65536 ^ (4 - (t + 1)) = 65536 * ((v % 18446744073709551616) / 65536 ^ (4 - t)) + lmb v (3 - t)) := by show _ = _; rw [show 4 - (t + 1) = 3 - t by omega]; exact e2
          rw [hjI]
          clear e1 e2 hba hl hk0 hB
          generalize v / 65536 ^ (8 - t) = x at *
          generalize (v % 18446744073709551616) / 65536 ^ (4 - t) = y at *
          generalize lmb v (7 - t) = m at *
          generalize lmb v (3 - t) = n at *
          have hxb : x < 281474976710656 := by omega
          have hyb : y < 281474976710656 := by omega
          clear hb1 hb2 hpw
          have hga : g ≠ W1.heap.size := by omega
          go_wp2
          go_region
          go_wp2
          go_region
          go_wp2
          refine ⟨⟨t + 1, by omega, by first | go_num | (congr 1; omega), ?_, ?_, ?_, ?_⟩, by simp only [intOf]; omega⟩
          · rw [E1.out, E2.out, Int.natCast_add, Int.natCast_mul, Int.natCast_add, Int.natCast_mul]
            exact (X1.out.set 0 _).set 1 _
          · exact X2.out.kept ((((Kept.refl (fun j => j = W1.heap.size) wr).drew.set rfl _).drew).set rfl _) hga
          · exact X3.out.kept ((((Kept.refl (fun j => j = W1.heap.size) wr).drew.set rfl _).drew).set rfl _) (by omega)
          · exact X4.out.trans (((((Kept.refl (fun j => j = W1.heap.size) wr).drew.set rfl _).drew).set rfl _).below X4.out.size (by omega))
        · have e : t = 4 := by omega
          subst e
          have a0 := hba.cell 0 (v := .int .u64 ((v / 65536 ^ (8 - 4) : Nat) : Int)) rfl
          have a1 := hba.cell 1 (v := .int .u64 (((v % 18446744073709551616) / 65536 ^ (4 - 4) : Nat) : Int)) rfl
          have af0 := hba.frozen 0
          have af1 := hba.frozen 1
          have k0 := hk0.cell 0 (v := .int .u64 0) rfl
          have k1 := hk0.cell 1 (v := .int .u64 0) rfl
          have kf0 := hk0.frozen 0
          have kf1 := hk0.frozen 1
          have EV : Hid (valA V = .tuple #[.agg #[.int .u64 ((v / 65536 ^ (8 - 4) : Nat) : Int), .int .u64 (((v % 18446744073709551616) / 65536 ^ (4 - 4) : Nat) : Int)], .bool true]) := valA_some VS.out
          clear hba hl hk0 hB
          generalize v / 65536 ^ (8 - 4) = x at *
          generalize (v % 18446744073709551616) / 65536 ^ (4 - 4) = y at *
          go_wp2
          refine bodyPost_ret (v := .tuple #[.agg #[.int .u64 (x : Int), .int .u64 (y : Int)], .bool true]) ?_ rfl ⟨by rw [EV.out], ?_⟩
          · have z0 := ((X3.out.set 0 (.int .u64 (x : Int))).set 1 (.int .u64 (y : Int))).cell 0 (v := .int .u64 (x : Int)) rfl
            have z1 := ((X3.out.set 0 (.int .u64 (x : Int))).set 1 (.int .u64 (y : Int))).cell 1 (v := .int .u64 (y : Int)) rfl
            simp [results, Tryz.results28, go_sem, z0, z1]
          · exact X4.out.trans ((((Kept.refl (fun j => w.heap.size ≤ j) wr).set (by simp) _).set (by simp) _).below X4.out.size (fun _ h => h))

set_option maxHeartbeats 4000000 in
set_option maxRecDepth 100000 in
theorem val10a (s : ByteArray) (hs : s.size ≤ 65536) (h2 : s.size = 1) (w : World) (V : Option Nat) (hV : V = growV 10 (s.data.toList.drop 0) 0) :
    Calls Tryz.prog 28 #[.string s] w fun e w' => e = .returned (valA V) ∧ Below w.heap.size w w' := by
  have HV : Hid (V = growV 10 (s.data.toList.drop 0) 0) := hV
  have q0 : decide ((1 : Int) < (s.size : Int)) = false := by simp; omega
  have q4 : decide ((s.size : Int) ≤ 0) = false := decide_eq_false (by omega)
  clear hV
  go_enter Tryz.func28, Tryz.ntmps28
  go_wp2
  go_loopw [6, 7] (fun l i wr => ∃ (k : Nat), 0 ≤ k ∧ k ≤ s.size ∧ i = .int .i64 k ∧ Aside (VAt 10 s w V k l wr)) (fun _ i _ => s.size - (intOf i).toNat)
  case atStart => exact ⟨0, by omega, by omega, rfl, v_start HV.out⟩
  case round =>
    obtain ⟨k, hk0, hk, rfl, hV⟩ := hrel
    obtain ⟨v, g, cap, rfl, hg, hL, hv, hbk, hB, hG⟩ := hV.out
    have HL : Hid (LRow wr g (lmb v)) := hL
    have HK : Hid (Blk wr w.heap.size zero37 37) := hbk
    have HB : Hid (Below w.heap.size w wr) := hB
    have HVV : Hid (v < 65536 ^ 8) := hv
    have b0 := hbk.cell 0 (v := .int .u64 0) rfl
    have b1 := hbk.cell 1 (v := .int .u64 0) rfl
    have bf0 := hbk.frozen 0
    have bf1 := hbk.frozen 1
    by_cases hlt : k < s.size
    · have hG2 : V = growV 10 (s[k] :: s.data.toList.drop (k + 1)) v := by rw [← byteAt s hlt]; exact hG
      have HG : Hid (V = growV 10 (s[k] :: s.data.toList.drop (k + 1)) v) := hG2
      have CS : Hid (∀ w, Calls Tryz.prog 44 #[.int .u8 (s[k].toNat : Int)] w fun e w' => e = .returned (.int .i64 (saysN s[k] : Int)) ∧ w' = w) := rsays_any s[k]
      have hsb : saysN s[k] ≤ 255 := by
        have : s[k].toNat < 256 := UInt8.toNat_lt _
        unfold saysN; split
        · omega
        · split
          · omega
          · split <;> omega
      have HST : Hid (10 ≤ saysN s[k] → V = none) := fun h => by rw [HG.out]; exact grow_stop h
      have HOV : Hid (¬ 10 ≤ saysN s[k] → ¬ v * 10 + saysN s[k] < 65536 ^ 8 → V = none) := fun h h2 => by rw [HG.out]; exact grow_over h h2
      have HGO : Hid (¬ 10 ≤ saysN s[k] → v * 10 + saysN s[k] < 65536 ^ 8 → V = growV 10 (s.data.toList.drop (k + 1)) (v * 10 + saysN s[k])) := fun h h2 => by rw [HG.out]; exact grow_go h h2
      obtain ⟨d, hd⟩ : ∃ d, d = saysN s[k] := ⟨_, rfl⟩
      rw [← hd] at CS hsb HST HOV HGO
      clear hd hG hG2 HG hV hL hv hbk hB
      by_cases hdb : 10 ≤ d
      · have VN : Hid (V = none) := HST.out hdb
        clear HST HOV HGO
        go_wp2_with (go_at_call 44; refine (CS.out _).mono ?_; rintro e w' ⟨rfl, hw'⟩; obtain rfl := Eq.symm hw')
        refine bodyPost_ret (v := .tuple #[.agg #[.int .u64 0, .int .u64 0], .bool false]) ?_ rfl ⟨by rw [valA_none VN.out], ?_⟩
        · have z0 := ((HK.out.set 0 (.int .u64 0)).set 1 (.int .u64 0)).cell 0 (v := .int .u64 0) rfl
          have z1 := ((HK.out.set 0 (.int .u64 0)).set 1 (.int .u64 0)).cell 1 (v := .int .u64 0) rfl
          simp [results, Tryz.results28, go_sem, z0, z1]
        · exact HB.out.trans ((((Kept.refl (fun j => w.heap.size ≤ j) wr).set (by simp) _).set (by simp) _).below HB.out.size (fun _ h => h))
      · have hdl : d < 10 := by omega
        have HNB : Hid (¬ 10 ≤ d) := hdb
        have hdd : decide ((10 : Int) ≤ (d : Int)) = false := by simp; omega
        have CG : Hid (Calls Tryz.prog 45 #[.slice (some ⟨g, 0, none⟩) 8 cap, .int .i64 10, .int .i64 (d : Int)] wr fun e w' => ∃ g2 cap2, e = .returned (.tuple #[.slice (some ⟨g2, 0, none⟩) 8 cap2, .bool (decide (v * 10 + d < 65536 ^ 8))]) ∧ w'.cell? ⟨w.heap.size, 0, none⟩ = some (.int .u64 0) ∧ w'.cell? ⟨w.heap.size, 1, none⟩ = some (.int .u64 0) ∧ w'.frozen? ⟨w.heap.size, 0, none⟩ = false ∧ w'.frozen? ⟨w.heap.size, 1, none⟩ = false ∧ Hid (w.heap.size < g2 ∧ LRow w' g2 (lmb (v * 10 + d)) ∧ Blk w' w.heap.size zero37 37 ∧ Below w.heap.size w w')) := by
          refine (grown_any v 10 d g cap HVV.out hdl (by decide) wr HL.out).mono ?_
          rintro e w' ⟨sv, rfl, hrow, hb'⟩
          obtain ⟨g2, cap2, rfl, hg2, hl2⟩ := lrow_of hrow
          have hk' := HK.out.below hb'
          exact ⟨g2, cap2, rfl, hk'.cell 0 rfl, hk'.cell 1 rfl, hk'.frozen 0, hk'.frozen 1, by have := HK.out.lt; omega, hl2, hk', bst HB.out hb'⟩
        clear HST
        cases hq : decide (v * 10 + d < 65536 ^ 8)
        · rw [hq] at CG
          have VN : Hid (V = none) := HOV.out HNB.out (by simpa using hq)
          clear HOV HGO hq HL HVV
          go_wp2_with (go_at_call 44; refine (CS.out _).mono ?_; rintro e w' ⟨rfl, hw'⟩; obtain rfl := Eq.symm hw')
          refine CG.out.mono ?_
          rintro e w2 ⟨g2, cap2, rfl, y0, y1, yf0, yf1, HX⟩
          go_wp2
          refine bodyPost_ret (v := .tuple #[.agg #[.int .u64 0, .int .u64 0], .bool false]) ?_ rfl ⟨by rw [valA_none VN.out], ?_⟩
          · have z0 := ((HX.out.2.2.1.set 0 (.int .u64 0)).set 1 (.int .u64 0)).cell 0 (v := .int .u64 0) rfl
            have z1 := ((HX.out.2.2.1.set 0 (.int .u64 0)).set 1 (.int .u64 0)).cell 1 (v := .int .u64 0) rfl
            simp [results, Tryz.results28, go_sem, z0, z1]
          · exact HX.out.2.2.2.trans ((((Kept.refl (fun j => w.heap.size ≤ j) w2).set (by simp) _).set (by simp) _).below HX.out.2.2.2.size (fun _ h => h))
        · rw [hq] at CG
          have HLQ : Hid (v * 10 + d < 65536 ^ 8) := (show v * 10 + d < 65536 ^ 8 from of_decide_eq_true hq)
          have HVN : Hid (V = growV 10 (s.data.toList.drop (k + 1)) (v * 10 + d)) := HGO.out HNB.out HLQ.out
          clear HOV HGO hq HL HVV
          go_wp2_with (go_at_call 44; refine (CS.out _).mono ?_; rintro e w' ⟨rfl, hw'⟩; obtain rfl := Eq.symm hw')
          refine CG.out.mono ?_
          rintro e w2 ⟨g2, cap2, rfl, y0, y1, yf0, yf1, HX⟩
          go_wp2
          exact ⟨⟨k + 1, by omega, by omega, by go_num, _, g2, cap2, rfl, HX.out.1, HX.out.2.1, HLQ.out, HX.out.2.2.1, HX.out.2.2.2, HVN.out⟩, by simp only [intOf]; omega⟩
    · have e : k = s.size := by omega
      subst e
      have VS : Hid (V = some v) := by show _ = _; rw [hG, List.drop_of_length_le (by simp)]; rfl
      clear hG hV hL hv hbk hB
      obtain ⟨W1, hW1⟩ : ∃ W1, W1 = wr := ⟨_, rfl⟩
      subst hW1
      have HBA : Hid (Blk (W1.alloc (.cells zero37 37)) W1.heap.size zero37 37) := Blk.new _ _ _
      have HLA : Hid (LRow (W1.alloc (.cells zero37 37)) g (lmb v)) := HL.out.kept ((Kept.refl (fun _ => False) _).alloc _) id
      have HKA : Hid (Blk (W1.alloc (.cells zero37 37)) w.heap.size zero37 37) := HK.out.below ((Below.refl _ _).alloc (Nat.le_refl _) _)
      have HBB : Hid (Below w.heap.size w (W1.alloc (.cells zero37 37))) := bst HB.out ((Below.refl _ _).alloc (Nat.le_refl _) _)
      have hgl : g < W1.heap.size := HL.out.lt
      have hwl : w.heap.size < W1.heap.size := HK.out.lt
      have HZ : Hid (v / 65536 ^ 8 = 0 ∧ (v % 18446744073709551616) / 65536 ^ 4 = 0) := ⟨Nat.div_eq_of_lt HVV.out, Nat.div_eq_of_lt (Nat.mod_lt _ (by decide))⟩
      go_wp2
      go_loopw [12] (fun i wq => ∃ (t : Nat), t ≤ 4 ∧ i = .int .i64 (3 - (t : Int)) ∧ Blk wq W1.heap.size #[.int .u64 ((v / 65536 ^ (8 - t) : Nat) : Int), .int .u64 (((v % 18446744073709551616) / 65536 ^ (4 - t) : Nat) : Int)] 37 ∧ LRow wq g (lmb v) ∧ Blk wq w.heap.size zero37 37 ∧ Below w.heap.size w wq) (fun i _ => (intOf i + 1).toNat)
      case atStart => exact ⟨0, by omega, rfl, by simp only [Nat.sub_zero]; rw [HZ.out.1, HZ.out.2]; exact HBA.out, HLA.out, HKA.out, HBB.out⟩
      case round =>
        obtain ⟨t, ht, rfl, hba, hl, hk0, hB⟩ := hrel
        have X1 : Hid (Blk wr W1.heap.size #[.int .u64 ((v / 65536 ^ (8 - t) : Nat) : Int), .int .u64 (((v % 18446744073709551616) / 65536 ^ (4 - t) : Nat) : Int)] 37) := hba
        have X2 : Hid (LRow wr g (lmb v)) := hl
        have X3 : Hid (Blk wr w.heap.size zero37 37) := hk0
        have X4 : Hid (Below w.heap.size w wr) := hB
        by_cases hlt4 : t < 4
        · obtain ⟨j, hj⟩ : ∃ j, 3 - t = j := ⟨_, rfl⟩
          have hjI : (3 : Int) - (t : Int) = (j : Int) := by omega
          have hb1 := hi_lt v t HVV.out ht
          have hb2 := lo_lt v t ht
          have hpw := pow_le4 t (by omega)
          have e1 := hi_step v t hlt4
          have e2 := lo_step v t hlt4
          have l1 := lmb_lt v (7 - t)
          have l2 := lmb_lt v (3 - t)
          have c1 := (hl (j + 4) (by omega)).1
          have c2 := (hl j (by omega)).1
          rw [show lmb v (j + 4) = lmb v (7 - t) by congr 1; omega] at c1
          rw [show lmb v j = lmb v (3 - t) by congr 1; omega] at c2
          have a0 := hba.cell 0 (v := .int .u64 ((v / 65536 ^ (8 - t) : Nat) : Int)) rfl
          have a1 := hba.cell 1 (v := .int .u64 (((v % 18446744073709551616) / 65536 ^ (4 - t) : Nat) : Int)) rfl
          have af0 := hba.frozen 0
          have af1 := hba.frozen 1
          have hjb : j < 4 := by omega
          have E1 : Hid (v / 65536 ^ (8 - (t + 1)) = 65536 * (v / 65536 ^ (8 - t)) + lmb v (7 - t)) := by show _ = _; rw [show 8 - (t + 1) = 7 - t by omega]; exact e1
          have E2 : Hid ((v % 18446744073709551616) / 65536 ^ (4 - (t + 1)) = 65536 * ((v % 18446744073709551616) / 65536 ^ (4 - t)) + lmb v (3 - t)) := by show _ = _; rw [show 4 - (t + 1) = 3 - t by omega]; exact e2
          rw [hjI]
          clear e1 e2 hba hl hk0 hB
          generalize v / 65536 ^ (8 - t) = x at *
          generalize (v % 18446744073709551616) / 65536 ^ (4 - t) = y at *
          generalize lmb v (7 - t) = m at *
          generalize lmb v (3 - t) = n at *
          have hxb : x < 281474976710656 := by omega
          have hyb : y < 281474976710656 := by omega
          clear hb1 hb2 hpw
          have hga : g ≠ W1.heap.size := by omega
          go_wp2
          go_region
          go_wp2
          go_region
          go_wp2
          refine ⟨⟨t + 1, by omega, by first | go_num | (congr 1; omega), ?_, ?_, ?_, ?_⟩, by simp only [intOf]; omega⟩
          · rw [E1.out, E2.out, Int.natCast_add, Int.natCast_mul, Int.natCast_add, Int.natCast_mul]
            exact (X1.out.set 0 _).set 1 _
          · exact X2.out.kept ((((Kept.refl (fun j => j = W1.heap.size) wr).drew.set rfl _).drew).set rfl _) hga
          · exact X3.out.kept ((((Kept.refl (fun j => j = W1.heap.size) wr).drew.set rfl _).drew).set rfl _) (by omega)
          · exact X4.out.trans (((((Kept.refl (fun j => j = W1.heap.size) wr).drew.set rfl _).drew).set rfl _).below X4.out.size (by omega))
        · have e : t = 4 := by omega
          subst e
          have a0 := hba.cell 0 (v := .int .u64 ((v / 65536 ^ (8 - 4) : Nat) : Int)) rfl
          have a1 := hba.cell 1 (v := .int .u64 (((v % 18446744073709551616) / 65536 ^ (4 - 4) : Nat) : Int)) rfl
          have af0 := hba.frozen 0
          have af1 := hba.frozen 1
          have k0 := hk0.cell 0 (v := .int .u64 0) rfl
          have k1 := hk0.cell 1 (v := .int .u64 0) rfl
          have kf0 := hk0.frozen 0
          have kf1 := hk0.frozen 1
          have EV : Hid (valA V = .tuple #[.agg #[.int .u64 ((v / 65536 ^ (8 - 4) : Nat) : Int), .int .u64 (((v % 18446744073709551616) / 65536 ^ (4 - 4) : Nat) : Int)], .bool true]) := valA_some VS.out
          clear hba hl hk0 hB
          generalize v / 65536 ^ (8 - 4) = x at *
          generalize (v % 18446744073709551616) / 65536 ^ (4 - 4) = y at *
          go_wp2
          refine bodyPost_ret (v := .tuple #[.agg #[.int .u64 (x : Int), .int .u64 (y : Int)], .bool true]) ?_ rfl ⟨by rw [EV.out], ?_⟩
          · have z0 := ((X3.out.set 0 (.int .u64 (x : Int))).set 1 (.int .u64 (y : Int))).cell 0 (v := .int .u64 (x : Int)) rfl
            have z1 := ((X3.out.set 0 (.int .u64 (x : Int))).set 1 (.int .u64 (y : Int))).cell 1 (v := .int .u64 (y : Int)) rfl
            simp [results, Tryz.results28, go_sem, z0, z1]
          · exact X4.out.trans ((((Kept.refl (fun j => w.heap.size ≤ j) wr).set (by simp) _).set (by simp) _).below X4.out.size (fun _ h => h))

set_option maxHeartbeats 4000000 in
set_option maxRecDepth 100000 in
theorem val10b (s : ByteArray) (hs : s.size ≤ 65536) (h2 : 1 < s.size) (h0 : s[0] ≠ 48) (w : World) (V : Option Nat) (hV : V = growV 10 (s.data.toList.drop 0) 0) :
    Calls Tryz.prog 28 #[.string s] w fun e w' => e = .returned (valA V) ∧ Below w.heap.size w w' := by
  have HV : Hid (V = growV 10 (s.data.toList.drop 0) 0) := hV
  have hs0 : 0 < s.size := by omega
  have q0 : decide ((1 : Int) < (s.size : Int)) = true := by simp; omega
  have q1 : ((s[0].toNat : Int) == 48) = false := by
    rw [beq_eq_false_iff_ne]; intro h; exact h0 (UInt8.toNat_inj.1 (by rw [show (48 : UInt8).toNat = 48 from rfl]; omega))
  have q4 : decide ((s.size : Int) ≤ 0) = false := decide_eq_false (by omega)
  have hne : ¬ s = ByteArray.empty := fun e => by rw [e] at h2; exact absurd h2 (by decide)
  clear hV h0
  go_enter Tryz.func28, Tryz.ntmps28
  go_wp2
  go_loopw [6, 7] (fun l i wr => ∃ (k : Nat), 0 ≤ k ∧ k ≤ s.size ∧ i = .int .i64 k ∧ Aside (VAt 10 s w V k l wr)) (fun _ i _ => s.size - (intOf i).toNat)
  case atStart => exact ⟨0, by omega, by omega, rfl, v_start HV.out⟩
  case round =>
    obtain ⟨k, hk0, hk, rfl, hV⟩ := hrel
    obtain ⟨v, g, cap, rfl, hg, hL, hv, hbk, hB, hG⟩ := hV.out
    have HL : Hid (LRow wr g (lmb v)) := hL
    have HK : Hid (Blk wr w.heap.size zero37 37) := hbk
    have HB : Hid (Below w.heap.size w wr) := hB
    have HVV : Hid (v < 65536 ^ 8) := hv
    have b0 := hbk.cell 0 (v := .int .u64 0) rfl
    have b1 := hbk.cell 1 (v := .int .u64 0) rfl
    have bf0 := hbk.frozen 0
    have bf1 := hbk.frozen 1
    by_cases hlt : k < s.size
    · have hG2 : V = growV 10 (s[k] :: s.data.toList.drop (k + 1)) v := by rw [← byteAt s hlt]; exact hG
      have HG : Hid (V = growV 10 (s[k] :: s.data.toList.drop (k + 1)) v) := hG2
      have CS : Hid (∀ w, Calls Tryz.prog 44 #[.int .u8 (s[k].toNat : Int)] w fun e w' => e = .returned (.int .i64 (saysN s[k] : Int)) ∧ w' = w) := rsays_any s[k]
      have hsb : saysN s[k] ≤ 255 := by
        have : s[k].toNat < 256 := UInt8.toNat_lt _
        unfold saysN; split
        · omega
        · split
          · omega
          · split <;> omega
      have HST : Hid (10 ≤ saysN s[k] → V = none) := fun h => by rw [HG.out]; exact grow_stop h
      have HOV : Hid (¬ 10 ≤ saysN s[k] → ¬ v * 10 + saysN s[k] < 65536 ^ 8 → V = none) := fun h h2 => by rw [HG.out]; exact grow_over h h2
      have HGO : Hid (¬ 10 ≤ saysN s[k] → v * 10 + saysN s[k] < 65536 ^ 8 → V = growV 10 (s.data.toList.drop (k + 1)) (v * 10 + saysN s[k])) := fun h h2 => by rw [HG.out]; exact grow_go h h2
      obtain ⟨d, hd⟩ : ∃ d, d = saysN s[k] := ⟨_, rfl⟩
      rw [← hd] at CS hsb HST HOV HGO
      clear hd hG hG2 HG hV hL hv hbk hB
      by_cases hdb : 10 ≤ d
      · have VN : Hid (V = none) := HST.out hdb
        clear HST HOV HGO
        go_wp2_with (go_at_call 44; refine (CS.out _).mono ?_; rintro e w' ⟨rfl, hw'⟩; obtain rfl := Eq.symm hw')
        refine bodyPost_ret (v := .tuple #[.agg #[.int .u64 0, .int .u64 0], .bool false]) ?_ rfl ⟨by rw [valA_none VN.out], ?_⟩
        · have z0 := ((HK.out.set 0 (.int .u64 0)).set 1 (.int .u64 0)).cell 0 (v := .int .u64 0) rfl
          have z1 := ((HK.out.set 0 (.int .u64 0)).set 1 (.int .u64 0)).cell 1 (v := .int .u64 0) rfl
          simp [results, Tryz.results28, go_sem, z0, z1]
        · exact HB.out.trans ((((Kept.refl (fun j => w.heap.size ≤ j) wr).set (by simp) _).set (by simp) _).below HB.out.size (fun _ h => h))
      · have hdl : d < 10 := by omega
        have HNB : Hid (¬ 10 ≤ d) := hdb
        have hdd : decide ((10 : Int) ≤ (d : Int)) = false := by simp; omega
        have CG : Hid (Calls Tryz.prog 45 #[.slice (some ⟨g, 0, none⟩) 8 cap, .int .i64 10, .int .i64 (d : Int)] wr fun e w' => ∃ g2 cap2, e = .returned (.tuple #[.slice (some ⟨g2, 0, none⟩) 8 cap2, .bool (decide (v * 10 + d < 65536 ^ 8))]) ∧ w'.cell? ⟨w.heap.size, 0, none⟩ = some (.int .u64 0) ∧ w'.cell? ⟨w.heap.size, 1, none⟩ = some (.int .u64 0) ∧ w'.frozen? ⟨w.heap.size, 0, none⟩ = false ∧ w'.frozen? ⟨w.heap.size, 1, none⟩ = false ∧ Hid (w.heap.size < g2 ∧ LRow w' g2 (lmb (v * 10 + d)) ∧ Blk w' w.heap.size zero37 37 ∧ Below w.heap.size w w')) := by
          refine (grown_any v 10 d g cap HVV.out hdl (by decide) wr HL.out).mono ?_
          rintro e w' ⟨sv, rfl, hrow, hb'⟩
          obtain ⟨g2, cap2, rfl, hg2, hl2⟩ := lrow_of hrow
          have hk' := HK.out.below hb'
          exact ⟨g2, cap2, rfl, hk'.cell 0 rfl, hk'.cell 1 rfl, hk'.frozen 0, hk'.frozen 1, by have := HK.out.lt; omega, hl2, hk', bst HB.out hb'⟩
        clear HST
        cases hq : decide (v * 10 + d < 65536 ^ 8)
        · rw [hq] at CG
          have VN : Hid (V = none) := HOV.out HNB.out (by simpa using hq)
          clear HOV HGO hq HL HVV
          go_wp2_with (go_at_call 44; refine (CS.out _).mono ?_; rintro e w' ⟨rfl, hw'⟩; obtain rfl := Eq.symm hw')
          refine CG.out.mono ?_
          rintro e w2 ⟨g2, cap2, rfl, y0, y1, yf0, yf1, HX⟩
          go_wp2
          refine bodyPost_ret (v := .tuple #[.agg #[.int .u64 0, .int .u64 0], .bool false]) ?_ rfl ⟨by rw [valA_none VN.out], ?_⟩
          · have z0 := ((HX.out.2.2.1.set 0 (.int .u64 0)).set 1 (.int .u64 0)).cell 0 (v := .int .u64 0) rfl
            have z1 := ((HX.out.2.2.1.set 0 (.int .u64 0)).set 1 (.int .u64 0)).cell 1 (v := .int .u64 0) rfl
            simp [results, Tryz.results28, go_sem, z0, z1]
          · exact HX.out.2.2.2.trans ((((Kept.refl (fun j => w.heap.size ≤ j) w2).set (by simp) _).set (by simp) _).below HX.out.2.2.2.size (fun _ h => h))
        · rw [hq] at CG
          have HLQ : Hid (v * 10 + d < 65536 ^ 8) := (show v * 10 + d < 65536 ^ 8 from of_decide_eq_true hq)
          have HVN : Hid (V = growV 10 (s.data.toList.drop (k + 1)) (v * 10 + d)) := HGO.out HNB.out HLQ.out
          clear HOV HGO hq HL HVV
          go_wp2_with (go_at_call 44; refine (CS.out _).mono ?_; rintro e w' ⟨rfl, hw'⟩; obtain rfl := Eq.symm hw')
          refine CG.out.mono ?_
          rintro e w2 ⟨g2, cap2, rfl, y0, y1, yf0, yf1, HX⟩
          go_wp2
          exact ⟨⟨k + 1, by omega, by omega, by go_num, _, g2, cap2, rfl, HX.out.1, HX.out.2.1, HLQ.out, HX.out.2.2.1, HX.out.2.2.2, HVN.out⟩, by simp only [intOf]; omega⟩
    · have e : k = s.size := by omega
      subst e
      have VS : Hid (V = some v) := by show _ = _; rw [hG, List.drop_of_length_le (by simp)]; rfl
      clear hG hV hL hv hbk hB
      obtain ⟨W1, hW1⟩ : ∃ W1, W1 = wr := ⟨_, rfl⟩
      subst hW1
      have HBA : Hid (Blk (W1.alloc (.cells zero37 37)) W1.heap.size zero37 37) := Blk.new _ _ _
      have HLA : Hid (LRow (W1.alloc (.cells zero37 37)) g (lmb v)) := HL.out.kept ((Kept.refl (fun _ => False) _).alloc _) id
      have HKA : Hid (Blk (W1.alloc (.cells zero37 37)) w.heap.size zero37 37) := HK.out.below ((Below.refl _ _).alloc (Nat.le_refl _) _)
      have HBB : Hid (Below w.heap.size w (W1.alloc (.cells zero37 37))) := bst HB.out ((Below.refl _ _).alloc (Nat.le_refl _) _)
      have hgl : g < W1.heap.size := HL.out.lt
      have hwl : w.heap.size < W1.heap.size := HK.out.lt
      have HZ : Hid (v / 65536 ^ 8 = 0 ∧ (v % 18446744073709551616) / 65536 ^ 4 = 0) := ⟨Nat.div_eq_of_lt HVV.out, Nat.div_eq_of_lt (Nat.mod_lt _ (by decide))⟩
      go_wp2
      go_loopw [12] (fun i wq => ∃ (t : Nat), t ≤ 4 ∧ i = .int .i64 (3 - (t : Int)) ∧ Blk wq W1.heap.size #[.int .u64 ((v / 65536 ^ (8 - t) : Nat) : Int), .int .u64 (((v % 18446744073709551616) / 65536 ^ (4 - t) : Nat) : Int)] 37 ∧ LRow wq g (lmb v) ∧ Blk wq w.heap.size zero37 37 ∧ Below w.heap.size w wq) (fun i _ => (intOf i + 1).toNat)
      case atStart => exact ⟨0, by omega, rfl, by simp only [Nat.sub_zero]; rw [HZ.out.1, HZ.out.2]; exact HBA.out, HLA.out, HKA.out, HBB.out⟩
      case round =>
        obtain ⟨t, ht, rfl, hba, hl, hk0, hB⟩ := hrel
        have X1 : Hid (Blk wr W1.heap.size #[.int .u64 ((v / 65536 ^ (8 - t) : Nat) : Int), .int .u64 (((v % 18446744073709551616) / 65536 ^ (4 - t) : Nat) : Int)] 37) := hba
        have X2 : Hid (LRow wr g (lmb v)) := hl
        have X3 : Hid (Blk wr w.heap.size zero37 37) := hk0
        have X4 : Hid (Below w.heap.size w wr) := hB
        by_cases hlt4 : t < 4
        · obtain ⟨j, hj⟩ : ∃ j, 3 - t = j := ⟨_, rfl⟩
          have hjI : (3 : Int) - (t : Int) = (j : Int) := by omega
          have hb1 := hi_lt v t HVV.out ht
          have hb2 := lo_lt v t ht
          have hpw := pow_le4 t (by omega)
          have e1 := hi_step v t hlt4
          have e2 := lo_step v t hlt4
          have l1 := lmb_lt v (7 - t)
          have l2 := lmb_lt v (3 - t)
          have c1 := (hl (j + 4) (by omega)).1
          have c2 := (hl j (by omega)).1
          rw [show lmb v (j + 4) = lmb v (7 - t) by congr 1; omega] at c1
          rw [show lmb v j = lmb v (3 - t) by congr 1; omega] at c2
          have a0 := hba.cell 0 (v := .int .u64 ((v / 65536 ^ (8 - t) : Nat) : Int)) rfl
          have a1 := hba.cell 1 (v := .int .u64 (((v % 18446744073709551616) / 65536 ^ (4 - t) : Nat) : Int)) rfl
          have af0 := hba.frozen 0
          have af1 := hba.frozen 1
          have hjb : j < 4 := by omega
          have E1 : Hid (v / 65536 ^ (8 - (t + 1)) = 65536 * (v / 65536 ^ (8 - t)) + lmb v (7 - t)) := by show _ = _; rw [show 8 - (t + 1) = 7 - t by omega]; exact e1
          have E2 : Hid ((v % 18446744073709551616) / 65536 ^ (4 - (t + 1)) = 65536 * ((v % 18446744073709551616) / 65536 ^ (4 - t)) + lmb v (3 - t)) := by show _ = _; rw [show 4 - (t + 1) = 3 - t by omega]; exact e2
          rw [hjI]
          clear e1 e2 hba hl hk0 hB
          generalize v / 65536 ^ (8 - t) = x at *
          generalize (v % 18446744073709551616) / 65536 ^ (4 - t) = y at *
          generalize lmb v (7 - t) = m at *
          generalize lmb v (3 - t) = n at *
          have hxb : x < 281474976710656 := by omega
          have hyb : y < 281474976710656 := by omega
          clear hb1 hb2 hpw
          have hga : g ≠ W1.heap.size := by omega
          go_wp2
          go_region
          go_wp2
          go_region
          go_wp2
          refine ⟨⟨t + 1, by omega, by first | go_num | (congr 1; omega), ?_, ?_, ?_, ?_⟩, by simp only [intOf]; omega⟩
          · rw [E1.out, E2.out, Int.natCast_add, Int.natCast_mul, Int.natCast_add, Int.natCast_mul]
            exact (X1.out.set 0 _).set 1 _
          · exact X2.out.kept ((((Kept.refl (fun j => j = W1.heap.size) wr).drew.set rfl _).drew).set rfl _) hga
          · exact X3.out.kept ((((Kept.refl (fun j => j = W1.heap.size) wr).drew.set rfl _).drew).set rfl _) (by omega)
          · exact X4.out.trans (((((Kept.refl (fun j => j = W1.heap.size) wr).drew.set rfl _).drew).set rfl _).below X4.out.size (by omega))
        · have e : t = 4 := by omega
          subst e
          have a0 := hba.cell 0 (v := .int .u64 ((v / 65536 ^ (8 - 4) : Nat) : Int)) rfl
          have a1 := hba.cell 1 (v := .int .u64 (((v % 18446744073709551616) / 65536 ^ (4 - 4) : Nat) : Int)) rfl
          have af0 := hba.frozen 0
          have af1 := hba.frozen 1
          have k0 := hk0.cell 0 (v := .int .u64 0) rfl
          have k1 := hk0.cell 1 (v := .int .u64 0) rfl
          have kf0 := hk0.frozen 0
          have kf1 := hk0.frozen 1
          have EV : Hid (valA V = .tuple #[.agg #[.int .u64 ((v / 65536 ^ (8 - 4) : Nat) : Int), .int .u64 (((v % 18446744073709551616) / 65536 ^ (4 - 4) : Nat) : Int)], .bool true]) := valA_some VS.out
          clear hba hl hk0 hB
          generalize v / 65536 ^ (8 - 4) = x at *
          generalize (v % 18446744073709551616) / 65536 ^ (4 - 4) = y at *
          go_wp2
          refine bodyPost_ret (v := .tuple #[.agg #[.int .u64 (x : Int), .int .u64 (y : Int)], .bool true]) ?_ rfl ⟨by rw [EV.out], ?_⟩
          · have z0 := ((X3.out.set 0 (.int .u64 (x : Int))).set 1 (.int .u64 (y : Int))).cell 0 (v := .int .u64 (x : Int)) rfl
            have z1 := ((X3.out.set 0 (.int .u64 (x : Int))).set 1 (.int .u64 (y : Int))).cell 1 (v := .int .u64 (y : Int)) rfl
            simp [results, Tryz.results28, go_sem, z0, z1]
          · exact X4.out.trans ((((Kept.refl (fun j => w.heap.size ≤ j) wr).set (by simp) _).set (by simp) _).below X4.out.size (fun _ h => h))

theorem valN0 (s : ByteArray) (hs : s.size ≤ 65536) (h2 : s.size = 0) (w : World) :
    Calls Tryz.prog 28 #[.string s] w fun e w' => e = .returned (valA none) ∧ Below w.heap.size w w' := by
  have VN : Hid ((none : Option Nat) = none) := rfl
  have NA : Hid (valA none = .tuple #[.agg #[.int .u64 0, .int .u64 0], .bool false]) := valA_none rfl
  generalize valA none = VA at *
  have q0 : decide ((1 : Int) < (s.size : Int)) = false := by simp; omega
  have q4 : decide ((s.size : Int) ≤ 0) = true := decide_eq_true (by omega)
  go_enter Tryz.func28, Tryz.ntmps28
  go_wp2
  refine bodyPost_ret (v := .tuple #[.agg #[.int .u64 0, .int .u64 0], .bool false]) ?_ rfl ⟨by rw [NA.out], ?_⟩
  · simp [results, Tryz.results28, go_sem]
  · go_grown

theorem valN16 (s : ByteArray) (hs : s.size ≤ 65536) (h2 : s.size = 2) (h0 : s[0] = 48) (h1 : s[1] = 120) (w : World) :
    Calls Tryz.prog 28 #[.string s] w fun e w' => e = .returned (valA none) ∧ Below w.heap.size w w' := by
  have VN : Hid ((none : Option Nat) = none) := rfl
  have NA : Hid (valA none = .tuple #[.agg #[.int .u64 0, .int .u64 0], .bool false]) := valA_none rfl
  generalize valA none = VA at *
  have hs1 : 1 < s.size := by omega
  have hs0 : 0 < s.size := by omega
  have q0 : decide ((1 : Int) < (s.size : Int)) = true := by simp; omega
  have q1 : ((s[0].toNat : Int) == 48) = true := by rw [h0]; rfl
  have q2 : ((s[1].toNat : Int) != 120) = false := by rw [h1]; rfl
  have q2b : ((s[1].toNat : Int) != 98) = true := by rw [h1]; rfl
  have q3 : ((s[1].toNat : Int) == 98) = false := by rw [h1]; rfl
  have q4 : decide ((s.size : Int) ≤ 2) = true := by simp; omega
  clear h0 h1
  go_enter Tryz.func28, Tryz.ntmps28
  go_wp2
  refine bodyPost_ret (v := .tuple #[.agg #[.int .u64 0, .int .u64 0], .bool false]) ?_ rfl ⟨by rw [NA.out], ?_⟩
  · simp [results, Tryz.results28, go_sem]
  · go_grown

theorem valN2 (s : ByteArray) (hs : s.size ≤ 65536) (h2 : s.size = 2) (h0 : s[0] = 48) (h1 : s[1] = 98) (w : World) :
    Calls Tryz.prog 28 #[.string s] w fun e w' => e = .returned (valA none) ∧ Below w.heap.size w w' := by
  have VN : Hid ((none : Option Nat) = none) := rfl
  have NA : Hid (valA none = .tuple #[.agg #[.int .u64 0, .int .u64 0], .bool false]) := valA_none rfl
  generalize valA none = VA at *
  have hs1 : 1 < s.size := by omega
  have hs0 : 0 < s.size := by omega
  have q0 : decide ((1 : Int) < (s.size : Int)) = true := by simp; omega
  have q1 : ((s[0].toNat : Int) == 48) = true := by rw [h0]; rfl
  have q2 : ((s[1].toNat : Int) != 120) = true := by rw [h1]; rfl
  have q2b : ((s[1].toNat : Int) != 98) = false := by rw [h1]; rfl
  have q3 : ((s[1].toNat : Int) == 98) = true := by rw [h1]; rfl
  have q4 : decide ((s.size : Int) ≤ 2) = true := by simp; omega
  clear h0 h1
  go_enter Tryz.func28, Tryz.ntmps28
  go_wp2
  refine bodyPost_ret (v := .tuple #[.agg #[.int .u64 0, .int .u64 0], .bool false]) ?_ rfl ⟨by rw [NA.out], ?_⟩
  · simp [results, Tryz.results28, go_sem]
  · go_grown

theorem valNx (s : ByteArray) (hs : s.size ≤ 65536) (h2 : 1 < s.size) (h0 : s[0] = 48) (h1 : s[1] ≠ 120) (h3 : s[1] ≠ 98) (w : World) :
    Calls Tryz.prog 28 #[.string s] w fun e w' => e = .returned (valA none) ∧ Below w.heap.size w w' := by
  have VN : Hid ((none : Option Nat) = none) := rfl
  have NA : Hid (valA none = .tuple #[.agg #[.int .u64 0, .int .u64 0], .bool false]) := valA_none rfl
  generalize valA none = VA at *
  have hs0 : 0 < s.size := by omega
  have q0 : decide ((1 : Int) < (s.size : Int)) = true := by simp; omega
  have q1 : ((s[0].toNat : Int) == 48) = true := by rw [h0]; rfl
  have q2 : ((s[1].toNat : Int) != 120) = true := by
    rw [bne_iff_ne]; intro h; exact h1 (UInt8.toNat_inj.1 (by rw [show (120 : UInt8).toNat = 120 from rfl]; omega))
  have q3 : ((s[1].toNat : Int) != 98) = true := by
    rw [bne_iff_ne]; intro h; exact h3 (UInt8.toNat_inj.1 (by rw [show (98 : UInt8).toNat = 98 from rfl]; omega))
  clear h0 h1 h3
  go_enter Tryz.func28, Tryz.ntmps28
  go_wp2
  refine bodyPost_ret (v := .tuple #[.agg #[.int .u64 0, .int .u64 0], .bool false]) ?_ rfl ⟨by rw [NA.out], ?_⟩
  · simp [results, Tryz.results28, go_sem]
  · go_grown

theorem rvalue_any (s : ByteArray) (hs : s.size ≤ 65536) (w : World) : Calls Tryz.prog 28 #[.string s] w fun e w' => e = .returned (valA (valR s.data.toList)) ∧ Below w.heap.size w w' := by
  have hlen : s.data.toList.length = s.size := by simp
  by_cases h0 : s.size = 0
  · have e : s.data.toList = [] := List.length_eq_zero_iff.1 (by omega)
    rw [show valR s.data.toList = none by rw [e]; rfl]
    exact valN0 s hs h0 w
  · have hne : s.data.toList ≠ [] := fun e => by rw [e] at hlen; simp at hlen; omega
    have hhd : s.data.toList.head? = some (s[0]'(by omega)) := by rw [List.head?_eq_getElem?]; exact getAt s (by omega)
    by_cases h1 : 1 < s.size
    · by_cases hz : s[0] = 48
      · have hc : 1 < s.data.toList.length ∧ s.data.toList.head? = some 48 := ⟨by omega, by rw [hhd, hz]⟩
        have h1e : s.data.toList[1]? = some (s[1]'h1) := getAt s h1
        by_cases hx : s[1] = 120
        · by_cases h2 : 2 < s.size
          · refine val16 s hs h2 hz hx w _ ?_
            unfold valR
            rw [if_pos hc, h1e, if_pos (by rw [hx]), if_neg (fun e => by have := congrArg List.length e; simp at this; omega)]
          · have e2 : s.size = 2 := by omega
            have e : valR s.data.toList = none := by
              unfold valR
              rw [if_pos hc, h1e, if_pos (by rw [hx]), if_pos (List.drop_eq_nil_of_le (by omega))]
            rw [e]
            exact valN16 s hs e2 hz hx w
        · by_cases hb : s[1] = 98
          · by_cases h2 : 2 < s.size
            · refine val2 s hs h2 hz hb w _ ?_
              unfold valR
              rw [if_pos hc, h1e, if_neg (by simpa using hx), if_pos (by rw [hb]), if_neg (fun e => by have := congrArg List.length e; simp at this; omega)]
            · have e2 : s.size = 2 := by omega
              have e : valR s.data.toList = none := by
                unfold valR
                rw [if_pos hc, h1e, if_neg (by simpa using hx), if_pos (by rw [hb]), if_pos (List.drop_eq_nil_of_le (by omega))]
              rw [e]
              exact valN2 s hs e2 hz hb w
          · have e : valR s.data.toList = none := by
              unfold valR
              rw [if_pos hc, h1e, if_neg (by simpa using hx), if_neg (by simpa using hb)]
            rw [e]
            exact valNx s hs h1 hz hx hb w
      · refine val10b s hs h1 hz w _ ?_
        unfold valR
        rw [if_neg (fun h => hz (by have := h.2; rw [hhd] at this; simpa using this)), if_neg hne]; rfl
    · refine val10a s hs (by omega) w _ ?_
      unfold valR
      rw [if_neg (fun h => by omega), if_neg hne]; rfl
end Go.Proofs.YtlgfpjaomiomjaaGreatDoor
