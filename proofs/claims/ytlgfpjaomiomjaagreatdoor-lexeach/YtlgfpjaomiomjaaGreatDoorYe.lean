/- The document's Value. -/
import Derived.Test.YtlgfpjaomiomjaaGreatDoorYd
namespace Go.Proofs.YtlgfpjaomiomjaaGreatDoor
open Go.RowKit
set_option linter.unusedVariables false
set_option linter.unusedSimpArgs false

abbrev zero37 : Array Value := #[.int .u64 0, .int .u64 0]
def VAt (base : Nat) (s : ByteArray) (w : World) (V : Option Nat) (k : Nat) (l : Value) (wr : World) : Prop :=
  ∃ v g cap : Nat, l = .slice (some ⟨g, 0, none⟩) 8 cap ∧ w.heap.size < g ∧ LRow wr g (lmb v) ∧ v < 65536 ^ 8 ∧ Blk wr w.heap.size zero37 37 ∧ Below w.heap.size w wr ∧ V = growV base (s.data.toList.drop k) v
theorem v_start {base at0 : Nat} {s : ByteArray} {w : World} {V : Option Nat} (h : V = growV base (s.data.toList.drop at0) 0) :
    VAt base s w V at0 (.slice (some ⟨w.heap.size + 1, 0, none⟩) 8 8) ((w.alloc (.cells zero37 37)).alloc (.cells #[.int .i64 0, .int .i64 0, .int .i64 0, .int .i64 0, .int .i64 0, .int .i64 0, .int .i64 0, .int .i64 0] 3)) := by
  have hb : Blk ((w.alloc (.cells zero37 37)).alloc (.cells #[.int .i64 0, .int .i64 0, .int .i64 0, .int .i64 0, .int .i64 0, .int .i64 0, .int .i64 0, .int .i64 0] 3)) (w.heap.size + 1) #[.int .i64 0, .int .i64 0, .int .i64 0, .int .i64 0, .int .i64 0, .int .i64 0, .int .i64 0, .int .i64 0] 3 := by
    have := Blk.new (w.alloc (.cells zero37 37)) #[.int .i64 0, .int .i64 0, .int .i64 0, .int .i64 0, .int .i64 0, .int .i64 0, .int .i64 0, .int .i64 0] 3
    simpa using this
  have z : ∀ j, lmb 0 j = 0 := fun j => by simp [lmb]
  refine ⟨0, w.heap.size + 1, 8, rfl, by omega, fun j hj => ⟨?_, hb.frozen j⟩, by decide, (Blk.new _ _ _).below ((Below.refl _ _).alloc (Nat.le_refl _) _), ((Below.refl _ _).alloc (Nat.le_refl _) _).alloc (by simp) _, h⟩
  rw [z]
  match j, hj with
  | 0, _ => exact hb.cell 0 rfl
  | 1, _ => exact hb.cell 1 rfl
  | 2, _ => exact hb.cell 2 rfl
  | 3, _ => exact hb.cell 3 rfl
  | 4, _ => exact hb.cell 4 rfl
  | 5, _ => exact hb.cell 5 rfl
  | 6, _ => exact hb.cell 6 rfl
  | 7, _ => exact hb.cell 7 rfl
theorem m128 : M128 = 65536 ^ 8 := by decide
theorem grow_stop {base : Nat} {c : UInt8} {cs : List UInt8} {a : Nat} (h : base ≤ saysN c) : growV base (c :: cs) a = none := by rw [growV, if_pos h]
theorem grow_over {base : Nat} {c : UInt8} {cs : List UInt8} {a : Nat} (h : ¬ base ≤ saysN c) (h2 : ¬ a * base + saysN c < 65536 ^ 8) : growV base (c :: cs) a = none := by rw [growV, if_neg h, if_pos (by rw [m128]; omega)]
theorem grow_go {base : Nat} {c : UInt8} {cs : List UInt8} {a : Nat} (h : ¬ base ≤ saysN c) (h2 : a * base + saysN c < 65536 ^ 8) : growV base (c :: cs) a = growV base cs (a * base + saysN c) := by rw [growV, if_neg h, if_neg (by rw [m128]; omega)]
/-- The two halves, part by part. -/
theorem hi_step (v t : Nat) (ht : t < 4) : v / 65536 ^ (7 - t) = 65536 * (v / 65536 ^ (8 - t)) + lmb v (7 - t) := by
  rw [show 8 - t = (7 - t) + 1 by omega, Nat.pow_succ, ← Nat.div_div_eq_div_mul]
  unfold lmb
  generalize v / 65536 ^ (7 - t) = x
  omega
theorem lo_step (v t : Nat) (ht : t < 4) : (v % 18446744073709551616) / 65536 ^ (3 - t) = 65536 * ((v % 18446744073709551616) / 65536 ^ (4 - t)) + lmb v (3 - t) := by
  rw [← lmb_lo v (show 3 - t < 4 by omega), show 4 - t = (3 - t) + 1 by omega, Nat.pow_succ, ← Nat.div_div_eq_div_mul]
  generalize (v % 18446744073709551616) / 65536 ^ (3 - t) = x
  omega
theorem hi_lt (v t : Nat) (hv : v < 65536 ^ 8) (ht : t ≤ 4) : v / 65536 ^ (8 - t) < 65536 ^ t := by
  rw [Nat.div_lt_iff_lt_mul (Nat.pow_pos (by decide)), ← Nat.pow_add, show t + (8 - t) = 8 by omega]; exact hv
theorem lo_lt (v t : Nat) (ht : t ≤ 4) : (v % 18446744073709551616) / 65536 ^ (4 - t) < 65536 ^ t := by
  rw [Nat.div_lt_iff_lt_mul (Nat.pow_pos (by decide)), ← Nat.pow_add, show t + (4 - t) = 4 by omega]
  exact Nat.mod_lt _ (by decide)
theorem pow_le4 (t : Nat) (ht : t ≤ 3) : 65536 ^ t ≤ 281474976710656 := by
  rw [show (281474976710656 : Nat) = 65536 ^ 3 by decide]; exact Nat.pow_le_pow_right (by decide) ht
def valA (V : Option Nat) : Value := match V with
  | some v => .tuple #[B v, .bool true]
  | none => .tuple #[B 0, .bool false]
theorem valA_none {V : Option Nat} (h : V = none) : valA V = .tuple #[.agg #[.int .u64 0, .int .u64 0], .bool false] := by rw [h]; rfl
theorem valA_some {V : Option Nat} {v : Nat} (h : V = some v) : valA V = .tuple #[.agg #[.int .u64 ((v / 65536 ^ 4 : Nat) : Int), .int .u64 (((v % 18446744073709551616) / 65536 ^ 0 : Nat) : Int)], .bool true] := by
  rw [h, Nat.pow_zero, Nat.div_one]; rfl

set_option maxHeartbeats 4000000 in
set_option maxRecDepth 100000 in
theorem val16 (s : ByteArray) (hs : s.size ≤ 65536) (h2 : 2 < s.size) (h0 : s[0] = 48) (h1 : s[1] = 120) (w : World) (V : Option Nat) (hV : V = growV 16 (s.data.toList.drop 2) 0) :
    Calls Tryz.prog 28 #[.string s] w fun e w' => e = .returned (valA V) ∧ Below w.heap.size w w' := by
  have HV : Hid (V = growV 16 (s.data.toList.drop 2) 0) := hV
  have hs1 : 1 < s.size := by omega
  have hs0 : 0 < s.size := by omega
  have q0 : decide ((1 : Int) < (s.size : Int)) = true := by simp; omega
  have q1 : ((s[0].toNat : Int) == 48) = true := by rw [h0]; rfl
  have q2 : ((s[1].toNat : Int) != 120) = false := by rw [h1]; rfl
  have q2b : ((s[1].toNat : Int) != 98) = true := by rw [h1]; rfl
  have q3 : ((s[1].toNat : Int) == 98) = false := by rw [h1]; rfl
  have q4 : decide ((s.size : Int) ≤ 2) = false := by simp; omega
  clear hV h0 h1
  go_enter Tryz.func28, Tryz.ntmps28
  go_wp2
  go_loopw [6, 7] (fun l i wr => ∃ (k : Nat), 2 ≤ k ∧ k ≤ s.size ∧ i = .int .i64 k ∧ Aside (VAt 16 s w V k l wr)) (fun _ i _ => s.size - (intOf i).toNat)
  case atStart => exact ⟨2, by omega, by omega, rfl, v_start HV.out⟩
  case round =>
    obtain ⟨k, hk0, hk, rfl, hV⟩ := hrel
    obtain ⟨v, g, cap, rfl, hg, hL, hv, hbk, hB, hG⟩ := hV.out
    have HL : Hid (LRow wr g (lmb v)) := hL
    have HK : Hid (Blk wr w.heap.size zero37 37) := hbk
    have HB : Hid (Below w.heap.size w wr) := hB
    have HVV : Hid (v < 65536 ^ 8) := hv
    have b0 := hbk.cell 0 (v := .int .u64 0) rfl
    have b1 := hbk.cell 1 (v := .int .u64 0) rfl
    have bf0 := hbk.frozen 0
    have bf1 := hbk.frozen 1
    by_cases hlt : k < s.size
    · have hG2 : V = growV 16 (s[k] :: s.data.toList.drop (k + 1)) v := by rw [← byteAt s hlt]; exact hG
      have HG : Hid (V = growV 16 (s[k] :: s.data.toList.drop (k + 1)) v) := hG2
      have CS : Hid (∀ w, Calls Tryz.prog 44 #[.int .u8 (s[k].toNat : Int)] w fun e w' => e = .returned (.int .i64 (saysN s[k] : Int)) ∧ w' = w) := rsays_any s[k]
      have hsb : saysN s[k] ≤ 255 := by
        have : s[k].toNat < 256 := UInt8.toNat_lt _
        unfold saysN; split
        · omega
        · split
          · omega
          · split <;> omega
      have HST : Hid (16 ≤ saysN s[k] → V = none) := fun h => by rw [HG.out]; exact grow_stop h
      have HOV : Hid (¬ 16 ≤ saysN s[k] → ¬ v * 16 + saysN s[k] < 65536 ^ 8 → V = none) := fun h h2 => by rw [HG.out]; exact grow_over h h2
      have HGO : Hid (¬ 16 ≤ saysN s[k] → v * 16 + saysN s[k] < 65536 ^ 8 → V = growV 16 (s.data.toList.drop (k + 1)) (v * 16 + saysN s[k])) := fun h h2 => by rw [HG.out]; exact grow_go h h2
      obtain ⟨d, hd⟩ : ∃ d, d = saysN s[k] := ⟨_, rfl⟩
      rw [← hd] at CS hsb HST HOV HGO
      clear hd hG hG2 HG hV hL hv hbk hB
      by_cases hdb : 16 ≤ d
      · have VN : Hid (V = none) := HST.out hdb
        clear HST HOV HGO
        go_wp2_with (go_at_call 44; refine (CS.out _).mono ?_; rintro e w' ⟨rfl, hw'⟩; obtain rfl := Eq.symm hw')
        refine bodyPost_ret (v := .tuple #[.agg #[.int .u64 0, .int .u64 0], .bool false]) ?_ rfl ⟨by rw [valA_none VN.out], ?_⟩
        · have z0 := ((HK.out.set 0 (.int .u64 0)).set 1 (.int .u64 0)).cell 0 (v := .int .u64 0) rfl
          have z1 := ((HK.out.set 0 (.int .u64 0)).set 1 (.int .u64 0)).cell 1 (v := .int .u64 0) rfl
          simp [results, Tryz.results28, go_sem, z0, z1]
        · exact HB.out.trans ((((Kept.refl (fun j => w.heap.size ≤ j) wr).set (by simp) _).set (by simp) _).below HB.out.size (fun _ h => h))
      · have hdl : d < 16 := by omega
        have HNB : Hid (¬ 16 ≤ d) := hdb
        have hdd : decide ((16 : Int) ≤ (d : Int)) = false := by simp; omega
        have CG : Hid (Calls Tryz.prog 45 #[.slice (some ⟨g, 0, none⟩) 8 cap, .int .i64 16, .int .i64 (d : Int)] wr fun e w' => ∃ g2 cap2, e = .returned (.tuple #[.slice (some ⟨g2, 0, none⟩) 8 cap2, .bool (decide (v * 16 + d < 65536 ^ 8))]) ∧ w'.cell? ⟨w.heap.size, 0, none⟩ = some (.int .u64 0) ∧ w'.cell? ⟨w.heap.size, 1, none⟩ = some (.int .u64 0) ∧ w'.frozen? ⟨w.heap.size, 0, none⟩ = false ∧ w'.frozen? ⟨w.heap.size, 1, none⟩ = false ∧ Hid (w.heap.size < g2 ∧ LRow w' g2 (lmb (v * 16 + d)) ∧ Blk w' w.heap.size zero37 37 ∧ Below w.heap.size w w')) := by
          refine (grown_any v 16 d g cap HVV.out hdl (by decide) wr HL.out).mono ?_
          rintro e w' ⟨sv, rfl, hrow, hb'⟩
          obtain ⟨g2, cap2, rfl, hg2, hl2⟩ := lrow_of hrow
          have hk' := HK.out.below hb'
          exact ⟨g2, cap2, rfl, hk'.cell 0 rfl, hk'.cell 1 rfl, hk'.frozen 0, hk'.frozen 1, by have := HK.out.lt; omega, hl2, hk', bst HB.out hb'⟩
        clear HST
        cases hq : decide (v * 16 + d < 65536 ^ 8)
        · rw [hq] at CG
          have VN : Hid (V = none) := HOV.out HNB.out (by simpa using hq)
          clear HOV HGO hq HL HVV
          go_wp2_with (go_at_call 44; refine (CS.out _).mono ?_; rintro e w' ⟨rfl, hw'⟩; obtain rfl := Eq.symm hw')
          refine CG.out.mono ?_
          rintro e w2 ⟨g2, cap2, rfl, y0, y1, yf0, yf1, HX⟩
          go_wp2
          refine bodyPost_ret (v := .tuple #[.agg #[.int .u64 0, .int .u64 0], .bool false]) ?_ rfl ⟨by rw [valA_none VN.out], ?_⟩
          · have z0 := ((HX.out.2.2.1.set 0 (.int .u64 0)).set 1 (.int .u64 0)).cell 0 (v := .int .u64 0) rfl
            have z1 := ((HX.out.2.2.1.set 0 (.int .u64 0)).set 1 (.int .u64 0)).cell 1 (v := .int .u64 0) rfl
            simp [results, Tryz.results28, go_sem, z0, z1]
          · exact HX.out.2.2.2.trans ((((Kept.refl (fun j => w.heap.size ≤ j) w2).set (by simp) _).set (by simp) _).below HX.out.2.2.2.size (fun _ h => h))
        · rw [hq] at CG
          have HLQ : Hid (v * 16 + d < 65536 ^ 8) := (show v * 16 + d < 65536 ^ 8 from of_decide_eq_true hq)
          have HVN : Hid (V = growV 16 (s.data.toList.drop (k + 1)) (v * 16 + d)) := HGO.out HNB.out HLQ.out
          clear HOV HGO hq HL HVV
          go_wp2_with (go_at_call 44; refine (CS.out _).mono ?_; rintro e w' ⟨rfl, hw'⟩; obtain rfl := Eq.symm hw')
          refine CG.out.mono ?_
          rintro e w2 ⟨g2, cap2, rfl, y0, y1, yf0, yf1, HX⟩
          go_wp2
          exact ⟨⟨k + 1, by omega, by omega, by go_num, _, g2, cap2, rfl, HX.out.1, HX.out.2.1, HLQ.out, HX.out.2.2.1, HX.out.2.2.2, HVN.out⟩, by simp only [intOf]; omega⟩
    · have e : k = s.size := by omega
      subst e
      have VS : Hid (V = some v) := by show _ = _; rw [hG, List.drop_of_length_le (by simp)]; rfl
      clear hG hV hL hv hbk hB
      obtain ⟨W1, hW1⟩ : ∃ W1, W1 = wr := ⟨_, rfl⟩
      subst hW1
      have HBA : Hid (Blk (W1.alloc (.cells zero37 37)) W1.heap.size zero37 37) := Blk.new _ _ _
      have HLA : Hid (LRow (W1.alloc (.cells zero37 37)) g (lmb v)) := HL.out.kept ((Kept.refl (fun _ => False) _).alloc _) id
      have HKA : Hid (Blk (W1.alloc (.cells zero37 37)) w.heap.size zero37 37) := HK.out.below ((Below.refl _ _).alloc (Nat.le_refl _) _)
      have HBB : Hid (Below w.heap.size w (W1.alloc (.cells zero37 37))) := bst HB.out ((Below.refl _ _).alloc (Nat.le_refl _) _)
      have hgl : g < W1.heap.size := HL.out.lt
      have hwl : w.heap.size < W1.heap.size := HK.out.lt
      have HZ : Hid (v / 65536 ^ 8 = 0 ∧ (v % 18446744073709551616) / 65536 ^ 4 = 0) := ⟨Nat.div_eq_of_lt HVV.out, Nat.div_eq_of_lt (Nat.mod_lt _ (by decide))⟩
      go_wp2
      go_loopw [12] (fun i wq => ∃ (t : Nat), t ≤ 4 ∧ i = .int .i64 (3 - (t : Int)) ∧ Blk wq W1.heap.size #[.int .u64 ((v / 65536 ^ (8 - t) : Nat) : Int), .int .u64 (((v % 18446744073709551616) / 65536 ^ (4 - t) : Nat) : Int)] 37 ∧ LRow wq g (lmb v) ∧ Blk wq w.heap.size zero37 37 ∧ Below w.heap.size w wq) (fun i _ => (intOf i + 1).toNat)
      case atStart => exact ⟨0, by omega, rfl, by simp only [Nat.sub_zero]; rw [HZ.out.1, HZ.out.2]; exact HBA.out, HLA.out, HKA.out, HBB.out⟩
      case round =>
        obtain ⟨t, ht, rfl, hba, hl, hk0, hB⟩ := hrel
        have X1 : Hid (Blk wr W1.heap.size #[.int .u64 ((v / 65536 ^ (8 - t) : Nat) : Int), .int .u64 (((v % 18446744073709551616) / 65536 ^ (4 - t) : Nat) : Int)] 37) := hba
        have X2 : Hid (LRow wr g (lmb v)) := hl
        have X3 : Hid (Blk wr w.heap.size zero37 37) := hk0
        have X4 : Hid (Below w.heap.size w wr) := hB
        by_cases hlt4 : t < 4
        · obtain ⟨j, hj⟩ : ∃ j, 3 - t = j := ⟨_, rfl⟩
          have hjI : (3 : Int) - (t : Int) = (j : Int) := by omega
          have hb1 := hi_lt v t HVV.out ht
          have hb2 := lo_lt v t ht
          have hpw := pow_le4 t (by omega)
          have e1 := hi_step v t hlt4
          have e2 := lo_step v t hlt4
          have l1 := lmb_lt v (7 - t)
          have l2 := lmb_lt v (3 - t)
          have c1 := (hl (j + 4) (by omega)).1
          have c2 := (hl j (by omega)).1
          rw [show lmb v (j + 4) = lmb v (7 - t) by congr 1; omega] at c1
          rw [show lmb v j = lmb v (3 - t) by congr 1; omega] at c2
          have a0 := hba.cell 0 (v := .int .u64 ((v / 65536 ^ (8 - t) : Nat) : Int)) rfl
          have a1 := hba.cell 1 (v := .int .u64 (((v % 18446744073709551616) / 65536 ^ (4 - t) : Nat) : Int)) rfl
          have af0 := hba.frozen 0
          have af1 := hba.frozen 1
          have hjb : j < 4 := by omega
          have E1 : Hid (v / 65536 ^ (8 - (t + 1)) = 65536 * (v / 65536 ^ (8 - t)) + lmb v (7 - t)) := by show _ = _; rw [show 8 - (t + 1) = 7 - t by omega]; exact e1
          have E2 : Hid ((v % 18446744073709551616) / 65536 ^ (4 - (t + 1)) = 65536 * ((v % 18446744073709551616) / 65536 ^ (4 - t)) + lmb v (3 - t)) := by show _ = _; rw [show 4 - (t + 1) = 3 - t by omega]; exact e2
          rw [hjI]
          clear e1 e2 hba hl hk0 hB
          generalize v / 65536 ^ (8 - t) = x at *
          generalize (v % 18446744073709551616) / 65536 ^ (4 - t) = y at *
          generalize lmb v (7 - t) = m at *
          generalize lmb v (3 - t) = n at *
          have hxb : x < 281474976710656 := by omega
          have hyb : y < 281474976710656 := by omega
          clear hb1 hb2 hpw
          have hga : g ≠ W1.heap.size := by omega
          go_wp2
          go_region
          go_wp2
          go_region
          go_wp2
          refine ⟨⟨t + 1, by omega, by first | go_num | (congr 1; omega), ?_, ?_, ?_, ?_⟩, by simp only [intOf]; omega⟩
          · rw [E1.out, E2.out, Int.natCast_add, Int.natCast_mul, Int.natCast_add, Int.natCast_mul]
            exact (X1.out.set 0 _).set 1 _
          · exact X2.out.kept ((((Kept.refl (fun j => j = W1.heap.size) wr).drew.set rfl _).drew).set rfl _) hga
          · exact X3.out.kept ((((Kept.refl (fun j => j = W1.heap.size) wr).drew.set rfl _).drew).set rfl _) (by omega)
          · exact X4.out.trans (((((Kept.refl (fun j => j = W1.heap.size) wr).drew.set rfl _).drew).set rfl _).below X4.out.size (by omega))
        · have e : t = 4 := by omega
          subst e
          have a0 := hba.cell 0 (v := .int .u64 ((v / 65536 ^ (8 - 4) : Nat) : Int)) rfl
          have a1 := hba.cell 1 (v := .int .u64 (((v % 18446744073709551616) / 65536 ^ (4 - 4) : Nat) : Int)) rfl
          have af0 := hba.frozen 0
          have af1 := hba.frozen 1
          have k0 := hk0.cell 0 (v := .int .u64 0) rfl
          have k1 := hk0.cell 1 (v := .int .u64 0) rfl
          have kf0 := hk0.frozen 0
          have kf1 := hk0.frozen 1
          have EV : Hid (valA V = .tuple #[.agg #[.int .u64 ((v / 65536 ^ (8 - 4) : Nat) : Int), .int .u64 (((v % 18446744073709551616) / 65536 ^ (4 - 4) : Nat) : Int)], .bool true]) := valA_some VS.out
          clear hba hl hk0 hB
          generalize v / 65536 ^ (8 - 4) = x at *
          generalize (v % 18446744073709551616) / 65536 ^ (4 - 4) = y at *
          go_wp2
          refine bodyPost_ret (v := .tuple #[.agg #[.int .u64 (x : Int), .int .u64 (y : Int)], .bool true]) ?_ rfl ⟨by rw [EV.out], ?_⟩
          · have z0 := ((X3.out.set 0 (.int .u64 (x : Int))).set 1 (.int .u64 (y : Int))).cell 0 (v := .int .u64 (x : Int)) rfl
            have z1 := ((X3.out.set 0 (.int .u64 (x : Int))).set 1 (.int .u64 (y : Int))).cell 1 (v := .int .u64 (y : Int)) rfl
            simp [results, Tryz.results28, go_sem, z0, z1]
          · exact X4.out.trans ((((Kept.refl (fun j => w.heap.size ≤ j) wr).set (by simp) _).set (by simp) _).below X4.out.size (fun _ h => h))
end Go.Proofs.YtlgfpjaomiomjaaGreatDoor
