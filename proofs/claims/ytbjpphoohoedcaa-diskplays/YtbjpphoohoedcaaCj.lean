/- The head of all statements: awake answers true; pick, sector. -/
import Derived.Test.YtbjpphoohoedcaaCi
namespace Go.Proofs.Ytbjpphoohoedcaa
open Go.RowKit
set_option linter.unusedVariables false
set_option linter.unusedSimpArgs false

theorem Left.low {B b : Nat} {fp : Nat → Prop} {w w' : World} {S S' : DS} (h : Left B b fp w S' w') (d : Dk B w b fp S) (hB : B ≤ w.heap.size) : Below B w w' := by
  obtain ⟨fp', _, k, _⟩ := h
  exact k.below hB (fun i hi => (d.fp i hi).1)
theorem Left.got {B b : Nat} {fp : Nat → Prop} {w w' : World} {S S' : DS} (h : Left B b fp w S' w') (d : Dk B w b fp S) (hB : B ≤ w.heap.size) : ∃ fp', Dk B w' b fp' S' ∧ Below B w w' ∧ B ≤ w'.heap.size := by
  have hl := h.low d hB
  obtain ⟨fp', d', _, _⟩ := h
  exact ⟨fp', d', hl, Nat.le_trans hB hl.size⟩
def a97 : ByteArray := fullB 97 97
def b98 : ByteArray := fullB 98 98
def S0a : DS := freshD (List.replicate 2 zero512)
theorem a_size : a97.size = 512 := fullB_size _ _
theorem b_size : b98.size = 512 := fullB_size _ _
theorem z_size : zero512.size = 512 := by unfold zero512; rw [ByteArray.size]; simp
theorem w1a : writeE S0a 0 a97 = 0 ∧ writeD S0a 0 a97 = ⟨List.replicate 2 zero512, [(0, a97)], false, 0, 0, 1, 0⟩ := by
  have h := a_size
  constructor
  · simp [writeE, refuseD, stepD, S0a, freshD, h]
  · simp [writeD, refuseD, stepD, S0a, freshD, h, wrap64]
theorem w2a : writeE (writeD S0a 0 a97) 0 b98 = 0 ∧ writeD (writeD S0a 0 a97) 0 b98 = ⟨List.replicate 2 zero512, [(0, a97), (0, b98)], false, 0, 0, 2, 0⟩ := by
  have h := b_size
  rw [w1a.2]
  constructor
  · simp [writeE, refuseD, stepD, h]
  · simp [writeD, refuseD, stepD, h, wrap64]
theorem c2a : crashD (writeD (writeD S0a 0 a97) 0 b98) [(1, 0), (2, 3)] = ⟨[tear b98 a97 3, zero512], [], false, 0, 0, 2, 0⟩ := by
  rw [w2a.2]
  unfold crashD
  have e : settle (fateK [(1, 0), (2, 3)]) 0 (List.replicate 2 zero512) [(0, a97), (0, b98)] = [tear b98 a97 3, zero512] := by
    show lay (lay (List.replicate 2 zero512) (0, a97) 512) (0, b98) 3 = _
    rw [show lay (List.replicate 2 zero512) (0, a97) 512 = [tear a97 zero512 512, zero512] from rfl, tear_full a_size]
    rfl
  simp only [e]
theorem r2a : readS (crashD (writeD (writeD S0a 0 a97) 0 b98) [(1, 0), (2, 3)]) 0 = tear b98 a97 3 ∧ refuseD (crashD (writeD (writeD S0a 0 a97) 0 b98) [(1, 0), (2, 3)]) 0 = 0 := by
  rw [c2a]
  have h0 : refuseD (⟨[tear b98 a97 3, zero512], [], false, 0, 0, 2, 0⟩ : DS) 0 = 0 := by simp [refuseD]
  refine ⟨?_, h0⟩
  unfold readS
  rw [if_pos h0]
  rfl
theorem three : b98.extract 0 3 = ⟨#[98, 98, 98]⟩ := by decide +kernel
set_option maxHeartbeats 1000000 in
set_option maxRecDepth 100000 in
theorem awake_any (w : World) : Calls Try.prog 11 #[] w fun e w' => e = .returned (.bool true) ∧ Below w.heap.size w w' := by
  have CN : Hid (Calls Try.prog 12 #[.int .i64 2] w fun e w' => Made w.heap.size w S0a e w') := new_ok 2 (by omega) (by omega) w.heap.size w (Nat.le_refl _)
  have CF1 : Hid (∀ w : World, Calls Try.prog 27 #[.int .u8 97, .int .u8 97] w fun r w' => r = .returned (.string a97) ∧ Below w.heap.size w w') := full_any 97 97
  have CF2 : Hid (∀ w : World, Calls Try.prog 27 #[.int .u8 98, .int .u8 98] w fun r w' => r = .returned (.string b98) ∧ Below w.heap.size w w') := full_any 98 98
  have ha : a97.size = 512 := a_size
  have hth : Hid (tear b98 a97 3 = ⟨#[98, 98, 98]⟩ ++ a97.extract 3 512) := by show _ = _; unfold tear; rw [three]
  have HW1 : Hid (writeE S0a 0 a97 = 0 ∧ (writeD S0a 0 a97).wait.length = 1) := by rw [w1a.2]; exact ⟨w1a.1, rfl⟩
  have HW2 : Hid (writeE (writeD S0a 0 a97) 0 b98 = 0) := w2a.1
  have HR : Hid (readS (crashD (writeD (writeD S0a 0 a97) 0 b98) [(1, 0), (2, 3)]) 0 = tear b98 a97 3 ∧ refuseD (crashD (writeD (writeD S0a 0 a97) 0 b98) [(1, 0), (2, 3)]) 0 = 0) := r2a
  have hb98 : Hid (b98.size = 512) := b_size
  go_enter Try.func11, Try.ntmps11
  go_wp2_with fail
  refine CN.out.mono ?_
  rintro e w1 ⟨b, fp, rfl, hd, hfp, hb1⟩
  unfold pt
  clear CN hfp
  go_wp2_with fail
  refine (CF1.out _).mono ?_
  rintro e w2 ⟨rfl, hb2⟩
  go_wp2_with fail
  refine (CF2.out _).mono ?_
  rintro e w3 ⟨rfl, hb3⟩
  have hd3 := (hd.below hb2).below hb3
  have hB3 : Below w.heap.size w w3 := bstep (bstep hb1 hb2 (Nat.le_refl _)) hb3 (Nat.le_refl _)
  clear CF1 CF2 hd hb1 hb2 hb3
  have CW1 : Hid (Calls Try.prog 31 #[.pointer (some ⟨b, 0, none⟩), .int .i64 0, .string a97] w3 fun e w' => e = .returned (.int .i64 (writeE S0a 0 a97)) ∧ Left w.heap.size b fp w3 (writeD S0a 0 a97) w') := write_any hd3 0 a97 (by rw [ha]; omega) (by show 0 < _; omega) hB3.size
  rw [HW1.out.1] at CW1
  go_wp2_with fail
  refine CW1.out.mono ?_
  rintro e w4 ⟨rfl, hL4⟩
  obtain ⟨fp4, hd4, hb4, hz4⟩ := hL4.got hd3 hB3.size
  have hB4 := hB3.trans hb4
  clear CW1 hL4 hd3 hB3 hb4
  have CW2 : Hid (Calls Try.prog 31 #[.pointer (some ⟨b, 0, none⟩), .int .i64 0, .string b98] w4 fun e w' => e = .returned (.int .i64 (writeE (writeD S0a 0 a97) 0 b98)) ∧ Left w.heap.size b fp4 w4 (writeD (writeD S0a 0 a97) 0 b98) w') := write_any hd4 0 b98 (by rw [hb98.out]; omega) (by rw [HW1.out.2]; omega) hB4.size
  rw [HW2.out] at CW2
  go_wp2_with fail
  refine CW2.out.mono ?_
  rintro e w5 ⟨rfl, hL5⟩
  obtain ⟨fp5, hd5, hb5, hz5⟩ := hL5.got hd4 hB4.size
  have hB5 := hB4.trans hb5
  clear CW2 hL5 hd4 hB4 hb5
  have hb6 : Below w5.heap.size w5 (w5.alloc (.cells #[.int .i64 1, .int .i64 0, .int .i64 2, .int .i64 3] 59)) := (Below.refl _ _).alloc (Nat.le_refl _) _
  have hd6 := hd5.below hb6
  have CC : Hid (Calls Try.prog 25 #[.pointer (some ⟨b, 0, none⟩), .slice (some ⟨w5.heap.size, 0, none⟩) 2 2] (w5.alloc (.cells #[.int .i64 1, .int .i64 0, .int .i64 2, .int .i64 3] 59)) fun e w' => e = .returned (.tuple #[]) ∧ Left w.heap.size b fp5 (w5.alloc (.cells #[.int .i64 1, .int .i64 0, .int .i64 2, .int .i64 3] 59)) (crashD (writeD (writeD S0a 0 a97) 0 b98) [(1, 0), (2, 3)]) w') := by
    refine crash_any hd6 [(1, 0), (2, 3)] (some ⟨w5.heap.size, 0, none⟩) 2 (.inr ⟨_, 0, rfl, ?_⟩) (fun fb off e => ?_)
    · have hn := Blk.new w5 #[.int .i64 1, .int .i64 0, .int .i64 2, .int .i64 3] 59
      intro i kd t hi
      match i, hi with
      | 0, hi => simp at hi; obtain ⟨rfl, rfl⟩ := hi; exact ⟨hn.cell 0 rfl, hn.cell 1 rfl⟩
      | 1, hi => simp at hi; obtain ⟨rfl, rfl⟩ := hi; exact ⟨hn.cell 2 rfl, hn.cell 3 rfl⟩
    · injection e with e; injection e with e; subst e
      intro q; have := (hd5.fp _ q).2; omega
  have hB6 := bstep hB5 hb6 (Nat.le_refl _)
  go_wp2_with fail
  generalize w5.alloc (.cells #[.int .i64 1, .int .i64 0, .int .i64 2, .int .i64 3] 59) = w6 at *
  refine CC.out.mono ?_
  rintro e w7 ⟨rfl, hL7⟩
  obtain ⟨fp7, hd7, hb7, hz7⟩ := hL7.got hd6 hB6.size
  have hB7 := hB6.trans hb7
  clear CC hL7 hd6 hB6 hb7 hd5 hB5 hb6
  have CR : Hid (Calls Try.prog 28 #[.pointer (some ⟨b, 0, none⟩), .int .i64 0] w7 fun e w' => e = .returned (.tuple #[.string (readS (crashD (writeD (writeD S0a 0 a97) 0 b98) [(1, 0), (2, 3)]) 0), .int .i64 (refuseD (crashD (writeD (writeD S0a 0 a97) 0 b98) [(1, 0), (2, 3)]) 0)]) ∧ Left w.heap.size b fp7 w7 (readD (crashD (writeD (writeD S0a 0 a97) 0 b98) [(1, 0), (2, 3)]) 0) w') := read_any hd7 0
  rw [HR.out.1, HR.out.2, hth.out] at CR
  generalize a97 = a at *
  go_wp2_with fail
  refine CR.out.mono ?_
  rintro e w8 ⟨rfl, hL8⟩
  have hB8 := hB7.trans (hL8.low hd7 hB7.size)
  clear CR hL8 hd7 hB7 HR hth HW1 HW2
  go_wp2
  go_ret
  exact ⟨rfl, hB8⟩
end Go.Proofs.Ytbjpphoohoedcaa
