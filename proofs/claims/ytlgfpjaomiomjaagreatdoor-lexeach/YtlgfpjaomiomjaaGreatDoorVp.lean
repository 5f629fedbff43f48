/- Package value's Parse of a text without a colon, at 128 bits. -/
import Derived.Test.YtlgfpjaomiomjaaGreatDoorDf
namespace Go.Proofs.YtlgfpjaomiomjaaGreatDoor
open Go.RowKit
set_option linter.unusedVariables false
set_option linter.unusedSimpArgs false

theorem cg_none : ∀ (l : List UInt8) (p a : Nat), (∀ c ∈ l, c ≠ 58) → p % 3 + l.length ≥ 3 → cg p l a = none
  | [], p, a, _, h => by have := Nat.mod_lt p (by decide : 0 < 3); simp at h; omega
  | c :: cs, p, a, hn, h => by
    have hc := hn c (by simp)
    have hm := Nat.mod_lt p (by decide : 0 < 3)
    by_cases hp : p % 3 = 2
    · exact cg_nocolon hp hc
    · cases hw : worth 16 c with
      | none => exact cg_nodigit hp hw
      | some d =>
        rw [cg_digit hp hw]
        exact cg_none cs (p + 1) _ (fun x hx => hn x (by simp [hx])) (by simp at h; omega)
theorem fcR_no {l : List UInt8} (h : ∀ c ∈ l, c ≠ 58) : fcR l 16 = (0, false) := by
  by_cases hl : (l.length : Int) = 3 * (16 : Nat) - 1
  · exact fcR_none hl (cg_none l 0 0 h (by omega))
  · exact fcR_len hl
theorem fits_128 {n : Nat} (h : Is128 n) : fitsN n 128 = true := by
  unfold fitsN Is128 at *
  rw [show isW 128 = true by decide]
  simpa using h
/-- What Parse answers there. -/
def prN (l : List UInt8) : Nat × Int := if (fnN l).2 = 0 then ((fnN l).1, 0) else (0, (fnN l).2)
set_option maxHeartbeats 4000000 in
set_option maxRecDepth 100000 in
theorem parse_128 (s : ByteArray) (hs : s.size ≤ maxLen) (hcol : ∀ c ∈ s.data.toList, c ≠ 58) (w : World) (hT : Tab w) :
    Calls Tryz.prog 51 #[.string s, .int .i64 128] w fun e w' => e = .returned (.tuple #[B (prN s.data.toList).1, .int .i64 (prN s.data.toList).2]) ∧ Below w.heap.size w w' := by
  have CW : Hid (∀ w, Calls Tryz.prog 57 #[.int .i64 128] w fun e w' => e = .returned (.bool true) ∧ w' = w) := fun w => isWidth_val (by decide) w
  have CNT : Hid (∀ w, Calls Tryz.prog 60 #[.int .i64 128] w fun e w' => e = .returned (.int .i64 16) ∧ w' = w) := fun w => byteCount_any 128 (by decide) (by decide) w
  have H5 : Hid (∀ w, Calls Tryz.prog 58 #[.int .i64 5, .int .i64 128] w fun e w' => e = .returned (.bool true) ∧ w' = w) := fun w => formHas_colons 128 w
  have H4 : Hid (∀ w, Calls Tryz.prog 58 #[.int .i64 4, .int .i64 128] w fun e w' => e = .returned (.bool false) ∧ w' = w) := fun w => formHas_dots 128 w
  have FC : Hid (∀ w, Tab w → Calls Tryz.prog 59 #[.string s, .int .i64 16] w fun e w' => e = .returned (.tuple #[B 0, .bool false]) ∧ Below w.heap.size w w') := fun w hT => by
    have := fromColons_any s hs 16 (by omega) w hT
    rw [fcR_no hcol] at this
    exact this
  have HI' := fnN_is s.data.toList
  have fn : ∀ w, Tab w → Calls Tryz.prog 62 #[.string s] w fun e w' => e = .returned (.tuple #[B (fnN s.data.toList).1, .int .i64 (fnN s.data.toList).2]) ∧ Below w.heap.size w w' := fun w hT => fromNumber_any s hs w hT
  have HPN : Hid (prN s.data.toList = if (fnN s.data.toList).2 = 0 then ((fnN s.data.toList).1, 0) else (0, (fnN s.data.toList).2)) := rfl
  generalize prN s.data.toList = pn at *
  generalize fnN s.data.toList = v at *
  have FN : Hid (∀ w, Tab w → Calls Tryz.prog 62 #[.string s] w fun e w' => e = .returned (.tuple #[B v.1, .int .i64 v.2]) ∧ Below w.heap.size w w') := fn
  have FIT : Hid (∀ w, Calls Tryz.prog 63 #[B v.1, .int .i64 128] w fun e w' => e = .returned (.bool true) ∧ Below w.heap.size w w') := fun w => by
    rw [← fits_128 HI']; exact fits_any v.1 HI' 128 w
  have HT : Hid (Tab w) := hT
  have Z0 := Wds.new w 0 0
  have B0 : Below w.heap.size w (w.alloc (.cells #[.int .u64 0, .int .u64 0] 37)) := by go_grown
  have HT0 : Hid (Tab (w.alloc (.cells #[.int .u64 0, .int .u64 0] 37))) := hT.below B0
  have e00 : B 0 = .agg #[.int .u64 0, .int .u64 0] := zero_words
  rw [e00] at FC
  clear HI' fn hT hcol hs e00
  go_enter Tryz.func51, Tryz.ntmps51
  go_wp2_with (first | (go_at_call 57; refine (CW.out _).mono ?_; rintro e w' ⟨rfl, rfl⟩) | (go_at_call 60; refine (CNT.out _).mono ?_; rintro e w' ⟨rfl, rfl⟩) | (go_at_call_of 58 (Value.int IntKind.i64 5); refine (H5.out _).mono ?_; rintro e w' ⟨rfl, rfl⟩))
  refine (FC.out _ HT0.out).mono ?_
  rintro e w1 ⟨rfl, hb1⟩
  have Z1 := (Z0.below hb1 Z0.lt).past (.cells #[.int .u64 0, .int .u64 0] 37)
  have hB1' := bstep B0 hb1
  have hB1 := hB1'.alloc hB1'.size (.cells #[.int .u64 0, .int .u64 0] 37)
  have HT1 : Hid (Tab (w1.alloc (.cells #[.int .u64 0, .int .u64 0] 37))) := HT.out.below hB1
  clear Z0 B0 HT0 hb1 hB1'
  go_wp2_with (go_at_call_of 58 (Value.int IntKind.i64 4); refine (H4.out _).mono ?_; rintro e w' ⟨rfl, rfl⟩)
  refine (FN.out _ HT1.out).mono ?_
  rintro e wn ⟨rfl, hbn⟩
  have Zn := (Z1.below hbn Z1.lt).past (.cells #[.int .u64 (hiOf v.1), .int .u64 (loOf v.1)] 37)
  have Vn := Box.new wn v.1
  have hBn' := bstep hB1 hbn
  have hBn := hBn'.alloc hBn'.size (.cells #[.int .u64 (hiOf v.1), .int .u64 (loOf v.1)] 37)
  clear hbn hBn'
  obtain ⟨z0, z1, z2, z3⟩ := id Zn
  by_cases h0 : v.2 = 0
  · have h0' : (v.2 != 0) = false := by simp [h0]
    obtain ⟨v0, v1⟩ := id Vn
    have E : Hid (pn = (v.1, 0)) := by show _ = _; rw [HPN.out, if_pos h0]
    clear h0
    go_wp2_with fail
    refine (FIT.out _).mono ?_
    rintro e wf ⟨rfl, hbf⟩
    have Zf := Zn.below hbf Zn.lt
    have Vf := Vn.below hbf Vn.lt
    have hBf := bstep hBn hbf
    clear z0 z1 z2 z3 v0 v1 hbf
    obtain ⟨z0, z1, z2, z3⟩ := id Zf
    obtain ⟨v0, v1⟩ := id Vf
    go_wp2
    refine bodyPost_ret (v := .tuple #[B pn.1, .int .i64 pn.2]) ?_ rfl ⟨rfl, (hBf.setCell (Nat.le_refl _) _).setCell (Nat.le_refl _) _⟩
    obtain ⟨r0, r1⟩ := zresult (x := .int .u64 (hiOf v.1)) (y := .int .u64 (loOf v.1)) z0 z1
    rw [E.out]; simp [results, Tryz.results51, go_sem, r0, r1]
  · have h0' : (v.2 != 0) = true := by simp [h0]
    have E : Hid (pn = (0, v.2)) := by show _ = _; rw [HPN.out, if_neg h0]
    clear h0
    go_wp2
    refine bodyPost_ret (v := .tuple #[B pn.1, .int .i64 pn.2]) ?_ rfl ⟨rfl, (hBn.setCell (Nat.le_refl _) _).setCell (Nat.le_refl _) _⟩
    obtain ⟨r0, r1⟩ := zresult (x := .int .u64 0) (y := .int .u64 0) z0 z1
    rw [E.out, zero_words]; simp [results, Tryz.results51, go_sem, r0, r1]
end Go.Proofs.YtlgfpjaomiomjaaGreatDoor
