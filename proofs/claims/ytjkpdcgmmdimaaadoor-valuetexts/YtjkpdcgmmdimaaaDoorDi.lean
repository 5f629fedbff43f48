/- Package value's Parse: any text, any width. -/
import Derived.Test.YtjkpdcgmmdimaaaDoorDf
import Derived.Test.YtjkpdcgmmdimaaaDoorDh
namespace Go.Proofs.YtjkpdcgmmdimaaaDoor
open Go.RowKit
set_option linter.unusedVariables false
set_option linter.unusedSimpArgs false

/-- What Parse answers: the value and the error's number. -/
def prR (s : ByteArray) (wd : Int) : Nat × Int :=
  if isW wd = true then
    (if hasC wd = true ∧ (fcR s.data.toList ((wd + 7) / 8).toNat).2 = true then ((fcR s.data.toList ((wd + 7) / 8).toNat).1, 0)
    else if wd = 32 ∧ (dotsR s).2 = true then ((dotsR s).1, 0) else pnN s.data.toList wd)
  else (0, 10)
theorem prR_no {s : ByteArray} {wd : Int} (h : isW wd = false) : prR s wd = (0, 10) := by unfold prR; rw [h]; rfl
theorem prR_col {s : ByteArray} {wd : Int} (h : isW wd = true) (hC : hasC wd = true) (hf : (fcR s.data.toList ((wd + 7) / 8).toNat).2 = true) : prR s wd = ((fcR s.data.toList ((wd + 7) / 8).toNat).1, 0) := by unfold prR; rw [if_pos h, if_pos ⟨hC, hf⟩]
theorem prR_dot {s : ByteArray} {wd : Int} (h : isW wd = true) (hf : ¬ (hasC wd = true ∧ (fcR s.data.toList ((wd + 7) / 8).toNat).2 = true)) (h32 : wd = 32) (hd : (dotsR s).2 = true) : prR s wd = ((dotsR s).1, 0) := by unfold prR; rw [if_pos h, if_neg hf, if_pos ⟨h32, hd⟩]
theorem prR_num {s : ByteArray} {wd : Int} (h : isW wd = true) (hf : ¬ (hasC wd = true ∧ (fcR s.data.toList ((wd + 7) / 8).toNat).2 = true)) (hd : ¬ (wd = 32 ∧ (dotsR s).2 = true)) : prR s wd = pnN s.data.toList wd := by unfold prR; rw [if_pos h, if_neg hf, if_neg hd]
theorem hasC_32 : hasC 32 = true := by decide

set_option maxHeartbeats 4000000 in
set_option maxRecDepth 100000 in
theorem parse_all (s : ByteArray) (hs : s.size ≤ 140737488351232) (wd : Int) (w : World) (hT : Tab w) :
    Calls Tryd.prog 39 #[.string s, .int .i64 wd] w fun e w' => e = .returned (.tuple #[B (prR s wd).1, .int .i64 (prR s wd).2]) ∧ Below w.heap.size w w' := by
  cases hW : isW wd
  · rw [prR_no hW]
    go_enter Tryd.func39, Tryd.ntmps39
    go_wp2_with (go_at_call 42; refine (isWidth_val hW _).mono ?_; rintro e w' ⟨rfl, rfl⟩)
    refine bodyPost_ret (v := .tuple #[B 0, .int .i64 10]) ?_ rfl ⟨rfl, ?_⟩
    · rw [zero_words]; simp [results, Tryd.results39, go_sem]
    · go_grown
  cases hC : hasC wd
  · have h32 : wd ≠ 32 := by intro e; subst e; rw [hasC_32] at hC; cases hC
    rw [prR_num hW (by rw [hC]; simp) (fun h => h32 h.1)]
    exact parse_plain s (by unfold maxLen; omega) wd hW hC (by simpa using h32) w hT
  have hb := isW_bounds hW
  have HCOL : Hid ((fcR s.data.toList ((wd + 7) / 8).toNat).2 = true → prR s wd = ((fcR s.data.toList ((wd + 7) / 8).toNat).1, 0)) := fun h => prR_col hW hC h
  have HDOT : Hid ((fcR s.data.toList ((wd + 7) / 8).toNat).2 = false → wd = 32 → (dotsR s).2 = true → prR s wd = ((dotsR s).1, 0)) := fun h h32 hd => prR_dot hW (by rw [h]; simp) h32 hd
  have HNUM : Hid ((fcR s.data.toList ((wd + 7) / 8).toNat).2 = false → ¬ (wd = 32 ∧ (dotsR s).2 = true) → prR s wd = pnN s.data.toList wd) := fun h hd => prR_num hW (by rw [h]; simp) hd
  obtain ⟨k, hk⟩ : ∃ k : Nat, (wd + 7) / 8 = (k : Int) := ⟨((wd + 7) / 8).toNat, by omega⟩
  have k16 : k ≤ 16 := by omega
  have hk0 : ((wd + 7) / 8).toNat = k := by omega
  rw [hk0] at HCOL HDOT HNUM
  have CNT : Hid (∀ w, Calls Tryd.prog 51 #[.int .i64 wd] w fun e w' => e = .returned (.int .i64 (k : Int)) ∧ w' = w) := fun w => by rw [← hk]; exact byteCount_any wd (by omega) (by omega) w
  have hp : pnN s.data.toList wd = if (fnN s.data.toList).2 = 0 then (if fitsN (fnN s.data.toList).1 wd = true then ((fnN s.data.toList).1, 0) else (0, 11)) else (0, (fnN s.data.toList).2) := rfl
  have HI' := fnN_is s.data.toList
  have fn : ∀ w, Tab w → Calls Tryd.prog 62 #[.string s] w fun e w' => e = .returned (.tuple #[B (fnN s.data.toList).1, .int .i64 (fnN s.data.toList).2]) ∧ Below w.heap.size w w' := fun w hT => fromNumber_any s (by unfold maxLen; omega) w hT
  have fc : ∀ w, Tab w → Calls Tryd.prog 60 #[.string s, .int .i64 k] w fun e w' => e = .returned (.tuple #[B (fcR s.data.toList k).1, .bool (fcR s.data.toList k).2]) ∧ Below w.heap.size w w' := fun w hT => fromColons_any s (by unfold maxLen; omega) k k16 w hT
  have fd : ∀ w, Tab w → Calls Tryd.prog 61 #[.string s] w fun e w' => e = .returned (.tuple #[B (dotsR s).1, .bool (dotsR s).2]) ∧ Below w.heap.size w w' := fun w hT => fromDots_any s hs w hT
  generalize hpn : pnN s.data.toList wd = pn at *
  generalize fnN s.data.toList = v at *
  generalize fcR s.data.toList k = c at *
  generalize dotsR s = d at *
  have HPN : Hid (pn = if v.2 = 0 then (if fitsN v.1 wd = true then (v.1, 0) else (0, 11)) else (0, v.2)) := hp
  have HI : Hid (Is128 v.1) := HI'
  have FN : Hid (∀ w, Tab w → Calls Tryd.prog 62 #[.string s] w fun e w' => e = .returned (.tuple #[B v.1, .int .i64 v.2]) ∧ Below w.heap.size w w') := fn
  have FC : Hid (∀ w, Tab w → Calls Tryd.prog 60 #[.string s, .int .i64 k] w fun e w' => e = .returned (.tuple #[B c.1, .bool c.2]) ∧ Below w.heap.size w w') := fc
  have FD : Hid (∀ w, Tab w → Calls Tryd.prog 61 #[.string s] w fun e w' => e = .returned (.tuple #[B d.1, .bool d.2]) ∧ Below w.heap.size w w') := fd
  have HT : Hid (Tab w) := hT
  have Z0 := Wds.new w 0 0
  have B0 : Below w.heap.size w (w.alloc (.cells #[.int .u64 0, .int .u64 0] 24)) := by go_grown
  have HT0 : Hid (Tab (w.alloc (.cells #[.int .u64 0, .int .u64 0] 24))) := hT.below B0
  have HCC : Hid (∀ w, Calls Tryd.prog 56 #[.int .i64 5, .int .i64 wd] w fun e w' => e = .returned (.bool true) ∧ w' = w) := fun w => by rw [← hC]; exact formHas_colons wd w
  clear hp hpn HI' fn fc fd hT hk hk0
  go_enter Tryd.func39, Tryd.ntmps39
  go_wp2_with (first | (go_at_call 42; refine (isWidth_val hW _).mono ?_; rintro e w' ⟨rfl, rfl⟩) | (go_at_call 51; refine (CNT.out _).mono ?_; rintro e w' ⟨rfl, rfl⟩) | (go_at_call_of 56 (Value.int IntKind.i64 5); refine (HCC.out _).mono ?_; rintro e w' ⟨rfl, rfl⟩))
  refine (FC.out _ HT0.out).mono ?_
  rintro e w1 ⟨rfl, hb1⟩
  have Z1 := (Z0.below hb1 Z0.lt).past (.cells #[.int .u64 (hiOf c.1), .int .u64 (loOf c.1)] 24)
  have C1 := Box.new w1 c.1
  have hB1' := bstep B0 hb1
  have hB1 := hB1'.alloc hB1'.size (.cells #[.int .u64 (hiOf c.1), .int .u64 (loOf c.1)] 24)
  have HT1 : Hid (Tab (w1.alloc (.cells #[.int .u64 (hiOf c.1), .int .u64 (loOf c.1)] 24))) := HT.out.below hB1
  clear Z0 B0 HT0 hb1 hB1'
  obtain ⟨z0, z1, z2, z3⟩ := id Z1
  obtain ⟨c0, c1⟩ := id C1
  cases hc : c.2
  · by_cases h32 : wd = 32
    · have q32 : (wd == 32) = true := by simp [h32]
      have HD4 : Hid (∀ w, Calls Tryd.prog 56 #[.int .i64 4, .int .i64 wd] w fun e w' => e = .returned (.bool true) ∧ w' = w) := fun w => by rw [← q32]; exact formHas_dots wd w
      have H32 : Hid (wd = 32) := h32
      have HC0 : Hid (c.2 = false) := hc
      clear h32 q32 hc
      go_wp2_with (go_at_call_of 56 (Value.int IntKind.i64 4); refine (HD4.out _).mono ?_; rintro e w' ⟨rfl, rfl⟩)
      refine (FD.out _ HT1.out).mono ?_
      rintro e w2 ⟨rfl, hb2⟩
      have Z2 := (Z1.below hb2 Z1.lt).past (.cells #[.int .u64 (hiOf d.1), .int .u64 (loOf d.1)] 24)
      have D2 := Box.new w2 d.1
      have hB2' := bstep hB1 hb2
      have hB2 := hB2'.alloc hB2'.size (.cells #[.int .u64 (hiOf d.1), .int .u64 (loOf d.1)] 24)
      have HT2 : Hid (Tab (w2.alloc (.cells #[.int .u64 (hiOf d.1), .int .u64 (loOf d.1)] 24))) := HT.out.below hB2
      clear z0 z1 z2 z3 c0 c1 C1 Z1 hB1 HT1 hb2 hB2'
      obtain ⟨z0, z1, z2, z3⟩ := id Z2
      obtain ⟨d0, d1⟩ := id D2
      cases hd : d.2
      · have PN : Hid (prR s wd = pn) := HNUM.out HC0.out (by rw [hd]; simp)
        clear hd d0 d1 z0 z1 z2 z3
        go_wp2_with fail
        refine (FN.out _ HT2.out).mono ?_
        rintro e wn ⟨rfl, hbn⟩
        have Zn := (Z2.below hbn Z2.lt).past (.cells #[.int .u64 (hiOf v.1), .int .u64 (loOf v.1)] 24)
        have Vn := Box.new wn v.1
        have hBn' := bstep hB2 hbn
        have hBn := hBn'.alloc hBn'.size (.cells #[.int .u64 (hiOf v.1), .int .u64 (loOf v.1)] 24)
        clear hbn hBn'
        obtain ⟨z0, z1, z2, z3⟩ := id Zn
        by_cases h0 : v.2 = 0
        · have h0' : (v.2 != 0) = false := by simp [h0]
          have FIT : Hid (∀ w, Calls Tryd.prog 10 #[B v.1, .int .i64 wd] w fun e w' => e = .returned (.bool (fitsN v.1 wd)) ∧ Below w.heap.size w w') := fits_any v.1 HI.out wd
          obtain ⟨v0, v1⟩ := id Vn
          cases hf : fitsN v.1 wd
          · have E : Hid (prR s wd = (0, 11)) := by rw [PN.out, HPN.out, if_pos h0, if_neg (by rw [hf]; decide)]; rfl
            rw [hf] at FIT
            clear h0 hf
            go_wp2_with fail
            refine (FIT.out _).mono ?_
            rintro e wf ⟨rfl, hbf⟩
            have Zf := Zn.below hbf Zn.lt
            have hBf := bstep hBn hbf
            clear z0 z1 z2 z3 v0 v1 hbf
            obtain ⟨z0, z1, z2, z3⟩ := id Zf
            go_wp2
            refine bodyPost_ret (v := .tuple #[B (prR s wd).1, .int .i64 (prR s wd).2]) ?_ rfl ⟨rfl, (hBf.setCell (Nat.le_refl _) _).setCell (Nat.le_refl _) _⟩
            obtain ⟨r0, r1⟩ := zresult (x := .int .u64 0) (y := .int .u64 0) z0 z1
            rw [E.out, zero_words]; simp [results, Tryd.results39, go_sem, r0, r1]
          · have E : Hid (prR s wd = (v.1, 0)) := by rw [PN.out, HPN.out, if_pos h0, if_pos hf]; rfl
            rw [hf] at FIT
            clear h0 hf
            go_wp2_with fail
            refine (FIT.out _).mono ?_
            rintro e wf ⟨rfl, hbf⟩
            have Zf := Zn.below hbf Zn.lt
            have Vf := Vn.below hbf Vn.lt
            have hBf := bstep hBn hbf
            clear z0 z1 z2 z3 v0 v1 hbf
            obtain ⟨z0, z1, z2, z3⟩ := id Zf
            obtain ⟨v0, v1⟩ := id Vf
            go_wp2
            refine bodyPost_ret (v := .tuple #[B (prR s wd).1, .int .i64 (prR s wd).2]) ?_ rfl ⟨rfl, (hBf.setCell (Nat.le_refl _) _).setCell (Nat.le_refl _) _⟩
            obtain ⟨r0, r1⟩ := zresult (x := .int .u64 (hiOf v.1)) (y := .int .u64 (loOf v.1)) z0 z1
            rw [E.out]; simp [results, Tryd.results39, go_sem, r0, r1]
        · have h0' : (v.2 != 0) = true := by simp [h0]
          have E : Hid (prR s wd = (0, v.2)) := by rw [PN.out, HPN.out, if_neg h0]; rfl
          clear h0
          go_wp2
          refine bodyPost_ret (v := .tuple #[B (prR s wd).1, .int .i64 (prR s wd).2]) ?_ rfl ⟨rfl, (hBn.setCell (Nat.le_refl _) _).setCell (Nat.le_refl _) _⟩
          obtain ⟨r0, r1⟩ := zresult (x := .int .u64 0) (y := .int .u64 0) z0 z1
          rw [E.out, zero_words]; simp [results, Tryd.results39, go_sem, r0, r1]
      · have E : Hid _ := HDOT.out HC0.out H32.out hd
        clear hd
        go_wp2
        refine bodyPost_ret (v := .tuple #[B (prR s wd).1, .int .i64 (prR s wd).2]) ?_ rfl ⟨rfl, (hB2.setCell (Nat.le_refl _) _).setCell (Nat.le_refl _) _⟩
        obtain ⟨r0, r1⟩ := zresult (x := .int .u64 (hiOf d.1)) (y := .int .u64 (loOf d.1)) z0 z1
        rw [E.out]; simp [results, Tryd.results39, go_sem, r0, r1]
    · have q32 : (wd == 32) = false := by simpa using h32
      have HD4 : Hid (∀ w, Calls Tryd.prog 56 #[.int .i64 4, .int .i64 wd] w fun e w' => e = .returned (.bool false) ∧ w' = w) := fun w => by rw [← q32]; exact formHas_dots wd w
      have PN : Hid (prR s wd = pn) := HNUM.out hc (fun h => h32 h.1)
      clear h32 q32 hc
      go_wp2_with (go_at_call_of 56 (Value.int IntKind.i64 4); refine (HD4.out _).mono ?_; rintro e w' ⟨rfl, rfl⟩)
      clear c0 c1 z0 z1 z2 z3
      refine (FN.out _ HT1.out).mono ?_
      rintro e wn ⟨rfl, hbn⟩
      have Zn := (Z1.below hbn Z1.lt).past (.cells #[.int .u64 (hiOf v.1), .int .u64 (loOf v.1)] 24)
      have Vn := Box.new wn v.1
      have hBn' := bstep hB1 hbn
      have hBn := hBn'.alloc hBn'.size (.cells #[.int .u64 (hiOf v.1), .int .u64 (loOf v.1)] 24)
      clear hbn hBn'
      obtain ⟨z0, z1, z2, z3⟩ := id Zn
      by_cases h0 : v.2 = 0
      · have h0' : (v.2 != 0) = false := by simp [h0]
        have FIT : Hid (∀ w, Calls Tryd.prog 10 #[B v.1, .int .i64 wd] w fun e w' => e = .returned (.bool (fitsN v.1 wd)) ∧ Below w.heap.size w w') := fits_any v.1 HI.out wd
        obtain ⟨v0, v1⟩ := id Vn
        cases hf : fitsN v.1 wd
        · have E : Hid (prR s wd = (0, 11)) := by rw [PN.out, HPN.out, if_pos h0, if_neg (by rw [hf]; decide)]; rfl
          rw [hf] at FIT
          clear h0 hf
          go_wp2_with fail
          refine (FIT.out _).mono ?_
          rintro e wf ⟨rfl, hbf⟩
          have Zf := Zn.below hbf Zn.lt
          have hBf := bstep hBn hbf
          clear z0 z1 z2 z3 v0 v1 hbf
          obtain ⟨z0, z1, z2, z3⟩ := id Zf
          go_wp2
          refine bodyPost_ret (v := .tuple #[B (prR s wd).1, .int .i64 (prR s wd).2]) ?_ rfl ⟨rfl, (hBf.setCell (Nat.le_refl _) _).setCell (Nat.le_refl _) _⟩
          obtain ⟨r0, r1⟩ := zresult (x := .int .u64 0) (y := .int .u64 0) z0 z1
          rw [E.out, zero_words]; simp [results, Tryd.results39, go_sem, r0, r1]
        · have E : Hid (prR s wd = (v.1, 0)) := by rw [PN.out, HPN.out, if_pos h0, if_pos hf]; rfl
          rw [hf] at FIT
          clear h0 hf
          go_wp2_with fail
          refine (FIT.out _).mono ?_
          rintro e wf ⟨rfl, hbf⟩
          have Zf := Zn.below hbf Zn.lt
          have Vf := Vn.below hbf Vn.lt
          have hBf := bstep hBn hbf
          clear z0 z1 z2 z3 v0 v1 hbf
          obtain ⟨z0, z1, z2, z3⟩ := id Zf
          obtain ⟨v0, v1⟩ := id Vf
          go_wp2
          refine bodyPost_ret (v := .tuple #[B (prR s wd).1, .int .i64 (prR s wd).2]) ?_ rfl ⟨rfl, (hBf.setCell (Nat.le_refl _) _).setCell (Nat.le_refl _) _⟩
          obtain ⟨r0, r1⟩ := zresult (x := .int .u64 (hiOf v.1)) (y := .int .u64 (loOf v.1)) z0 z1
          rw [E.out]; simp [results, Tryd.results39, go_sem, r0, r1]
      · have h0' : (v.2 != 0) = true := by simp [h0]
        have E : Hid (prR s wd = (0, v.2)) := by rw [PN.out, HPN.out, if_neg h0]; rfl
        clear h0
        go_wp2
        refine bodyPost_ret (v := .tuple #[B (prR s wd).1, .int .i64 (prR s wd).2]) ?_ rfl ⟨rfl, (hBn.setCell (Nat.le_refl _) _).setCell (Nat.le_refl _) _⟩
        obtain ⟨r0, r1⟩ := zresult (x := .int .u64 0) (y := .int .u64 0) z0 z1
        rw [E.out, zero_words]; simp [results, Tryd.results39, go_sem, r0, r1]
  · have E : Hid _ := HCOL.out hc
    clear hc
    go_wp2
    refine bodyPost_ret (v := .tuple #[B (prR s wd).1, .int .i64 (prR s wd).2]) ?_ rfl ⟨rfl, (hB1.setCell (Nat.le_refl _) _).setCell (Nat.le_refl _) _⟩
    obtain ⟨r0, r1⟩ := zresult (x := .int .u64 (hiOf c.1)) (y := .int .u64 (loOf c.1)) z0 z1
    rw [E.out]; simp [results, Tryd.results39, go_sem, r0, r1]
end Go.Proofs.YtjkpdcgmmdimaaaDoor
