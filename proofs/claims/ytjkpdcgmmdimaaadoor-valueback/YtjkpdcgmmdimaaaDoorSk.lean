/- The walk of ValueBack: it returns true at any number of 128 bits, any width, any text; memory only grows. The table of signs lies in memory. -/
import Derived.Test.YtjkpdcgmmdimaaaDoorLe
import Derived.Test.YtjkpdcgmmdimaaaDoorSo
namespace Go.Proofs.YtjkpdcgmmdimaaaDoor
open Go.RowKit
set_option linter.unusedVariables false
set_option linter.unusedSimpArgs false

theorem tx_size (n : Nat) (wd form : Int) (h : wd ≤ 128) : (txN n wd form).length ≤ 1000 := by
  have a := digs_length 10 n
  have b := digs_length 16 n
  have c := digs_length 2 n
  have d := dpre_length n 4
  have e : (colN n ((wd + 7) / 8).toNat).length ≤ 100 := by
    rcases hk : ((wd + 7) / 8).toNat with _ | k
    · simp [colN]
    · rw [colN_length]; omega
  unfold txN
  split
  · simp; omega
  · split
    · simp; omega
    · split
      · omega
      · split <;> omega
/-- Whether a text of some form up to j is the text that was read, or none was. -/
def sameN (s : ByteArray) (wd : Int) : Nat → Bool
  | 0 => (prR s wd).2 != 0
  | j + 1 => sameN s wd j || ((txR (prR s wd).1 wd ((j + 1 : Nat) : Int)).1 == s.toList)
theorem sameN_up {s : ByteArray} {wd : Int} {j : Nat} (h : sameN s wd j = true) : ∀ i, sameN s wd (j + i) = true := by
  intro i; induction i with
  | zero => exact h
  | succ i ih => rw [← Nat.add_assoc, sameN, ih]; rfl
theorem sameN_all {s : ByteArray} {wd : Int} (hW : isW wd = true) : sameN s wd 5 = true := by
  by_cases h : (prR s wd).2 = 0
  · obtain ⟨f, f1, f5, hf⟩ := pr_back hW h
    obtain ⟨j, rfl⟩ : ∃ j, f = j + 1 := ⟨f - 1, by omega⟩
    have : sameN s wd (j + 1) = true := by rw [sameN, hf, ByteArray.toList_eq]; simp
    have h2 := sameN_up this (5 - (j + 1))
    rwa [show j + 1 + (5 - (j + 1)) = 5 by omega] at h2
  · have : sameN s wd 0 = true := by rw [sameN]; simpa using h
    exact sameN_up this 5

set_option maxHeartbeats 8000000 in
set_option maxRecDepth 100000 in
theorem back_walk (n : Nat) (hn : Is128 n) (wd : Int) (s : ByteArray) (hs : s.size ≤ 140737488351232) (w : World) (hT : Tab w) :
    Calls Tryd.prog 8 #[B n, .int .i64 wd, .string s] w fun e w' => e = .returned (.bool true) ∧ Below w.heap.size w w' := by
  have B0 : Below w.heap.size w (w.alloc (.cells #[.int .u64 (hiOf n), .int .u64 (loOf n)] 24)) := by go_grown
  have HT0 : Hid (Tab (w.alloc (.cells #[.int .u64 (hiOf n), .int .u64 (loOf n)] 24))) := hT.below B0
  have HT : Hid (Tab w) := hT
  clear hT
  cases hW : isW wd
  · rcases isW_not hW with h | h
    · go_enter Tryd.func8, Tryd.ntmps8
      go_wp2_with fail
      refine (awake_any _ HT0.out).mono ?_
      rintro e w1 ⟨rfl, hb1⟩
      go_wp2
      go_ret
      exact ⟨rfl, bstep B0 hb1⟩
    · have h' : decide (wd < 1) = false := by simp; omega
      go_enter Tryd.func8, Tryd.ntmps8
      go_wp2_with fail
      refine (awake_any _ HT0.out).mono ?_
      rintro e w1 ⟨rfl, hb1⟩
      go_wp2
      go_ret
      exact ⟨rfl, bstep B0 hb1⟩
  have hb := isW_bounds hW
  have d1 : decide (wd < 1) = false := by simp; omega
  have d2 : decide (128 < wd) = false := by simp; omega
  have hx := cut_is hn wd
  have hfx := cut_fits n hW
  have cx : ∀ w, Calls Tryd.prog 24 #[B n, .int .i64 wd] w fun e w' => e = .returned (B (cutN n wd)) ∧ Below w.heap.size w w' := cut_any n hn wd
  generalize cutN n wd = x at *
  have CX : Hid (∀ w, Calls Tryd.prog 24 #[B n, .int .i64 wd] w fun e w' => e = .returned (B x) ∧ Below w.heap.size w w') := cx
  obtain ⟨bb, hbb1, hbb2, hbb3⟩ : ∃ bb : ByteArray, (∀ w, Calls Tryd.prog 34 #[B x, .int .i64 wd] w fun e w' => e = .returned (.tuple #[.string bb, .int .i64 0]) ∧ Below w.heap.size w w') ∧ (∀ w, Calls Tryd.prog 35 #[.string bb, .int .i64 wd] w fun e w' => e = .returned (.tuple #[B x, .int .i64 0]) ∧ Below w.heap.size w w') ∧ (bb.size : Int) = (wd + 7) / 8 := by
    refine ⟨⟨(be ((wd + 7) / 8).toNat x).toArray⟩, fun w => bytes_ok x hx wd hW hfx w, fun w => ?_, ?_⟩
    · have h16 : (⟨(be ((wd + 7) / 8).toNat x).toArray⟩ : ByteArray).size ≤ maxLen := by
        have : (⟨(be ((wd + 7) / 8).toNat x).toArray⟩ : ByteArray).size = ((wd + 7) / 8).toNat := by show (be _ _).toArray.size = _; simp [be_length]
        rw [this]; unfold maxLen; omega
      have := from_any ⟨(be ((wd + 7) / 8).toNat x).toArray⟩ h16 wd w
      rw [show (⟨(be ((wd + 7) / 8).toNat x).toArray⟩ : ByteArray).data.toList = be ((wd + 7) / 8).toNat x by simp, bytes_back hx hW hfx] at this
      exact this
    · show (((be _ _).toArray.size : Nat) : Int) = _
      simp [be_length]; omega
  have CY : Hid (∀ w, Calls Tryd.prog 34 #[B x, .int .i64 wd] w fun e w' => e = .returned (.tuple #[.string bb, .int .i64 0]) ∧ Below w.heap.size w w') := hbb1
  have CF : Hid (∀ w, Calls Tryd.prog 35 #[.string bb, .int .i64 wd] w fun e w' => e = .returned (.tuple #[B x, .int .i64 0]) ∧ Below w.heap.size w w') := hbb2
  have hlb : ((bb.size : Int) != (wd + 7) / 8) = false := by simp [hbb3]
  have hgI := pr_is s wd
  have HS5 : Hid (sameN s wd 5 = true) := sameN_all hW
  have HS0 : Hid (sameN s wd 0 = ((prR s wd).2 != 0)) := rfl
  have HSJ : Hid (∀ j, sameN s wd (j + 1) = (sameN s wd j || ((txR (prR s wd).1 wd ((j + 1 : Nat) : Int)).1 == s.toList))) := fun j => rfl
  have cp : ∀ w, Tab w → Calls Tryd.prog 39 #[.string s, .int .i64 wd] w fun e w' => e = .returned (.tuple #[B (prR s wd).1, .int .i64 (prR s wd).2]) ∧ Below w.heap.size w w' := fun w hT => parse_all s hs wd w hT
  generalize prR s wd = g at *
  have CP : Hid (∀ w, Tab w → Calls Tryd.prog 39 #[.string s, .int .i64 wd] w fun e w' => e = .returned (.tuple #[B g.1, .int .i64 g.2]) ∧ Below w.heap.size w w') := cp
  have TX : Hid (∀ f w, Tab w → Calls Tryd.prog 38 #[B x, .int .i64 wd, .int .i64 f] w fun e w' => e = .returned (.tuple #[.string ⟨(txR x wd f).1.toArray⟩, .int .i64 (txR x wd f).2]) ∧ Below w.heap.size w w') := fun f w hT => text_all x hx wd f w hT
  have UX : Hid (∀ f w, Tab w → Calls Tryd.prog 38 #[B g.1, .int .i64 wd, .int .i64 f] w fun e w' => e = .returned (.tuple #[.string ⟨(txR g.1 wd f).1.toArray⟩, .int .i64 (txR g.1 wd f).2]) ∧ Below w.heap.size w w') := fun f w hT => text_all g.1 hgI wd f w hT
  have PX : Hid (∀ f, isF f = true → hasF wd f = true → txR x wd f = (txN x wd f, 0) ∧ ∀ w, Tab w → Calls Tryd.prog 39 #[.string ⟨(txN x wd f).toArray⟩, .int .i64 wd] w fun e w' => e = .returned (.tuple #[B x, .int .i64 0]) ∧ Below w.heap.size w w') := fun f hF hH => ⟨txR_yes hF hH hfx, fun w hT => by
    have hsz : (⟨(txN x wd f).toArray⟩ : ByteArray).size ≤ 140737488351232 := by
      have h1 : (⟨(txN x wd f).toArray⟩ : ByteArray).size = (txN x wd f).length := by show (txN x wd f).toArray.size = _; simp
      have := tx_size x wd f hb.2
      omega
    have := parse_all ⟨(txN x wd f).toArray⟩ hsz wd w hT
    rwa [pr_tx hx hW hfx hF hH] at this⟩
  have NX : Hid (∀ f, isF f = true → hasF wd f = false → txR x wd f = ([], 10)) := fun f hF hH => txR_has hF hH
  have nq := fun w => run_neqB_same x w
  have HWW : Hid (isW wd = true) := hW
  clear cx cp hbb1 hbb2 hbb3 hfx hgI
  go_enter Tryd.func8, Tryd.ntmps8
  go_wp2_with fail
  refine (awake_any _ HT0.out).mono ?_
  rintro e w1 ⟨rfl, hb1⟩
  have A1 : Box w1 w.heap.size n := (Box.new w n).below hb1 (by simp)
  have hB1 := bstep B0 hb1
  clear hb1 B0 HT0
  obtain ⟨a0, a1⟩ := id A1
  go_wp2_with fail
  refine (CX.out _).mono ?_
  rintro e w2 ⟨rfl, hb2⟩
  have X2 := Box.new w2 x
  have hB2 := (bstep hB1 hb2).alloc (bstep hB1 hb2).size (.cells #[.int .u64 (hiOf x), .int .u64 (loOf x)] 24)
  clear a0 a1 A1 hB1 hb2
  obtain ⟨x0, x1⟩ := id X2
  go_wp2_with fail
  refine (CY.out _).mono ?_
  rintro e w3 ⟨rfl, hb3⟩
  have X3 := X2.below hb3 X2.lt
  have hB3 := bstep hB2 hb3
  clear x0 x1 X2 hB2 hb3
  go_wp2_with fail
  refine (CF.out _).mono ?_
  rintro e w4 ⟨rfl, hb4⟩
  have X4 := (X3.below hb4 X3.lt).past (.cells #[.int .u64 (hiOf x), .int .u64 (loOf x)] 24)
  have Y4 := Box.new w4 x
  have hB4 := (bstep hB3 hb4).alloc (bstep hB3 hb4).size (.cells #[.int .u64 (hiOf x), .int .u64 (loOf x)] 24)
  have HT4 : Hid (Tab (w4.alloc (.cells #[.int .u64 (hiOf x), .int .u64 (loOf x)] 24))) := HT.out.below hB4
  clear X3 hB3 hb4
  obtain ⟨x0, x1⟩ := id X4
  obtain ⟨y0, y1⟩ := id Y4
  go_wp2_with fail
  refine (CP.out _ HT4.out).mono ?_
  rintro e w5 ⟨rfl, hb5⟩
  have X5 := (X4.below hb5 X4.lt).past (.cells #[.int .u64 (hiOf g.1), .int .u64 (loOf g.1)] 24)
  have G5 := Box.new w5 g.1
  have hB5 := (bstep hB4 hb5).alloc (bstep hB4 hb5).size (.cells #[.int .u64 (hiOf g.1), .int .u64 (loOf g.1)] 24)
  clear x0 x1 y0 y1 X4 Y4 hB4 hb5 HT4
  go_wp2_with fail
  go_loopw [15, 16] (fun sm c wr => ∃ j : Nat, j ≤ 5 ∧ c = .int .i64 ((j : Int) + 1) ∧ sm = .bool (sameN s wd j) ∧ Box wr w2.heap.size x ∧ Box wr w5.heap.size g.1 ∧ Below w.heap.size w wr) (fun _ c _ => 6 - (intOf c).toNat)
  case atStart => exact ⟨0, by omega, by simp, by rw [HS0.out], X5, G5, hB5⟩
  case round =>
    obtain ⟨j, hj, rfl, rfl, X, G, hB⟩ := hrel
    clear X5 G5 hB5
    have HTr : Hid (Tab wr) := HT.out.below hB
    obtain ⟨x0, x1⟩ := id X
    by_cases hlt : j < 5
    · have hjs := HSJ.out j
      have HJ : Hid _ := hjs
      clear hjs
      generalize sameN s wd j = s0 at *
      rcases (by omega : j = 0 ∨ j = 1 ∨ j = 2 ∨ j = 3 ∨ j = 4) with rfl | rfl | rfl | rfl | rfl
      · have HH : Hid (hasF wd 1 = true) := by have := HWW.out; show _ = _; unfold hasF; simpa using this
        obtain ⟨ex, px⟩ := PX.out 1 (by decide) HH.out
        have EX : Hid _ := ex
        have PXX : Hid (∀ w, Tab w → Calls Tryd.prog 39 #[.string ⟨(txN x wd 1).toArray⟩, .int .i64 wd] w fun e w' => e = .returned (.tuple #[B x, .int .i64 0]) ∧ Below w.heap.size w w') := px
        clear ex px
        go_wp2_with fail
        refine (TX.out _ _ HTr.out).mono ?_
        rw [EX.out]
        rintro e wa ⟨rfl, hba⟩
        have Xa := X.below hba X.lt
        have Ga := G.below hba G.lt
        have hBa := bstep hB hba
        have HTa : Hid (Tab wa) := HT.out.below hBa
        clear x0 x1 X G hB hba
        go_wp2_with fail
        refine (PXX.out _ HTa.out).mono ?_
        rintro e wb ⟨rfl, hbb⟩
        have Xb := (Xa.below hbb Xa.lt).past (.cells #[.int .u64 (hiOf x), .int .u64 (loOf x)] 24)
        have Gb := (Ga.below hbb Ga.lt).past (.cells #[.int .u64 (hiOf x), .int .u64 (loOf x)] 24)
        have Yb := Box.new wb x
        have hBb := (bstep hBa hbb).alloc (bstep hBa hbb).size (.cells #[.int .u64 (hiOf x), .int .u64 (loOf x)] 24)
        have HTb : Hid (Tab (wb.alloc (.cells #[.int .u64 (hiOf x), .int .u64 (loOf x)] 24))) := HT.out.below hBb
        clear Xa Ga hBa hbb HTa
        obtain ⟨x0, x1⟩ := id Xb
        obtain ⟨y0, y1⟩ := id Yb
        obtain ⟨g0, g1⟩ := id Gb
        go_wp2_with fail
        refine (UX.out _ _ HTb.out).mono ?_
        rintro e wc ⟨rfl, hbc⟩
        have Xc := Xb.below hbc Xb.lt
        have Gc := Gb.below hbc Gb.lt
        have hBc := bstep hBb hbc
        clear x0 x1 y0 y1 g0 g1 Xb Gb Yb hBb hbc HTb
        have hE : Hid (sameN s wd 1 = (s0 || ((txR g.1 wd 1).1 == s.toList))) := HJ.out
        clear HJ
        cases s0
        · go_wp2
          exact ⟨⟨1, by omega, by simp, by rw [hE.out]; rfl, Xc, Gc, hBc⟩, by simp only [intOf]; omega⟩
        · go_wp2
          exact ⟨⟨1, by omega, by simp, by rw [hE.out]; rfl, Xc, Gc, hBc⟩, by simp only [intOf]; omega⟩
      · have HH : Hid (hasF wd 2 = true) := by have := HWW.out; show _ = _; unfold hasF; simpa using this
        obtain ⟨ex, px⟩ := PX.out 2 (by decide) HH.out
        have EX : Hid _ := ex
        have PXX : Hid (∀ w, Tab w → Calls Tryd.prog 39 #[.string ⟨(txN x wd 2).toArray⟩, .int .i64 wd] w fun e w' => e = .returned (.tuple #[B x, .int .i64 0]) ∧ Below w.heap.size w w') := px
        clear ex px
        go_wp2_with fail
        refine (TX.out _ _ HTr.out).mono ?_
        rw [EX.out]
        rintro e wa ⟨rfl, hba⟩
        have Xa := X.below hba X.lt
        have Ga := G.below hba G.lt
        have hBa := bstep hB hba
        have HTa : Hid (Tab wa) := HT.out.below hBa
        clear x0 x1 X G hB hba
        go_wp2_with fail
        refine (PXX.out _ HTa.out).mono ?_
        rintro e wb ⟨rfl, hbb⟩
        have Xb := (Xa.below hbb Xa.lt).past (.cells #[.int .u64 (hiOf x), .int .u64 (loOf x)] 24)
        have Gb := (Ga.below hbb Ga.lt).past (.cells #[.int .u64 (hiOf x), .int .u64 (loOf x)] 24)
        have Yb := Box.new wb x
        have hBb := (bstep hBa hbb).alloc (bstep hBa hbb).size (.cells #[.int .u64 (hiOf x), .int .u64 (loOf x)] 24)
        have HTb : Hid (Tab (wb.alloc (.cells #[.int .u64 (hiOf x), .int .u64 (loOf x)] 24))) := HT.out.below hBb
        clear Xa Ga hBa hbb HTa
        obtain ⟨x0, x1⟩ := id Xb
        obtain ⟨y0, y1⟩ := id Yb
        obtain ⟨g0, g1⟩ := id Gb
        go_wp2_with fail
        refine (UX.out _ _ HTb.out).mono ?_
        rintro e wc ⟨rfl, hbc⟩
        have Xc := Xb.below hbc Xb.lt
        have Gc := Gb.below hbc Gb.lt
        have hBc := bstep hBb hbc
        clear x0 x1 y0 y1 g0 g1 Xb Gb Yb hBb hbc HTb
        have hE : Hid (sameN s wd 2 = (s0 || ((txR g.1 wd 2).1 == s.toList))) := HJ.out
        clear HJ
        cases s0
        · go_wp2
          exact ⟨⟨2, by omega, by simp, by rw [hE.out]; rfl, Xc, Gc, hBc⟩, by simp only [intOf]; omega⟩
        · go_wp2
          exact ⟨⟨2, by omega, by simp, by rw [hE.out]; rfl, Xc, Gc, hBc⟩, by simp only [intOf]; omega⟩
      · have HH : Hid (hasF wd 3 = true) := by have := HWW.out; show _ = _; unfold hasF; simpa using this
        obtain ⟨ex, px⟩ := PX.out 3 (by decide) HH.out
        have EX : Hid _ := ex
        have PXX : Hid (∀ w, Tab w → Calls Tryd.prog 39 #[.string ⟨(txN x wd 3).toArray⟩, .int .i64 wd] w fun e w' => e = .returned (.tuple #[B x, .int .i64 0]) ∧ Below w.heap.size w w') := px
        clear ex px
        go_wp2_with fail
        refine (TX.out _ _ HTr.out).mono ?_
        rw [EX.out]
        rintro e wa ⟨rfl, hba⟩
        have Xa := X.below hba X.lt
        have Ga := G.below hba G.lt
        have hBa := bstep hB hba
        have HTa : Hid (Tab wa) := HT.out.below hBa
        clear x0 x1 X G hB hba
        go_wp2_with fail
        refine (PXX.out _ HTa.out).mono ?_
        rintro e wb ⟨rfl, hbb⟩
        have Xb := (Xa.below hbb Xa.lt).past (.cells #[.int .u64 (hiOf x), .int .u64 (loOf x)] 24)
        have Gb := (Ga.below hbb Ga.lt).past (.cells #[.int .u64 (hiOf x), .int .u64 (loOf x)] 24)
        have Yb := Box.new wb x
        have hBb := (bstep hBa hbb).alloc (bstep hBa hbb).size (.cells #[.int .u64 (hiOf x), .int .u64 (loOf x)] 24)
        have HTb : Hid (Tab (wb.alloc (.cells #[.int .u64 (hiOf x), .int .u64 (loOf x)] 24))) := HT.out.below hBb
        clear Xa Ga hBa hbb HTa
        obtain ⟨x0, x1⟩ := id Xb
        obtain ⟨y0, y1⟩ := id Yb
        obtain ⟨g0, g1⟩ := id Gb
        go_wp2_with fail
        refine (UX.out _ _ HTb.out).mono ?_
        rintro e wc ⟨rfl, hbc⟩
        have Xc := Xb.below hbc Xb.lt
        have Gc := Gb.below hbc Gb.lt
        have hBc := bstep hBb hbc
        clear x0 x1 y0 y1 g0 g1 Xb Gb Yb hBb hbc HTb
        have hE : Hid (sameN s wd 3 = (s0 || ((txR g.1 wd 3).1 == s.toList))) := HJ.out
        clear HJ
        cases s0
        · go_wp2
          exact ⟨⟨3, by omega, by simp, by rw [hE.out]; rfl, Xc, Gc, hBc⟩, by simp only [intOf]; omega⟩
        · go_wp2
          exact ⟨⟨3, by omega, by simp, by rw [hE.out]; rfl, Xc, Gc, hBc⟩, by simp only [intOf]; omega⟩
      · by_cases h32 : wd = 32
        · have q32 : (wd == 32) = true := by simp [h32]
          have HH : Hid (hasF wd 4 = true) := by show _ = _; unfold hasF; simpa using h32
          clear h32
          obtain ⟨ex, px⟩ := PX.out 4 (by decide) HH.out
          have EX : Hid _ := ex
          have PXX : Hid (∀ w, Tab w → Calls Tryd.prog 39 #[.string ⟨(txN x wd 4).toArray⟩, .int .i64 wd] w fun e w' => e = .returned (.tuple #[B x, .int .i64 0]) ∧ Below w.heap.size w w') := px
          clear ex px
          go_wp2_with fail
          refine (TX.out _ _ HTr.out).mono ?_
          rw [EX.out]
          rintro e wa ⟨rfl, hba⟩
          have Xa := X.below hba X.lt
          have Ga := G.below hba G.lt
          have hBa := bstep hB hba
          have HTa : Hid (Tab wa) := HT.out.below hBa
          clear x0 x1 X G hB hba
          go_wp2_with fail
          refine (PXX.out _ HTa.out).mono ?_
          rintro e wb ⟨rfl, hbb⟩
          have Xb := (Xa.below hbb Xa.lt).past (.cells #[.int .u64 (hiOf x), .int .u64 (loOf x)] 24)
          have Gb := (Ga.below hbb Ga.lt).past (.cells #[.int .u64 (hiOf x), .int .u64 (loOf x)] 24)
          have Yb := Box.new wb x
          have hBb := (bstep hBa hbb).alloc (bstep hBa hbb).size (.cells #[.int .u64 (hiOf x), .int .u64 (loOf x)] 24)
          have HTb : Hid (Tab (wb.alloc (.cells #[.int .u64 (hiOf x), .int .u64 (loOf x)] 24))) := HT.out.below hBb
          clear Xa Ga hBa hbb HTa
          obtain ⟨x0, x1⟩ := id Xb
          obtain ⟨y0, y1⟩ := id Yb
          obtain ⟨g0, g1⟩ := id Gb
          go_wp2_with fail
          refine (UX.out _ _ HTb.out).mono ?_
          rintro e wc ⟨rfl, hbc⟩
          have Xc := Xb.below hbc Xb.lt
          have Gc := Gb.below hbc Gb.lt
          have hBc := bstep hBb hbc
          clear x0 x1 y0 y1 g0 g1 Xb Gb Yb hBb hbc HTb
          have hE : Hid (sameN s wd 4 = (s0 || ((txR g.1 wd 4).1 == s.toList))) := HJ.out
          clear HJ
          cases s0
          · go_wp2
            exact ⟨⟨4, by omega, by simp, by rw [hE.out]; rfl, Xc, Gc, hBc⟩, by simp only [intOf]; omega⟩
          · go_wp2
            exact ⟨⟨4, by omega, by simp, by rw [hE.out]; rfl, Xc, Gc, hBc⟩, by simp only [intOf]; omega⟩
        · have q32 : (wd == 32) = false := by simpa using h32
          have HH : Hid (hasF wd 4 = false) := by show _ = _; unfold hasF; simpa using h32
          clear h32
          have EX : Hid _ := NX.out 4 (by decide) HH.out
          go_wp2_with fail
          refine (TX.out _ _ HTr.out).mono ?_
          rw [EX.out]
          rintro e wa ⟨rfl, hba⟩
          have Xb := X.below hba X.lt
          have Gb := G.below hba G.lt
          have hBb := bstep hB hba
          have HTb : Hid (Tab wa) := HT.out.below hBb
          clear x0 x1 X G hB hba
          obtain ⟨g0, g1⟩ := id Gb
          go_wp2_with fail
          refine (UX.out _ _ HTb.out).mono ?_
          rintro e wc ⟨rfl, hbc⟩
          have Xc := Xb.below hbc Xb.lt
          have Gc := Gb.below hbc Gb.lt
          have hBc := bstep hBb hbc
          clear g0 g1 Xb Gb hBb hbc HTb
          have hE : Hid (sameN s wd 4 = (s0 || ((txR g.1 wd 4).1 == s.toList))) := HJ.out
          clear HJ
          cases s0
          · go_wp2
            exact ⟨⟨4, by omega, by simp, by rw [hE.out]; rfl, Xc, Gc, hBc⟩, by simp only [intOf]; omega⟩
          · go_wp2
            exact ⟨⟨4, by omega, by simp, by rw [hE.out]; rfl, Xc, Gc, hBc⟩, by simp only [intOf]; omega⟩
      · by_cases h8 : wd % 8 = 0
        · have q8 : (wd % 8 == 0) = true := by simp [h8]
          by_cases hg8 : 8 < wd
          · have HH : Hid (hasF wd 5 = true) := by have := HWW.out; show _ = _; unfold hasF hasC; rw [this]; simp; omega
            clear h8
            obtain ⟨ex, px⟩ := PX.out 5 (by decide) HH.out
            have EX : Hid _ := ex
            have PXX : Hid (∀ w, Tab w → Calls Tryd.prog 39 #[.string ⟨(txN x wd 5).toArray⟩, .int .i64 wd] w fun e w' => e = .returned (.tuple #[B x, .int .i64 0]) ∧ Below w.heap.size w w') := px
            clear ex px
            go_wp2_with fail
            refine (TX.out _ _ HTr.out).mono ?_
            rw [EX.out]
            rintro e wa ⟨rfl, hba⟩
            have Xa := X.below hba X.lt
            have Ga := G.below hba G.lt
            have hBa := bstep hB hba
            have HTa : Hid (Tab wa) := HT.out.below hBa
            clear x0 x1 X G hB hba
            go_wp2_with fail
            refine (PXX.out _ HTa.out).mono ?_
            rintro e wb ⟨rfl, hbb⟩
            have Xb := (Xa.below hbb Xa.lt).past (.cells #[.int .u64 (hiOf x), .int .u64 (loOf x)] 24)
            have Gb := (Ga.below hbb Ga.lt).past (.cells #[.int .u64 (hiOf x), .int .u64 (loOf x)] 24)
            have Yb := Box.new wb x
            have hBb := (bstep hBa hbb).alloc (bstep hBa hbb).size (.cells #[.int .u64 (hiOf x), .int .u64 (loOf x)] 24)
            have HTb : Hid (Tab (wb.alloc (.cells #[.int .u64 (hiOf x), .int .u64 (loOf x)] 24))) := HT.out.below hBb
            clear Xa Ga hBa hbb HTa
            obtain ⟨x0, x1⟩ := id Xb
            obtain ⟨y0, y1⟩ := id Yb
            obtain ⟨g0, g1⟩ := id Gb
            go_wp2_with fail
            refine (UX.out _ _ HTb.out).mono ?_
            rintro e wc ⟨rfl, hbc⟩
            have Xc := Xb.below hbc Xb.lt
            have Gc := Gb.below hbc Gb.lt
            have hBc := bstep hBb hbc
            clear x0 x1 y0 y1 g0 g1 Xb Gb Yb hBb hbc HTb
            have hE : Hid (sameN s wd 5 = (s0 || ((txR g.1 wd 5).1 == s.toList))) := HJ.out
            clear HJ
            cases s0
            · go_wp2
              exact ⟨⟨5, by omega, by simp, by rw [hE.out]; rfl, Xc, Gc, hBc⟩, by simp only [intOf]; omega⟩
            · go_wp2
              exact ⟨⟨5, by omega, by simp, by rw [hE.out]; rfl, Xc, Gc, hBc⟩, by simp only [intOf]; omega⟩
          · have qg : decide (8 < wd) = false := by simpa using hg8
            have HH : Hid (hasF wd 5 = false) := by have := HWW.out; show _ = _; unfold hasF hasC; rw [this]; simp; omega
            clear h8 hg8
            have EX : Hid _ := NX.out 5 (by decide) HH.out
            go_wp2_with fail
            refine (TX.out _ _ HTr.out).mono ?_
            rw [EX.out]
            rintro e wa ⟨rfl, hba⟩
            have Xb := X.below hba X.lt
            have Gb := G.below hba G.lt
            have hBb := bstep hB hba
            have HTb : Hid (Tab wa) := HT.out.below hBb
            clear x0 x1 X G hB hba
            obtain ⟨g0, g1⟩ := id Gb
            go_wp2_with fail
            refine (UX.out _ _ HTb.out).mono ?_
            rintro e wc ⟨rfl, hbc⟩
            have Xc := Xb.below hbc Xb.lt
            have Gc := Gb.below hbc Gb.lt
            have hBc := bstep hBb hbc
            clear g0 g1 Xb Gb hBb hbc HTb
            have hE : Hid (sameN s wd 5 = (s0 || ((txR g.1 wd 5).1 == s.toList))) := HJ.out
            clear HJ
            cases s0
            · go_wp2
              exact ⟨⟨5, by omega, by simp, by rw [hE.out]; rfl, Xc, Gc, hBc⟩, by simp only [intOf]; omega⟩
            · go_wp2
              exact ⟨⟨5, by omega, by simp, by rw [hE.out]; rfl, Xc, Gc, hBc⟩, by simp only [intOf]; omega⟩
        · have q8 : (wd % 8 == 0) = false := by simpa using h8
          have HH : Hid (hasF wd 5 = false) := by have := HWW.out; show _ = _; unfold hasF hasC; rw [this]; simp; omega
          clear h8
          have EX : Hid _ := NX.out 5 (by decide) HH.out
          go_wp2_with fail
          refine (TX.out _ _ HTr.out).mono ?_
          rw [EX.out]
          rintro e wa ⟨rfl, hba⟩
          have Xb := X.below hba X.lt
          have Gb := G.below hba G.lt
          have hBb := bstep hB hba
          have HTb : Hid (Tab wa) := HT.out.below hBb
          clear x0 x1 X G hB hba
          obtain ⟨g0, g1⟩ := id Gb
          go_wp2_with fail
          refine (UX.out _ _ HTb.out).mono ?_
          rintro e wc ⟨rfl, hbc⟩
          have Xc := Xb.below hbc Xb.lt
          have Gc := Gb.below hbc Gb.lt
          have hBc := bstep hBb hbc
          clear g0 g1 Xb Gb hBb hbc HTb
          have hE : Hid (sameN s wd 5 = (s0 || ((txR g.1 wd 5).1 == s.toList))) := HJ.out
          clear HJ
          cases s0
          · go_wp2
            exact ⟨⟨5, by omega, by simp, by rw [hE.out]; rfl, Xc, Gc, hBc⟩, by simp only [intOf]; omega⟩
          · go_wp2
            exact ⟨⟨5, by omega, by simp, by rw [hE.out]; rfl, Xc, Gc, hBc⟩, by simp only [intOf]; omega⟩
    · obtain rfl : j = 5 := by omega
      rw [HS5.out]
      go_wp2
      go_ret
      exact ⟨rfl, hB⟩
end Go.Proofs.YtjkpdcgmmdimaaaDoor
