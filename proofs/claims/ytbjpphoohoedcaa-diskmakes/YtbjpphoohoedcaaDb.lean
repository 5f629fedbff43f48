/- The walk of DiskMakes. -/
import Derived.Test.YtbjpphoohoedcaaDa
namespace Go.Proofs.Ytbjpphoohoedcaa
open Go.RowKit
set_option linter.unusedVariables false
set_option linter.unusedSimpArgs false

set_option maxHeartbeats 2000000 in
set_option maxRecDepth 100000 in
theorem makes_nn (n : Int) (hn : ¬ (1 ≤ n ∧ n ≤ 4096)) (s : ByteArray) (hs : s.size ≤ 140737488355328) (hm : ¬ (s.size % 512 = 0 ∧ 1 ≤ s.size / 512 ∧ s.size / 512 ≤ 4096)) (w : World) : Calls Try.prog 3 #[.int .i64 n, .string s] w fun e w' => e = .returned (.bool true) ∧ Below w.heap.size w w' := by
  have CU : Hid (∀ w : World, Calls Try.prog 11 #[] w fun e w' => e = .returned (.bool true) ∧ Below w.heap.size w w') := awake_any
  have CA : Hid (∀ w1 : World, Calls Try.prog 12 #[.int .i64 n] w1 fun e w' => e = .returned (.tuple #[.pointer none, .int .i64 1]) ∧ w' = w1) := fun w1 => new_no n hn w1
  have CB : Hid (∀ w1 : World, Calls Try.prog 13 #[.int .i64 n] w1 fun e w' => e = .returned (.tuple #[.pointer none, .int .i64 1]) ∧ w' = w1) := fun w1 => rnew_no n hn w1
  have CC : Hid (∀ w1 : World, Calls Try.prog 14 #[.string s] w1 fun e w' => e = .returned (.tuple #[.pointer none, .int .i64 1]) ∧ w' = w1) := fun w1 => load_no s hs hm w1
  have CD : Hid (∀ w1 : World, Calls Try.prog 15 #[.string s] w1 fun e w' => e = .returned (.tuple #[.pointer none, .int .i64 1]) ∧ w' = w1) := fun w1 => rload_no s hs hm w1
  clear hs hn hm
  go_enter Try.func3, Try.ntmps3
  go_wp2_with fail
  refine (CU.out _).mono ?_
  rintro e w1 ⟨rfl, hb1⟩
  have z1 := hb1.size
  go_wp2_with fail
  refine (CA.out _).mono ?_
  rintro e w2 ⟨rfl, hw⟩
  rw [hw]
  clear hw
  go_wp2_with fail
  refine (CB.out _).mono ?_
  rintro e w3 ⟨rfl, hw⟩
  rw [hw]
  clear hw w2 w3
  have hB3 := hb1
  generalize w1 = w3 at *
  have z3 := z1
  clear CU CA CB
  go_wp2_with fail
  refine (CC.out _).mono ?_
  rintro e w4 ⟨rfl, hw⟩
  rw [hw]
  clear hw
  go_wp2_with fail
  refine (CD.out _).mono ?_
  rintro e w5 ⟨rfl, hw⟩
  rw [hw]
  clear hw w4 w5
  have hB5 := hB3
  have z5 := z3
  generalize w3 = w5 at *
  clear CC CD hB3
  have hB10 := hB5
  have z10 := z5
  generalize w5 = w10 at *
  clear hB5
  have HB10 : Hid (Below w.heap.size w w10) := hB10
  clear hB10
  go_wp2
  go_ret
  exact ⟨rfl, HB10.out⟩
set_option maxHeartbeats 2000000 in
set_option maxRecDepth 100000 in
theorem makes_ny (n : Int) (hn : ¬ (1 ≤ n ∧ n ≤ 4096)) (s : ByteArray) (hs : s.size ≤ 140737488355328) (m : Nat) (hm : s.size = m * 512) (hm1 : 1 ≤ m) (hm2 : m ≤ 4096) (w : World) : Calls Try.prog 3 #[.int .i64 n, .string s] w fun e w' => e = .returned (.bool true) ∧ Below w.heap.size w w' := by
  have CU : Hid (∀ w : World, Calls Try.prog 11 #[] w fun e w' => e = .returned (.bool true) ∧ Below w.heap.size w w') := awake_any
  have CA : Hid (∀ w1 : World, Calls Try.prog 12 #[.int .i64 n] w1 fun e w' => e = .returned (.tuple #[.pointer none, .int .i64 1]) ∧ w' = w1) := fun w1 => new_no n hn w1
  have CB : Hid (∀ w1 : World, Calls Try.prog 13 #[.int .i64 n] w1 fun e w' => e = .returned (.tuple #[.pointer none, .int .i64 1]) ∧ w' = w1) := fun w1 => rnew_no n hn w1
  have CC : Hid (∀ w1 : World, w.heap.size ≤ w1.heap.size → Calls Try.prog 14 #[.string s] w1 fun e w' => ∃ (b : Nat) (fp : Nat → Prop), e = .returned (.tuple #[.pointer (some ⟨b, 0, none⟩), .int .i64 0]) ∧ Hid (Dk w.heap.size w' b fp (freshD (secs s m))) ∧ Hid (∀ k, fp k → w1.heap.size ≤ k) ∧ Below w1.heap.size w1 w') := fun w1 h => load_ok s m hm hm1 hm2 w.heap.size w1 h
  have CD : Hid (∀ w1 : World, w.heap.size ≤ w1.heap.size → Calls Try.prog 15 #[.string s] w1 fun e w' => ∃ (b : Nat) (fp : Nat → Prop), e = .returned (.tuple #[.pointer (some ⟨b, 0, none⟩), .int .i64 0]) ∧ Hid (Rk w.heap.size w' b fp (freshD (secs s m))) ∧ Hid (∀ k, fp k → w1.heap.size ≤ k) ∧ Below w1.heap.size w1 w') := fun w1 h => rload_ok s m hm hm1 hm2 w.heap.size w1 h
  have HIM : Hid (∀ S : DS, S.safe = secs s m → catB S.safe = s) := fun S h => by rw [h]; exact catB_secs s m hm
  obtain ⟨SC, hSC⟩ : ∃ SC, SC = freshD (secs s m) := ⟨_, rfl⟩
  have HSC : Hid (SC.safe = secs s m) := hSC ▸ rfl
  rw [← hSC] at CC CD
  clear hSC
  clear hs hn hm hm1 hm2
  go_enter Try.func3, Try.ntmps3
  go_wp2_with fail
  refine (CU.out _).mono ?_
  rintro e w1 ⟨rfl, hb1⟩
  have z1 := hb1.size
  go_wp2_with fail
  refine (CA.out _).mono ?_
  rintro e w2 ⟨rfl, hw⟩
  rw [hw]
  clear hw
  go_wp2_with fail
  refine (CB.out _).mono ?_
  rintro e w3 ⟨rfl, hw⟩
  rw [hw]
  clear hw w2 w3
  have hB3 := hb1
  generalize w1 = w3 at *
  have z3 := z1
  clear CU CA CB
  go_wp2_with fail
  refine (CC.out _ (by omega)).mono ?_
  rintro e w4 ⟨c, fc, rfl, dC, hfc, hb4⟩
  have z4 := hb4.size
  go_wp2_with fail
  refine (CD.out _ (by omega)).mono ?_
  rintro e w5 ⟨d, fd, rfl, dD, hfd, hb5⟩
  have z5 := hb5.size
  have hB5 : Below w.heap.size w w5 := bstep (bstep hB3 hb4 (Nat.le_refl _)) hb5 (Nat.le_refl _)
  have TC : Hid (Two w.heap.size w5 c d fc fd SC SC) := ⟨dC.out.below hb5, dD.out, fun k h1 h2 => by have := (dC.out.fp k h1).2; have := hfd.out k h2; omega⟩
  clear dC dD hfc hfd hb4 hb5
  clear CC CD hB3
  have hB10 := hB5
  have z10 := z5
  have TC10 := TC
  clear TC
  generalize w5 = w10 at *
  clear hB5
  have HB10 : Hid (Below w.heap.size w w10) := hB10
  have hz10 : w.heap.size ≤ w10.heap.size := hB10.size
  have hb11 := Below_new w10 (.cells #[.pointer (some ⟨c, 0, none⟩), .pointer (some ⟨d, 0, none⟩)] 33)
  have k11 : Hid (Blk (w10.alloc (.cells #[.pointer (some ⟨c, 0, none⟩), .pointer (some ⟨d, 0, none⟩)] 33)) w10.heap.size #[.pointer (some ⟨c, 0, none⟩), .pointer (some ⟨d, 0, none⟩)] 33) := Blk.new _ _ _
  clear hB10
  go_wp2_with fail
  generalize w10.alloc (.cells #[.pointer (some ⟨c, 0, none⟩), .pointer (some ⟨d, 0, none⟩)] 33) = w11 at *
  have t11 := TC10.out.below hb11
  have z11 := hb11.size
  have C16 : Hid (Calls Try.prog 16 #[.agg #[.pointer (some ⟨c, 0, none⟩), .pointer (some ⟨d, 0, none⟩)]] w11 fun e w' => e = .returned (.bool true) ∧ Below w11.heap.size w11 w') := settled_any t11
  refine C16.out.mono ?_
  rintro e w12 ⟨rfl, hb12⟩
  have t12 := t11.below hb12
  have z12 := hb12.size
  have k12 := k11.out.below hb12
  have c120 := k12.cell 0 (v := .pointer (some ⟨c, 0, none⟩)) rfl
  have c121 := k12.cell 1 (v := .pointer (some ⟨d, 0, none⟩)) rfl
  have hB12 : Below w.heap.size w w12 := bstep (bstep HB10.out hb11 (Nat.le_refl _)) hb12 (Nat.le_refl _)
  have C17 : Hid (Calls Try.prog 17 #[.agg #[.pointer (some ⟨c, 0, none⟩), .pointer (some ⟨d, 0, none⟩)], .int .i64 0] w12 fun e w' => e = .returned (.bool true) ∧ TL w.heap.size c d fc fd w12 (readD SC 0) (readD SC 0) w') := pread_any t12 _
  have HRS : Hid ((readD SC 0).safe = secs s m) := by
    show _ = _
    unfold readD
    split
    · exact HSC.out
    · exact HSC.out
  have t12l : Hid (∀ k, (fc k ∨ fd k) → w.heap.size ≤ k) := fun k h => (t12.low k h).1
  clear C16 TC10 t11 hb11 hb12 k11 k12 HB10 t12
  generalize readD SC 0 = SR2 at *
  go_wp2_with fail
  refine C17.out.mono ?_
  rintro e w13 ⟨rfl, hT⟩
  obtain ⟨fc', fd', t13, hk13, hn13⟩ := hT
  have z13 := hk13.size
  have hB13 : Below w.heap.size w w13 := hB12.trans (hk13.below (by omega) t12l.out)
  obtain ⟨g1, h1, cg1, ch1, pv1, bx1, _, d1⟩ := t13.da
  have C18 : Hid (Calls Try.prog 18 #[.pointer (some ⟨c, 0, none⟩)] w13 fun e w' => e = .returned (.string s) ∧ Below w13.heap.size w13 w') := by
    have := image_any d1
    rw [HIM.out SR2 HRS.out] at this
    exact this
  clear t13 hk13 hn13 d1 C17 c120 c121 t12l hB12
  go_wp2_with fail
  refine C18.out.mono ?_
  rintro e w14 ⟨rfl, hb14⟩
  have hend : Hid (Below w.heap.size w w14) := bstep hB13 hb14 (Nat.le_refl _)
  clear C18 hb14 hB13
  go_wp2
  go_ret
  exact ⟨rfl, hend.out⟩
set_option maxHeartbeats 2000000 in
set_option maxRecDepth 100000 in
theorem makes_yn (N : Nat) (hN1 : 1 ≤ N) (hN2 : N ≤ 4096) (s : ByteArray) (hs : s.size ≤ 140737488355328) (hm : ¬ (s.size % 512 = 0 ∧ 1 ≤ s.size / 512 ∧ s.size / 512 ≤ 4096)) (w : World) : Calls Try.prog 3 #[.int .i64 (N : Int), .string s] w fun e w' => e = .returned (.bool true) ∧ Below w.heap.size w w' := by
  have CU : Hid (∀ w : World, Calls Try.prog 11 #[] w fun e w' => e = .returned (.bool true) ∧ Below w.heap.size w w') := awake_any
  have CA : Hid (∀ w1 : World, w.heap.size ≤ w1.heap.size → Calls Try.prog 12 #[.int .i64 (N : Int)] w1 fun e w' => ∃ (b : Nat) (fp : Nat → Prop), e = .returned (.tuple #[.pointer (some ⟨b, 0, none⟩), .int .i64 0]) ∧ Hid (Dk w.heap.size w' b fp (freshD (List.replicate N zero512))) ∧ Hid (∀ k, fp k → w1.heap.size ≤ k) ∧ Below w1.heap.size w1 w') := fun w1 h => new_ok N hN1 hN2 w.heap.size w1 h
  have CB : Hid (∀ w1 : World, w.heap.size ≤ w1.heap.size → Calls Try.prog 13 #[.int .i64 (N : Int)] w1 fun e w' => ∃ (b : Nat) (fp : Nat → Prop), e = .returned (.tuple #[.pointer (some ⟨b, 0, none⟩), .int .i64 0]) ∧ Hid (Rk w.heap.size w' b fp (freshD (List.replicate N zero512))) ∧ Hid (∀ k, fp k → w1.heap.size ≤ k) ∧ Below w1.heap.size w1 w') := fun w1 h => rnew_ok N hN1 hN2 w.heap.size w1 h
  have CC : Hid (∀ w1 : World, Calls Try.prog 14 #[.string s] w1 fun e w' => e = .returned (.tuple #[.pointer none, .int .i64 1]) ∧ w' = w1) := fun w1 => load_no s hs hm w1
  have CD : Hid (∀ w1 : World, Calls Try.prog 15 #[.string s] w1 fun e w' => e = .returned (.tuple #[.pointer none, .int .i64 1]) ∧ w' = w1) := fun w1 => rload_no s hs hm w1
  have hN3 : (N : Int) ≤ 4096 := by omega
  have hN4 : (0 : Int) ≤ (N : Int) - 1 := by omega
  generalize freshD (List.replicate N zero512) = SA at *
  clear hs hN1 hN2 hm
  go_enter Try.func3, Try.ntmps3
  go_wp2_with fail
  refine (CU.out _).mono ?_
  rintro e w1 ⟨rfl, hb1⟩
  have z1 := hb1.size
  go_wp2_with fail
  refine (CA.out _ z1).mono ?_
  rintro e w2 ⟨a, fa, rfl, dA, hfa, hb2⟩
  have z2 := hb2.size
  go_wp2_with fail
  refine (CB.out _ (by omega)).mono ?_
  rintro e w3 ⟨b, fb, rfl, dB, hfb, hb3⟩
  have z3 := hb3.size
  have hB3 : Below w.heap.size w w3 := bstep (bstep hb1 hb2 (Nat.le_refl _)) hb3 (Nat.le_refl _)
  have TA : Hid (Two w.heap.size w3 a b fa fb SA SA) := ⟨dA.out.below hb3, dB.out, fun k h1 h2 => by have := (dA.out.fp k h1).2; have := hfb.out k h2; omega⟩
  clear dA dB hfa hfb hb1 hb2 hb3
  clear CU CA CB
  go_wp2_with fail
  refine (CC.out _).mono ?_
  rintro e w4 ⟨rfl, hw⟩
  rw [hw]
  clear hw
  go_wp2_with fail
  refine (CD.out _).mono ?_
  rintro e w5 ⟨rfl, hw⟩
  rw [hw]
  clear hw w4 w5
  have hB5 := hB3
  have z5 := z3
  generalize w3 = w5 at *
  have TA5 := TA
  clear TA
  clear CC CD hB3
  have hb6 := Below_new w5 (.cells #[.pointer (some ⟨a, 0, none⟩), .pointer (some ⟨b, 0, none⟩)] 33)
  have k6 : Hid (Blk (w5.alloc (.cells #[.pointer (some ⟨a, 0, none⟩), .pointer (some ⟨b, 0, none⟩)] 33)) w5.heap.size #[.pointer (some ⟨a, 0, none⟩), .pointer (some ⟨b, 0, none⟩)] 33) := Blk.new _ _ _
  go_wp2_with fail
  generalize w5.alloc (.cells #[.pointer (some ⟨a, 0, none⟩), .pointer (some ⟨b, 0, none⟩)] 33) = w6 at *
  have t6 := TA5.out.below hb6
  have z6 := hb6.size
  have C16 : Hid (Calls Try.prog 16 #[.agg #[.pointer (some ⟨a, 0, none⟩), .pointer (some ⟨b, 0, none⟩)]] w6 fun e w' => e = .returned (.bool true) ∧ Below w6.heap.size w6 w') := settled_any t6
  refine C16.out.mono ?_
  rintro e w7 ⟨rfl, hb7⟩
  have t7 := t6.below hb7
  have z7 := hb7.size
  have k7 := k6.out.below hb7
  have c70 := k7.cell 0 (v := .pointer (some ⟨a, 0, none⟩)) rfl
  have c71 := k7.cell 1 (v := .pointer (some ⟨b, 0, none⟩)) rfl
  have hB7 : Below w.heap.size w w7 := bstep (bstep hB5 hb6 (Nat.le_refl _)) hb7 (Nat.le_refl _)
  have C17 : Hid (Calls Try.prog 17 #[.agg #[.pointer (some ⟨a, 0, none⟩), .pointer (some ⟨b, 0, none⟩)], .int .i64 ((N : Int) - 1)] w7 fun e w' => e = .returned (.bool true) ∧ TL w.heap.size a b fa fb w7 (readD SA ((N : Int) - 1)) (readD SA ((N : Int) - 1)) w') := pread_any t7 _
  have t7l : Hid (∀ k, (fa k ∨ fb k) → w.heap.size ≤ k) := fun k h => (t7.low k h).1
  clear C16 TA5 t6 hb6 hb7 k6 k7 hB5 t7
  generalize readD SA ((N : Int) - 1) = SR at *
  go_wp2_with fail
  refine C17.out.mono ?_
  rintro e w8 ⟨rfl, hT⟩
  obtain ⟨fa', fb', t8, hk8, hn8⟩ := hT
  have z8 := hk8.size
  have hB8 : Below w.heap.size w w8 := hB7.trans (hk8.below (by omega) t7l.out)
  obtain ⟨g1, h1, cg1, ch1, pv1, bx1, _, d1⟩ := t8.da
  have C18 : Hid (Calls Try.prog 18 #[.pointer (some ⟨a, 0, none⟩)] w8 fun e w' => e = .returned (.string (catB SR.safe)) ∧ Below w8.heap.size w8 w') := image_any d1
  have C19 : Hid (∀ w9 : World, Below w8.heap.size w8 w9 → Calls Try.prog 19 #[.pointer (some ⟨b, 0, none⟩)] w9 fun e w' => e = .returned (.string (catB SR.safe)) ∧ Below w9.heap.size w9 w') := fun w9 hb => by
    obtain ⟨g2, cg2, pv2, _, d2⟩ := (t8.below hb).db
    exact rimage_any d2
  clear t8 hk8 hn8 d1 C17 c70 c71 t7l hB7
  generalize catB SR.safe = IM at *
  go_wp2_with fail
  refine C18.out.mono ?_
  rintro e w9 ⟨rfl, hb9⟩
  have z9 := hb9.size
  have C19' : Hid (Calls Try.prog 19 #[.pointer (some ⟨b, 0, none⟩)] w9 fun e w' => e = .returned (.string IM) ∧ Below w9.heap.size w9 w') := C19.out w9 hb9
  clear C18 C19
  go_wp2_with fail
  refine C19'.out.mono ?_
  rintro e w10 ⟨rfl, hb10⟩
  have z10 := hb10.size
  have hB10 : Below w.heap.size w w10 := bstep (bstep hB8 hb9 (Nat.le_refl _)) hb10 (Nat.le_refl _)
  clear C19' hb9 hb10 hB8
  have HB10 : Hid (Below w.heap.size w w10) := hB10
  clear hB10
  go_wp2
  go_ret
  exact ⟨rfl, HB10.out⟩
set_option maxHeartbeats 2000000 in
set_option maxRecDepth 100000 in
theorem makes_yy (N : Nat) (hN1 : 1 ≤ N) (hN2 : N ≤ 4096) (s : ByteArray) (hs : s.size ≤ 140737488355328) (m : Nat) (hm : s.size = m * 512) (hm1 : 1 ≤ m) (hm2 : m ≤ 4096) (w : World) : Calls Try.prog 3 #[.int .i64 (N : Int), .string s] w fun e w' => e = .returned (.bool true) ∧ Below w.heap.size w w' := by
  have CU : Hid (∀ w : World, Calls Try.prog 11 #[] w fun e w' => e = .returned (.bool true) ∧ Below w.heap.size w w') := awake_any
  have CA : Hid (∀ w1 : World, w.heap.size ≤ w1.heap.size → Calls Try.prog 12 #[.int .i64 (N : Int)] w1 fun e w' => ∃ (b : Nat) (fp : Nat → Prop), e = .returned (.tuple #[.pointer (some ⟨b, 0, none⟩), .int .i64 0]) ∧ Hid (Dk w.heap.size w' b fp (freshD (List.replicate N zero512))) ∧ Hid (∀ k, fp k → w1.heap.size ≤ k) ∧ Below w1.heap.size w1 w') := fun w1 h => new_ok N hN1 hN2 w.heap.size w1 h
  have CB : Hid (∀ w1 : World, w.heap.size ≤ w1.heap.size → Calls Try.prog 13 #[.int .i64 (N : Int)] w1 fun e w' => ∃ (b : Nat) (fp : Nat → Prop), e = .returned (.tuple #[.pointer (some ⟨b, 0, none⟩), .int .i64 0]) ∧ Hid (Rk w.heap.size w' b fp (freshD (List.replicate N zero512))) ∧ Hid (∀ k, fp k → w1.heap.size ≤ k) ∧ Below w1.heap.size w1 w') := fun w1 h => rnew_ok N hN1 hN2 w.heap.size w1 h
  have CC : Hid (∀ w1 : World, w.heap.size ≤ w1.heap.size → Calls Try.prog 14 #[.string s] w1 fun e w' => ∃ (b : Nat) (fp : Nat → Prop), e = .returned (.tuple #[.pointer (some ⟨b, 0, none⟩), .int .i64 0]) ∧ Hid (Dk w.heap.size w' b fp (freshD (secs s m))) ∧ Hid (∀ k, fp k → w1.heap.size ≤ k) ∧ Below w1.heap.size w1 w') := fun w1 h => load_ok s m hm hm1 hm2 w.heap.size w1 h
  have CD : Hid (∀ w1 : World, w.heap.size ≤ w1.heap.size → Calls Try.prog 15 #[.string s] w1 fun e w' => ∃ (b : Nat) (fp : Nat → Prop), e = .returned (.tuple #[.pointer (some ⟨b, 0, none⟩), .int .i64 0]) ∧ Hid (Rk w.heap.size w' b fp (freshD (secs s m))) ∧ Hid (∀ k, fp k → w1.heap.size ≤ k) ∧ Below w1.heap.size w1 w') := fun w1 h => rload_ok s m hm hm1 hm2 w.heap.size w1 h
  have HIM : Hid (∀ S : DS, S.safe = secs s m → catB S.safe = s) := fun S h => by rw [h]; exact catB_secs s m hm
  have hN3 : (N : Int) ≤ 4096 := by omega
  have hN4 : (0 : Int) ≤ (N : Int) - 1 := by omega
  generalize freshD (List.replicate N zero512) = SA at *
  obtain ⟨SC, hSC⟩ : ∃ SC, SC = freshD (secs s m) := ⟨_, rfl⟩
  have HSC : Hid (SC.safe = secs s m) := hSC ▸ rfl
  rw [← hSC] at CC CD
  clear hSC
  clear hs hN1 hN2 hm hm1 hm2
  go_enter Try.func3, Try.ntmps3
  go_wp2_with fail
  refine (CU.out _).mono ?_
  rintro e w1 ⟨rfl, hb1⟩
  have z1 := hb1.size
  go_wp2_with fail
  refine (CA.out _ z1).mono ?_
  rintro e w2 ⟨a, fa, rfl, dA, hfa, hb2⟩
  have z2 := hb2.size
  go_wp2_with fail
  refine (CB.out _ (by omega)).mono ?_
  rintro e w3 ⟨b, fb, rfl, dB, hfb, hb3⟩
  have z3 := hb3.size
  have hB3 : Below w.heap.size w w3 := bstep (bstep hb1 hb2 (Nat.le_refl _)) hb3 (Nat.le_refl _)
  have TA : Hid (Two w.heap.size w3 a b fa fb SA SA) := ⟨dA.out.below hb3, dB.out, fun k h1 h2 => by have := (dA.out.fp k h1).2; have := hfb.out k h2; omega⟩
  clear dA dB hfa hfb hb1 hb2 hb3
  clear CU CA CB
  go_wp2_with fail
  refine (CC.out _ (by omega)).mono ?_
  rintro e w4 ⟨c, fc, rfl, dC, hfc, hb4⟩
  have z4 := hb4.size
  go_wp2_with fail
  refine (CD.out _ (by omega)).mono ?_
  rintro e w5 ⟨d, fd, rfl, dD, hfd, hb5⟩
  have z5 := hb5.size
  have hB5 : Below w.heap.size w w5 := bstep (bstep hB3 hb4 (Nat.le_refl _)) hb5 (Nat.le_refl _)
  have TC : Hid (Two w.heap.size w5 c d fc fd SC SC) := ⟨dC.out.below hb5, dD.out, fun k h1 h2 => by have := (dC.out.fp k h1).2; have := hfd.out k h2; omega⟩
  have TA5 : Hid (Two w.heap.size w5 a b fa fb SA SA) := (TA.out.below hb4).below hb5
  have DIS : Hid (∀ k, (fc k ∨ fd k) → ¬ (fa k ∨ fb k)) := fun k h1 h2 => by
    have := (TA.out.low k h2).2
    rcases h1 with h1 | h1
    · have := hfc.out k h1; omega
    · have := hfd.out k h1; omega
  clear dC dD hfc hfd hb4 hb5 TA
  clear CC CD hB3
  have hb6 := Below_new w5 (.cells #[.pointer (some ⟨a, 0, none⟩), .pointer (some ⟨b, 0, none⟩)] 33)
  have k6 : Hid (Blk (w5.alloc (.cells #[.pointer (some ⟨a, 0, none⟩), .pointer (some ⟨b, 0, none⟩)] 33)) w5.heap.size #[.pointer (some ⟨a, 0, none⟩), .pointer (some ⟨b, 0, none⟩)] 33) := Blk.new _ _ _
  go_wp2_with fail
  generalize w5.alloc (.cells #[.pointer (some ⟨a, 0, none⟩), .pointer (some ⟨b, 0, none⟩)] 33) = w6 at *
  have t6 := TA5.out.below hb6
  have z6 := hb6.size
  have C16 : Hid (Calls Try.prog 16 #[.agg #[.pointer (some ⟨a, 0, none⟩), .pointer (some ⟨b, 0, none⟩)]] w6 fun e w' => e = .returned (.bool true) ∧ Below w6.heap.size w6 w') := settled_any t6
  refine C16.out.mono ?_
  rintro e w7 ⟨rfl, hb7⟩
  have t7 := t6.below hb7
  have z7 := hb7.size
  have k7 := k6.out.below hb7
  have c70 := k7.cell 0 (v := .pointer (some ⟨a, 0, none⟩)) rfl
  have c71 := k7.cell 1 (v := .pointer (some ⟨b, 0, none⟩)) rfl
  have hB7 : Below w.heap.size w w7 := bstep (bstep hB5 hb6 (Nat.le_refl _)) hb7 (Nat.le_refl _)
  have C17 : Hid (Calls Try.prog 17 #[.agg #[.pointer (some ⟨a, 0, none⟩), .pointer (some ⟨b, 0, none⟩)], .int .i64 ((N : Int) - 1)] w7 fun e w' => e = .returned (.bool true) ∧ TL w.heap.size a b fa fb w7 (readD SA ((N : Int) - 1)) (readD SA ((N : Int) - 1)) w') := pread_any t7 _
  have TC7 : Hid (Two w.heap.size w7 c d fc fd SC SC) := (TC.out.below hb6).below hb7
  clear TC
  have t7l : Hid (∀ k, (fa k ∨ fb k) → w.heap.size ≤ k) := fun k h => (t7.low k h).1
  clear C16 TA5 t6 hb6 hb7 k6 k7 hB5 t7
  generalize readD SA ((N : Int) - 1) = SR at *
  go_wp2_with fail
  refine C17.out.mono ?_
  rintro e w8 ⟨rfl, hT⟩
  obtain ⟨fa', fb', t8, hk8, hn8⟩ := hT
  have z8 := hk8.size
  have hB8 : Below w.heap.size w w8 := hB7.trans (hk8.below (by omega) t7l.out)
  have TC8 : Hid (Two w.heap.size w8 c d fc fd SC SC) := TC7.out.kept hk8 DIS.out
  clear TC7 DIS
  obtain ⟨g1, h1, cg1, ch1, pv1, bx1, _, d1⟩ := t8.da
  have C18 : Hid (Calls Try.prog 18 #[.pointer (some ⟨a, 0, none⟩)] w8 fun e w' => e = .returned (.string (catB SR.safe)) ∧ Below w8.heap.size w8 w') := image_any d1
  have C19 : Hid (∀ w9 : World, Below w8.heap.size w8 w9 → Calls Try.prog 19 #[.pointer (some ⟨b, 0, none⟩)] w9 fun e w' => e = .returned (.string (catB SR.safe)) ∧ Below w9.heap.size w9 w') := fun w9 hb => by
    obtain ⟨g2, cg2, pv2, _, d2⟩ := (t8.below hb).db
    exact rimage_any d2
  clear t8 hk8 hn8 d1 C17 c70 c71 t7l hB7
  generalize catB SR.safe = IM at *
  go_wp2_with fail
  refine C18.out.mono ?_
  rintro e w9 ⟨rfl, hb9⟩
  have z9 := hb9.size
  have C19' : Hid (Calls Try.prog 19 #[.pointer (some ⟨b, 0, none⟩)] w9 fun e w' => e = .returned (.string IM) ∧ Below w9.heap.size w9 w') := C19.out w9 hb9
  clear C18 C19
  go_wp2_with fail
  refine C19'.out.mono ?_
  rintro e w10 ⟨rfl, hb10⟩
  have z10 := hb10.size
  have hB10 : Below w.heap.size w w10 := bstep (bstep hB8 hb9 (Nat.le_refl _)) hb10 (Nat.le_refl _)
  have TC10 : Hid (Two w.heap.size w10 c d fc fd SC SC) := (TC8.out.below hb9).below hb10
  clear TC8
  clear C19' hb9 hb10 hB8
  have HB10 : Hid (Below w.heap.size w w10) := hB10
  have hz10 : w.heap.size ≤ w10.heap.size := hB10.size
  have hb11 := Below_new w10 (.cells #[.pointer (some ⟨c, 0, none⟩), .pointer (some ⟨d, 0, none⟩)] 33)
  have k11 : Hid (Blk (w10.alloc (.cells #[.pointer (some ⟨c, 0, none⟩), .pointer (some ⟨d, 0, none⟩)] 33)) w10.heap.size #[.pointer (some ⟨c, 0, none⟩), .pointer (some ⟨d, 0, none⟩)] 33) := Blk.new _ _ _
  clear hB10
  go_wp2_with fail
  generalize w10.alloc (.cells #[.pointer (some ⟨c, 0, none⟩), .pointer (some ⟨d, 0, none⟩)] 33) = w11 at *
  have t11 := TC10.out.below hb11
  have z11 := hb11.size
  have C16 : Hid (Calls Try.prog 16 #[.agg #[.pointer (some ⟨c, 0, none⟩), .pointer (some ⟨d, 0, none⟩)]] w11 fun e w' => e = .returned (.bool true) ∧ Below w11.heap.size w11 w') := settled_any t11
  refine C16.out.mono ?_
  rintro e w12 ⟨rfl, hb12⟩
  have t12 := t11.below hb12
  have z12 := hb12.size
  have k12 := k11.out.below hb12
  have c120 := k12.cell 0 (v := .pointer (some ⟨c, 0, none⟩)) rfl
  have c121 := k12.cell 1 (v := .pointer (some ⟨d, 0, none⟩)) rfl
  have hB12 : Below w.heap.size w w12 := bstep (bstep HB10.out hb11 (Nat.le_refl _)) hb12 (Nat.le_refl _)
  have C17 : Hid (Calls Try.prog 17 #[.agg #[.pointer (some ⟨c, 0, none⟩), .pointer (some ⟨d, 0, none⟩)], .int .i64 0] w12 fun e w' => e = .returned (.bool true) ∧ TL w.heap.size c d fc fd w12 (readD SC 0) (readD SC 0) w') := pread_any t12 _
  have HRS : Hid ((readD SC 0).safe = secs s m) := by
    show _ = _
    unfold readD
    split
    · exact HSC.out
    · exact HSC.out
  have t12l : Hid (∀ k, (fc k ∨ fd k) → w.heap.size ≤ k) := fun k h => (t12.low k h).1
  clear C16 TC10 t11 hb11 hb12 k11 k12 HB10 t12
  generalize readD SC 0 = SR2 at *
  go_wp2_with fail
  refine C17.out.mono ?_
  rintro e w13 ⟨rfl, hT⟩
  obtain ⟨fc', fd', t13, hk13, hn13⟩ := hT
  have z13 := hk13.size
  have hB13 : Below w.heap.size w w13 := hB12.trans (hk13.below (by omega) t12l.out)
  obtain ⟨g1, h1, cg1, ch1, pv1, bx1, _, d1⟩ := t13.da
  have C18 : Hid (Calls Try.prog 18 #[.pointer (some ⟨c, 0, none⟩)] w13 fun e w' => e = .returned (.string s) ∧ Below w13.heap.size w13 w') := by
    have := image_any d1
    rw [HIM.out SR2 HRS.out] at this
    exact this
  clear t13 hk13 hn13 d1 C17 c120 c121 t12l hB12
  go_wp2_with fail
  refine C18.out.mono ?_
  rintro e w14 ⟨rfl, hb14⟩
  have hend : Hid (Below w.heap.size w w14) := bstep hB13 hb14 (Nat.le_refl _)
  clear C18 hb14 hB13
  go_wp2
  go_ret
  exact ⟨rfl, hend.out⟩
theorem makes_walk (n : Int) (s : ByteArray) (hs : s.size ≤ 140737488355328) (w : World) : Calls Try.prog 3 #[.int .i64 n, .string s] w fun e w' => e = .returned (.bool true) ∧ Below w.heap.size w w' := by
  by_cases hn : 1 ≤ n ∧ n ≤ 4096
  · obtain ⟨N, rfl⟩ : ∃ N : Nat, n = N := ⟨n.toNat, by omega⟩
    by_cases hm : s.size % 512 = 0 ∧ 1 ≤ s.size / 512 ∧ s.size / 512 ≤ 4096
    · exact makes_yy N (by omega) (by omega) s hs (s.size / 512) (by omega) (by omega) (by omega) w
    · exact makes_yn N (by omega) (by omega) s hs hm w
  · by_cases hm : s.size % 512 = 0 ∧ 1 ≤ s.size / 512 ∧ s.size / 512 ≤ 4096
    · exact makes_ny n hn s hs (s.size / 512) (by omega) (by omega) (by omega) w
    · exact makes_nn n hn s hs hm w
end Go.Proofs.Ytbjpphoohoedcaa
