/- The walk of ValueOrder: it returns true at any two numbers of 128 bits and any width; memory only grows. The table of signs lies in memory. -/
import Derived.Test.YtjkpdcgmmdimaaaDoorWo
import Derived.Test.YtjkpdcgmmdimaaaDoorWy
namespace Go.Proofs.YtjkpdcgmmdimaaaDoor
open Go.RowKit
set_option linter.unusedVariables false
set_option linter.unusedSimpArgs false

theorem run_neqW (a b c d : Int) (w : World) : (binOp .neq 24 (.agg #[.int .u64 a, .int .u64 b]) (.agg #[.int .u64 c, .int .u64 d])).run Tryd.prog w = .ok (.bool (!((a == c) && (b == d)))) w := by
  have hS : Tryd.prog.underlying 24 = some (.struct (Tryd.prog.fieldsOf 24)) := by kernel_rfl
  have hp : Tryd.prog.stoodInHeld 24 = false := by kernel_rfl
  have u := Tryd.underlying22
  have h : (Op.equalIn 10000 24 (.agg #[.int .u64 a, .int .u64 b]) (.agg #[.int .u64 c, .int .u64 d])).run Tryd.prog w = .ok (a == c && b == d) w := by
    rw [show (10000 : Nat) = 9999 + 1 from rfl, run_equalIn_struct w 9999 24 _ _ hS hp]
    simp only [Program.fieldsOf, Tryd.underlying24]
    go_simp
    by_cases h1 : a = c <;> by_cases h2 : b = d <;> simp [h1, h2]
  simp only [binOp]
  simp [Op.equal, Op.maxDepth, h]
theorem run_neqB_same (n : Nat) (w : World) : (binOp .neq 24 (B n) (B n)).run Tryd.prog w = .ok (.bool false) w := by rw [run_neqW]; simp

/-- What ValueOrder leans on, of the two cut values x and y, the bits c in common, the mask q of these, and the bytes of both. -/
structure OrderFacts (x y q : Nat) (c wd : Int) (sx sy : ByteArray) (want : Int) : Prop where
  hx : Is128 x
  hy : Is128 y
  hq : Is128 q
  c0 : 0 ≤ c
  c1 : c ≤ wd
  full : (c == wd) = decide (x = y)
  mask : x &&& q = y &&& q
  cmp : cmpN x y = want
  bits : c < wd → bitN y wd c = !(bitN x wd c) ∧ want = if bitN x wd c = true then 1 else -1
  none : ¬ c < wd → want = 0
  less : Op.bytesLess sx.toList sy.toList = decide (want = -1)
  same : (sx.toList == sy.toList) = decide (want = 0)

theorem order_facts {n m : Nat} (hn : Is128 n) (hm : Is128 m) {wd : Int} (hW : isW wd = true) :
    OrderFacts (cutN n wd) (cutN m wd) (maskN wd (comN n m wd)) (comN n m wd) wd ⟨(be ((wd + 7) / 8).toNat (cutN n wd)).toArray⟩ ⟨(be ((wd + 7) / 8).toNat (cutN m wd)).toArray⟩ (cmpN (cutN n wd) (cutN m wd)) := by
  have hb := isW_bounds hW
  obtain ⟨r0, r1⟩ := com_range hn hm hW
  have hk : ∀ z, cutN z wd % 256 ^ ((wd + 7) / 8).toNat = cutN z wd := fun z => by
    apply Nat.mod_eq_of_lt
    refine Nat.lt_of_lt_of_le (cut_lt hW) ?_
    rw [show (256 : Nat) = 2 ^ 8 by decide, ← Nat.pow_mul]
    exact Nat.pow_le_pow_right (by decide) (by omega)
  obtain ⟨o1, o2⟩ := be_order ((wd + 7) / 8).toNat (cutN n wd) (cutN m wd)
  rw [hk, hk] at o1 o2
  refine ⟨cut_is hn wd, cut_is hm wd, mask_is (by omega) hb.2 r0 r1, r0, r1, com_full hn hm hW, com_mask hn hm hW, rfl, fun h => com_bit hn hm hW h, fun h => ?_, ?_, ?_⟩
  · have e : comN n m wd = wd := by omega
    have := com_full hn hm hW
    rw [e] at this
    have h2 : cutN n wd = cutN m wd := by simpa using this
    rw [h2]; exact cmp_same _
  · rw [ByteArray.toList_eq, ByteArray.toList_eq]
    show Op.bytesLess (be _ _) (be _ _) = _
    rw [o1]; unfold cmpN; rw [Bool.eq_iff_iff]; simp only [decide_eq_true_eq]; split <;> (try split) <;> omega
  · rw [ByteArray.toList_eq, ByteArray.toList_eq]
    show (be _ _ == be _ _) = _
    rw [o2]; unfold cmpN; rw [Bool.eq_iff_iff]; simp only [decide_eq_true_eq]; split <;> (try split) <;> omega

theorem hold3 {w w' : World} {b1 n1 b2 n2 b3 n3 : Nat} (h : w.cell? ⟨b1, 0, none⟩ = some (.int .u64 (hiOf n1)) ∧ w.cell? ⟨b1, 1, none⟩ = some (.int .u64 (loOf n1)) ∧ w.cell? ⟨b2, 0, none⟩ = some (.int .u64 (hiOf n2)) ∧ w.cell? ⟨b2, 1, none⟩ = some (.int .u64 (loOf n2)) ∧ w.cell? ⟨b3, 0, none⟩ = some (.int .u64 (hiOf n3)) ∧ w.cell? ⟨b3, 1, none⟩ = some (.int .u64 (loOf n3))) (hb : Below w.heap.size w w') :
    w'.cell? ⟨b1, 0, none⟩ = some (.int .u64 (hiOf n1)) ∧ w'.cell? ⟨b1, 1, none⟩ = some (.int .u64 (loOf n1)) ∧ w'.cell? ⟨b2, 0, none⟩ = some (.int .u64 (hiOf n2)) ∧ w'.cell? ⟨b2, 1, none⟩ = some (.int .u64 (loOf n2)) ∧ w'.cell? ⟨b3, 0, none⟩ = some (.int .u64 (hiOf n3)) ∧ w'.cell? ⟨b3, 1, none⟩ = some (.int .u64 (loOf n3)) := by
  obtain ⟨h1, h2, h3, h4, h5, h6⟩ := h
  have A := Box.below (w := w) (b := b1) (n := n1) ⟨h1, h2⟩ hb (Box.lt ⟨h1, h2⟩)
  have C := Box.below (w := w) (b := b2) (n := n2) ⟨h3, h4⟩ hb (Box.lt ⟨h3, h4⟩)
  have D := Box.below (w := w) (b := b3) (n := n3) ⟨h5, h6⟩ hb (Box.lt ⟨h5, h6⟩)
  exact ⟨A.1, A.2, C.1, C.2, D.1, D.2⟩

set_option maxHeartbeats 2000000 in
set_option maxRecDepth 100000 in
theorem order_walk (n m : Nat) (hn : Is128 n) (hm : Is128 m) (wd : Int) (w : World) (hT : Tab w) :
    Calls Tryd.prog 7 #[B n, B m, .int .i64 wd] w fun e w' => e = .returned (.bool true) ∧ Below w.heap.size w w' := by
  have B0 : Below w.heap.size w ((w.alloc (.cells #[.int .u64 (hiOf n), .int .u64 (loOf n)] 24)).alloc (.cells #[.int .u64 (hiOf m), .int .u64 (loOf m)] 24)) := by go_grown
  have HT0 : Hid (Tab ((w.alloc (.cells #[.int .u64 (hiOf n), .int .u64 (loOf n)] 24)).alloc (.cells #[.int .u64 (hiOf m), .int .u64 (loOf m)] 24))) := hT.below B0
  cases hW : isW wd
  · rcases isW_not hW with h | h
    · go_enter Tryd.func7, Tryd.ntmps7
      go_wp2_with fail
      refine (awake_any _ HT0.out).mono ?_
      rintro e w1 ⟨rfl, hb1⟩
      go_wp2
      go_ret
      exact ⟨rfl, bstep B0 hb1⟩
    · have h' : decide (wd < 1) = false := by simp; omega
      go_enter Tryd.func7, Tryd.ntmps7
      go_wp2_with fail
      refine (awake_any _ HT0.out).mono ?_
      rintro e w1 ⟨rfl, hb1⟩
      go_wp2
      go_ret
      exact ⟨rfl, bstep B0 hb1⟩
  · have hb := isW_bounds hW
    have d1 : decide (wd < 1) = false := by simp; omega
    have d2 : decide (128 < wd) = false := by simp; omega
    have F := order_facts hn hm hW
    have cx : ∀ w, Calls Tryd.prog 24 #[B n, .int .i64 wd] w fun e w' => e = .returned (B (cutN n wd)) ∧ Below w.heap.size w w' := cut_any n hn wd
    have cy : ∀ w, Calls Tryd.prog 24 #[B m, .int .i64 wd] w fun e w' => e = .returned (B (cutN m wd)) ∧ Below w.heap.size w w' := cut_any m hm wd
    have cc : ∀ w, Calls Tryd.prog 28 #[B n, B m, .int .i64 wd] w fun e w' => e = .returned (.int .i64 (comN n m wd)) ∧ Below w.heap.size w w' := common_any n m hn hm wd
    have cm : ∀ w, Calls Tryd.prog 12 #[.int .i64 wd, .int .i64 (comN n m wd)] w fun e w' => e = .returned (.tuple #[B (maskN wd (comN n m wd)), .int .i64 0]) ∧ Below w.heap.size w w' := mask_any wd _ hW F.c0 F.c1
    have bx : ∀ w, Calls Tryd.prog 34 #[B (cutN n wd), .int .i64 wd] w fun e w' => e = .returned (.tuple #[.string ⟨(be ((wd + 7) / 8).toNat (cutN n wd)).toArray⟩, .int .i64 0]) ∧ Below w.heap.size w w' := bytes_ok _ F.hx wd hW (cut_fits _ hW)
    have by' : ∀ w, Calls Tryd.prog 34 #[B (cutN m wd), .int .i64 wd] w fun e w' => e = .returned (.tuple #[.string ⟨(be ((wd + 7) / 8).toNat (cutN m wd)).toArray⟩, .int .i64 0]) ∧ Below w.heap.size w w' := bytes_ok _ F.hy wd hW (cut_fits _ hW)
    generalize (⟨(be ((wd + 7) / 8).toNat (cutN n wd)).toArray⟩ : ByteArray) = sx at *
    generalize (⟨(be ((wd + 7) / 8).toNat (cutN m wd)).toArray⟩ : ByteArray) = sy at *
    generalize cmpN (cutN n wd) (cutN m wd) = want at *
    generalize maskN wd (comN n m wd) = q at *
    generalize comN n m wd = c at *
    generalize cutN n wd = x at *
    generalize cutN m wd = y at *
    have CX : Hid (∀ w, Calls Tryd.prog 24 #[B n, .int .i64 wd] w fun e w' => e = .returned (B x) ∧ Below w.heap.size w w') := cx
    have CY : Hid (∀ w, Calls Tryd.prog 24 #[B m, .int .i64 wd] w fun e w' => e = .returned (B y) ∧ Below w.heap.size w w') := cy
    have CC : Hid (∀ w, Calls Tryd.prog 28 #[B n, B m, .int .i64 wd] w fun e w' => e = .returned (.int .i64 c) ∧ Below w.heap.size w w') := cc
    have CM : Hid (∀ w, Calls Tryd.prog 12 #[.int .i64 wd, .int .i64 c] w fun e w' => e = .returned (.tuple #[B q, .int .i64 0]) ∧ Below w.heap.size w w') := cm
    have BX : Hid (∀ w, Calls Tryd.prog 34 #[B x, .int .i64 wd] w fun e w' => e = .returned (.tuple #[.string sx, .int .i64 0]) ∧ Below w.heap.size w w') := bx
    have BY : Hid (∀ w, Calls Tryd.prog 34 #[B y, .int .i64 wd] w fun e w' => e = .returned (.tuple #[.string sy, .int .i64 0]) ∧ Below w.heap.size w w') := by'
    have AX : Hid (∀ w, Calls Tryd.prog 17 #[B x, B q] w fun e w' => e = .returned (B (x &&& q)) ∧ Below w.heap.size w w') := and_any x q F.hx F.hq
    have AY : Hid (∀ w, Calls Tryd.prog 17 #[B y, B q] w fun e w' => e = .returned (B (x &&& q)) ∧ Below w.heap.size w w') := by rw [F.mask]; exact and_any y q F.hy F.hq
    have PX : Hid (∀ w, Calls Tryd.prog 16 #[B x, B y] w fun e w' => e = .returned (.int .i64 want) ∧ Below w.heap.size w w') := by rw [← F.cmp]; exact compare_any x y
    have PY : Hid (∀ w, Calls Tryd.prog 16 #[B y, B x] w fun e w' => e = .returned (.int .i64 (-want)) ∧ Below w.heap.size w w') := by rw [← F.cmp, ← cmp_neg]; exact compare_any y x
    clear cx cy cc cm bx by'
    have n1 : decide (c < 0) = false := by have := F.c0; simp; omega
    have n2 : decide (wd < c) = false := by have := F.c1; simp; omega
    have q1 := fun w => run_eqB (n := x) (m := y) (b := decide (x = y)) rfl w
    have fl := F.full
    have q2 := fun w => run_neqB_same (x &&& q) w
    have r0 := F.c0
    have r1 := F.c1
    go_enter Tryd.func7, Tryd.ntmps7
    go_wp2_with fail
    refine (awake_any _ HT0.out).mono ?_
    rintro e w1 ⟨rfl, hb1⟩
    have A1 : Box w1 w.heap.size n := ((Box.new w n).past _).below hb1 (by simp; omega)
    have M1 : Box w1 (w.heap.size + 1) m := by
      have := Box.new (w.alloc (.cells #[.int .u64 (hiOf n), .int .u64 (loOf n)] 24)) m
      simp only [World.size_alloc] at this
      exact this.below hb1 (by simp)
    have hB1 := bstep B0 hb1
    clear hb1 B0 HT0
    obtain ⟨a0, a1⟩ := id A1
    go_wp2_with fail
    refine (CX.out _).mono ?_
    rintro e w2 ⟨rfl, hb2⟩
    have A2 := (A1.below hb2 A1.lt).past (.cells #[.int .u64 (hiOf x), .int .u64 (loOf x)] 24)
    have M2 := (M1.below hb2 M1.lt).past (.cells #[.int .u64 (hiOf x), .int .u64 (loOf x)] 24)
    have X2 := Box.new w2 x
    have hB2 := (bstep hB1 hb2).alloc (bstep hB1 hb2).size (.cells #[.int .u64 (hiOf x), .int .u64 (loOf x)] 24)
    clear a0 a1 A1 M1 hB1 hb2
    obtain ⟨m0, m1⟩ := id M2
    go_wp2_with fail
    refine (CY.out _).mono ?_
    rintro e w3 ⟨rfl, hb3⟩
    have A3 := (A2.below hb3 A2.lt).past (.cells #[.int .u64 (hiOf y), .int .u64 (loOf y)] 24)
    have M3 := (M2.below hb3 M2.lt).past (.cells #[.int .u64 (hiOf y), .int .u64 (loOf y)] 24)
    have X3 := (X2.below hb3 X2.lt).past (.cells #[.int .u64 (hiOf y), .int .u64 (loOf y)] 24)
    have Y3 := Box.new w3 y
    have hB3 := (bstep hB2 hb3).alloc (bstep hB2 hb3).size (.cells #[.int .u64 (hiOf y), .int .u64 (loOf y)] 24)
    clear m0 m1 A2 M2 X2 hB2 hb3
    obtain ⟨a0, a1⟩ := id A3
    obtain ⟨m0, m1⟩ := id M3
    go_wp2_with fail
    refine (CC.out _).mono ?_
    rintro e w4 ⟨rfl, hb4⟩
    have X4 := X3.below hb4 X3.lt
    have Y4 := Y3.below hb4 Y3.lt
    have hB4 := bstep hB3 hb4
    clear a0 a1 m0 m1 A3 M3 X3 Y3 hB3 hb4
    obtain ⟨x0, x1⟩ := id X4
    obtain ⟨y0, y1⟩ := id Y4
    go_wp2_with fail
    refine (CM.out _).mono ?_
    rintro e w5 ⟨rfl, hb5⟩
    have X5 := (X4.below hb5 X4.lt).past (.cells #[.int .u64 (hiOf q), .int .u64 (loOf q)] 24)
    have Y5 := (Y4.below hb5 Y4.lt).past (.cells #[.int .u64 (hiOf q), .int .u64 (loOf q)] 24)
    have Q5 := Box.new w5 q
    have hB5 := (bstep hB4 hb5).alloc (bstep hB4 hb5).size (.cells #[.int .u64 (hiOf q), .int .u64 (loOf q)] 24)
    clear x0 x1 y0 y1 X4 Y4 hB4 hb5
    go_wp2_with fail
    generalize w5.alloc (Obj.cells #[Value.int IntKind.u64 (hiOf q), Value.int IntKind.u64 (loOf q)] 24) = W at *
    obtain ⟨x0, x1⟩ := id X5
    obtain ⟨y0, y1⟩ := id Y5
    obtain ⟨k0, k1⟩ := id Q5
    go_region_held3 (fun w' => w'.cell? ⟨w2.heap.size, 0, none⟩ = some (.int .u64 (hiOf x)) ∧ w'.cell? ⟨w2.heap.size, 1, none⟩ = some (.int .u64 (loOf x)) ∧ w'.cell? ⟨w3.heap.size, 0, none⟩ = some (.int .u64 (hiOf y)) ∧ w'.cell? ⟨w3.heap.size, 1, none⟩ = some (.int .u64 (loOf y)) ∧ w'.cell? ⟨w5.heap.size, 0, none⟩ = some (.int .u64 (hiOf q)) ∧ w'.cell? ⟨w5.heap.size, 1, none⟩ = some (.int .u64 (loOf q)))
      (first | exact ⟨x0, x1, y0, y1, k0, k1⟩ | exact hold3 (by assumption) (by assumption))
      (first
        | (go_at_call_of 17 (Value.agg #[Value.int IntKind.u64 (hiOf x), Value.int IntKind.u64 (loOf x)]); refine (AX.out _).mono ?_; rintro e w6 ⟨rfl, hb6⟩)
        | (go_at_call_of 17 (Value.agg #[Value.int IntKind.u64 (hiOf y), Value.int IntKind.u64 (loOf y)]); refine (AY.out _).mono ?_; rintro e w7 ⟨rfl, hb7⟩))
    have X7 : Box w7 w2.heap.size x := (X5.drew.below hb6 X5.drew.lt).below hb7 (X5.drew.below hb6 X5.drew.lt).lt
    have Y7 : Box w7 w3.heap.size y := (Y5.drew.below hb6 Y5.drew.lt).below hb7 (Y5.drew.below hb6 Y5.drew.lt).lt
    have hB7 := bstep (bstep hB5.drew hb6) hb7
    have ls := F.less
    have sm := F.same
    clear x0 x1 y0 y1 k0 k1 X5 Y5 Q5 hB5 hb6 hb7 n1 n2 q1 fl q2 d1 d2 CX CY CC CM AX AY
    rename_i hHeld
    clear hHeld
    by_cases hcw : c < wd
    · obtain ⟨hby, hwant⟩ := F.bits hcw
      have TX : Hid (∀ w, Calls Tryd.prog 27 #[B x, .int .i64 wd, .int .i64 c] w fun e w' => e = .returned (.bool (bitN x wd c)) ∧ Below w.heap.size w w') := bit_any x F.hx wd c
      have TY : Hid (∀ w, Calls Tryd.prog 27 #[B y, .int .i64 wd, .int .i64 c] w fun e w' => e = .returned (.bool (!(bitN x wd c))) ∧ Below w.heap.size w w') := by rw [← hby]; exact bit_any y F.hy wd c
      clear hby F
      generalize bitN x wd c = b at *
      cases b
      · obtain rfl : want = -1 := by simpa using hwant
        clear hwant
        simp only [decide_true, decide_false, Int.reduceNeg, Int.reduceEq] at ls sm
        obtain ⟨x0, x1⟩ := id X7
        go_wp2_with fail
        refine (TX.out _).mono ?_
        rintro e w8 ⟨rfl, hb8⟩
        have X8 := X7.below hb8 X7.lt
        have Y8 := Y7.below hb8 Y7.lt
        have hB8 := bstep hB7 hb8
        clear x0 x1 hb8 X7 Y7 hB7
        obtain ⟨y0, y1⟩ := id Y8
        go_wp2_with fail
        refine (TY.out _).mono ?_
        rintro e w9 ⟨rfl, hb9⟩
        have X9 := X8.below hb9 X8.lt
        have Y9 := Y8.below hb9 Y8.lt
        have hB9 := bstep hB8 hb9
        clear y0 y1 hb9 X8 Y8 hB8
        obtain ⟨x0, x1⟩ := id X9
        go_wp2_with fail
        refine (BX.out _).mono ?_
        rintro e wb ⟨rfl, hbb⟩
        have Xb := X9.below hbb X9.lt
        have Yb := Y9.below hbb Y9.lt
        have hBb := bstep hB9 hbb
        clear x0 x1 hbb X9 Y9 hB9
        obtain ⟨y0, y1⟩ := id Yb
        go_wp2_with fail
        refine (BY.out _).mono ?_
        rintro e wc ⟨rfl, hbc⟩
        have Xc := Xb.below hbc Xb.lt
        have Yc := Yb.below hbc Yb.lt
        have hBc := bstep hBb hbc
        clear y0 y1 hbc Xb Yb hBb
        obtain ⟨x0, x1⟩ := id Xc
        obtain ⟨y0, y1⟩ := id Yc
        go_wp2_with fail
        refine (PX.out _).mono ?_
        rintro e wd' ⟨rfl, hbd⟩
        have Xd := Xc.below hbd Xc.lt
        have Yd := Yc.below hbd Yc.lt
        have hBd := bstep hBc hbd
        clear x0 x1 y0 y1 hbd Xc Yc hBc
        obtain ⟨x0, x1⟩ := id Xd
        obtain ⟨y0, y1⟩ := id Yd
        go_wp2_with fail
        refine (PY.out _).mono ?_
        rintro e we ⟨rfl, hbe⟩
        go_wp2
        go_ret
        exact ⟨rfl, bstep hBd hbe⟩
      · obtain rfl : want = 1 := by simpa using hwant
        clear hwant
        simp only [decide_true, decide_false, Int.reduceNeg, Int.reduceEq] at ls sm
        obtain ⟨x0, x1⟩ := id X7
        go_wp2_with fail
        refine (TX.out _).mono ?_
        rintro e w8 ⟨rfl, hb8⟩
        have X8 := X7.below hb8 X7.lt
        have Y8 := Y7.below hb8 Y7.lt
        have hB8 := bstep hB7 hb8
        clear x0 x1 hb8 X7 Y7 hB7
        obtain ⟨y0, y1⟩ := id Y8
        go_wp2_with fail
        refine (TY.out _).mono ?_
        rintro e w9 ⟨rfl, hb9⟩
        have X9 := X8.below hb9 X8.lt
        have Y9 := Y8.below hb9 Y8.lt
        have hB9 := bstep hB8 hb9
        clear y0 y1 hb9 X8 Y8 hB8
        obtain ⟨x0, x1⟩ := id X9
        go_wp2_with fail
        refine (BX.out _).mono ?_
        rintro e wb ⟨rfl, hbb⟩
        have Xb := X9.below hbb X9.lt
        have Yb := Y9.below hbb Y9.lt
        have hBb := bstep hB9 hbb
        clear x0 x1 hbb X9 Y9 hB9
        obtain ⟨y0, y1⟩ := id Yb
        go_wp2_with fail
        refine (BY.out _).mono ?_
        rintro e wc ⟨rfl, hbc⟩
        have Xc := Xb.below hbc Xb.lt
        have Yc := Yb.below hbc Yb.lt
        have hBc := bstep hBb hbc
        clear y0 y1 hbc Xb Yb hBb
        obtain ⟨x0, x1⟩ := id Xc
        obtain ⟨y0, y1⟩ := id Yc
        go_wp2_with fail
        refine (PX.out _).mono ?_
        rintro e wd' ⟨rfl, hbd⟩
        have Xd := Xc.below hbd Xc.lt
        have Yd := Yc.below hbd Yc.lt
        have hBd := bstep hBc hbd
        clear x0 x1 y0 y1 hbd Xc Yc hBc
        obtain ⟨x0, x1⟩ := id Xd
        obtain ⟨y0, y1⟩ := id Yd
        go_wp2_with fail
        refine (PY.out _).mono ?_
        rintro e we ⟨rfl, hbe⟩
        go_wp2
        go_ret
        exact ⟨rfl, bstep hBd hbe⟩
    · obtain rfl : want = 0 := F.none hcw
      simp only [decide_true, decide_false, Int.reduceNeg, Int.reduceEq] at ls sm
      clear F
      have hcw' : decide (c < wd) = false := by simpa using hcw
      obtain ⟨x0, x1⟩ := id X7
      go_wp2_with fail
      refine (BX.out _).mono ?_
      rintro e wb ⟨rfl, hbb⟩
      have Xb := X7.below hbb X7.lt
      have Yb := Y7.below hbb Y7.lt
      have hBb := bstep hB7 hbb
      clear x0 x1 hbb X7 Y7 hB7
      obtain ⟨y0, y1⟩ := id Yb
      go_wp2_with fail
      refine (BY.out _).mono ?_
      rintro e wc ⟨rfl, hbc⟩
      have Xc := Xb.below hbc Xb.lt
      have Yc := Yb.below hbc Yb.lt
      have hBc := bstep hBb hbc
      clear y0 y1 hbc Xb Yb hBb
      obtain ⟨x0, x1⟩ := id Xc
      obtain ⟨y0, y1⟩ := id Yc
      go_wp2_with fail
      refine (PX.out _).mono ?_
      rintro e wd' ⟨rfl, hbd⟩
      have Xd := Xc.below hbd Xc.lt
      have Yd := Yc.below hbd Yc.lt
      have hBd := bstep hBc hbd
      clear x0 x1 y0 y1 hbd Xc Yc hBc
      obtain ⟨x0, x1⟩ := id Xd
      obtain ⟨y0, y1⟩ := id Yd
      go_wp2_with fail
      refine (PY.out _).mono ?_
      rintro e we ⟨rfl, hbe⟩
      go_wp2
      go_ret
      exact ⟨rfl, bstep hBd hbe⟩
end Go.Proofs.YtjkpdcgmmdimaaaDoor
