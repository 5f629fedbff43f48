/- The walk of ValueBits: it returns true at any two numbers of 128 bits, any width, any number; memory only grows. The table of signs lies in memory. -/
import Derived.Test.YtjkpdcgmmdimaaaDoorRg
import Derived.Test.YtjkpdcgmmdimaaaDoorRh
namespace Go.Proofs.YtjkpdcgmmdimaaaDoor
open Go.RowKit
set_option linter.unusedVariables false
set_option linter.unusedSimpArgs false

theorem maskR_is (wd i : Int) : Is128 (maskR wd i).1 := by
  unfold maskR
  by_cases hW : isW wd = true
  · rw [if_pos hW]
    have hb := isW_bounds hW
    by_cases h : 0 ≤ i ∧ i ≤ wd
    · rw [if_pos h]; exact mask_is (by omega) hb.2 h.1 h.2
    · rw [if_neg h]; unfold Is128; decide
  · rw [if_neg hW]; unfold Is128; decide
theorem run_eqB_same (n : Nat) (w : World) : (binOp .eql 24 (B n) (B n)).run Tryd.prog w = .ok (.bool true) w := run_eqB (by simp) w

theorem hold5 {w w' : World} {b1 n1 b2 n2 b3 n3 b4 n4 b5 n5 : Nat} (h : w.cell? ⟨b1, 0, none⟩ = some (.int .u64 (hiOf n1)) ∧ w.cell? ⟨b1, 1, none⟩ = some (.int .u64 (loOf n1)) ∧ w.cell? ⟨b2, 0, none⟩ = some (.int .u64 (hiOf n2)) ∧ w.cell? ⟨b2, 1, none⟩ = some (.int .u64 (loOf n2)) ∧ w.cell? ⟨b3, 0, none⟩ = some (.int .u64 (hiOf n3)) ∧ w.cell? ⟨b3, 1, none⟩ = some (.int .u64 (loOf n3)) ∧ w.cell? ⟨b4, 0, none⟩ = some (.int .u64 (hiOf n4)) ∧ w.cell? ⟨b4, 1, none⟩ = some (.int .u64 (loOf n4)) ∧ w.cell? ⟨b5, 0, none⟩ = some (.int .u64 (hiOf n5)) ∧ w.cell? ⟨b5, 1, none⟩ = some (.int .u64 (loOf n5))) (hb : Below w.heap.size w w') :
    w'.cell? ⟨b1, 0, none⟩ = some (.int .u64 (hiOf n1)) ∧ w'.cell? ⟨b1, 1, none⟩ = some (.int .u64 (loOf n1)) ∧ w'.cell? ⟨b2, 0, none⟩ = some (.int .u64 (hiOf n2)) ∧ w'.cell? ⟨b2, 1, none⟩ = some (.int .u64 (loOf n2)) ∧ w'.cell? ⟨b3, 0, none⟩ = some (.int .u64 (hiOf n3)) ∧ w'.cell? ⟨b3, 1, none⟩ = some (.int .u64 (loOf n3)) ∧ w'.cell? ⟨b4, 0, none⟩ = some (.int .u64 (hiOf n4)) ∧ w'.cell? ⟨b4, 1, none⟩ = some (.int .u64 (loOf n4)) ∧ w'.cell? ⟨b5, 0, none⟩ = some (.int .u64 (hiOf n5)) ∧ w'.cell? ⟨b5, 1, none⟩ = some (.int .u64 (loOf n5)) := by
  obtain ⟨h1, h2, h3, h4, h5, h6, h7, h8, h9, h10⟩ := h
  have A1 := Box.below (w := w) (b := b1) (n := n1) ⟨h1, h2⟩ hb (Box.lt ⟨h1, h2⟩)
  have A2 := Box.below (w := w) (b := b2) (n := n2) ⟨h3, h4⟩ hb (Box.lt ⟨h3, h4⟩)
  have A3 := Box.below (w := w) (b := b3) (n := n3) ⟨h5, h6⟩ hb (Box.lt ⟨h5, h6⟩)
  have A4 := Box.below (w := w) (b := b4) (n := n4) ⟨h7, h8⟩ hb (Box.lt ⟨h7, h8⟩)
  have A5 := Box.below (w := w) (b := b5) (n := n5) ⟨h9, h10⟩ hb (Box.lt ⟨h9, h10⟩)
  exact ⟨A1.1, A1.2, A2.1, A2.2, A3.1, A3.2, A4.1, A4.2, A5.1, A5.2⟩

set_option maxHeartbeats 4000000 in
set_option maxRecDepth 100000 in
theorem bits_walk (n m : Nat) (hn : Is128 n) (hm : Is128 m) (wd i : Int) (w : World) (hT : Tab w) :
    Calls Tryd.prog 3 #[B n, B m, .int .i64 wd, .int .i64 i] w fun e w' => e = .returned (.bool true) ∧ Below w.heap.size w w' := by
  have B0 : Below w.heap.size w ((w.alloc (.cells #[.int .u64 (hiOf n), .int .u64 (loOf n)] 24)).alloc (.cells #[.int .u64 (hiOf m), .int .u64 (loOf m)] 24)) := by go_grown
  have HT0 : Hid (Tab ((w.alloc (.cells #[.int .u64 (hiOf n), .int .u64 (loOf n)] 24)).alloc (.cells #[.int .u64 (hiOf m), .int .u64 (loOf m)] 24))) := hT.below B0
  have cF : ∀ w, Calls Tryd.prog 10 #[B n, .int .i64 wd] w fun e w' => e = .returned (.bool (fitsN n wd)) ∧ Below w.heap.size w w' := fits_any n hn wd
  have cP : ∀ w, Calls Tryd.prog 11 #[.int .i64 wd] w fun e w' => e = .returned (.tuple #[B (maskR wd wd).1, .int .i64 (maskR wd wd).2]) ∧ Below w.heap.size w w' := most_all wd
  have cQ : ∀ w, Calls Tryd.prog 12 #[.int .i64 wd, .int .i64 i] w fun e w' => e = .returned (.tuple #[B (maskR wd i).1, .int .i64 (maskR wd i).2]) ∧ Below w.heap.size w w' := mask_all wd i
  have rP : ∀ w, Calls Tryd.prog 13 #[.int .i64 wd] w fun e w' => e = .returned (.tuple #[B (maskR wd wd).1, .int .i64 (maskR wd wd).2]) ∧ Below w.heap.size w w' := rmost_all wd
  have rQ : ∀ w, Calls Tryd.prog 14 #[.int .i64 wd, .int .i64 i] w fun e w' => e = .returned (.tuple #[B (maskR wd i).1, .int .i64 (maskR wd i).2]) ∧ Below w.heap.size w w' := rmask_all wd i
  have rF : ∀ w, Calls Tryd.prog 15 #[B n, .int .i64 wd] w fun e w' => e = .returned (.bool (fitsN n wd)) ∧ Below w.heap.size w w' := rfits_any n hn wd
  have cC : ∀ w, Calls Tryd.prog 16 #[B n, B m] w fun e w' => e = .returned (.int .i64 (cmpN n m)) ∧ Below w.heap.size w w' := compare_any n m
  have cA : ∀ w, Calls Tryd.prog 17 #[B n, B m] w fun e w' => e = .returned (B (n &&& m)) ∧ Below w.heap.size w w' := and_any n m hn hm
  have cO : ∀ w, Calls Tryd.prog 18 #[B n, B m] w fun e w' => e = .returned (B (n ||| m)) ∧ Below w.heap.size w w' := or_any n m hn hm
  have cX : ∀ w, Calls Tryd.prog 19 #[B n, B m] w fun e w' => e = .returned (B (n ^^^ m)) ∧ Below w.heap.size w w' := xor_any n m hn hm
  have rC : ∀ w, Calls Tryd.prog 20 #[B n, B m] w fun e w' => e = .returned (.int .i64 (cmpN n m)) ∧ Below w.heap.size w w' := rcompare_any n m hn hm
  have rA : ∀ w, Calls Tryd.prog 21 #[B n, B m] w fun e w' => e = .returned (B (n &&& m)) ∧ Below w.heap.size w w' := rand_any n m hn hm
  have rO : ∀ w, Calls Tryd.prog 22 #[B n, B m] w fun e w' => e = .returned (B (n ||| m)) ∧ Below w.heap.size w w' := ror_any n m hn hm
  have rX : ∀ w, Calls Tryd.prog 23 #[B n, B m] w fun e w' => e = .returned (B (n ^^^ m)) ∧ Below w.heap.size w w' := rxor_any n m hn hm
  have cT : ∀ w, Calls Tryd.prog 24 #[B n, .int .i64 wd] w fun e w' => e = .returned (B (cutN n wd)) ∧ Below w.heap.size w w' := cut_any n hn wd
  have cS : ∀ w, Calls Tryd.prog 25 #[B n, B m, .int .i64 wd] w fun e w' => e = .returned (B (addN n m wd)) ∧ Below w.heap.size w w' := add_any n m hn hm wd
  have cU : ∀ w, Calls Tryd.prog 26 #[B n, B m, .int .i64 wd] w fun e w' => e = .returned (B (subN n m wd)) ∧ Below w.heap.size w w' := sub_any n m hn hm wd
  have cB : ∀ w, Calls Tryd.prog 27 #[B n, .int .i64 wd, .int .i64 i] w fun e w' => e = .returned (.bool (bitN n wd i)) ∧ Below w.heap.size w w' := bit_any n hn wd i
  have cM : ∀ w, Calls Tryd.prog 28 #[B n, B m, .int .i64 wd] w fun e w' => e = .returned (.int .i64 (comN n m wd)) ∧ Below w.heap.size w w' := common_any n m hn hm wd
  have rT : ∀ w, Calls Tryd.prog 29 #[B n, .int .i64 wd] w fun e w' => e = .returned (B (cutN n wd)) ∧ Below w.heap.size w w' := rcut_any n hn wd
  have rS : ∀ w, Calls Tryd.prog 30 #[B n, B m, .int .i64 wd] w fun e w' => e = .returned (B (addN n m wd)) ∧ Below w.heap.size w w' := radd_any n m hn hm wd
  have rU : ∀ w, Calls Tryd.prog 31 #[B n, B m, .int .i64 wd] w fun e w' => e = .returned (B (subN n m wd)) ∧ Below w.heap.size w w' := rsub_any n m hn hm wd
  have rB : ∀ w, Calls Tryd.prog 32 #[B n, .int .i64 wd, .int .i64 i] w fun e w' => e = .returned (.bool (bitN n wd i)) ∧ Below w.heap.size w w' := rbit_any n hn wd i
  have rM : ∀ w, Calls Tryd.prog 33 #[B n, B m, .int .i64 wd] w fun e w' => e = .returned (.int .i64 (comN n m wd)) ∧ Below w.heap.size w w' := rcommon_any n m hn hm wd
  generalize fitsN n wd = f at *
  generalize (maskR wd wd).1 = p at *
  generalize (maskR wd wd).2 = pe at *
  generalize (maskR wd i).1 = q at *
  generalize (maskR wd i).2 = qe at *
  generalize cmpN n m = c at *
  generalize n &&& m = a at *
  generalize n ||| m = o at *
  generalize n ^^^ m = x at *
  generalize cutN n wd = t at *
  generalize addN n m wd = s at *
  generalize subN n m wd = u at *
  generalize bitN n wd i = bt at *
  generalize comN n m wd = cm at *
  have HcF : Hid (∀ w, Calls Tryd.prog 10 #[B n, .int .i64 wd] w fun e w' => e = .returned (.bool f) ∧ Below w.heap.size w w') := cF
  have HcP : Hid (∀ w, Calls Tryd.prog 11 #[.int .i64 wd] w fun e w' => e = .returned (.tuple #[B p, .int .i64 pe]) ∧ Below w.heap.size w w') := cP
  have HcQ : Hid (∀ w, Calls Tryd.prog 12 #[.int .i64 wd, .int .i64 i] w fun e w' => e = .returned (.tuple #[B q, .int .i64 qe]) ∧ Below w.heap.size w w') := cQ
  have HrP : Hid (∀ w, Calls Tryd.prog 13 #[.int .i64 wd] w fun e w' => e = .returned (.tuple #[B p, .int .i64 pe]) ∧ Below w.heap.size w w') := rP
  have HrQ : Hid (∀ w, Calls Tryd.prog 14 #[.int .i64 wd, .int .i64 i] w fun e w' => e = .returned (.tuple #[B q, .int .i64 qe]) ∧ Below w.heap.size w w') := rQ
  have HrF : Hid (∀ w, Calls Tryd.prog 15 #[B n, .int .i64 wd] w fun e w' => e = .returned (.bool f) ∧ Below w.heap.size w w') := rF
  have HcC : Hid (∀ w, Calls Tryd.prog 16 #[B n, B m] w fun e w' => e = .returned (.int .i64 c) ∧ Below w.heap.size w w') := cC
  have HcA : Hid (∀ w, Calls Tryd.prog 17 #[B n, B m] w fun e w' => e = .returned (B a) ∧ Below w.heap.size w w') := cA
  have HcO : Hid (∀ w, Calls Tryd.prog 18 #[B n, B m] w fun e w' => e = .returned (B o) ∧ Below w.heap.size w w') := cO
  have HcX : Hid (∀ w, Calls Tryd.prog 19 #[B n, B m] w fun e w' => e = .returned (B x) ∧ Below w.heap.size w w') := cX
  have HrC : Hid (∀ w, Calls Tryd.prog 20 #[B n, B m] w fun e w' => e = .returned (.int .i64 c) ∧ Below w.heap.size w w') := rC
  have HrA : Hid (∀ w, Calls Tryd.prog 21 #[B n, B m] w fun e w' => e = .returned (B a) ∧ Below w.heap.size w w') := rA
  have HrO : Hid (∀ w, Calls Tryd.prog 22 #[B n, B m] w fun e w' => e = .returned (B o) ∧ Below w.heap.size w w') := rO
  have HrX : Hid (∀ w, Calls Tryd.prog 23 #[B n, B m] w fun e w' => e = .returned (B x) ∧ Below w.heap.size w w') := rX
  have HcT : Hid (∀ w, Calls Tryd.prog 24 #[B n, .int .i64 wd] w fun e w' => e = .returned (B t) ∧ Below w.heap.size w w') := cT
  have HcS : Hid (∀ w, Calls Tryd.prog 25 #[B n, B m, .int .i64 wd] w fun e w' => e = .returned (B s) ∧ Below w.heap.size w w') := cS
  have HcU : Hid (∀ w, Calls Tryd.prog 26 #[B n, B m, .int .i64 wd] w fun e w' => e = .returned (B u) ∧ Below w.heap.size w w') := cU
  have HcB : Hid (∀ w, Calls Tryd.prog 27 #[B n, .int .i64 wd, .int .i64 i] w fun e w' => e = .returned (.bool bt) ∧ Below w.heap.size w w') := cB
  have HcM : Hid (∀ w, Calls Tryd.prog 28 #[B n, B m, .int .i64 wd] w fun e w' => e = .returned (.int .i64 cm) ∧ Below w.heap.size w w') := cM
  have HrT : Hid (∀ w, Calls Tryd.prog 29 #[B n, .int .i64 wd] w fun e w' => e = .returned (B t) ∧ Below w.heap.size w w') := rT
  have HrS : Hid (∀ w, Calls Tryd.prog 30 #[B n, B m, .int .i64 wd] w fun e w' => e = .returned (B s) ∧ Below w.heap.size w w') := rS
  have HrU : Hid (∀ w, Calls Tryd.prog 31 #[B n, B m, .int .i64 wd] w fun e w' => e = .returned (B u) ∧ Below w.heap.size w w') := rU
  have HrB : Hid (∀ w, Calls Tryd.prog 32 #[B n, .int .i64 wd, .int .i64 i] w fun e w' => e = .returned (.bool bt) ∧ Below w.heap.size w w') := rB
  have HrM : Hid (∀ w, Calls Tryd.prog 33 #[B n, B m, .int .i64 wd] w fun e w' => e = .returned (.int .i64 cm) ∧ Below w.heap.size w w') := rM
  clear cF cP cQ rP rQ rF cC cA cO cX rC rA rO rX cT cS cU cB cM rT rS rU rB rM
  have ep := fun w => run_eqB_same p w
  have eq := fun w => run_eqB_same q w
  have ea := fun w => run_eqB_same a w
  have eo := fun w => run_eqB_same o w
  have ex := fun w => run_eqB_same x w
  have et := fun w => run_eqB_same t w
  have es := fun w => run_eqB_same s w
  have eu := fun w => run_eqB_same u w
  go_enter Tryd.func3, Tryd.ntmps3
  go_wp2_with fail
  refine (awake_any _ HT0.out).mono ?_
  rintro e w1 ⟨rfl, hb1⟩
  have A1 : Box w1 w.heap.size n := ((Box.new w n).past _).below hb1 (by simp; omega)
  have M1 : Box w1 (w.heap.size + 1) m := by
    have := Box.new (w.alloc (.cells #[.int .u64 (hiOf n), .int .u64 (loOf n)] 24)) m
    simp only [World.size_alloc] at this
    exact this.below hb1 (by simp)
  have hB1 := bstep B0 hb1
  clear hb1 B0 HT0
  obtain ⟨a0, a1⟩ := id A1
  go_wp2_with fail
  refine (HcF.out _).mono ?_
  rintro e w2 ⟨rfl, hb2⟩
  have A2 := A1.below hb2 A1.lt
  have M2 := M1.below hb2 M1.lt
  have hB2 := bstep hB1 hb2
  clear A1 M1 hB1 hb2 a0 a1
  go_wp2_with fail
  refine (HcP.out _).mono ?_
  rintro e w3 ⟨rfl, hb3⟩
  have A3 := (A2.below hb3 A2.lt).past (.cells #[.int .u64 (hiOf p), .int .u64 (loOf p)] 24)
  have M3 := (M2.below hb3 M2.lt).past (.cells #[.int .u64 (hiOf p), .int .u64 (loOf p)] 24)
  have P3 := Box.new w3 p
  have hB3 := (bstep hB2 hb3).alloc (bstep hB2 hb3).size (.cells #[.int .u64 (hiOf p), .int .u64 (loOf p)] 24)
  clear A2 M2 hB2 hb3
  go_wp2_with fail
  refine (HcQ.out _).mono ?_
  rintro e w4 ⟨rfl, hb4⟩
  have A4 := (A3.below hb4 A3.lt).past (.cells #[.int .u64 (hiOf q), .int .u64 (loOf q)] 24)
  have M4 := (M3.below hb4 M3.lt).past (.cells #[.int .u64 (hiOf q), .int .u64 (loOf q)] 24)
  have P4 := (P3.below hb4 P3.lt).past (.cells #[.int .u64 (hiOf q), .int .u64 (loOf q)] 24)
  have Q4 := Box.new w4 q
  have hB4 := (bstep hB3 hb4).alloc (bstep hB3 hb4).size (.cells #[.int .u64 (hiOf q), .int .u64 (loOf q)] 24)
  clear A3 M3 P3 hB3 hb4
  go_wp2_with fail
  refine (HrP.out _).mono ?_
  rintro e w5 ⟨rfl, hb5⟩
  have A5 := (A4.below hb5 A4.lt).past (.cells #[.int .u64 (hiOf p), .int .u64 (loOf p)] 24)
  have M5 := (M4.below hb5 M4.lt).past (.cells #[.int .u64 (hiOf p), .int .u64 (loOf p)] 24)
  have P5 := (P4.below hb5 P4.lt).past (.cells #[.int .u64 (hiOf p), .int .u64 (loOf p)] 24)
  have Q5 := (Q4.below hb5 Q4.lt).past (.cells #[.int .u64 (hiOf p), .int .u64 (loOf p)] 24)
  have R5 := Box.new w5 p
  have hB5 := (bstep hB4 hb5).alloc (bstep hB4 hb5).size (.cells #[.int .u64 (hiOf p), .int .u64 (loOf p)] 24)
  clear A4 M4 P4 Q4 hB4 hb5
  go_wp2_with fail
  refine (HrQ.out _).mono ?_
  rintro e w6 ⟨rfl, hb6⟩
  have A6 := (A5.below hb6 A5.lt).past (.cells #[.int .u64 (hiOf q), .int .u64 (loOf q)] 24)
  have M6 := (M5.below hb6 M5.lt).past (.cells #[.int .u64 (hiOf q), .int .u64 (loOf q)] 24)
  have P6 := (P5.below hb6 P5.lt).past (.cells #[.int .u64 (hiOf q), .int .u64 (loOf q)] 24)
  have Q6 := (Q5.below hb6 Q5.lt).past (.cells #[.int .u64 (hiOf q), .int .u64 (loOf q)] 24)
  have R6 := (R5.below hb6 R5.lt).past (.cells #[.int .u64 (hiOf q), .int .u64 (loOf q)] 24)
  have S6 := Box.new w6 q
  have hB6 := (bstep hB5 hb6).alloc (bstep hB5 hb6).size (.cells #[.int .u64 (hiOf q), .int .u64 (loOf q)] 24)
  clear A5 M5 P5 Q5 R5 hB5 hb6
  obtain ⟨a0, a1⟩ := id A6
  go_wp2_with fail
  refine (HrF.out _).mono ?_
  rintro e w7 ⟨rfl, hb7⟩
  have A7 := A6.below hb7 A6.lt
  have M7 := M6.below hb7 M6.lt
  have P7 := P6.below hb7 P6.lt
  have Q7 := Q6.below hb7 Q6.lt
  have R7 := R6.below hb7 R6.lt
  have S7 := S6.below hb7 S6.lt
  have hB7 := bstep hB6 hb7
  clear A6 M6 P6 Q6 R6 S6 hB6 hb7 a0 a1
  obtain ⟨p0, p1⟩ := id P7
  obtain ⟨q0, q1⟩ := id Q7
  obtain ⟨r0, r1⟩ := id R7
  obtain ⟨s0, s1⟩ := id S7
  -- region 7's loads, then Compare
  obtain ⟨a0, a1⟩ := id A7
  obtain ⟨m0, m1⟩ := id M7
  go_wp2_with fail
  refine (HcC.out _).mono ?_
  rintro e w8 ⟨rfl, hb8⟩
  have A8 := A7.below hb8 A7.lt
  have M8 := M7.below hb8 M7.lt
  have hB8 := bstep hB7 hb8
  clear A7 M7 P7 Q7 R7 S7 hB7 hb8 a0 a1 m0 m1
  clear p0 p1 q0 q1 r0 r1 s0 s1
  obtain ⟨a0, a1⟩ := id A8
  obtain ⟨m0, m1⟩ := id M8
  go_wp2_with fail
  refine (HcA.out _).mono ?_
  rintro e w9 ⟨rfl, hb9⟩
  have A9 := (A8.below hb9 A8.lt).past (.cells #[.int .u64 (hiOf a), .int .u64 (loOf a)] 24)
  have M9 := (M8.below hb9 M8.lt).past (.cells #[.int .u64 (hiOf a), .int .u64 (loOf a)] 24)
  have D9 := Box.new w9 a
  have hB9 := (bstep hB8 hb9).alloc (bstep hB8 hb9).size (.cells #[.int .u64 (hiOf a), .int .u64 (loOf a)] 24)
  clear A8 M8 hB8 hb9 a0 a1 m0 m1
  obtain ⟨a0, a1⟩ := id A9
  obtain ⟨m0, m1⟩ := id M9
  go_wp2_with fail
  refine (HcO.out _).mono ?_
  rintro e w10 ⟨rfl, hb10⟩
  have A10 := (A9.below hb10 A9.lt).past (.cells #[.int .u64 (hiOf o), .int .u64 (loOf o)] 24)
  have M10 := (M9.below hb10 M9.lt).past (.cells #[.int .u64 (hiOf o), .int .u64 (loOf o)] 24)
  have D10 := (D9.below hb10 D9.lt).past (.cells #[.int .u64 (hiOf o), .int .u64 (loOf o)] 24)
  have E10 := Box.new w10 o
  have hB10 := (bstep hB9 hb10).alloc (bstep hB9 hb10).size (.cells #[.int .u64 (hiOf o), .int .u64 (loOf o)] 24)
  clear A9 M9 D9 hB9 hb10 a0 a1 m0 m1
  obtain ⟨a0, a1⟩ := id A10
  obtain ⟨m0, m1⟩ := id M10
  go_wp2_with fail
  refine (HcX.out _).mono ?_
  rintro e w11 ⟨rfl, hb11⟩
  have A11 := (A10.below hb11 A10.lt).past (.cells #[.int .u64 (hiOf x), .int .u64 (loOf x)] 24)
  have M11 := (M10.below hb11 M10.lt).past (.cells #[.int .u64 (hiOf x), .int .u64 (loOf x)] 24)
  have D11 := (D10.below hb11 D10.lt).past (.cells #[.int .u64 (hiOf x), .int .u64 (loOf x)] 24)
  have E11 := (E10.below hb11 E10.lt).past (.cells #[.int .u64 (hiOf x), .int .u64 (loOf x)] 24)
  have G11 := Box.new w11 x
  have hB11 := (bstep hB10 hb11).alloc (bstep hB10 hb11).size (.cells #[.int .u64 (hiOf x), .int .u64 (loOf x)] 24)
  clear A10 M10 D10 E10 hB10 hb11 a0 a1 m0 m1
  go_wp2_with fail
  generalize w11.alloc (.cells #[.int .u64 (hiOf x), .int .u64 (loOf x)] 24) = W at *
  obtain ⟨a0, a1⟩ := id A11
  obtain ⟨m0, m1⟩ := id M11
  obtain ⟨d0, d1⟩ := id D11
  obtain ⟨e0, e1⟩ := id E11
  obtain ⟨g0, g1⟩ := id G11
  go_region_held3 (fun w' => w'.cell? ⟨w.heap.size, 0, none⟩ = some (.int .u64 (hiOf n)) ∧ w'.cell? ⟨w.heap.size, 1, none⟩ = some (.int .u64 (loOf n)) ∧ w'.cell? ⟨w.heap.size + 1, 0, none⟩ = some (.int .u64 (hiOf m)) ∧ w'.cell? ⟨w.heap.size + 1, 1, none⟩ = some (.int .u64 (loOf m)) ∧ w'.cell? ⟨w9.heap.size, 0, none⟩ = some (.int .u64 (hiOf a)) ∧ w'.cell? ⟨w9.heap.size, 1, none⟩ = some (.int .u64 (loOf a)) ∧ w'.cell? ⟨w10.heap.size, 0, none⟩ = some (.int .u64 (hiOf o)) ∧ w'.cell? ⟨w10.heap.size, 1, none⟩ = some (.int .u64 (loOf o)) ∧ w'.cell? ⟨w11.heap.size, 0, none⟩ = some (.int .u64 (hiOf x)) ∧ w'.cell? ⟨w11.heap.size, 1, none⟩ = some (.int .u64 (loOf x)))
    (first | exact ⟨a0, a1, m0, m1, d0, d1, e0, e1, g0, g1⟩ | exact hold5 (by assumption) (by assumption))
    (first
      | (go_at_call 20; refine (HrC.out _).mono ?_; rintro e v110 ⟨rfl, hv0⟩)
      | (go_at_call 21; refine (HrA.out _).mono ?_; rintro e v111 ⟨rfl, hv1⟩)
      | (go_at_call 22; refine (HrO.out _).mono ?_; rintro e v112 ⟨rfl, hv2⟩)
      | (go_at_call 23; refine (HrX.out _).mono ?_; rintro e v113 ⟨rfl, hv3⟩))
  rename_i hHeld
  clear hHeld
  have A11d := A11.drew
  have A11v0 := A11d.below hv0 A11d.lt
  have A11v1 := A11v0.below hv1 A11v0.lt
  have A11v2 := A11v1.below hv2 A11v1.lt
  have A11v3 := A11v2.below hv3 A11v2.lt
  have A12 := A11v3
  have M11d := M11.drew
  have M11v0 := M11d.below hv0 M11d.lt
  have M11v1 := M11v0.below hv1 M11v0.lt
  have M11v2 := M11v1.below hv2 M11v1.lt
  have M11v3 := M11v2.below hv3 M11v2.lt
  have M12 := M11v3
  have hB12 := (bstep (bstep (bstep (bstep hB11.drew hv0) hv1) hv2) hv3)
  clear A11 M11 D11 E11 G11 hB11 hv0 hv1 hv2 hv3 A11d M11d A11v0 A11v1 A11v2 A11v3 M11v0 M11v1 M11v2 M11v3 a0 a1 m0 m1 d0 d1 e0 e1 g0 g1
  obtain ⟨a0, a1⟩ := id A12
  go_wp2_with fail
  refine (HcT.out _).mono ?_
  rintro e w13 ⟨rfl, hb13⟩
  have A13 := (A12.below hb13 A12.lt).past (.cells #[.int .u64 (hiOf t), .int .u64 (loOf t)] 24)
  have M13 := (M12.below hb13 M12.lt).past (.cells #[.int .u64 (hiOf t), .int .u64 (loOf t)] 24)
  have D13 := Box.new w13 t
  have hB13 := (bstep hB12 hb13).alloc (bstep hB12 hb13).size (.cells #[.int .u64 (hiOf t), .int .u64 (loOf t)] 24)
  clear A12 M12 hB12 hb13 a0 a1
  obtain ⟨a0, a1⟩ := id A13
  obtain ⟨m0, m1⟩ := id M13
  go_wp2_with fail
  refine (HcS.out _).mono ?_
  rintro e w14 ⟨rfl, hb14⟩
  have A14 := (A13.below hb14 A13.lt).past (.cells #[.int .u64 (hiOf s), .int .u64 (loOf s)] 24)
  have M14 := (M13.below hb14 M13.lt).past (.cells #[.int .u64 (hiOf s), .int .u64 (loOf s)] 24)
  have D14 := (D13.below hb14 D13.lt).past (.cells #[.int .u64 (hiOf s), .int .u64 (loOf s)] 24)
  have E14 := Box.new w14 s
  have hB14 := (bstep hB13 hb14).alloc (bstep hB13 hb14).size (.cells #[.int .u64 (hiOf s), .int .u64 (loOf s)] 24)
  clear A13 M13 D13 hB13 hb14 a0 a1 m0 m1
  obtain ⟨a0, a1⟩ := id A14
  obtain ⟨m0, m1⟩ := id M14
  go_wp2_with fail
  refine (HcU.out _).mono ?_
  rintro e w15 ⟨rfl, hb15⟩
  have A15 := (A14.below hb15 A14.lt).past (.cells #[.int .u64 (hiOf u), .int .u64 (loOf u)] 24)
  have M15 := (M14.below hb15 M14.lt).past (.cells #[.int .u64 (hiOf u), .int .u64 (loOf u)] 24)
  have D15 := (D14.below hb15 D14.lt).past (.cells #[.int .u64 (hiOf u), .int .u64 (loOf u)] 24)
  have E15 := (E14.below hb15 E14.lt).past (.cells #[.int .u64 (hiOf u), .int .u64 (loOf u)] 24)
  have G15 := Box.new w15 u
  have hB15 := (bstep hB14 hb15).alloc (bstep hB14 hb15).size (.cells #[.int .u64 (hiOf u), .int .u64 (loOf u)] 24)
  clear A14 M14 D14 E14 hB14 hb15 a0 a1 m0 m1
  obtain ⟨a0, a1⟩ := id A15
  go_wp2_with fail
  refine (HcB.out _).mono ?_
  rintro e w16 ⟨rfl, hb16⟩
  have A16 := A15.below hb16 A15.lt
  have M16 := M15.below hb16 M15.lt
  have D16 := D15.below hb16 D15.lt
  have E16 := E15.below hb16 E15.lt
  have G16 := G15.below hb16 G15.lt
  have hB16 := bstep hB15 hb16
  clear A15 M15 D15 E15 G15 hB15 hb16 a0 a1
  obtain ⟨a0, a1⟩ := id A16
  obtain ⟨m0, m1⟩ := id M16
  go_wp2_with fail
  refine (HcM.out _).mono ?_
  rintro e w17 ⟨rfl, hb17⟩
  have A17 := A16.below hb17 A16.lt
  have M17 := M16.below hb17 M16.lt
  have D17 := D16.below hb17 D16.lt
  have E17 := E16.below hb17 E16.lt
  have G17 := G16.below hb17 G16.lt
  have hB17 := bstep hB16 hb17
  clear A16 M16 D16 E16 G16 hB16 hb17 a0 a1 m0 m1
  go_wp2_with fail
  obtain ⟨a0, a1⟩ := id A17
  obtain ⟨m0, m1⟩ := id M17
  obtain ⟨d0, d1⟩ := id D17
  obtain ⟨e0, e1⟩ := id E17
  obtain ⟨g0, g1⟩ := id G17
  go_region_held3 (fun w' => w'.cell? ⟨w.heap.size, 0, none⟩ = some (.int .u64 (hiOf n)) ∧ w'.cell? ⟨w.heap.size, 1, none⟩ = some (.int .u64 (loOf n)) ∧ w'.cell? ⟨w.heap.size + 1, 0, none⟩ = some (.int .u64 (hiOf m)) ∧ w'.cell? ⟨w.heap.size + 1, 1, none⟩ = some (.int .u64 (loOf m)) ∧ w'.cell? ⟨w13.heap.size, 0, none⟩ = some (.int .u64 (hiOf t)) ∧ w'.cell? ⟨w13.heap.size, 1, none⟩ = some (.int .u64 (loOf t)) ∧ w'.cell? ⟨w14.heap.size, 0, none⟩ = some (.int .u64 (hiOf s)) ∧ w'.cell? ⟨w14.heap.size, 1, none⟩ = some (.int .u64 (loOf s)) ∧ w'.cell? ⟨w15.heap.size, 0, none⟩ = some (.int .u64 (hiOf u)) ∧ w'.cell? ⟨w15.heap.size, 1, none⟩ = some (.int .u64 (loOf u)))
    (first | exact ⟨a0, a1, m0, m1, d0, d1, e0, e1, g0, g1⟩ | exact hold5 (by assumption) (by assumption))
    (first
      | (go_at_call 29; refine (HrT.out _).mono ?_; rintro e v170 ⟨rfl, hv0⟩)
      | (go_at_call 30; refine (HrS.out _).mono ?_; rintro e v171 ⟨rfl, hv1⟩)
      | (go_at_call 31; refine (HrU.out _).mono ?_; rintro e v172 ⟨rfl, hv2⟩))
  rename_i hHeld
  clear hHeld
  have A17d := A17.drew
  have A17v0 := A17d.below hv0 A17d.lt
  have A17v1 := A17v0.below hv1 A17v0.lt
  have A17v2 := A17v1.below hv2 A17v1.lt
  have A18 := A17v2
  have M17d := M17.drew
  have M17v0 := M17d.below hv0 M17d.lt
  have M17v1 := M17v0.below hv1 M17v0.lt
  have M17v2 := M17v1.below hv2 M17v1.lt
  have M18 := M17v2
  have hB18 := (bstep (bstep (bstep hB17.drew hv0) hv1) hv2)
  clear A17 M17 D17 E17 G17 hB17 hv0 hv1 hv2 A17d M17d A17v0 A17v1 A17v2 M17v0 M17v1 M17v2 a0 a1 m0 m1 d0 d1 e0 e1 g0 g1
  obtain ⟨a0, a1⟩ := id A18
  go_wp2_with fail
  refine (HrB.out _).mono ?_
  rintro e w19 ⟨rfl, hb19⟩
  have A19 := A18.below hb19 A18.lt
  have M19 := M18.below hb19 M18.lt
  have hB19 := bstep hB18 hb19
  clear A18 M18 hB18 hb19 a0 a1
  obtain ⟨a0, a1⟩ := id A19
  obtain ⟨m0, m1⟩ := id M19
  go_wp2_with fail
  refine (HrM.out _).mono ?_
  rintro e w20 ⟨rfl, hb20⟩
  have A20 := A19.below hb20 A19.lt
  have M20 := M19.below hb20 M19.lt
  have hB20 := bstep hB19 hb20
  clear A19 M19 hB19 hb20 a0 a1 m0 m1
  go_wp2
  go_ret
  exact ⟨rfl, hB20⟩
end Go.Proofs.YtjkpdcgmmdimaaaDoor
