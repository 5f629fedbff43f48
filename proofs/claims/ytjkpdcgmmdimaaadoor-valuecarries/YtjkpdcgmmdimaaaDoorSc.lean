/- The walk of ValueCarries: it returns true at any two numbers of 128 bits and any width; memory only grows. The table of signs lies in memory. -/
import Derived.Test.YtjkpdcgmmdimaaaDoorWk
import Derived.Test.YtjkpdcgmmdimaaaDoorLc
namespace Go.Proofs.YtjkpdcgmmdimaaaDoor
open Go.RowKit
set_option linter.unusedVariables false
set_option linter.unusedSimpArgs false

/-- A box holds a value. -/
def Box (w : World) (b n : Nat) : Prop := w.cell? ⟨b, 0, none⟩ = some (.int .u64 (hiOf n)) ∧ w.cell? ⟨b, 1, none⟩ = some (.int .u64 (loOf n))
theorem Box.below {w w' : World} {b n B : Nat} (h : Box w b n) (hb : Below B w w') (hB : b < B) : Box w' b n :=
  ⟨by rw [hb.cell (p := ⟨b, 0, none⟩) hB]; exact h.1, by rw [hb.cell (p := ⟨b, 1, none⟩) hB]; exact h.2⟩
theorem Box.new (w : World) (n : Nat) : Box (w.alloc (.cells #[.int .u64 (hiOf n), .int .u64 (loOf n)] 24)) w.heap.size n := ⟨by simp, by simp⟩
theorem Box.past {w : World} {b n : Nat} (h : Box w b n) (o : Obj) : Box (w.alloc o) b n :=
  ⟨by rw [World.cell?_alloc_lt _ _ _ (World.block_lt_of_cell? w _ h.1)]; exact h.1, by rw [World.cell?_alloc_lt _ _ _ (World.block_lt_of_cell? w _ h.2)]; exact h.2⟩
theorem Box.drew {w : World} {b n : Nat} (h : Box w b n) : Box w.drew b n := h
theorem Box.lt {w : World} {b n : Nat} (h : Box w b n) : b < w.heap.size := World.block_lt_of_cell? w ⟨b, 0, none⟩ h.1

set_option maxHeartbeats 2000000 in
set_option maxRecDepth 100000 in
theorem carries_walk (n m : Nat) (hn : Is128 n) (hm : Is128 m) (wd : Int) (w : World) (hT : Tab w) :
    Calls Tryd.prog 6 #[B n, B m, .int .i64 wd] w fun e w' => e = .returned (.bool true) ∧ Below w.heap.size w w' := by
  have B0 : Below w.heap.size w ((w.alloc (.cells #[.int .u64 (hiOf n), .int .u64 (loOf n)] 24)).alloc (.cells #[.int .u64 (hiOf m), .int .u64 (loOf m)] 24)) := by go_grown
  have HT0 : Hid (Tab ((w.alloc (.cells #[.int .u64 (hiOf n), .int .u64 (loOf n)] 24)).alloc (.cells #[.int .u64 (hiOf m), .int .u64 (loOf m)] 24))) := hT.below B0
  cases hW : isW wd
  · rcases isW_not hW with h | h
    · go_enter Tryd.func6, Tryd.ntmps6
      go_wp2_with fail
      refine (awake_any _ HT0.out).mono ?_
      rintro e w1 ⟨rfl, hb1⟩
      go_wp2
      go_ret
      exact ⟨rfl, bstep B0 hb1⟩
    · have h' : decide (wd < 1) = false := by simp; omega
      go_enter Tryd.func6, Tryd.ntmps6
      go_wp2_with fail
      refine (awake_any _ HT0.out).mono ?_
      rintro e w1 ⟨rfl, hb1⟩
      go_wp2
      go_ret
      exact ⟨rfl, bstep B0 hb1⟩
  · have hb := isW_bounds hW
    have d1 : decide (wd < 1) = false := by simp; omega
    have d2 : decide (128 < wd) = false := by simp; omega
    go_enter Tryd.func6, Tryd.ntmps6
    go_wp2_with fail
    refine (awake_any _ HT0.out).mono ?_
    rintro e w1 ⟨rfl, hb1⟩
    have B1 : Below w.heap.size w w1 := bstep B0 hb1
    have A1 : Box w1 w.heap.size n := ((Box.new w n).past _).below hb1 (by simp; omega)
    have M1 : Box w1 (w.heap.size + 1) m := by
      have := Box.new (w.alloc (.cells #[.int .u64 (hiOf n), .int .u64 (loOf n)] 24)) m
      simp only [World.size_alloc] at this
      exact this.below hb1 (by simp)
    obtain ⟨a0, a1⟩ := A1
    obtain ⟨m0, m1⟩ := M1
    go_wp2_with fail
    refine (add_any n m hn hm wd _).mono ?_
    rintro e w2 ⟨rfl, hb2⟩
    have hs : Is128 (addN n m wd) := add_is n m wd
    have hfs : fitsN (addN n m wd) wd = true := cut_fits _ hW
    have hbits : ∀ k : Nat, (k : Int) < wd → bitN (addN n m wd) wd (wd - 1 - k) = ((n.testBit k) ^^ ((m.testBit k) ^^ (carryN k n m))) := fun k hk => by
      rw [bit_at hW hk, add_bit hW hk, sum_bit k n m (by omega)]
    generalize addN n m wd = s at *
    have HB : Hid (∀ k : Nat, (k : Int) < wd → bitN s wd (wd - 1 - k) = ((n.testBit k) ^^ ((m.testBit k) ^^ (carryN k n m)))) := hbits
    have B2 : Below w.heap.size w (w2.alloc (.cells #[.int .u64 (hiOf s), .int .u64 (loOf s)] 24)) := (bstep B1 hb2).alloc (bstep B1 hb2).size _
    have A2 : Box (w2.alloc (.cells #[.int .u64 (hiOf s), .int .u64 (loOf s)] 24)) w.heap.size n := (Box.below ⟨a0, a1⟩ hb2 (Box.lt ⟨a0, a1⟩)).past _
    have M2 : Box (w2.alloc (.cells #[.int .u64 (hiOf s), .int .u64 (loOf s)] 24)) (w.heap.size + 1) m := (Box.below ⟨m0, m1⟩ hb2 (Box.lt ⟨m0, m1⟩)).past _
    have S2 : Box (w2.alloc (.cells #[.int .u64 (hiOf s), .int .u64 (loOf s)] 24)) w2.heap.size s := Box.new _ _
    clear hbits a0 a1 m0 m1 hb1 hb2 B1 B0 HT0
    go_wp2_with fail
    go_loopw [9, 10] (fun c i wr => ∃ k : Nat, (k : Int) ≤ wd ∧ i = .int .i64 (wd - 1 - k) ∧ c = .bool (carryN k n m) ∧ Box wr w.heap.size n ∧ Box wr (w.heap.size + 1) m ∧ Box wr w2.heap.size s ∧ Below w.heap.size w wr) (fun _ i _ => (intOf i + 1).toNat)
    case atStart => exact ⟨0, by omega, by simp, by rw [carry_zero], A2, M2, S2, B2⟩
    case round =>
      obtain ⟨k, hk, rfl, rfl, A, M, S, hB⟩ := hrel
      obtain ⟨a0, a1⟩ := id A
      obtain ⟨m0, m1⟩ := id M
      obtain ⟨s0, s1⟩ := id S
      clear A2 M2 S2 B2
      by_cases hlt : (k : Int) < wd
      · have E1 : Hid _ := bit_at (n := n) hW hlt
        have E2 : Hid _ := bit_at (n := m) hW hlt
        have E3 : Hid _ := HB.out k hlt
        have E4 : Hid _ := carry_next k n m hn hm
        go_wp2_with fail
        refine (bit_any n hn wd _ _).mono ?_
        rw [E1.out]
        rintro e w3 ⟨rfl, hb3⟩
        have A3 := A.below hb3 A.lt
        have M3 := M.below hb3 M.lt
        have S3 := S.below hb3 S.lt
        have hB3 := bstep hB hb3
        clear a0 a1 m0 m1 s0 s1 hB hb3 A M S
        obtain ⟨m0, m1⟩ := id M3
        go_wp2_with fail
        refine (bit_any m hm wd _ _).mono ?_
        rw [E2.out]
        rintro e w4 ⟨rfl, hb4⟩
        have A4 := A3.below hb4 A3.lt
        have M4 := M3.below hb4 M3.lt
        have S4 := S3.below hb4 S3.lt
        have hB4 := bstep hB3 hb4
        clear m0 m1 hB3 hb4 A3 M3 S3
        obtain ⟨s0, s1⟩ := id S4
        go_wp2_with fail
        refine (bit_any s hs wd _ _).mono ?_
        rw [E3.out]
        rintro e w5 ⟨rfl, hb5⟩
        have A5 := A4.below hb5 A4.lt
        have M5 := M4.below hb5 M4.lt
        have S5 := S4.below hb5 S4.lt
        have hB5 := bstep hB4 hb5
        clear s0 s1 hB4 hb5 A4 M4 S4
        have e5 : Value.int IntKind.i64 (wd - 1 - (k : Int) - 1) = Value.int IntKind.i64 (wd - 1 - ((k + 1 : Nat) : Int)) := congrArg (Value.int .i64) (by omega)
        have E5 : Hid _ := e5
        clear e5
        generalize n.testBit k = x at *
        generalize m.testBit k = y at *
        generalize carryN k n m = c at *
        cases x <;> cases y <;> cases c
        all_goals
          go_wp2
          refine ⟨⟨k + 1, by omega, E5.out, by rw [E4.out]; rfl, A5, M5, S5, hB5⟩, by simp only [intOf]; omega⟩
      · have hl : Is128 (subN n m wd) := sub_is n m wd
        have hfl : fitsN (subN n m wd) wd = true := cut_fits _ hW
        have hbk : addN (subN n m wd) m wd = cutN n wd := add_back hn hm hW
        have hz : subN n n wd = 0 := sub_self hn wd
        have HZ : Hid _ := hz
        clear hz
        go_wp2_with fail
        refine (sub_any n m hn hm wd _).mono ?_
        generalize subN n m wd = l at *
        have HK : Hid _ := hbk
        clear hbk
        rintro e w3 ⟨rfl, hb3⟩
        have A3 := (A.below hb3 A.lt).past (.cells #[.int .u64 (hiOf l), .int .u64 (loOf l)] 24)
        have M3 := (M.below hb3 M.lt).past (.cells #[.int .u64 (hiOf l), .int .u64 (loOf l)] 24)
        have S3 := (S.below hb3 S.lt).past (.cells #[.int .u64 (hiOf l), .int .u64 (loOf l)] 24)
        have L3 := Box.new w3 l
        have hB3 := bstep hB hb3
        have hB3' := hB3.alloc hB3.size (.cells #[.int .u64 (hiOf l), .int .u64 (loOf l)] 24)
        clear a0 a1 m0 m1 s0 s1 hB hb3 A M S hB3
        obtain ⟨m0, m1⟩ := id M3
        go_wp2_with fail
        refine (add_any l m hl hm wd _).mono ?_
        rw [HK.out]
        have hc := cut_is hn wd
        generalize hcn : cutN n wd = c at *
        have HCN : Hid (cutN n wd = c) := hcn
        clear hcn
        rintro e w4 ⟨rfl, hb4⟩
        have A4 := (A3.below hb4 A3.lt).past (.cells #[.int .u64 (hiOf c), .int .u64 (loOf c)] 24)
        have S4 := (S3.below hb4 S3.lt).past (.cells #[.int .u64 (hiOf c), .int .u64 (loOf c)] 24)
        have L4 := (L3.below hb4 L3.lt).past (.cells #[.int .u64 (hiOf c), .int .u64 (loOf c)] 24)
        have C4 := Box.new w4 c
        have hB4 := bstep hB3' hb4
        have hB4' := hB4.alloc hB4.size (.cells #[.int .u64 (hiOf c), .int .u64 (loOf c)] 24)
        clear m0 m1 hB3' hb4 A3 M3 S3 L3 hB4
        obtain ⟨a0, a1⟩ := id A4
        go_wp2_with fail
        refine (sub_any n n hn hn wd _).mono ?_
        rw [HZ.out]
        rintro e w5 ⟨rfl, hb5⟩
        have A5 := (A4.below hb5 A4.lt).past (.cells #[.int .u64 (hiOf 0), .int .u64 (loOf 0)] 24)
        have S5 := (S4.below hb5 S4.lt).past (.cells #[.int .u64 (hiOf 0), .int .u64 (loOf 0)] 24)
        have L5 := (L4.below hb5 L4.lt).past (.cells #[.int .u64 (hiOf 0), .int .u64 (loOf 0)] 24)
        have C5 := (C4.below hb5 C4.lt).past (.cells #[.int .u64 (hiOf 0), .int .u64 (loOf 0)] 24)
        have Z5 := Box.new w5 0
        have hB5 := bstep hB4' hb5
        have hB5' := hB5.alloc hB5.size (.cells #[.int .u64 (hiOf 0), .int .u64 (loOf 0)] 24)
        clear a0 a1 hB4' hb5 A4 S4 L4 C4 hB5
        go_wp2_with fail
        generalize w5.alloc (Obj.cells #[Value.int IntKind.u64 (hiOf 0), Value.int IntKind.u64 (loOf 0)] 24) = W at *
        obtain ⟨s0, s1⟩ := id S5
        have q1 := fun w => run_eqB (n := c) (m := c) (b := true) (by simp) w
        have q2 := fun w => run_eq0 (q := 0) (b := true) (by simp) w
        clear HB HZ HK hk hlt d1 d2
        go_region_with (first
          | (go_at_call_of 10 (Value.agg #[Value.int IntKind.u64 (hiOf s), Value.int IntKind.u64 (loOf s)]); refine (fits_any s hs wd _).mono ?_; rw [hfs]; rintro e w6 ⟨rfl, hb6⟩; have A6 := A5.drew.below hb6 A5.drew.lt; have L6 := L5.drew.below hb6 L5.drew.lt; have C6 := C5.drew.below hb6 C5.drew.lt; have Z6 := Z5.drew.below hb6 Z5.drew.lt; have hB6 := bstep hB5'.drew hb6; obtain ⟨l0, l1⟩ := id L6)
          | (go_at_call_of 10 (Value.agg #[Value.int IntKind.u64 (hiOf l), Value.int IntKind.u64 (loOf l)]); refine (fits_any l hl wd _).mono ?_; rw [hfl]; rintro e w7 ⟨rfl, hb7⟩; have A7 := A6.below hb7 A6.lt; have C7 := C6.below hb7 C6.lt; have Z7 := Z6.below hb7 Z6.lt; have hB7 := bstep hB6 hb7; obtain ⟨a0, a1⟩ := id A7; obtain ⟨c0, c1⟩ := id C7)
          | (go_at_call 24; refine (cut_any n hn wd _).mono ?_; rw [HCN.out]; rintro e w8 ⟨rfl, hb8⟩; obtain ⟨c0', c1'⟩ := C7.below hb8 C7.lt; obtain ⟨z0, z1⟩ := Z7.below hb8 Z7.lt; have hB8 := bstep hB7 hb8))
        all_goals
          go_wp2
          go_ret
          exact ⟨rfl, hB8⟩
end Go.Proofs.YtjkpdcgmmdimaaaDoor
