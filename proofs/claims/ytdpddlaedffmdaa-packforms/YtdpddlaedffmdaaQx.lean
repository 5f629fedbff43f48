/- The walk of PackNil: whatever the item and what is wanted: true; older memory is as it was. -/
import Derived.Test.YtdpddlaedffmdaaQw
namespace Go.Proofs.Ytdpddlaedffmdaa
open Go.RowKit
set_option linter.unusedVariables false
set_option linter.unusedSimpArgs false

/-- An item and a want in memory. -/
def NB (p : Nat) (n : Nat) (k : Int) (s : ByteArray) (x : Nat) (m : Nat) (k2 : Int) (w : World) : Prop :=
  w.cell? ⟨p, 2, none⟩ = some (.int .u64 n) ∧ w.cell? ⟨p, 3, none⟩ = some (.int .i64 k) ∧ w.cell? ⟨p, 4, none⟩ = some (.string s) ∧ w.cell? ⟨p, 5, none⟩ = some (.int .u64 (hiOf x)) ∧ w.cell? ⟨p, 6, none⟩ = some (.int .u64 (loOf x)) ∧
  w.cell? ⟨p + 1, 2, none⟩ = some (.int .u64 m) ∧ w.cell? ⟨p + 1, 3, none⟩ = some (.int .i64 k2)
theorem NB.below {p n : Nat} {k : Int} {s : ByteArray} {x m : Nat} {k2 : Int} {w w' : World} (h : NB p n k s x m k2 w) (hb : Below w.heap.size w w') : NB p n k s x m k2 w' := by
  obtain ⟨a, b, c, d, e, f, g⟩ := h
  have l1 := World.block_lt_of_cell? w ⟨p, 2, none⟩ a
  have l2 := World.block_lt_of_cell? w ⟨p + 1, 2, none⟩ f
  exact ⟨(hb.cell (p := ⟨p, 2, none⟩) l1).trans a, (hb.cell (p := ⟨p, 3, none⟩) l1).trans b, (hb.cell (p := ⟨p, 4, none⟩) l1).trans c, (hb.cell (p := ⟨p, 5, none⟩) l1).trans d, (hb.cell (p := ⟨p, 6, none⟩) l1).trans e, (hb.cell (p := ⟨p + 1, 2, none⟩) l2).trans f, (hb.cell (p := ⟨p + 1, 3, none⟩) l2).trans g⟩
theorem nr24z (m : Int) (w : World) : Calls Try.prog 24 #[.pointer none, .int .i64 m] w fun e w' => e = .returned (.agg #[.int .u64 0, .int .u64 0]) ∧ Below w.heap.size w w' := nr24 m w
theorem eq_zero (w : World) : (binOp .eql 34 (.agg #[.int .u64 0, .int .u64 0]) (.agg #[.int .u64 0, .int .u64 0])).run Try.prog w = .ok (.bool true) w := by
  rw [run_eqW]; rfl
set_option maxHeartbeats 4000000 in
set_option maxRecDepth 100000 in
theorem nil_walk (o : Bool) (kd : Int) (n : Nat) (hn : n < 18446744073709551616) (k : Int) (s : ByteArray) (hs : s.size ≤ 140737488351232) (x : Nat) (hx : Is128 x) (o2 : Bool) (kd2 : Int) (m : Nat) (k2 : Int) (w : World) :
    Calls Try.prog 7 #[.agg #[.bool o, .int .i64 kd, .int .u64 n, .int .i64 k, .string s, .int .u64 (hiOf x), .int .u64 (loOf x)], .agg #[.bool o2, .int .i64 kd2, .int .u64 m, .int .i64 k2]] w fun e w' => e = .returned (.bool true) ∧ Below w.heap.size w w' := by
  have hq := eq_zero
  have C26 : Hid (∀ w : World, Calls Try.prog 26 #[.pointer none, .int .u64 n] w fun e w' => e = .returned (.tuple #[]) ∧ Below w.heap.size w w') := nuint n hn
  have C27 : Hid (∀ w : World, Calls Try.prog 27 #[.pointer none, .int .u64 n, .int .i64 k] w fun e w' => e = .returned (.tuple #[]) ∧ Below w.heap.size w w') := nfixed n k
  have C28 : Hid (∀ w : World, Calls Try.prog 28 #[.pointer none, .string s] w fun e w' => e = .returned (.tuple #[]) ∧ Below w.heap.size w w') := ntext s hs
  have C29 : Hid (∀ w : World, Calls Try.prog 29 #[.pointer none, .agg #[.int .u64 (hiOf x), .int .u64 (loOf x)], .int .i64 k] w fun e w' => e = .returned (.tuple #[]) ∧ Below w.heap.size w w') := nbits x hx k
  have N2 : Hid (NB w.heap.size n k s x m k2 ((w.alloc (.cells #[.bool o, .int .i64 kd, .int .u64 n, .int .i64 k, .string s, .int .u64 (hiOf x), .int .u64 (loOf x)] 36)).alloc (.cells #[.bool o2, .int .i64 kd2, .int .u64 m, .int .i64 k2] 45))) := by
    show NB _ _ _ _ _ _ _ _
    refine ⟨?_, ?_, ?_, ?_, ?_, ?_, ?_⟩ <;> simp
  have B2 : Hid (Below w.heap.size w ((w.alloc (.cells #[.bool o, .int .i64 kd, .int .u64 n, .int .i64 k, .string s, .int .u64 (hiOf x), .int .u64 (loOf x)] 36)).alloc (.cells #[.bool o2, .int .i64 kd2, .int .u64 m, .int .i64 k2] 45))) := ((Below.refl _ _).alloc (Nat.le_refl _) _).alloc (by simp) _
  clear hn hs hx
  go_enter Try.func7, Try.ntmps7
  go_wp2_with fail
  generalize (w.alloc (.cells #[.bool o, .int .i64 kd, .int .u64 n, .int .i64 k, .string s, .int .u64 (hiOf x), .int .u64 (loOf x)] 36)).alloc (.cells #[.bool o2, .int .i64 kd2, .int .u64 m, .int .i64 k2] 45) = w2 at *
  refine (awake_any _).mono ?_
  rintro e w3 ⟨rfl, hb⟩
  have N3 : Hid (NB w.heap.size n k s x m k2 w3) := N2.out.below hb
  have B3 : Hid (Below w.heap.size w w3) := bstep B2.out hb
  clear N2 B2 hb
  obtain ⟨c2, c3, c4, c5, c6, d2, d3⟩ := id N3.out
  go_wp2_with fail
  refine (C26.out _).mono ?_
  rintro e w4 ⟨rfl, hb⟩
  have N4 : Hid (NB w.heap.size n k s x m k2 w4) := N3.out.below hb
  have B4 : Hid (Below w.heap.size w w4) := bstep B3.out hb
  clear c2 c3 c4 c5 c6 d2 d3 N3 B3 hb
  obtain ⟨c2, c3, c4, c5, c6, d2, d3⟩ := id N4.out
  go_wp2_with fail
  refine (C27.out _).mono ?_
  rintro e w5 ⟨rfl, hb⟩
  have N5 : Hid (NB w.heap.size n k s x m k2 w5) := N4.out.below hb
  have B5 : Hid (Below w.heap.size w w5) := bstep B4.out hb
  clear c2 c3 c4 c5 c6 d2 d3 N4 B4 hb
  obtain ⟨c2, c3, c4, c5, c6, d2, d3⟩ := id N5.out
  go_wp2_with fail
  refine (C28.out _).mono ?_
  rintro e w6 ⟨rfl, hb⟩
  have N6 : Hid (NB w.heap.size n k s x m k2 w6) := N5.out.below hb
  have B6 : Hid (Below w.heap.size w w6) := bstep B5.out hb
  clear c2 c3 c4 c5 c6 d2 d3 N5 B5 hb
  obtain ⟨c2, c3, c4, c5, c6, d2, d3⟩ := id N6.out
  go_wp2_with fail
  refine (C29.out _).mono ?_
  rintro e w7 ⟨rfl, hb⟩
  have N7 : Hid (NB w.heap.size n k s x m k2 w7) := N6.out.below hb
  have B7 : Hid (Below w.heap.size w w7) := bstep B6.out hb
  clear c2 c3 c4 c5 c6 d2 d3 N6 B6 hb
  obtain ⟨c2, c3, c4, c5, c6, d2, d3⟩ := id N7.out
  go_wp2_with fail
  refine (nraw _ _).mono ?_
  rintro e wq ⟨rfl, hq'⟩
  obtain rfl : w7 = wq := hq'.symm
  clear c2 c3 c4 c5 c6 d2 d3
  obtain ⟨c2, c3, c4, c5, c6, d2, d3⟩ := id N7.out
  go_wp2_with fail
  refine (nout _).mono ?_
  rintro e wq ⟨rfl, hq'⟩
  obtain rfl : w7 = wq := hq'.symm
  clear c2 c3 c4 c5 c6 d2 d3
  obtain ⟨c2, c3, c4, c5, c6, d2, d3⟩ := id N7.out
  go_wp2_with fail
  refine (nr21 _ _).mono ?_
  rintro e w8 ⟨rfl, hb⟩
  have N8 : Hid (NB w.heap.size n k s x m k2 w8) := N7.out.below hb
  have B8 : Hid (Below w.heap.size w w8) := bstep B7.out hb
  clear c2 c3 c4 c5 c6 d2 d3 N7 B7 hb
  obtain ⟨c2, c3, c4, c5, c6, d2, d3⟩ := id N8.out
  go_wp2_with fail
  refine (nr22 _ _).mono ?_
  rintro e w9 ⟨rfl, hb⟩
  have N9 : Hid (NB w.heap.size n k s x m k2 w9) := N8.out.below hb
  have B9 : Hid (Below w.heap.size w w9) := bstep B8.out hb
  clear c2 c3 c4 c5 c6 d2 d3 N8 B8 hb
  obtain ⟨c2, c3, c4, c5, c6, d2, d3⟩ := id N9.out
  go_wp2_with fail
  refine (nr23 _ _).mono ?_
  rintro e w10 ⟨rfl, hb⟩
  have N10 : Hid (NB w.heap.size n k s x m k2 w10) := N9.out.below hb
  have B10 : Hid (Below w.heap.size w w10) := bstep B9.out hb
  clear c2 c3 c4 c5 c6 d2 d3 N9 B9 hb
  obtain ⟨c2, c3, c4, c5, c6, d2, d3⟩ := id N10.out
  go_wp2_with fail
  refine (nr24z _ _).mono ?_
  rintro e w11 ⟨rfl, hb⟩
  have N11 : Hid (NB w.heap.size n k s x m k2 w11) := N10.out.below hb
  have B11 : Hid (Below w.heap.size w w11) := bstep B10.out hb
  clear c2 c3 c4 c5 c6 d2 d3 N10 B10 hb
  obtain ⟨c2, c3, c4, c5, c6, d2, d3⟩ := id N11.out
  have hb0 : Below w11.heap.size w11 (w11.alloc (.cells #[.int .u64 0, .int .u64 0] 34)) := (Below.refl _ _).alloc (Nat.le_refl _) _
  have N11' : Hid (NB w.heap.size n k s x m k2 (w11.alloc (.cells #[.int .u64 0, .int .u64 0] 34))) := N11.out.below hb0
  have B11' : Hid (Below w.heap.size w (w11.alloc (.cells #[.int .u64 0, .int .u64 0] 34))) := bstep B11.out hb0
  have g0 : (w11.alloc (.cells #[.int .u64 0, .int .u64 0] 34)).cell? ⟨w11.heap.size, 0, none⟩ = some (.int .u64 0) := by simp
  have g1 : (w11.alloc (.cells #[.int .u64 0, .int .u64 0] 34)).cell? ⟨w11.heap.size, 1, none⟩ = some (.int .u64 0) := by simp
  have gz : w11.heap.size < (w11.alloc (.cells #[.int .u64 0, .int .u64 0] 34)).heap.size := by simp
  obtain ⟨_, _, _, _, _, _, d3'⟩ := id N11'.out
  go_wp2_with fail
  generalize w11.alloc (.cells #[.int .u64 0, .int .u64 0] 34) = wa at *
  refine (nr25 _ _).mono ?_
  rintro e wb ⟨rfl, hb⟩
  have Bb : Hid (Below w.heap.size w wb) := bstep B11'.out hb
  have k0 := (hb.cell (p := ⟨w11.heap.size, 0, none⟩) gz).trans g0
  have k1 := (hb.cell (p := ⟨w11.heap.size, 1, none⟩) gz).trans g1
  clear c2 c3 c4 c5 c6 d2 d3 d3' N11 N11' B11 B11' hb hb0 g0 g1 gz
  go_wp2_with fail
  refine (nfault _).mono ?_
  rintro e wq ⟨rfl, hq'⟩
  obtain rfl : wb = wq := hq'.symm
  go_wp2_with fail
  refine (nend _).mono ?_
  rintro e wq ⟨rfl, hq'⟩
  obtain rfl : wb = wq := hq'.symm
  go_wp2_with fail
  refine (nlen _).mono ?_
  rintro e wq ⟨rfl, hq'⟩
  obtain rfl : wb = wq := hq'.symm
  go_wp2_with fail
  refine (nat_ _).mono ?_
  rintro e wq ⟨rfl, hq'⟩
  obtain rfl : wb = wq := hq'.symm
  go_wp2
  go_ret
  exact ⟨rfl, Bb.out⟩
end Go.Proofs.Ytdpddlaedffmdaa
