/- Join and Split, package sums' and the reference's; the walk of SumsJoins. -/
import Derived.Test.YtabipemlemppjaaDoorJf
namespace Go.Proofs.YtabipemlemppjaaDoor
open Go.RowKit
set_option linter.unusedVariables false
set_option linter.unusedSimpArgs false

theorem bstep {W w1 w2 : World} (h : Below W.heap.size W w1) (hb : Below w1.heap.size w1 w2) : Below W.heap.size W w2 := h.trans (hb.mono h.size)
/-- What Join and Split answer. -/
def joR (a b : Nat) (n : Int) : Nat × Int := if n < 0 then (0, 1) else (itr (turnsN 8) n.toNat a ^^^ b, 0)
def spR (a b : Nat) (n : Int) : Nat × Int := if n < 0 then (0, 1) else (itr (undosN 8) n.toNat (a ^^^ b), 0)
set_option maxHeartbeats 1000000 in
theorem join_any (a b : Nat) (ha : a < 4294967296) (hb : b < 4294967296) (n : Int) (hn : n < 9223372036854775808) (w : World) (hT : Tab w) (hZ : Tbz w) : Calls Tryd.prog 15 #[.int .u32 a, .int .u32 b, .int .i64 n] w fun e w' => e = .returned (.tuple #[.int .u32 ((joR a b n).1 : Nat), .int .i64 (joR a b n).2]) ∧ Below w.heap.size w w' := by
  by_cases h0 : n < 0
  · have E : Hid (joR a b n = (0, 1)) := by show _ = _; unfold joR; rw [if_pos h0]
    go_enter Tryd.func15, Tryd.ntmps15
    go_wp2
    go_ret2
    exact ⟨by rw [E.out]; rfl, Below.refl _ _⟩
  · obtain ⟨m, rfl⟩ := Int.eq_ofNat_of_zero_le (show 0 ≤ n by omega)
    have E : Hid (joR a b (m : Int) = (itr (turnsN 8) m a ^^^ b, 0)) := by show _ = _; unfold joR; rw [if_neg h0, Int.toNat_natCast]
    have hx := itr_lt (lin_turns 8) m a ha
    have C2 : Hid (∀ w, Tbz w → Calls Tryd.prog 32 #[.agg (rowL (ofB (turnsN 8))), .int .u32 a, .int .i64 m] w fun e w' => e = .returned (.int .u32 ((itr (turnsN 8) m a : Nat) : Int)) ∧ Below w.heap.size w w') := fun w h => often_any (turnsN 8) (lin_turns 8) a ha m (by omega) w h
    have ex := u32_xor_nat (itr (turnsN 8) m a) b hx hb
    have HZ : Hid (Tbz w) := hZ
    have HT : Hid (Tab w) := hT
    generalize itr (turnsN 8) m a = x at *
    clear hT hZ
    go_enter Tryd.func15, Tryd.ntmps15
    go_wp2_with fail
    refine (table_forth _ HT.out).mono ?_
    rintro e w1 ⟨rfl, hb1⟩
    go_wp2_with fail
    refine (C2.out _ (HZ.out.below hb1)).mono ?_
    rintro e w2 ⟨rfl, hb2⟩
    go_wp2_with fail
    go_ret2
    exact ⟨by rw [E.out]; rfl, bstep hb1 hb2⟩
set_option maxHeartbeats 1000000 in
theorem split_any (a b : Nat) (ha : a < 4294967296) (hb : b < 4294967296) (n : Int) (hn : n < 9223372036854775808) (w : World) (hZ : Tbz w) : Calls Tryd.prog 16 #[.int .u32 a, .int .u32 b, .int .i64 n] w fun e w' => e = .returned (.tuple #[.int .u32 ((spR a b n).1 : Nat), .int .i64 (spR a b n).2]) ∧ Below w.heap.size w w' := by
  by_cases h0 : n < 0
  · have E : Hid (spR a b n = (0, 1)) := by show _ = _; unfold spR; rw [if_pos h0]
    go_enter Tryd.func16, Tryd.ntmps16
    go_wp2
    go_ret2
    exact ⟨by rw [E.out]; rfl, Below.refl _ _⟩
  · obtain ⟨m, rfl⟩ := Int.eq_ofNat_of_zero_le (show 0 ≤ n by omega)
    have E : Hid (spR a b (m : Int) = (itr (undosN 8) m (a ^^^ b), 0)) := by show _ = _; unfold spR; rw [if_neg h0, Int.toNat_natCast]
    have hx := xor_lt32 ha hb
    have C2 : Hid (∀ w, Tbz w → Calls Tryd.prog 32 #[.agg (rowL (ofB (undosN 8))), .int .u32 ((a ^^^ b : Nat) : Int), .int .i64 m] w fun e w' => e = .returned (.int .u32 ((itr (undosN 8) m (a ^^^ b) : Nat) : Int)) ∧ Below w.heap.size w w') := fun w h => often_any (undosN 8) (lin_undos 8) _ hx m (by omega) w h
    have ex := u32_xor_nat a b ha hb
    have HZ : Hid (Tbz w) := hZ
    generalize itr (undosN 8) m (a ^^^ b) = y at *
    generalize a ^^^ b = x at *
    clear hZ
    go_enter Tryd.func16, Tryd.ntmps16
    go_wp2_with fail
    refine (table_back _).mono ?_
    rintro e w1 ⟨rfl, hb1⟩
    go_wp2_with fail
    refine (C2.out _ (HZ.out.below hb1)).mono ?_
    rintro e w2 ⟨rfl, hb2⟩
    go_wp2_with fail
    go_ret2
    exact ⟨by rw [E.out]; rfl, bstep hb1 hb2⟩
set_option maxHeartbeats 1000000 in
theorem rjoin_any (a b : Nat) (ha : a < 4294967296) (hb : b < 4294967296) (n : Int) (hn : n < 9223372036854775808) (w : World) : Calls Tryd.prog 17 #[.int .u32 a, .int .u32 b, .int .i64 n] w fun e w' => e = .returned (.tuple #[.int .u32 ((joR a b n).1 : Nat), .int .i64 (joR a b n).2]) ∧ Below w.heap.size w w' := by
  by_cases h0 : n < 0
  · have E : Hid (joR a b n = (0, 1)) := by show _ = _; unfold joR; rw [if_pos h0]
    go_enter Tryd.func17, Tryd.ntmps17
    go_wp2
    go_ret2
    exact ⟨by rw [E.out]; rfl, Below.refl _ _⟩
  · obtain ⟨m, rfl⟩ := Int.eq_ofNat_of_zero_le (show 0 ≤ n by omega)
    have E : Hid (joR a b (m : Int) = (itr (turnsN 8) m a ^^^ b, 0)) := by show _ = _; unfold joR; rw [if_neg h0, Int.toNat_natCast]
    have hx := itr_lt (lin_turns 8) m a ha
    have C2 : Hid (∀ w, Calls Tryd.prog 36 #[.int .u32 a, .int .i64 m, .bool false] w fun e w' => e = .returned (.int .u32 ((itr (turnsN 8) m a : Nat) : Int)) ∧ Below w.heap.size w w') := fun w => rfar_forth a ha m (by omega) w
    have ex := u32_xor_nat (itr (turnsN 8) m a) b hx hb
    generalize itr (turnsN 8) m a = x at *
    go_enter Tryd.func17, Tryd.ntmps17
    go_wp2_with fail
    refine (C2.out _).mono ?_
    rintro e w2 ⟨rfl, hb2⟩
    go_wp2_with fail
    go_ret2
    exact ⟨by rw [E.out]; rfl, hb2⟩
set_option maxHeartbeats 1000000 in
theorem rsplit_any (a b : Nat) (ha : a < 4294967296) (hb : b < 4294967296) (n : Int) (hn : n < 9223372036854775808) (w : World) : Calls Tryd.prog 18 #[.int .u32 a, .int .u32 b, .int .i64 n] w fun e w' => e = .returned (.tuple #[.int .u32 ((spR a b n).1 : Nat), .int .i64 (spR a b n).2]) ∧ Below w.heap.size w w' := by
  by_cases h0 : n < 0
  · have E : Hid (spR a b n = (0, 1)) := by show _ = _; unfold spR; rw [if_pos h0]
    go_enter Tryd.func18, Tryd.ntmps18
    go_wp2
    go_ret2
    exact ⟨by rw [E.out]; rfl, Below.refl _ _⟩
  · obtain ⟨m, rfl⟩ := Int.eq_ofNat_of_zero_le (show 0 ≤ n by omega)
    have E : Hid (spR a b (m : Int) = (itr (undosN 8) m (a ^^^ b), 0)) := by show _ = _; unfold spR; rw [if_neg h0, Int.toNat_natCast]
    have hx := xor_lt32 ha hb
    have C2 : Hid (∀ w, Calls Tryd.prog 36 #[.int .u32 ((a ^^^ b : Nat) : Int), .int .i64 m, .bool true] w fun e w' => e = .returned (.int .u32 ((itr (undosN 8) m (a ^^^ b) : Nat) : Int)) ∧ Below w.heap.size w w') := fun w => rfar_back _ hx m (by omega) w
    have ex := u32_xor_nat a b ha hb
    generalize itr (undosN 8) m (a ^^^ b) = y at *
    generalize a ^^^ b = x at *
    go_enter Tryd.func18, Tryd.ntmps18
    go_wp2_with fail
    refine (C2.out _).mono ?_
    rintro e w2 ⟨rfl, hb2⟩
    go_wp2_with fail
    go_ret2
    exact ⟨by rw [E.out]; rfl, hb2⟩
set_option maxHeartbeats 2000000 in
theorem joins_walk (a b : Nat) (ha : a < 4294967296) (hb : b < 4294967296) (n : Int) (hn : n < 9223372036854775808) (w : World) (hT : Tab w) (hZ : Tbz w) :
    Calls Tryd.prog 4 #[.int .u32 a, .int .u32 b, .int .i64 n] w fun e w' => e = .returned (.bool true) ∧ Below w.heap.size w w' := by
  have c1 : ∀ w, Tab w → Tbz w → Calls Tryd.prog 15 #[.int .u32 a, .int .u32 b, .int .i64 n] w fun e w' => e = .returned (.tuple #[.int .u32 ((joR a b n).1 : Nat), .int .i64 (joR a b n).2]) ∧ Below w.heap.size w w' := join_any a b ha hb n hn
  have c2 : ∀ w, Tbz w → Calls Tryd.prog 16 #[.int .u32 a, .int .u32 b, .int .i64 n] w fun e w' => e = .returned (.tuple #[.int .u32 ((spR a b n).1 : Nat), .int .i64 (spR a b n).2]) ∧ Below w.heap.size w w' := split_any a b ha hb n hn
  have c3 : ∀ w, Calls Tryd.prog 17 #[.int .u32 a, .int .u32 b, .int .i64 n] w fun e w' => e = .returned (.tuple #[.int .u32 ((joR a b n).1 : Nat), .int .i64 (joR a b n).2]) ∧ Below w.heap.size w w' := rjoin_any a b ha hb n hn
  have c4 : ∀ w, Calls Tryd.prog 18 #[.int .u32 a, .int .u32 b, .int .i64 n] w fun e w' => e = .returned (.tuple #[.int .u32 ((spR a b n).1 : Nat), .int .i64 (spR a b n).2]) ∧ Below w.heap.size w w' := rsplit_any a b ha hb n hn
  generalize (joR a b n).1 = x at *
  generalize (joR a b n).2 = xe at *
  generalize (spR a b n).1 = y at *
  generalize (spR a b n).2 = ye at *
  have C1 : Hid (∀ w, Tab w → Tbz w → Calls Tryd.prog 15 #[.int .u32 a, .int .u32 b, .int .i64 n] w fun e w' => e = .returned (.tuple #[.int .u32 (x : Nat), .int .i64 xe]) ∧ Below w.heap.size w w') := c1
  have C2 : Hid (∀ w, Tbz w → Calls Tryd.prog 16 #[.int .u32 a, .int .u32 b, .int .i64 n] w fun e w' => e = .returned (.tuple #[.int .u32 (y : Nat), .int .i64 ye]) ∧ Below w.heap.size w w') := c2
  have C3 : Hid (∀ w, Calls Tryd.prog 17 #[.int .u32 a, .int .u32 b, .int .i64 n] w fun e w' => e = .returned (.tuple #[.int .u32 (x : Nat), .int .i64 xe]) ∧ Below w.heap.size w w') := c3
  have C4 : Hid (∀ w, Calls Tryd.prog 18 #[.int .u32 a, .int .u32 b, .int .i64 n] w fun e w' => e = .returned (.tuple #[.int .u32 (y : Nat), .int .i64 ye]) ∧ Below w.heap.size w w') := c4
  have HT : Hid (Tab w) := hT
  have HZ : Hid (Tbz w) := hZ
  clear c1 c2 c3 c4 hT hZ
  go_enter Tryd.func4, Tryd.ntmps4
  go_wp2_with fail
  refine (live_any _ HT.out).mono ?_
  rintro e w1 ⟨rfl, hb1⟩
  go_wp2_with fail
  refine (C1.out _ (HT.out.below hb1) (HZ.out.below hb1)).mono ?_
  rintro e w2 ⟨rfl, hb2⟩
  have hB2 := bstep hb1 hb2
  clear hb1 hb2
  go_wp2_with fail
  refine (C2.out _ (HZ.out.below hB2)).mono ?_
  rintro e w3 ⟨rfl, hb3⟩
  have hB3 := bstep hB2 hb3
  clear hB2 hb3
  go_wp2_with fail
  refine (C3.out _).mono ?_
  rintro e w4 ⟨rfl, hb4⟩
  have hB4 := bstep hB3 hb4
  clear hB3 hb4
  go_wp2_with fail
  refine (C4.out _).mono ?_
  rintro e w5 ⟨rfl, hb5⟩
  have hB5 := bstep hB4 hb5
  clear hB4 hb5
  go_wp2
  go_ret
  exact ⟨rfl, hB5⟩
end Go.Proofs.YtabipemlemppjaaDoor
