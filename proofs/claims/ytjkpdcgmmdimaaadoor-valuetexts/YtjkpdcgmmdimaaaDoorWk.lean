/- Package value's Parse of a width that has neither Dots nor Colons, and the statements' own examples: they come out as the document says. -/
import Derived.Test.YtjkpdcgmmdimaaaDoorWn
import Derived.Test.YtjkpdcgmmdimaaaDoorWt
namespace Go.Proofs.YtjkpdcgmmdimaaaDoor
open Go.RowKit
set_option linter.unusedVariables false
set_option linter.unusedSimpArgs false

def hasC (wd : Int) : Bool := isW wd && decide (16 ≤ wd) && (wd % 8 == 0)
theorem formHas_colons (wd : Int) (w : World) : Calls Tryd.prog 56 #[.int .i64 5, .int .i64 wd] w fun e w' => e = .returned (.bool (hasC wd)) ∧ w' = w := by
  cases hW : isW wd
  · have E : Hid (hasC wd = false) := by unfold hasC; rw [hW]; rfl
    go_enter Tryd.func56, Tryd.ntmps56
    go_wp2_with (go_at_call 42; refine (isWidth_val hW _).mono ?_; rintro e w' ⟨rfl, rfl⟩)
    go_ret
    exact ⟨by rw [E.out]; rfl, rfl⟩
  · have hb := isW_bounds hW
    by_cases h16 : 16 ≤ wd
    · have E : Hid (hasC wd = (wd % 8 == 0)) := by unfold hasC; rw [hW]; show _ = _; simp [h16]
      go_enter Tryd.func56, Tryd.ntmps56
      go_wp2_with (go_at_call 42; refine (isWidth_val hW _).mono ?_; rintro e w' ⟨rfl, rfl⟩)
      go_ret
      exact ⟨by rw [E.out]; rfl, rfl⟩
    · have E : Hid (hasC wd = false) := by unfold hasC; rw [hW]; show _ = _; simp [h16]
      have h16' : decide (16 ≤ wd) = false := by simpa using h16
      go_enter Tryd.func56, Tryd.ntmps56
      go_wp2_with (go_at_call 42; refine (isWidth_val hW _).mono ?_; rintro e w' ⟨rfl, rfl⟩)
      go_ret
      exact ⟨by rw [E.out]; rfl, rfl⟩
/-- What a text says in a width, by its number alone. -/
def pnN (l : List UInt8) (wd : Int) : Nat × Int := if (fnN l).2 = 0 then (if fitsN (fnN l).1 wd = true then ((fnN l).1, 0) else (0, 11)) else (0, (fnN l).2)

theorem fdN_is (base : Nat) (l : List UInt8) : Is128 (fdN base l).1 := by
  unfold fdN Is128; split
  · decide
  · split
    · decide
    · split
      · assumption
      · decide
theorem fnN_is (l : List UInt8) : Is128 (fnN l).1 := by
  unfold fnN; split
  · exact fdN_is _ _
  · split <;> exact fdN_is _ _

/-- A result's slot, laid at the call's begin and not written since. -/
theorem zslot {w w2 : World} (h : Below (w.heap.size + 1) (w.alloc (.cells #[.int .u64 0, .int .u64 0] 24)) w2) :
    w2.cell? ⟨w.heap.size, 0, none⟩ = some (.int .u64 0) ∧ w2.cell? ⟨w.heap.size, 1, none⟩ = some (.int .u64 0) ∧ w2.frozen? ⟨w.heap.size, 0, none⟩ = false ∧ w2.frozen? ⟨w.heap.size, 1, none⟩ = false := by
  refine ⟨?_, ?_, ?_, ?_⟩
  · rw [h.cell (p := ⟨w.heap.size, 0, none⟩) (by simp)]; simp
  · rw [h.cell (p := ⟨w.heap.size, 1, none⟩) (by simp)]; simp
  · rw [h.frozen (p := ⟨w.heap.size, 0, none⟩) (by simp)]; simp
  · rw [h.frozen (p := ⟨w.heap.size, 1, none⟩) (by simp)]; simp
theorem zbelow {w w2 : World} (h : Below (w.heap.size + 1) (w.alloc (.cells #[.int .u64 0, .int .u64 0] 24)) w2) : Below w.heap.size w w2 :=
  ((Below.refl _ _).alloc (Nat.le_refl _) _).trans (h.mono (by omega))
/-- What the last two words of a value's box hold, and what a store there leaves in it. -/
theorem zresult {w2 : World} {b : Nat} {x y x0 y0 : Value} (h0 : w2.cell? ⟨b, 0, none⟩ = some x0) (h1 : w2.cell? ⟨b, 1, none⟩ = some y0) :
    ((w2.setCell ⟨b, 0, none⟩ x).setCell ⟨b, 1, none⟩ y).cell? ⟨b, 0, none⟩ = some x ∧ ((w2.setCell ⟨b, 0, none⟩ x).setCell ⟨b, 1, none⟩ y).cell? ⟨b, 1, none⟩ = some y := by
  constructor
  · rw [World.cell?_setCell_other _ _ _ _ (by intro e; cases e), World.cell?_setCell_same _ _ _ h0]
  · rw [World.cell?_setCell_same _ _ _ (u := y0)]
    rw [World.cell?_setCell_other _ _ _ _ (by intro e; cases e)]; exact h1

set_option maxHeartbeats 1000000 in
theorem parse_plain (s : ByteArray) (hs : s.size ≤ maxLen) (wd : Int) (hW : isW wd = true) (hC : hasC wd = false) (hD : (wd == 32) = false) (w : World) (hT : Tab w) :
    Calls Tryd.prog 39 #[.string s, .int .i64 wd] w fun e w' => e = .returned (.tuple #[B (pnN s.data.toList wd).1, .int .i64 (pnN s.data.toList wd).2]) ∧ Below w.heap.size w w' := by
  have hT1 : Hid (Tab (w.alloc (.cells #[.int .u64 0, .int .u64 0] 24))) := hT.below ((Below.refl _ _).alloc (Nat.le_refl _) _)
  have hp : pnN s.data.toList wd = if (fnN s.data.toList).2 = 0 then (if fitsN (fnN s.data.toList).1 wd = true then ((fnN s.data.toList).1, 0) else (0, 11)) else (0, (fnN s.data.toList).2) := rfl
  have hI := fnN_is s.data.toList
  have HD : Hid (Calls Tryd.prog 62 #[.string s] (w.alloc (.cells #[.int .u64 0, .int .u64 0] 24)) _) := fromNumber_any s hs _ hT1.out
  generalize fnN s.data.toList = v at *
  have HP : Hid _ := hp
  have HI : Hid (Is128 v.1) := hI
  clear hp hI hT
  by_cases h0 : v.2 = 0
  · have h0' : (v.2 != 0) = false := by simp [h0]
    cases hf : fitsN v.1 wd
    · have E : Hid (pnN s.data.toList wd = (0, 11)) := by rw [HP.out, if_pos h0, if_neg (by rw [hf]; decide)]; rfl
      have HH : Hid _ := h0
      clear h0
      go_enter Tryd.func39, Tryd.ntmps39
      go_wp2_with (first | (go_at_call 42; refine (isWidth_val hW _).mono ?_; rintro e w' ⟨rfl, rfl⟩) | (go_at_call_of 56 (Value.int IntKind.i64 5); refine (formHas_colons _ _).mono ?_; rintro e w' ⟨rfl, rfl⟩) | (go_at_call_of 56 (Value.int IntKind.i64 4); refine (formHas_dots _ _).mono ?_; rintro e w' ⟨rfl, rfl⟩))
      refine HD.out.mono ?_
      rintro e w1 ⟨rfl, hb1⟩
      have zb1 : Below (w.heap.size + 1) (w.alloc (.cells #[.int .u64 0, .int .u64 0] 24)) w1 := by simpa using hb1
      have hz1 : w.heap.size < w1.heap.size := by have := hb1.size; simp at this; omega
      obtain ⟨p0, p1, p2, p3⟩ := zslot zb1
      go_wp2_with (go_at_call 10; refine (fits_any v.1 HI.out _ _).mono ?_; rw [hf]; rintro e w2 ⟨rfl, hb2⟩; have zb2 : Below (w.heap.size + 1) (w.alloc (.cells #[.int .u64 0, .int .u64 0] 24)) w2 := (zb1.alloc (by omega) _).trans (hb2.mono (by simp; omega)); obtain ⟨q0, q1, q2, q3⟩ := zslot zb2; have y0 := hb2.cell (p := ⟨w1.heap.size, 0, none⟩) (by simp); have y1 := hb2.cell (p := ⟨w1.heap.size, 1, none⟩) (by simp); simp at y0 y1)
      refine bodyPost_ret (v := .tuple #[B (pnN s.data.toList wd).1, .int .i64 (pnN s.data.toList wd).2]) ?_ rfl ⟨rfl, ?_⟩
      · obtain ⟨z0, z1⟩ := zresult (x := .int .u64 0) (y := .int .u64 0) q0 q1
        rw [E.out, zero_words]; simp [results, Tryd.results39, go_sem, z0, z1]
      · exact ((zbelow zb2).setCell (Nat.le_refl _) _).setCell (Nat.le_refl _) _
    · have E : Hid (pnN s.data.toList wd = (v.1, 0)) := by rw [HP.out, if_pos h0, if_pos hf]; rfl
      have HH : Hid _ := h0
      clear h0
      go_enter Tryd.func39, Tryd.ntmps39
      go_wp2_with (first | (go_at_call 42; refine (isWidth_val hW _).mono ?_; rintro e w' ⟨rfl, rfl⟩) | (go_at_call_of 56 (Value.int IntKind.i64 5); refine (formHas_colons _ _).mono ?_; rintro e w' ⟨rfl, rfl⟩) | (go_at_call_of 56 (Value.int IntKind.i64 4); refine (formHas_dots _ _).mono ?_; rintro e w' ⟨rfl, rfl⟩))
      refine HD.out.mono ?_
      rintro e w1 ⟨rfl, hb1⟩
      have zb1 : Below (w.heap.size + 1) (w.alloc (.cells #[.int .u64 0, .int .u64 0] 24)) w1 := by simpa using hb1
      have hz1 : w.heap.size < w1.heap.size := by have := hb1.size; simp at this; omega
      obtain ⟨p0, p1, p2, p3⟩ := zslot zb1
      go_wp2_with (go_at_call 10; refine (fits_any v.1 HI.out _ _).mono ?_; rw [hf]; rintro e w2 ⟨rfl, hb2⟩; have zb2 : Below (w.heap.size + 1) (w.alloc (.cells #[.int .u64 0, .int .u64 0] 24)) w2 := (zb1.alloc (by omega) _).trans (hb2.mono (by simp; omega)); obtain ⟨q0, q1, q2, q3⟩ := zslot zb2; have y0 := hb2.cell (p := ⟨w1.heap.size, 0, none⟩) (by simp); have y1 := hb2.cell (p := ⟨w1.heap.size, 1, none⟩) (by simp); simp at y0 y1)
      refine bodyPost_ret (v := .tuple #[B (pnN s.data.toList wd).1, .int .i64 (pnN s.data.toList wd).2]) ?_ rfl ⟨rfl, ?_⟩
      · obtain ⟨z0, z1⟩ := zresult (x := .int .u64 (hiOf v.1)) (y := .int .u64 (loOf v.1)) q0 q1
        rw [E.out]; simp [results, Tryd.results39, go_sem, z0, z1]
      · exact ((zbelow zb2).setCell (Nat.le_refl _) _).setCell (Nat.le_refl _) _
  · have h0' : (v.2 != 0) = true := by simp [h0]
    · have E : Hid (pnN s.data.toList wd = (0, v.2)) := by rw [HP.out, if_neg h0]; rfl
      clear h0
      go_enter Tryd.func39, Tryd.ntmps39
      go_wp2_with (first | (go_at_call 42; refine (isWidth_val hW _).mono ?_; rintro e w' ⟨rfl, rfl⟩) | (go_at_call_of 56 (Value.int IntKind.i64 5); refine (formHas_colons _ _).mono ?_; rintro e w' ⟨rfl, rfl⟩) | (go_at_call_of 56 (Value.int IntKind.i64 4); refine (formHas_dots _ _).mono ?_; rintro e w' ⟨rfl, rfl⟩))
      refine HD.out.mono ?_
      rintro e w1 ⟨rfl, hb1⟩
      have zb1 : Below (w.heap.size + 1) (w.alloc (.cells #[.int .u64 0, .int .u64 0] 24)) w1 := by simpa using hb1
      have hz1 : w.heap.size < w1.heap.size := by have := hb1.size; simp at this; omega
      obtain ⟨p0, p1, p2, p3⟩ := zslot zb1
      go_wp2
      refine bodyPost_ret (v := .tuple #[B (pnN s.data.toList wd).1, .int .i64 (pnN s.data.toList wd).2]) ?_ rfl ⟨rfl, ?_⟩
      · obtain ⟨z0, z1⟩ := zresult (x := .int .u64 0) (y := .int .u64 0) p0 p1
        rw [E.out, zero_words]; simp [results, Tryd.results39, go_sem, z0, z1, hz1]
      · exact (((zbelow zb1).setCell (Nat.le_refl _) _).setCell (Nat.le_refl _) _).alloc (by simp; omega) _

theorem aw_most (w : World) : Calls Tryd.prog 11 #[.int .i64 65] w fun e w' => e = .returned (.tuple #[.agg #[.int .u64 1, .int .u64 18446744073709551615], .int .i64 0]) ∧ Below w.heap.size w w' := by
  have a1 : hiOf (onesN 65) = 1 := by unfold hiOf onesN; decide
  have a2 : loOf (onesN 65) = 18446744073709551615 := by unfold loOf onesN; decide
  have := most_any 65 w (by decide)
  rw [show (65 : Int).toNat = 65 from rfl] at this
  simpa only [B, a1, a2] using this
theorem aw_add (w : World) : Calls Tryd.prog 25 #[.agg #[.int .u64 0, .int .u64 250], .agg #[.int .u64 0, .int .u64 10], .int .i64 8] w fun e w' => e = .returned (.agg #[.int .u64 0, .int .u64 4]) ∧ Below w.heap.size w w' := by
  have := add_any 250 10 (by unfold Is128; decide) (by unfold Is128; decide) 8 w
  rw [show addN 250 10 8 = 4 by decide +kernel, small_words (b := 250) (by decide), small_words (b := 10) (by decide), small_words (b := 4) (by decide)] at this
  exact this
theorem aw_text (w : World) (hT : Tab w) : Calls Tryd.prog 38 #[.agg #[.int .u64 0, .int .u64 167772161], .int .i64 32, .int .i64 4] w fun e w' => e = .returned (.tuple #[.string ⟨#[49, 48, 46, 48, 46, 48, 46, 49]⟩, .int .i64 0]) ∧ Below w.heap.size w w' := by
  have := text_dots 167772161 (by decide) w hT
  rw [show dpre 167772161 4 = [49, 48, 46, 48, 46, 48, 46, 49] by decide +kernel, small_words (b := 167772161) (by decide)] at this
  exact this
theorem aw_parse (w : World) (hT : Tab w) : Calls Tryd.prog 39 #[.string ⟨#[48, 120, 49, 102]⟩, .int .i64 5] w fun e w' => e = .returned (.tuple #[.agg #[.int .u64 0, .int .u64 31], .int .i64 0]) ∧ Below w.heap.size w w' := by
  have := parse_plain ⟨#[48, 120, 49, 102]⟩ (by decide) 5 (by decide) (by decide) (by decide) w hT
  rw [show pnN (⟨#[48, 120, 49, 102]⟩ : ByteArray).data.toList 5 = (31, 0) by decide +kernel, small_words (b := 31) (by decide)] at this
  exact this

set_option maxHeartbeats 1000000 in
/-- The statements' own examples. -/
theorem awake_any (w : World) (hT : Tab w) : Calls Tryd.prog 9 #[] w fun e w' => e = .returned (.bool true) ∧ Below w.heap.size w w' := by
  go_enter Tryd.func9, Tryd.ntmps9
  go_wp2_with fail
  refine (aw_most _).mono ?_
  rintro e w1 ⟨rfl, hb1⟩
  go_wp2_with fail
  refine (aw_add _).mono ?_
  rintro e w2 ⟨rfl, hb2⟩
  have B2 : Below w.heap.size w w2 := bstep (hb1.alloc hb1.size _) hb2
  have x0 := hb2.cell (p := ⟨w1.heap.size, 0, none⟩) (by simp)
  have x1 := hb2.cell (p := ⟨w1.heap.size, 1, none⟩) (by simp)
  simp at x0 x1
  have zz2 : w1.heap.size < w2.heap.size := by have := hb2.size; simp at this; omega
  have HT2 : Hid (Tab (w2.alloc (.cells #[.int .u64 0, .int .u64 4] 24))) := hT.below (B2.alloc B2.size _)
  go_wp2_with fail
  refine (aw_text _ HT2.out).mono ?_
  rintro e w3 ⟨rfl, hb3⟩
  have B3 : Below w.heap.size w w3 := bstep (B2.alloc B2.size _) hb3
  have HT3 : Hid (Tab w3) := hT.below B3
  have x0' := hb3.cell (p := ⟨w1.heap.size, 0, none⟩) (by simp; omega)
  have x1' := hb3.cell (p := ⟨w1.heap.size, 1, none⟩) (by simp; omega)
  have y0 := hb3.cell (p := ⟨w2.heap.size, 0, none⟩) (by simp)
  have y1 := hb3.cell (p := ⟨w2.heap.size, 1, none⟩) (by simp)
  rw [World.cell?_alloc_past _ _ _ zz2, x0] at x0'
  rw [World.cell?_alloc_past _ _ _ zz2, x1] at x1'
  simp at y0 y1
  have zz3 : w2.heap.size < w3.heap.size := by have := hb3.size; simp at this; omega
  clear x0 x1 hb1 hb2 hb3 HT2
  go_wp2_with fail
  refine (aw_parse _ HT3.out).mono ?_
  rintro e w4 ⟨rfl, hb4⟩
  have x0 := hb4.cell (p := ⟨w1.heap.size, 0, none⟩) (by simp; omega)
  have x1 := hb4.cell (p := ⟨w1.heap.size, 1, none⟩) (by simp; omega)
  have v0 := hb4.cell (p := ⟨w2.heap.size, 0, none⟩) (by simp; omega)
  have v1 := hb4.cell (p := ⟨w2.heap.size, 1, none⟩) (by simp; omega)
  rw [x0'] at x0
  rw [x1'] at x1
  rw [y0] at v0
  rw [y1] at v1
  have zz4 : w1.heap.size < w4.heap.size := by have := hb4.size; omega
  have zz5 : w2.heap.size < w4.heap.size := by have := hb4.size; omega
  have zn4 : w1.heap.size ≠ w4.heap.size := by omega
  have zn5 : w2.heap.size ≠ w4.heap.size := by omega
  have q1 := fun w => run_eqW 1 18446744073709551615 1 18446744073709551615 w
  have q2 := fun w => run_eqW 0 4 0 4 w
  have q3 := fun w => run_eqW 0 31 0 31 w
  simp only [beq_self_eq_true, Bool.and_self] at q1 q2 q3
  have B4 : Below w.heap.size w w4 := bstep B3 hb4
  clear x0' x1' y0 y1 B2 B3 HT3 hb4 zz2 zz3
  go_wp2
  go_ret
  exact ⟨rfl, B4.alloc B4.size _⟩
end Go.Proofs.YtjkpdcgmmdimaaaDoor
