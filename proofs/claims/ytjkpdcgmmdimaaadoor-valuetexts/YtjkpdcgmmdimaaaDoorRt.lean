/- The reference's take: a row of 128 bits as a value; memory only grows. -/
import Derived.Test.YtjkpdcgmmdimaaaDoorRv
namespace Go.Proofs.YtjkpdcgmmdimaaaDoor
open Go.RowKit
set_option linter.unusedVariables false
set_option linter.unusedSimpArgs false

/-- A box of two words, with any words. -/
def Wds (w : World) (b : Nat) (x y : Int) : Prop := w.cell? ⟨b, 0, none⟩ = some (.int .u64 x) ∧ w.cell? ⟨b, 1, none⟩ = some (.int .u64 y) ∧ w.frozen? ⟨b, 0, none⟩ = false ∧ w.frozen? ⟨b, 1, none⟩ = false
theorem Wds.other {w : World} {b : Nat} {x y : Int} (h : Wds w b x y) {a : Addr} (ha : b ≠ a.block) (v : Value) : Wds (w.setCell a v) b x y :=
  ⟨by rw [World.cell?_setCell_other _ _ _ _ (by intro e; exact ha (by rw [e]))]; exact h.1, by rw [World.cell?_setCell_other _ _ _ _ (by intro e; exact ha (by rw [e]))]; exact h.2.1, by simpa using h.2.2.1, by simpa using h.2.2.2⟩
theorem Wds.set0 {w : World} {b : Nat} {x y : Int} (h : Wds w b x y) (z : Int) : Wds (w.setCell ⟨b, 0, none⟩ (.int .u64 z)) b z y :=
  ⟨World.cell?_setCell_same _ _ _ h.1, by rw [World.cell?_setCell_other _ _ _ _ (by intro e; cases e)]; exact h.2.1, by simpa using h.2.2.1, by simpa using h.2.2.2⟩
theorem Wds.set1 {w : World} {b : Nat} {x y : Int} (h : Wds w b x y) (z : Int) : Wds (w.setCell ⟨b, 1, none⟩ (.int .u64 z)) b x z :=
  ⟨by rw [World.cell?_setCell_other _ _ _ _ (by intro e; cases e)]; exact h.1, World.cell?_setCell_same _ _ _ h.2.1, by simpa using h.2.2.1, by simpa using h.2.2.2⟩
theorem Wds.below {w w' : World} {b B : Nat} {x y : Int} (h : Wds w b x y) (hb : Below B w w') (hB : b < B) : Wds w' b x y :=
  ⟨by rw [hb.cell (p := ⟨b, 0, none⟩) hB]; exact h.1, by rw [hb.cell (p := ⟨b, 1, none⟩) hB]; exact h.2.1, by rw [hb.frozen (p := ⟨b, 0, none⟩) hB]; exact h.2.2.1, by rw [hb.frozen (p := ⟨b, 1, none⟩) hB]; exact h.2.2.2⟩
theorem Wds.lt {w : World} {b : Nat} {x y : Int} (h : Wds w b x y) : b < w.heap.size := World.block_lt_of_cell? w ⟨b, 0, none⟩ h.1
theorem Wds.past {w : World} {b : Nat} {x y : Int} (h : Wds w b x y) (o : Obj) : Wds (w.alloc o) b x y :=
  h.below (B := w.heap.size) ((Below.refl _ _).alloc (Nat.le_refl _) o) h.lt
theorem Wds.new (w : World) (x y : Int) : Wds (w.alloc (.cells #[.int .u64 x, .int .u64 y] 24)) w.heap.size x y := ⟨by simp, by simp, by simp, by simp⟩

theorem wrap_in {x : Int} (h0 : 0 ≤ x) (h1 : x < 18446744073709551616) : IntKind.u64.wrap x = x := by rw [IntKind.wrap_u64]; omega
theorem twoT (X : Nat) : ((2 * X + true.toNat : Nat) : Int) = (X : Int) * 2 + 1 := by simp; omega
theorem twoF (X : Nat) : ((2 * X + false.toNat : Nat) : Int) = (X : Int) * 2 := by simp; omega
set_option maxHeartbeats 1000000 in
set_option maxRecDepth 100000 in
theorem take_any (f : Nat → Bool) (w : World) : Calls Tryd.prog 45 #[.agg (rowV f)] w fun e w' => e = .returned (B (takeN f)) ∧ Below w.heap.size w w' := by
  have E : Hid _ := take_words f
  go_enter Tryd.func45, Tryd.ntmps45
  go_wp2_with fail
  go_loopw [4] (fun i wr => ∃ k : Nat, k ≤ 64 ∧ i = .int .i64 k ∧ Arr wr w.heap.size f ∧ Wds wr (w.heap.size + 1) 0 0 ∧ Wds wr (w.heap.size + 1 + 1) (pre f 0 k : Nat) (pre f 64 k : Nat) ∧ Below w.heap.size w wr) (fun i _ => 64 - (intOf i).toNat)
  case atStart =>
    refine ⟨0, by omega, rfl, ((Arr.new w f).past _).past _, ?_, ?_, by go_grown⟩
    · exact Wds.past (by simpa using Wds.new (w.alloc (.cells (rowV f) 49)) 0 0) _
    · simpa [pre] using Wds.new ((w.alloc (.cells (rowV f) 49)).alloc (.cells #[.int .u64 0, .int .u64 0] 24)) 0 0
  case round =>
    obtain ⟨k, hk, rfl, A, Z, V, hB⟩ := hrel
    obtain ⟨v0, v1, v2, v3⟩ := id V
    by_cases hlt : k < 64
    · have x1 := A.cell (i := k) (by omega)
      have x2 := A.cell (i := 64 + k) (by omega)
      have b1 := pre_lt f 0 k
      have b2 := pre_lt f 64 k
      have b3 : 2 ^ k ≤ 9223372036854775808 := by
        have := Nat.pow_le_pow_right (n := 2) (by decide) (show k ≤ 63 by omega)
        exact Nat.le_trans this (by decide)
      have p1 : ((pre f 0 k : Nat) : Int) < 9223372036854775808 := by omega
      have p2 : ((pre f 64 k : Nat) : Int) < 9223372036854775808 := by omega
      have s1 : pre f 0 (k + 1) = 2 * pre f 0 k + (f k).toNat := by rw [pre, Nat.zero_add]
      have s2 : pre f 64 (k + 1) = 2 * pre f 64 k + (f (64 + k)).toNat := by rw [pre]
      have S1 : Hid _ := s1
      have S2 : Hid _ := s2
      have q1 : IntKind.u64.wrap (((pre f 0 k : Nat) : Int) * 2) = ((pre f 0 k : Nat) : Int) * 2 := wrap_in (by omega) (by omega)
      have q2 : IntKind.u64.wrap (((pre f 0 k : Nat) : Int) * 2 + 1) = ((pre f 0 k : Nat) : Int) * 2 + 1 := wrap_in (by omega) (by omega)
      have q3 : IntKind.u64.wrap (((pre f 64 k : Nat) : Int) * 2) = ((pre f 64 k : Nat) : Int) * 2 := wrap_in (by omega) (by omega)
      have q4 : IntKind.u64.wrap (((pre f 64 k : Nat) : Int) * 2 + 1) = ((pre f 64 k : Nat) : Int) * 2 + 1 := wrap_in (by omega) (by omega)
      clear s1 s2 b1 b2 b3 p1 p2
      generalize pre f 0 k = P at *
      generalize pre f 64 k = Q at *
      cases h1 : f k <;> cases h2 : f (64 + k)
      all_goals
        rw [h1] at x1
        rw [h2] at x2
        have T1 : Hid _ := h1
        have T2 : Hid _ := h2
        clear h1 h2
        go_wp2
        refine ⟨⟨k + 1, by omega, by go_num, ?_, ?_, ?_, ?_⟩, by simp only [intOf]; omega⟩
        · repeat (with_reducible refine Arr.other ?_ (by simp; omega) _)
          exact A
        · repeat (with_reducible refine Wds.other ?_ (by simp) _)
          exact Z
        · rw [S1.out, S2.out, T1.out, T2.out]
          simp only [twoT, twoF]
          repeat (first | with_reducible apply Wds.set0 | with_reducible apply Wds.set1)
          exact V
        · repeat (with_reducible refine Below.setCell ?_ (by simp; omega) _)
          exact hB
    · obtain rfl : k = 64 := by omega
      obtain ⟨z0, z1, z2, z3⟩ := id Z
      go_wp2
      refine bodyPost_ret (v := B (takeN f)) ?_ rfl ⟨rfl, (hB.setCell (by simp) _).setCell (by simp) _⟩
      obtain ⟨r0, r1⟩ := zresult (x := .int .u64 ((pre f 0 64 : Nat) : Int)) (y := .int .u64 ((pre f 64 64 : Nat) : Int)) z0 z1
      simp only [B, E.out.1, E.out.2]
      simp [results, Tryd.results45, go_sem, r0, r1]
end Go.Proofs.YtjkpdcgmmdimaaaDoor
