/- The reference's Long, more, From, Bytes. -/
import Derived.Test.YtjkpdcgmmdimaaaDoorBa
import Derived.Test.YtjkpdcgmmdimaaaDoorRe
namespace Go.Proofs.YtjkpdcgmmdimaaaDoor
open Go.RowKit
set_option linter.unusedVariables false
set_option linter.unusedSimpArgs false

theorem long_any (wd : Int) (h0 : 0 ≤ wd) (h1 : wd ≤ 128) (w : World) : Calls Tryd.prog 53 #[.int .i64 wd] w fun e w' => e = .returned (.int .i64 ((wd + 7) / 8)) ∧ w' = w := by
  go_enter Tryd.func53, Tryd.ntmps53
  go_wp2
  go_ret
  exact ⟨rfl, rfl⟩

/-- What 'more' has behind k rounds. -/
def upN (n d k : Nat) : Nat := (n * k + d) % 340282366920938463463374607431768211456
theorem upN_is (n d k : Nat) : Is128 (upN n d k) := mod_is _
theorem upN_step (n d k : Nat) : addN (upN n d k) n 128 = upN n d (k + 1) := by
  unfold addN; rw [cut_yes (by decide), show (128 : Int).toNat = 128 from rfl, two128]; unfold upN; rw [Nat.mul_add]; omega
theorem upN_zero (n d : Nat) (h : d < 18446744073709551616) : B (upN n d 0) = .agg #[.int .u64 0, .int .u64 d] := by
  unfold upN; rw [Nat.mul_zero, Nat.zero_add, Nat.mod_eq_of_lt (by omega)]; exact small_words h

set_option maxHeartbeats 2000000 in
set_option maxRecDepth 100000 in
theorem rmore_any (n base d : Nat) (hn : Is128 n) (hb : base ≤ 256) (hd : d < 256) (w : World) : Calls Tryd.prog 54 #[B n, .int .i64 base, .int .i64 d] w fun e w' => e = .returned (B (moreN n base d)) ∧ Below w.heap.size w w' := by
  have hz : hiOf (upN n d 0) = 0 ∧ loOf (upN n d 0) = (d : Int) := by
    unfold upN hiOf loOf; rw [Nat.mul_zero, Nat.zero_add]; omega
  have HZ : Hid _ := hz
  clear hz
  go_enter Tryd.func54, Tryd.ntmps54
  go_wp2_with fail
  go_loopw [8] (fun c wr => ∃ k : Nat, k ≤ base ∧ c = .int .i64 k ∧ Wds wr (w.heap.size + 1 + 1) (hiOf (upN n d k)) (loOf (upN n d k)) ∧ Box wr w.heap.size n ∧ Wds wr (w.heap.size + 1) 0 0 ∧ Below w.heap.size w wr) (fun c _ => base - (intOf c).toNat)
  case atStart =>
    refine ⟨0, by omega, rfl, ?_, ((Box.new w n).past _).past _, ?_, by go_grown⟩
    · rw [HZ.out.1, HZ.out.2]
      simpa using Wds.new ((w.alloc (.cells #[.int .u64 (hiOf n), .int .u64 (loOf n)] 24)).alloc (.cells #[.int .u64 0, .int .u64 0] 24)) 0 d
    · exact Wds.past (by simpa using Wds.new (w.alloc (.cells #[.int .u64 (hiOf n), .int .u64 (loOf n)] 24)) 0 0) _
  case round =>
    obtain ⟨k, hk, rfl, V, Bx, Z, hB⟩ := hrel
    clear HZ
    obtain ⟨v0, v1, v2, v3⟩ := id V
    by_cases hlt : k < base
    · have c1 : ∀ w, Calls Tryd.prog 30 #[B (upN n d k), B n, .int .i64 128] w fun e w' => e = .returned (B (upN n d (k + 1))) ∧ Below w.heap.size w w' := fun w => by rw [← upN_step]; exact radd_any _ _ (upN_is _ _ _) hn 128 w
      obtain ⟨y, hy⟩ : ∃ y, upN n d (k + 1) = y := ⟨_, rfl⟩
      rw [hy] at c1
      have HY : Hid (upN n d (k + 1) = y) := hy
      clear hy
      generalize upN n d k = x at *
      have C1 : Hid (∀ w, Calls Tryd.prog 30 #[B x, B n, .int .i64 128] w fun e w' => e = .returned (B y) ∧ Below w.heap.size w w') := c1
      clear c1
      obtain ⟨b0, b1⟩ := id Bx
      go_wp2_with fail
      refine (C1.out _).mono ?_
      rintro e w1 ⟨rfl, hb1⟩
      have V1 := V.below hb1 V.lt
      have Bx1 := Bx.below hb1 Bx.lt
      have Z1 := Z.below hb1 Z.lt
      have hB1 := bstep hB hb1
      clear v0 v1 v2 v3 b0 b1 V Bx Z hB hb1
      obtain ⟨v0, v1, v2, v3⟩ := id V1
      go_wp2
      refine ⟨⟨k + 1, by omega, by go_num, ?_, (Bx1.other (by simp; omega) _).other (by simp; omega) _, (Z1.other (by simp) _).other (by simp) _, (hB1.setCell (by simp; omega) _).setCell (by simp; omega) _⟩, by simp only [intOf]; omega⟩
      rw [HY.out]; exact (V1.set0 _).set1 _
    · obtain rfl : k = base := by omega
      obtain ⟨z0, z1, z2, z3⟩ := id Z
      go_wp2
      refine bodyPost_ret (v := B (moreN n k d)) ?_ rfl ⟨rfl, (hB.setCell (by simp) _).setCell (by simp) _⟩
      obtain ⟨r0, r1⟩ := zresult (x := .int .u64 (hiOf (upN n d k))) (y := .int .u64 (loOf (upN n d k))) z0 z1
      rw [show moreN n k d = upN n d k from rfl]
      simp [results, Tryd.results54, go_sem, r0, r1]
end Go.Proofs.YtjkpdcgmmdimaaaDoor
