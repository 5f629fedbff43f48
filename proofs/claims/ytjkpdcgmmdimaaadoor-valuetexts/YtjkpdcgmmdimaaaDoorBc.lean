/- The reference's From. -/
import Derived.Test.YtjkpdcgmmdimaaaDoorBb
namespace Go.Proofs.YtjkpdcgmmdimaaaDoor
open Go.RowKit
set_option linter.unusedVariables false
set_option linter.unusedSimpArgs false

theorem rmore_256 (n d : Nat) (hn : Is128 n) (hd : d < 256) (w : World) : Calls Tryd.prog 54 #[B n, .int .i64 256, .int .i64 d] w fun e w' => e = .returned (B (moreN n 256 d)) ∧ Below w.heap.size w w' := by
  rw [show (256 : Int) = ((256 : Nat) : Int) from rfl]
  exact rmore_any n 256 d hn (Nat.le_refl _) hd w

set_option maxHeartbeats 2000000 in
set_option maxRecDepth 100000 in
theorem rfrom_any (s : ByteArray) (hs : s.size ≤ maxLen) (wd : Int) (w : World) : Calls Tryd.prog 37 #[.string s, .int .i64 wd] w fun e w' => e = .returned (.tuple #[B (frR s.data.toList wd).1, .int .i64 (frR s.data.toList wd).2]) ∧ Below w.heap.size w w' := by
  have hlen : s.data.toList.length = s.size := by simp
  unfold maxLen at hs
  cases hW : isW wd
  · rw [frR_no hW]
    go_enter Tryd.func37, Tryd.ntmps37
    go_wp2_with (go_at_call 44; refine (rwidth_val hW _).mono ?_; rintro e w' ⟨rfl, rfl⟩)
    refine bodyPost_ret (v := .tuple #[B 0, .int .i64 10]) ?_ rfl ⟨rfl, ?_⟩
    · rw [zero_words]; simp [results, Tryd.results37, go_sem]
    · go_grown
  have hb := isW_bounds hW
  by_cases hl : (s.size : Int) = (wd + 7) / 8
  · have hf : ∀ w, Calls Tryd.prog 15 #[B (frN s.data.toList 0), .int .i64 wd] w fun e w' => e = .returned (.bool (fitsN (frN s.data.toList 0) wd)) ∧ Below w.heap.size w w' := rfits_any _ (frN_is _) wd
    have HFT : Hid (fitsN (frN s.data.toList 0) wd = true → frR s.data.toList wd = (frN s.data.toList 0, 0)) := fun h => frR_yes hW (by rw [hlen]; exact hl) h
    have HFF : Hid (fitsN (frN s.data.toList 0) wd = false → frR s.data.toList wd = (0, 11)) := fun h => frR_fit hW (by rw [hlen]; exact hl) h
    generalize hfx : frN s.data.toList 0 = F at *
    have HX : Hid _ := hfx
    clear hfx
    have HF : Hid (∀ w, Calls Tryd.prog 15 #[B F, .int .i64 wd] w fun e w' => e = .returned (.bool (fitsN F wd)) ∧ Below w.heap.size w w') := hf
    clear hf
    have d1 : (((s.size : Nat) : Int) != (wd + 7) / 8) = false := by simp [hl]
    have s16 : s.size ≤ 16 := by omega
    clear hl
    go_enter Tryd.func37, Tryd.ntmps37
    go_wp2_with (first | (go_at_call 44; refine (rwidth_val hW _).mono ?_; rintro e w' ⟨rfl, rfl⟩) | (go_at_call 53; refine (long_any wd (by omega) (by omega) _).mono ?_; rintro e w' ⟨rfl, rfl⟩))
    go_loopw [7] (fun c wr => ∃ p x : Nat, p ≤ s.size ∧ c = .int .i64 p ∧ Is128 x ∧ Aside (frN (s.data.toList.drop p) x = F) ∧ Wds wr (w.heap.size + 1) (hiOf x) (loOf x) ∧ Wds wr w.heap.size 0 0 ∧ Below w.heap.size w wr) (fun c _ => s.size - (intOf c).toNat)
    case atStart =>
      refine ⟨0, 0, by omega, rfl, by unfold Is128; decide, HX.out, ?_, (Wds.new w 0 0).past _, by go_grown⟩
      simpa [hiOf, loOf] using Wds.new (w.alloc (.cells #[.int .u64 0, .int .u64 0] 24)) 0 0
    case round =>
      obtain ⟨p, x, hp, rfl, hx, A, V, Z, hB⟩ := hrel
      obtain ⟨v0, v1, v2, v3⟩ := id V
      by_cases hlt : p < s.size
      · have hbt : (s[p]).toNat < 256 := UInt8.toNat_lt s[p]
        have wq : IntKind.i64.wrap ((s[p]).toNat : Int) = ((s[p]).toNat : Int) := by rw [IntKind.wrap_i64]; omega
        have A2 : Aside (frN (s.data.toList.drop (p + 1)) (moreN x 256 (s[p]).toNat) = F) := by
          have := A.out; rw [byte_at s hlt] at this; exact this
        have C1 : Hid (∀ w, Calls Tryd.prog 54 #[B x, .int .i64 256, .int .i64 ((s[p]).toNat : Int)] w fun e w' => e = .returned (B (moreN x 256 (s[p]).toNat)) ∧ Below w.heap.size w w') := rmore_256 x _ hx hbt
        go_wp2
        go_region_with (go_at_call 54; refine (C1.out _).mono ?_; rintro e w1 ⟨rfl, hb1⟩; have V1 := V.drew.below hb1 V.drew.lt; have Z1 := Z.drew.below hb1 Z.drew.lt; have hB1 := bstep hB.drew hb1; obtain ⟨q0, q1, q2, q3⟩ := id V1)
        all_goals
          go_wp2
          exact ⟨⟨p + 1, moreN x 256 (s[p]).toNat, by omega, by go_num, more_is _ _ _, A2, (V1.set0 _).set1 _, (Z1.other (by simp) _).other (by simp) _, (hB1.setCell (by simp) _).setCell (by simp) _⟩, by simp only [intOf]; omega⟩
      · have hpe : p = s.size := by omega
        have hxF : x = F := by
          have := A.out; rw [hpe, List.drop_of_length_le (by simp)] at this; exact this
        subst hxF
        clear A hpe
        obtain ⟨z0, z1, z2, z3⟩ := id Z
        go_wp2_with fail
        refine (HF.out _).mono ?_
        rintro e w2 ⟨rfl, hb2⟩
        have V2 := V.below hb2 V.lt
        have Z2 := Z.below hb2 Z.lt
        have hB2 := bstep hB hb2
        clear v0 v1 v2 v3 z0 z1 z2 z3 V Z hB hb2
        obtain ⟨v0, v1, v2, v3⟩ := id V2
        obtain ⟨z0, z1, z2, z3⟩ := id Z2
        cases hf : fitsN x wd
        · have E : Hid _ := HFF.out hf
          go_wp2
          refine bodyPost_ret (v := .tuple #[B (frR s.data.toList wd).1, .int .i64 (frR s.data.toList wd).2]) ?_ rfl ⟨rfl, (hB2.setCell (Nat.le_refl _) _).setCell (Nat.le_refl _) _⟩
          rw [E.out, zero_words]
          obtain ⟨r0, r1⟩ := zresult (x := .int .u64 0) (y := .int .u64 0) z0 z1
          simp [results, Tryd.results37, go_sem, r0, r1]
        · have E : Hid _ := HFT.out hf
          go_wp2
          refine bodyPost_ret (v := .tuple #[B (frR s.data.toList wd).1, .int .i64 (frR s.data.toList wd).2]) ?_ rfl ⟨rfl, (hB2.setCell (Nat.le_refl _) _).setCell (Nat.le_refl _) _⟩
          rw [E.out]
          obtain ⟨r0, r1⟩ := zresult (x := .int .u64 (hiOf x)) (y := .int .u64 (loOf x)) z0 z1
          simp [results, Tryd.results37, go_sem, r0, r1]
  · rw [frR_len hW (by rw [hlen]; exact hl)]
    have d1 : (((s.size : Nat) : Int) != (wd + 7) / 8) = true := by simp [hl]
    clear hl
    go_enter Tryd.func37, Tryd.ntmps37
    go_wp2_with (first | (go_at_call 44; refine (rwidth_val hW _).mono ?_; rintro e w' ⟨rfl, rfl⟩) | (go_at_call 53; refine (long_any wd (by omega) (by omega) _).mono ?_; rintro e w' ⟨rfl, rfl⟩))
    refine bodyPost_ret (v := .tuple #[B 0, .int .i64 12]) ?_ rfl ⟨rfl, ?_⟩
    · rw [zero_words]; simp [results, Tryd.results37, go_sem]
    · go_grown
end Go.Proofs.YtjkpdcgmmdimaaaDoor
