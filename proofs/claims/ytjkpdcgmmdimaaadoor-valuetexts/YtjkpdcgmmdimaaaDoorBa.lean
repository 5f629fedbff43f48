/- Package value's From: any bytes at any width. What is said of bytes: plain facts. -/
import Derived.Test.YtjkpdcgmmdimaaaDoorRt
import Derived.Test.YtjkpdcgmmdimaaaDoorWy
namespace Go.Proofs.YtjkpdcgmmdimaaaDoor
open Go.RowKit
set_option linter.unusedVariables false
set_option linter.unusedSimpArgs false

/-- The number that bytes say behind a number, modulo 2^128. -/
def frN (l : List UInt8) (a : Nat) : Nat := l.foldl (fun v b => moreN v 256 b.toNat) a
theorem frN_is (l : List UInt8) : Is128 (frN l 0) := by
  have : ∀ (l : List UInt8) (a : Nat), Is128 a → Is128 (frN l a) := by
    intro l; induction l with
    | nil => intro a h; exact h
    | cons b l ih => intro a _; exact ih _ (more_is _ _ _)
  exact this l 0 (by unfold Is128; decide)
/-- What From answers: the value and the error's number. -/
def frR (l : List UInt8) (wd : Int) : Nat × Int := if isW wd = true then (if (l.length : Int) = (wd + 7) / 8 then (if fitsN (frN l 0) wd = true then (frN l 0, 0) else (0, 11)) else (0, 12)) else (0, 10)
theorem frR_no {l : List UInt8} {wd : Int} (h : isW wd = false) : frR l wd = (0, 10) := by unfold frR; rw [h]; rfl
theorem frR_len {l : List UInt8} {wd : Int} (h : isW wd = true) (h' : (l.length : Int) ≠ (wd + 7) / 8) : frR l wd = (0, 12) := by unfold frR; rw [if_pos h, if_neg h']
theorem frR_yes {l : List UInt8} {wd : Int} (h : isW wd = true) (h' : (l.length : Int) = (wd + 7) / 8) (hf : fitsN (frN l 0) wd = true) : frR l wd = (frN l 0, 0) := by unfold frR; rw [if_pos h, if_pos h', if_pos hf]
theorem frR_fit {l : List UInt8} {wd : Int} (h : isW wd = true) (h' : (l.length : Int) = (wd + 7) / 8) (hf : fitsN (frN l 0) wd = false) : frR l wd = (0, 11) := by unfold frR; rw [if_pos h, if_pos h', hf]; rfl
theorem frR_is (l : List UInt8) (wd : Int) : Is128 (frR l wd).1 := by
  have hz : Is128 0 := by unfold Is128; decide
  unfold frR; repeat' split
  all_goals first | exact frN_is l | exact hz

theorem Wds.drew {w : World} {b : Nat} {x y : Int} (h : Wds w b x y) : Wds w.drew b x y := h
theorem or_small {a b k : Nat} (hb : b < 2 ^ k) : (2 ^ k * a) ||| b = 2 ^ k * a + b := (Nat.two_pow_add_eq_or_of_lt hb a).symm
theorem shl_hi {v : Nat} (hv : Is128 v) (b : Nat) (hb : b < 256) : bits .or .u64 (IntKind.u64.wrap (hiOf v * 2 ^ 8)) (loOf v / 2 ^ 56) = hiOf (moreN v 256 b) := by
  have e1 : IntKind.u64.wrap (hiOf v * 2 ^ 8) = ((v / 18446744073709551616 * 256 % 18446744073709551616 : Nat) : Int) := by rw [IntKind.wrap_u64]; unfold hiOf; omega
  have e2 : loOf v / 2 ^ 56 = ((v % 18446744073709551616 / 72057594037927936 : Nat) : Int) := by unfold loOf; omega
  rw [e1, e2, u64_or_nat _ _ (by omega) (by omega)]
  have e3 : v / 18446744073709551616 * 256 % 18446744073709551616 = 2 ^ 8 * (v / 18446744073709551616 % 72057594037927936) := by omega
  rw [e3, or_small (by omega)]
  unfold hiOf moreN; unfold Is128 at hv; omega
theorem shl_lo (v b : Nat) (hb : b < 256) : bits .or .u64 (IntKind.u64.wrap (loOf v * 2 ^ 8)) (b : Int) = loOf (moreN v 256 b) := by
  have e1 : IntKind.u64.wrap (loOf v * 2 ^ 8) = ((v % 18446744073709551616 * 256 % 18446744073709551616 : Nat) : Int) := by rw [IntKind.wrap_u64]; unfold loOf; omega
  rw [e1, u64_or_nat _ _ (by omega) (by omega)]
  have e3 : v % 18446744073709551616 * 256 % 18446744073709551616 = 2 ^ 8 * (v % 18446744073709551616 % 72057594037927936) := by omega
  rw [e3, or_small (by omega)]
  unfold loOf moreN; omega

set_option maxHeartbeats 2000000 in
set_option maxRecDepth 100000 in
theorem from_any (s : ByteArray) (hs : s.size ≤ maxLen) (wd : Int) (w : World) : Calls Tryd.prog 35 #[.string s, .int .i64 wd] w fun e w' => e = .returned (.tuple #[B (frR s.data.toList wd).1, .int .i64 (frR s.data.toList wd).2]) ∧ Below w.heap.size w w' := by
  have hlen : s.data.toList.length = s.size := by simp
  unfold maxLen at hs
  cases hW : isW wd
  · rw [frR_no hW]
    go_enter Tryd.func35, Tryd.ntmps35
    go_wp2_with (go_at_call 42; refine (isWidth_val hW _).mono ?_; rintro e w' ⟨rfl, rfl⟩)
    refine bodyPost_ret (v := .tuple #[B 0, .int .i64 10]) ?_ rfl ⟨rfl, ?_⟩
    · rw [zero_words]; simp [results, Tryd.results35, go_sem]
    · go_grown
  have hb := isW_bounds hW
  by_cases hl : (s.size : Int) = (wd + 7) / 8
  · have hf : ∀ w, Calls Tryd.prog 10 #[B (frN s.data.toList 0), .int .i64 wd] w fun e w' => e = .returned (.bool (fitsN (frN s.data.toList 0) wd)) ∧ Below w.heap.size w w' := fits_any _ (frN_is _) wd
    have HFT : Hid (fitsN (frN s.data.toList 0) wd = true → frR s.data.toList wd = (frN s.data.toList 0, 0)) := fun h => frR_yes hW (by rw [hlen]; exact hl) h
    have HFF : Hid (fitsN (frN s.data.toList 0) wd = false → frR s.data.toList wd = (0, 11)) := fun h => frR_fit hW (by rw [hlen]; exact hl) h
    generalize hfx : frN s.data.toList 0 = F at *
    have HX : Hid _ := hfx
    clear hfx
    have HF : Hid (∀ w, Calls Tryd.prog 10 #[B F, .int .i64 wd] w fun e w' => e = .returned (.bool (fitsN F wd)) ∧ Below w.heap.size w w') := hf
    clear hf
    have d1 : (((s.size : Nat) : Int) != (wd + 7) / 8) = false := by simp [hl]
    have s16 : s.size ≤ 16 := by omega
    clear hl
    go_enter Tryd.func35, Tryd.ntmps35
    go_wp2_with (first | (go_at_call 42; refine (isWidth_val hW _).mono ?_; rintro e w' ⟨rfl, rfl⟩) | (go_at_call 51; refine (byteCount_any wd (by omega) (by omega) _).mono ?_; rintro e w' ⟨rfl, rfl⟩))
    go_loopw [20] (fun c wr => ∃ p x : Nat, p ≤ s.size ∧ c = .int .i64 p ∧ Is128 x ∧ Aside (frN (s.data.toList.drop p) x = F) ∧ Wds wr (w.heap.size + 1) (hiOf x) (loOf x) ∧ Wds wr w.heap.size 0 0 ∧ Below w.heap.size w wr) (fun c _ => s.size - (intOf c).toNat)
    case atStart =>
      refine ⟨0, 0, by omega, rfl, by unfold Is128; decide, HX.out, ?_, (Wds.new w 0 0).past _, by go_grown⟩
      simpa [hiOf, loOf] using Wds.new (w.alloc (.cells #[.int .u64 0, .int .u64 0] 24)) 0 0
    case round =>
      obtain ⟨p, x, hp, rfl, hx, A, V, Z, hB⟩ := hrel
      obtain ⟨v0, v1, v2, v3⟩ := id V
      by_cases hlt : p < s.size
      · have hbt := UInt8.toNat_lt s[p]
        have E1 : Hid _ := shl_hi hx (s[p]).toNat hbt
        have E2 : Hid _ := shl_lo x (s[p]).toNat hbt
        have A2 : Aside (frN (s.data.toList.drop (p + 1)) (moreN x 256 (s[p]).toNat) = F) := by
          have := A.out; rw [byte_at s hlt] at this; exact this
        have F1 : Hid (bits BinOp.or IntKind.u64 (IntKind.u64.wrap (hiOf x * 256)) (loOf x / 72057594037927936) = hiOf (moreN x 256 (s[p]).toNat)) := E1.out
        have F2 : Hid (bits BinOp.or IntKind.u64 (IntKind.u64.wrap (loOf x * 256)) ((s[p]).toNat : Int) = loOf (moreN x 256 (s[p]).toNat)) := E2.out
        clear E1 E2
        go_wp2
        go_region
        rw [F1.out, F2.out]
        have V1 := ((V.set0 (hiOf (moreN x 256 (s[p]).toNat))).set1 (loOf (moreN x 256 (s[p]).toNat))).drew
        have Z1 := ((Z.other (a := ⟨w.heap.size + 1, 0, none⟩) (by simp) (.int .u64 (hiOf (moreN x 256 (s[p]).toNat)))).other (a := ⟨w.heap.size + 1, 1, none⟩) (by simp) (.int .u64 (loOf (moreN x 256 (s[p]).toNat)))).drew
        have hB1 : Below w.heap.size w ((wr.setCell ⟨w.heap.size + 1, 0, none⟩ (.int .u64 (hiOf (moreN x 256 (s[p]).toNat)))).setCell ⟨w.heap.size + 1, 1, none⟩ (.int .u64 (loOf (moreN x 256 (s[p]).toNat)))).drew := ((hB.setCell (by simp) _).setCell (by simp) _).drew
        go_wp2
        exact ⟨⟨p + 1, moreN x 256 (s[p]).toNat, by omega, by go_num, more_is _ _ _, A2, V1, Z1, hB1⟩, by simp only [intOf]; omega⟩
      · have hpe : p = s.size := by omega
        have hxF : x = F := by
          have := A.out; rw [hpe, List.drop_of_length_le (by simp)] at this; exact this
        subst hxF
        clear A hpe
        obtain ⟨z0, z1, z2, z3⟩ := id Z
        go_wp2_with fail
        refine (HF.out _).mono ?_
        rintro e w2 ⟨rfl, hb2⟩
        have V2 := V.below hb2 V.lt
        have Z2 := Z.below hb2 Z.lt
        have hB2 := bstep hB hb2
        clear v0 v1 v2 v3 z0 z1 z2 z3 V Z hB hb2
        obtain ⟨v0, v1, v2, v3⟩ := id V2
        obtain ⟨z0, z1, z2, z3⟩ := id Z2
        cases hf : fitsN x wd
        · have E : Hid _ := HFF.out hf
          go_wp2
          refine bodyPost_ret (v := .tuple #[B (frR s.data.toList wd).1, .int .i64 (frR s.data.toList wd).2]) ?_ rfl ⟨rfl, (hB2.setCell (Nat.le_refl _) _).setCell (Nat.le_refl _) _⟩
          rw [E.out, zero_words]
          obtain ⟨r0, r1⟩ := zresult (x := .int .u64 0) (y := .int .u64 0) z0 z1
          simp [results, Tryd.results35, go_sem, r0, r1]
        · have E : Hid _ := HFT.out hf
          go_wp2
          refine bodyPost_ret (v := .tuple #[B (frR s.data.toList wd).1, .int .i64 (frR s.data.toList wd).2]) ?_ rfl ⟨rfl, (hB2.setCell (Nat.le_refl _) _).setCell (Nat.le_refl _) _⟩
          rw [E.out]
          obtain ⟨r0, r1⟩ := zresult (x := .int .u64 (hiOf x)) (y := .int .u64 (loOf x)) z0 z1
          simp [results, Tryd.results35, go_sem, r0, r1]
  · rw [frR_len hW (by rw [hlen]; exact hl)]
    have d1 : (((s.size : Nat) : Int) != (wd + 7) / 8) = true := by simp [hl]
    clear hl
    go_enter Tryd.func35, Tryd.ntmps35
    go_wp2_with (first | (go_at_call 42; refine (isWidth_val hW _).mono ?_; rintro e w' ⟨rfl, rfl⟩) | (go_at_call 51; refine (byteCount_any wd (by omega) (by omega) _).mono ?_; rintro e w' ⟨rfl, rfl⟩))
    refine bodyPost_ret (v := .tuple #[B 0, .int .i64 12]) ?_ rfl ⟨rfl, ?_⟩
    · rw [zero_words]; simp [results, Tryd.results35, go_sem]
    · go_grown
end Go.Proofs.YtjkpdcgmmdimaaaDoor
