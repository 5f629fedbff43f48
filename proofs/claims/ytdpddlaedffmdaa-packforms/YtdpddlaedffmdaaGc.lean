/- The walk of PackForms, at some wants. -/
import Derived.Test.YtdpddlaedffmdaaGb
namespace Go.Proofs.Ytdpddlaedffmdaa
open Go.RowKit
set_option linter.unusedVariables false
set_option linter.unusedSimpArgs false

theorem Fg.w4 {B : Nat} {w : World} {bw rb g : Nat} {s : ByteArray} {a : Nat} {L : List UInt8} {x : Nat} (h : Fg B w bw rb g s a 0 L x) (n : Nat) (hn : Is128 n) (k : Int) (q : ByteArray) (hq : byR n k = (q, 0)) (hl : L.length ≤ 140737488351232) : Calls Try.prog 29 #[.pointer (some ⟨bw, 0, none⟩), .agg #[.int .u64 (hiOf n), .int .u64 (loOf n)], .int .i64 k] w fun e w' => e = .returned (.tuple #[]) ∧ (Fo B w' bw rb s a 0 (L ++ q.data.toList) ∧ Below B w w') ∧ w'.cell? ⟨g, 0, none⟩ = some (.int .u64 (hiOf x)) ∧ w'.cell? ⟨g, 1, none⟩ = some (.int .u64 (loOf x)) := by
  have hB := h.size
  obtain ⟨v, h1, h2, h3, h4, h5, h6, h7, h8, h9, h10, h11⟩ := h
  refine (wbits_any h1 n hn k (by omega) hB).mono ?_
  rintro e w' ⟨rfl, hL⟩
  rw [hq, putR_ok] at hL
  have hk : Kept (own bw v) w w' := by obtain ⟨_, _, K, _⟩ := hL; exact K
  exact ⟨rfl, Fo.wrote h1 h2 h3 h4 hL, hk.cell h8 h5, hk.cell h9 h5⟩
set_option maxHeartbeats 8000000 in
set_option maxRecDepth 100000 in
theorem packForms_some (s : ByteArray) (hsz : s.size ≤ 140737488351232) (b0 off cap : Nat) (l : List Wa) (hl : l.length ≤ 140737488351232) (w : World) (hI : Wants w b0 off l) (hNN : ∀ i (h : i < l.length), (l[i]).n < 18446744073709551616) (hb : b0 < w.heap.size) : Calls Try.prog 6 #[.string s, .slice (some ⟨b0, off, none⟩) l.length cap] w fun e w' => e = .returned (.bool true) ∧ Below w.heap.size w w' := by
  go_enter Try.func6, Try.ntmps6
  go_wp2_with fail
  refine (awake_any _).mono ?_
  rintro e w1 ⟨rfl, hB1⟩
  have HB1 : Hid (Below w.heap.size w w1) := hB1
  clear hB1
  go_wp2_with fail
  refine (new_any _).mono ?_
  rintro e w2 ⟨rfl, rfl⟩
  go_wp2_with fail
  refine (open_any s _).mono ?_
  rintro e w3 ⟨rfl, rfl⟩
  have HF0 : Hid (Fo w.heap.size ((w1.alloc (.cells #[.slice none 0 0, .int .i64 0] 71)).alloc (.cells #[.string s, .int .i64 0, .int .i64 0] 75)) w1.heap.size (w1.heap.size + 1) s 0 0 (upto s 0)) := Fo.new HB1.out.size s
  have HB4 : Hid (Below w.heap.size w ((w1.alloc (.cells #[.slice none 0 0, .int .i64 0] 71)).alloc (.cells #[.string s, .int .i64 0, .int .i64 0] 75))) := (HB1.out.alloc HB1.out.size _).alloc (by have := HB1.out.size; simp; omega) _
  go_wp2_with fail
  generalize ((w1.alloc (.cells #[.slice none 0 0, .int .i64 0] 71)).alloc (.cells #[.string s, .int .i64 0, .int .i64 0] 75)) = W4 at *
  clear HB1
  generalize w1.heap.size = bw at *
  go_loopw [8] (fun y wr => ∃ i : Nat, y = .int .i64 i ∧ i ≤ l.length ∧ ∃ a, Fo w.heap.size wr bw (bw + 1) s a 0 (upto s a) ∧ Below w.heap.size w wr) (fun y _ => (l.length - intOf y).toNat)
  case atStart => exact ⟨0, rfl, by omega, 0, HF0.out, HB4.out⟩
  case round =>
    obtain ⟨i, rfl, hi, a, hF, hB⟩ := hrel
    clear HF0 HB4
    by_cases hlt : i < l.length
    · obtain ⟨hit, hok⟩ := hI i hlt
      have HC : Hid (∀ w', Below w.heap.size w w' → WaAt w' b0 (off + i * 4) l[i]) := fun w' h => hit.below h hb
      have hN := hNN i hlt
      have hle0 := hF.le
      have HFF : Hid (Fo w.heap.size wr bw (bw + 1) s a 0 (upto s a)) := hF
      have HBB : Hid (Below w.heap.size w wr) := hB
      clear hF hit
      obtain ⟨c0, c1, c2, c3⟩ := HC.out _ hB
      clear hB
      generalize hI0 : l[i] = I at *
      clear hI0
      by_cases hkd : I.kd = 1
      · have CR : Hid (∀ (w1 : World) (g x : Nat), Fg w.heap.size w1 bw (bw + 1) g s a 0 (upto s a) x → Calls Try.prog 21 #[.pointer (some ⟨bw + 1, 0, none⟩), .int .u64 I.n] w1 fun e w' => e = .returned (.int .u64 (uintS s a 0 I.n).1) ∧ Fg w.heap.size w' bw (bw + 1) g s (uintS s a 0 I.n).2.1 (uintS s a 0 I.n).2.2 (upto s a) x ∧ Below w.heap.size w1 w') := fun w1 g x h => h.r1 hsz I.n
        have HER : Hid ((uintS s a 0 I.n).2.2 ≠ 0 → (uintS s a 0 I.n).1 = 0 ∧ (uintS s a 0 I.n).2.1 = a) := by
          show _ → _
          skip
          intro h; exact none_uint s a I.n h
        have HOK : Hid ((uintS s a 0 I.n).2.2 = 0 → a ≤ (uintS s a 0 I.n).2.1 ∧ (uintS s a 0 I.n).2.1 ≤ s.size ∧ ∀ w1 : World, Fo w.heap.size w1 bw (bw + 1) s (uintS s a 0 I.n).2.1 0 (upto s a) → Calls Try.prog 26 #[.pointer (some ⟨bw, 0, none⟩), .int .u64 (uintS s a 0 I.n).1] w1 fun e w' => e = .returned (.tuple #[]) ∧ Fo w.heap.size w' bw (bw + 1) s (uintS s a 0 I.n).2.1 0 (upto s (uintS s a 0 I.n).2.1) ∧ Below w.heap.size w1 w') := by
          show _ → _
          skip
          intro h
          obtain ⟨e1, e2, e3, e4⟩ := back_uint s a hle0 I.n h
          refine ⟨e2, e3, fun w1 hf => ?_⟩
          have := hf.w1 (uintS s a 0 I.n).1 (by omega) (by rw [upto_len s a hle0]; omega)
          rw [show upto s a ++ vb (uintS s a 0 I.n).1 = upto s (uintS s a 0 I.n).2.1 from e1.symm] at this
          exact this
        have hk1 : (I.kd == 1) = true := by simpa using hkd
        have hne : ∀ j : Int, j ≠ 1 → (I.kd == j) = false := fun j hj => by rw [hkd]; simpa using fun e => hj e.symm
        have hk_2 := hne 2 (by decide)
        have hk_3 := hne 3 (by decide)
        have hk_4 := hne 4 (by decide)
        have hk_5 := hne 5 (by decide)
        clear hne hkd hok hN
        generalize (uintS s a 0 I.n).1 = V at *
        generalize (uintS s a 0 I.n).2.1 = A at *
        generalize (uintS s a 0 I.n).2.2 = G at *
        go_wp2_with fail
        refine HFF.out.at.mono ?_
        rintro e w5 ⟨rfl, rfl⟩
        have hA := HFF.out.alloc
        have HG6 : Hid (Fg w.heap.size (w5.alloc (.cells #[.int .u64 0, .int .u64 0] 34)) bw (bw + 1) w5.heap.size s a 0 (upto s a) 0) := hA.1
        have HB6 : Hid (Below w.heap.size w (w5.alloc (.cells #[.int .u64 0, .int .u64 0] 34))) := HBB.out.trans hA.2
        clear hA
        obtain ⟨d0, d1, d2, d3⟩ := HC.out _ HB6.out
        go_wp2_with fail
        generalize (w5.alloc (.cells #[.int .u64 0, .int .u64 0] 34)) = w6 at *
        generalize w5.heap.size = g at *
        clear d0 d1 d2 d3 c0 c1 c2 c3 HFF HBB
        refine (CR.out _ _ _ HG6.out).mono ?_
        rintro e w7 ⟨rfl, hG7, hB7⟩
        have HG7 : Hid (Fg w.heap.size w7 bw (bw + 1) g s A G (upto s a) 0) := hG7
        have HB7 : Hid (Below w.heap.size w w7) := HB6.out.trans hB7
        clear hG7 hB7 HG6 HB6 CR
        go_wp2_with fail
        refine HG7.out.fault.mono ?_
        rintro e w8 ⟨rfl, hG8, hB8⟩
        have HG8 : Hid (Fg w.heap.size w8 bw (bw + 1) g s A G (upto s a) 0) := hG8
        have HB8 : Hid (Below w.heap.size w w8) := HB7.out.trans hB8
        clear hG8 hB8 HG7 HB7
        by_cases hG0 : G = 0
        · subst hG0
          rw [show faultAt A 0 = 0 by unfold faultAt; rw [if_pos rfl]]
          obtain ⟨hle1, hle2, hCW⟩ := HOK.out rfl
          obtain ⟨d0, d1, d2, d3⟩ := HC.out _ HB8.out
          have HFo : Hid (Fo w.heap.size w8 bw (bw + 1) s A 0 (upto s a)) := HG8.out.fo
          have CW : Hid (Calls Try.prog 26 #[.pointer (some ⟨bw, 0, none⟩), .int .u64 V] w8 fun e w' => e = .returned (.tuple #[]) ∧ Fo w.heap.size w' bw (bw + 1) s A 0 (upto s A) ∧ Below w.heap.size w8 w') := hCW w8 HFo.out
          clear hCW HOK HER HG8 HFo
          go_wp2_with fail
          refine CW.out.mono ?_
          rintro e w9 ⟨rfl, hF9, hB9⟩
          have HF9 : Hid (Fo w.heap.size w9 bw (bw + 1) s A 0 (upto s A)) := hF9
          have HB9 : Hid (Below w.heap.size w w9) := HB8.out.trans hB9
          clear hF9 hB9 CW HB8 d0 d1 d2 d3
          have hnl : ¬ (A : Int) < (a : Int) := by have := hle1; omega
          have hnm : ¬ (s.size : Int) < (A : Int) := by have := hle2; omega
          have hln : (upto s A).length = A := upto_len s A hle2
          go_wp2_with fail
          refine HF9.out.at.mono ?_
          rintro e w10 ⟨rfl, rfl⟩
          go_wp2_with fail
          refine HF9.out.at.mono ?_
          rintro e w11 ⟨rfl, rfl⟩
          go_wp2_with fail
          refine HF9.out.len.mono ?_
          rintro e w12 ⟨rfl, rfl⟩
          rw [hln]
          go_wp2_with fail
          refine HF9.out.at.mono ?_
          rintro e w13 ⟨rfl, rfl⟩
          go_wp2
          exact ⟨⟨i + 1, rfl, by omega, A, HF9.out, HB9.out⟩, by simp only [intOf]; omega⟩
        · obtain ⟨rfl, hAa⟩ := HER.out hG0
          obtain rfl : a = A := hAa.symm
          clear HER HOK
          have hG' : (G == 0) = false := by simpa using hG0
          rw [faultAt_err _ hG0]
          have HOT : Hid (Calls Try.prog 15 #[.pointer (some ⟨bw, 0, none⟩)] w8 fun e w' => e = .returned (.tuple #[.string (s.extract 0 a), .int .i64 0]) ∧ Fg w.heap.size w' bw (bw + 1) g s a G (upto s a) 0 ∧ Below w.heap.size w8 w') := by
            have := HG8.out.out; rw [upto_arr] at this; exact this
          go_wp2_with fail
          refine HOT.out.mono ?_
          rintro e w9 ⟨rfl, hG9, hB9⟩
          have g0 : w9.cell? ⟨g, 0, none⟩ = some (.int .u64 0) := hG9.cells.1
          have g1 : w9.cell? ⟨g, 1, none⟩ = some (.int .u64 0) := hG9.cells.2.1
          have HG9 : Hid (Fg w.heap.size w9 bw (bw + 1) g s a G (upto s a) 0) := hG9
          have HB9 : Hid (Below w.heap.size w w9) := HB8.out.trans hB9
          clear hG9 hB9 HOT HG8 HB8
          go_wp2_with fail
          refine HG9.out.at.mono ?_
          rintro e w10 ⟨rfl, rfl⟩
          go_wp2_with fail
          refine (HG9.out.end hsz).mono ?_
          rintro e w11 ⟨rfl, hB11⟩
          rw [endR_err _ _ hG0]
          have HB11 : Hid (Below w.heap.size w w11) := HB9.out.trans hB11
          clear hB11
          go_wp2
          go_ret
          exact ⟨by simp, HB11.out⟩
      have hn1 : (I.kd == 1) = false := by simpa using hkd
      clear hkd
      by_cases hkd : I.kd = 2
      · have CR : Hid (∀ (w1 : World) (g x : Nat), Fg w.heap.size w1 bw (bw + 1) g s a 0 (upto s a) x → Calls Try.prog 22 #[.pointer (some ⟨bw + 1, 0, none⟩), .int .i64 I.k] w1 fun e w' => e = .returned (.int .u64 (fixS s a 0 I.k).1) ∧ Fg w.heap.size w' bw (bw + 1) g s (fixS s a 0 I.k).2.1 (fixS s a 0 I.k).2.2 (upto s a) x ∧ Below w.heap.size w1 w') := fun w1 g x h => h.r2 hsz I.k
        have HER : Hid ((fixS s a 0 I.k).2.2 ≠ 0 → (fixS s a 0 I.k).1 = 0 ∧ (fixS s a 0 I.k).2.1 = a) := by
          show _ → _
          rw [show fixS s a 0 I.k = fixQ s a I.k by unfold fixS; rw [if_pos rfl]]
          intro h; exact none_fix s a I.k h
        have HOK : Hid ((fixS s a 0 I.k).2.2 = 0 → a ≤ (fixS s a 0 I.k).2.1 ∧ (fixS s a 0 I.k).2.1 ≤ s.size ∧ ∀ w1 : World, Fo w.heap.size w1 bw (bw + 1) s (fixS s a 0 I.k).2.1 0 (upto s a) → Calls Try.prog 27 #[.pointer (some ⟨bw, 0, none⟩), .int .u64 (fixS s a 0 I.k).1, .int .i64 I.k] w1 fun e w' => e = .returned (.tuple #[]) ∧ Fo w.heap.size w' bw (bw + 1) s (fixS s a 0 I.k).2.1 0 (upto s (fixS s a 0 I.k).2.1) ∧ Below w.heap.size w1 w') := by
          show _ → _
          rw [show fixS s a 0 I.k = fixQ s a I.k by unfold fixS; rw [if_pos rfl]]
          intro h
          obtain ⟨q, e0, e1, e2, e3⟩ := back_fix s a I.k h
          refine ⟨e2, e3, fun w1 hf => ?_⟩
          have := hf.w2 _ I.k q e0 (by rw [upto_len s a hle0]; omega)
          rw [show upto s a ++ q.data.toList = upto s (fixQ s a I.k).2.1 from e1.symm] at this
          exact this
        have hk1 : (I.kd == 2) = true := by simpa using hkd
        have hne : ∀ j : Int, j ≠ 2 → (I.kd == j) = false := fun j hj => by rw [hkd]; simpa using fun e => hj e.symm
        have hk_1 := hne 1 (by decide)
        have hk_3 := hne 3 (by decide)
        have hk_4 := hne 4 (by decide)
        have hk_5 := hne 5 (by decide)
        clear hne hkd hok hN
        generalize (fixS s a 0 I.k).1 = V at *
        generalize (fixS s a 0 I.k).2.1 = A at *
        generalize (fixS s a 0 I.k).2.2 = G at *
        go_wp2_with fail
        refine HFF.out.at.mono ?_
        rintro e w5 ⟨rfl, rfl⟩
        have hA := HFF.out.alloc
        have HG6 : Hid (Fg w.heap.size (w5.alloc (.cells #[.int .u64 0, .int .u64 0] 34)) bw (bw + 1) w5.heap.size s a 0 (upto s a) 0) := hA.1
        have HB6 : Hid (Below w.heap.size w (w5.alloc (.cells #[.int .u64 0, .int .u64 0] 34))) := HBB.out.trans hA.2
        clear hA
        obtain ⟨d0, d1, d2, d3⟩ := HC.out _ HB6.out
        go_wp2_with fail
        generalize (w5.alloc (.cells #[.int .u64 0, .int .u64 0] 34)) = w6 at *
        generalize w5.heap.size = g at *
        clear d0 d1 d2 d3 c0 c1 c2 c3 HFF HBB
        refine (CR.out _ _ _ HG6.out).mono ?_
        rintro e w7 ⟨rfl, hG7, hB7⟩
        have HG7 : Hid (Fg w.heap.size w7 bw (bw + 1) g s A G (upto s a) 0) := hG7
        have HB7 : Hid (Below w.heap.size w w7) := HB6.out.trans hB7
        clear hG7 hB7 HG6 HB6 CR
        go_wp2_with fail
        refine HG7.out.fault.mono ?_
        rintro e w8 ⟨rfl, hG8, hB8⟩
        have HG8 : Hid (Fg w.heap.size w8 bw (bw + 1) g s A G (upto s a) 0) := hG8
        have HB8 : Hid (Below w.heap.size w w8) := HB7.out.trans hB8
        clear hG8 hB8 HG7 HB7
        by_cases hG0 : G = 0
        · subst hG0
          rw [show faultAt A 0 = 0 by unfold faultAt; rw [if_pos rfl]]
          obtain ⟨hle1, hle2, hCW⟩ := HOK.out rfl
          obtain ⟨d0, d1, d2, d3⟩ := HC.out _ HB8.out
          have HFo : Hid (Fo w.heap.size w8 bw (bw + 1) s A 0 (upto s a)) := HG8.out.fo
          have CW : Hid (Calls Try.prog 27 #[.pointer (some ⟨bw, 0, none⟩), .int .u64 V, .int .i64 I.k] w8 fun e w' => e = .returned (.tuple #[]) ∧ Fo w.heap.size w' bw (bw + 1) s A 0 (upto s A) ∧ Below w.heap.size w8 w') := hCW w8 HFo.out
          clear hCW HOK HER HG8 HFo
          go_wp2_with fail
          refine CW.out.mono ?_
          rintro e w9 ⟨rfl, hF9, hB9⟩
          have HF9 : Hid (Fo w.heap.size w9 bw (bw + 1) s A 0 (upto s A)) := hF9
          have HB9 : Hid (Below w.heap.size w w9) := HB8.out.trans hB9
          clear hF9 hB9 CW HB8 d0 d1 d2 d3
          have hnl : ¬ (A : Int) < (a : Int) := by have := hle1; omega
          have hnm : ¬ (s.size : Int) < (A : Int) := by have := hle2; omega
          have hln : (upto s A).length = A := upto_len s A hle2
          go_wp2_with fail
          refine HF9.out.at.mono ?_
          rintro e w10 ⟨rfl, rfl⟩
          go_wp2_with fail
          refine HF9.out.at.mono ?_
          rintro e w11 ⟨rfl, rfl⟩
          go_wp2_with fail
          refine HF9.out.len.mono ?_
          rintro e w12 ⟨rfl, rfl⟩
          rw [hln]
          go_wp2_with fail
          refine HF9.out.at.mono ?_
          rintro e w13 ⟨rfl, rfl⟩
          go_wp2
          exact ⟨⟨i + 1, rfl, by omega, A, HF9.out, HB9.out⟩, by simp only [intOf]; omega⟩
        · obtain ⟨rfl, hAa⟩ := HER.out hG0
          obtain rfl : a = A := hAa.symm
          clear HER HOK
          have hG' : (G == 0) = false := by simpa using hG0
          rw [faultAt_err _ hG0]
          have HOT : Hid (Calls Try.prog 15 #[.pointer (some ⟨bw, 0, none⟩)] w8 fun e w' => e = .returned (.tuple #[.string (s.extract 0 a), .int .i64 0]) ∧ Fg w.heap.size w' bw (bw + 1) g s a G (upto s a) 0 ∧ Below w.heap.size w8 w') := by
            have := HG8.out.out; rw [upto_arr] at this; exact this
          go_wp2_with fail
          refine HOT.out.mono ?_
          rintro e w9 ⟨rfl, hG9, hB9⟩
          have g0 : w9.cell? ⟨g, 0, none⟩ = some (.int .u64 0) := hG9.cells.1
          have g1 : w9.cell? ⟨g, 1, none⟩ = some (.int .u64 0) := hG9.cells.2.1
          have HG9 : Hid (Fg w.heap.size w9 bw (bw + 1) g s a G (upto s a) 0) := hG9
          have HB9 : Hid (Below w.heap.size w w9) := HB8.out.trans hB9
          clear hG9 hB9 HOT HG8 HB8
          go_wp2_with fail
          refine HG9.out.at.mono ?_
          rintro e w10 ⟨rfl, rfl⟩
          go_wp2_with fail
          refine (HG9.out.end hsz).mono ?_
          rintro e w11 ⟨rfl, hB11⟩
          rw [endR_err _ _ hG0]
          have HB11 : Hid (Below w.heap.size w w11) := HB9.out.trans hB11
          clear hB11
          go_wp2
          go_ret
          exact ⟨by simp, HB11.out⟩
      have hn2 : (I.kd == 2) = false := by simpa using hkd
      clear hkd
      by_cases hkd : I.kd = 3
      · have CR : Hid (∀ (w1 : World) (g x : Nat), Fg w.heap.size w1 bw (bw + 1) g s a 0 (upto s a) x → Calls Try.prog 23 #[.pointer (some ⟨bw + 1, 0, none⟩), .int .i64 I.k] w1 fun e w' => e = .returned (.string (textS s a 0 I.k).1) ∧ Fg w.heap.size w' bw (bw + 1) g s (textS s a 0 I.k).2.1 (textS s a 0 I.k).2.2 (upto s a) x ∧ Below w.heap.size w1 w') := fun w1 g x h => h.r3 hsz I.k hok.2.2.2
        have HER : Hid ((textS s a 0 I.k).2.2 ≠ 0 → (textS s a 0 I.k).1 = ⟨#[]⟩ ∧ (textS s a 0 I.k).2.1 = a) := by
          show _ → _
          rw [show textS s a 0 I.k = textQ s a I.k by unfold textS; rw [if_pos rfl]]
          intro h; exact none_text s a I.k h
        have HOK : Hid ((textS s a 0 I.k).2.2 = 0 → a ≤ (textS s a 0 I.k).2.1 ∧ (textS s a 0 I.k).2.1 ≤ s.size ∧ ∀ w1 : World, Fo w.heap.size w1 bw (bw + 1) s (textS s a 0 I.k).2.1 0 (upto s a) → Calls Try.prog 28 #[.pointer (some ⟨bw, 0, none⟩), .string (textS s a 0 I.k).1] w1 fun e w' => e = .returned (.tuple #[]) ∧ Fo w.heap.size w' bw (bw + 1) s (textS s a 0 I.k).2.1 0 (upto s (textS s a 0 I.k).2.1) ∧ Below w.heap.size w1 w') := by
          show _ → _
          rw [show textS s a 0 I.k = textQ s a I.k by unfold textS; rw [if_pos rfl]]
          intro h
          obtain ⟨e1, e2, e3, e4⟩ := back_text s a I.k h
          refine ⟨e2, e3, fun w1 hf => ?_⟩
          have := hf.w3 (textQ s a I.k).1 (by rw [upto_len s a hle0]; omega)
          rw [show upto s a ++ (vb (textQ s a I.k).1.size ++ (textQ s a I.k).1.data.toList) = upto s (textQ s a I.k).2.1 from e1.symm] at this
          exact this
        have hk1 : (I.kd == 3) = true := by simpa using hkd
        have hne : ∀ j : Int, j ≠ 3 → (I.kd == j) = false := fun j hj => by rw [hkd]; simpa using fun e => hj e.symm
        have hk_1 := hne 1 (by decide)
        have hk_2 := hne 2 (by decide)
        have hk_4 := hne 4 (by decide)
        have hk_5 := hne 5 (by decide)
        clear hne hkd hok hN
        generalize (textS s a 0 I.k).1 = V at *
        generalize (textS s a 0 I.k).2.1 = A at *
        generalize (textS s a 0 I.k).2.2 = G at *
        go_wp2_with fail
        refine HFF.out.at.mono ?_
        rintro e w5 ⟨rfl, rfl⟩
        have hA := HFF.out.alloc
        have HG6 : Hid (Fg w.heap.size (w5.alloc (.cells #[.int .u64 0, .int .u64 0] 34)) bw (bw + 1) w5.heap.size s a 0 (upto s a) 0) := hA.1
        have HB6 : Hid (Below w.heap.size w (w5.alloc (.cells #[.int .u64 0, .int .u64 0] 34))) := HBB.out.trans hA.2
        clear hA
        obtain ⟨d0, d1, d2, d3⟩ := HC.out _ HB6.out
        go_wp2_with fail
        generalize (w5.alloc (.cells #[.int .u64 0, .int .u64 0] 34)) = w6 at *
        generalize w5.heap.size = g at *
        clear d0 d1 d2 d3 c0 c1 c2 c3 HFF HBB
        refine (CR.out _ _ _ HG6.out).mono ?_
        rintro e w7 ⟨rfl, hG7, hB7⟩
        have HG7 : Hid (Fg w.heap.size w7 bw (bw + 1) g s A G (upto s a) 0) := hG7
        have HB7 : Hid (Below w.heap.size w w7) := HB6.out.trans hB7
        clear hG7 hB7 HG6 HB6 CR
        go_wp2_with fail
        refine HG7.out.fault.mono ?_
        rintro e w8 ⟨rfl, hG8, hB8⟩
        have HG8 : Hid (Fg w.heap.size w8 bw (bw + 1) g s A G (upto s a) 0) := hG8
        have HB8 : Hid (Below w.heap.size w w8) := HB7.out.trans hB8
        clear hG8 hB8 HG7 HB7
        by_cases hG0 : G = 0
        · subst hG0
          rw [show faultAt A 0 = 0 by unfold faultAt; rw [if_pos rfl]]
          obtain ⟨hle1, hle2, hCW⟩ := HOK.out rfl
          obtain ⟨d0, d1, d2, d3⟩ := HC.out _ HB8.out
          have HFo : Hid (Fo w.heap.size w8 bw (bw + 1) s A 0 (upto s a)) := HG8.out.fo
          have CW : Hid (Calls Try.prog 28 #[.pointer (some ⟨bw, 0, none⟩), .string V] w8 fun e w' => e = .returned (.tuple #[]) ∧ Fo w.heap.size w' bw (bw + 1) s A 0 (upto s A) ∧ Below w.heap.size w8 w') := hCW w8 HFo.out
          clear hCW HOK HER HG8 HFo
          go_wp2_with fail
          refine CW.out.mono ?_
          rintro e w9 ⟨rfl, hF9, hB9⟩
          have HF9 : Hid (Fo w.heap.size w9 bw (bw + 1) s A 0 (upto s A)) := hF9
          have HB9 : Hid (Below w.heap.size w w9) := HB8.out.trans hB9
          clear hF9 hB9 CW HB8 d0 d1 d2 d3
          have hnl : ¬ (A : Int) < (a : Int) := by have := hle1; omega
          have hnm : ¬ (s.size : Int) < (A : Int) := by have := hle2; omega
          have hln : (upto s A).length = A := upto_len s A hle2
          go_wp2_with fail
          refine HF9.out.at.mono ?_
          rintro e w10 ⟨rfl, rfl⟩
          go_wp2_with fail
          refine HF9.out.at.mono ?_
          rintro e w11 ⟨rfl, rfl⟩
          go_wp2_with fail
          refine HF9.out.len.mono ?_
          rintro e w12 ⟨rfl, rfl⟩
          rw [hln]
          go_wp2_with fail
          refine HF9.out.at.mono ?_
          rintro e w13 ⟨rfl, rfl⟩
          go_wp2
          exact ⟨⟨i + 1, rfl, by omega, A, HF9.out, HB9.out⟩, by simp only [intOf]; omega⟩
        · obtain ⟨rfl, hAa⟩ := HER.out hG0
          obtain rfl : a = A := hAa.symm
          clear HER HOK
          have hG' : (G == 0) = false := by simpa using hG0
          rw [faultAt_err _ hG0]
          have HOT : Hid (Calls Try.prog 15 #[.pointer (some ⟨bw, 0, none⟩)] w8 fun e w' => e = .returned (.tuple #[.string (s.extract 0 a), .int .i64 0]) ∧ Fg w.heap.size w' bw (bw + 1) g s a G (upto s a) 0 ∧ Below w.heap.size w8 w') := by
            have := HG8.out.out; rw [upto_arr] at this; exact this
          go_wp2_with fail
          refine HOT.out.mono ?_
          rintro e w9 ⟨rfl, hG9, hB9⟩
          have g0 : w9.cell? ⟨g, 0, none⟩ = some (.int .u64 0) := hG9.cells.1
          have g1 : w9.cell? ⟨g, 1, none⟩ = some (.int .u64 0) := hG9.cells.2.1
          have HG9 : Hid (Fg w.heap.size w9 bw (bw + 1) g s a G (upto s a) 0) := hG9
          have HB9 : Hid (Below w.heap.size w w9) := HB8.out.trans hB9
          clear hG9 hB9 HOT HG8 HB8
          go_wp2_with fail
          refine HG9.out.at.mono ?_
          rintro e w10 ⟨rfl, rfl⟩
          go_wp2_with fail
          refine (HG9.out.end hsz).mono ?_
          rintro e w11 ⟨rfl, hB11⟩
          rw [endR_err _ _ hG0]
          have HB11 : Hid (Below w.heap.size w w11) := HB9.out.trans hB11
          clear hB11
          go_wp2
          go_ret
          exact ⟨by simp, HB11.out⟩
      have hn3 : (I.kd == 3) = false := by simpa using hkd
      clear hkd
      by_cases hkd : I.kd = 4
      · have CR : Hid (∀ (w1 : World) (g x : Nat), Fg w.heap.size w1 bw (bw + 1) g s a 0 (upto s a) x → Calls Try.prog 24 #[.pointer (some ⟨bw + 1, 0, none⟩), .int .i64 I.k] w1 fun e w' => e = .returned (.agg #[.int .u64 (hiOf (bitsS s a 0 I.k).1), .int .u64 (loOf (bitsS s a 0 I.k).1)]) ∧ Fg w.heap.size w' bw (bw + 1) g s (bitsS s a 0 I.k).2.1 (bitsS s a 0 I.k).2.2 (upto s a) x ∧ Below w.heap.size w1 w') := fun w1 g x h => h.r4 hsz I.k
        have HER : Hid ((bitsS s a 0 I.k).2.2 ≠ 0 → (bitsS s a 0 I.k).1 = 0 ∧ (bitsS s a 0 I.k).2.1 = a) := by
          show _ → _
          rw [show bitsS s a 0 I.k = bitsQ s a I.k by unfold bitsS; rw [if_pos rfl]]
          intro h; exact none_bits s a I.k h
        have HOK : Hid ((bitsS s a 0 I.k).2.2 = 0 → a ≤ (bitsS s a 0 I.k).2.1 ∧ (bitsS s a 0 I.k).2.1 ≤ s.size ∧ ∀ (w1 : World) (g x : Nat), Fg w.heap.size w1 bw (bw + 1) g s (bitsS s a 0 I.k).2.1 0 (upto s a) x → Calls Try.prog 29 #[.pointer (some ⟨bw, 0, none⟩), .agg #[.int .u64 (hiOf (bitsS s a 0 I.k).1), .int .u64 (loOf (bitsS s a 0 I.k).1)], .int .i64 I.k] w1 fun e w' => e = .returned (.tuple #[]) ∧ (Fo w.heap.size w' bw (bw + 1) s (bitsS s a 0 I.k).2.1 0 (upto s (bitsS s a 0 I.k).2.1) ∧ Below w.heap.size w1 w') ∧ w'.cell? ⟨g, 0, none⟩ = some (.int .u64 (hiOf x)) ∧ w'.cell? ⟨g, 1, none⟩ = some (.int .u64 (loOf x))) := by
          show _ → _
          rw [show bitsS s a 0 I.k = bitsQ s a I.k by unfold bitsS; rw [if_pos rfl]]
          intro h
          obtain ⟨q, e0, e1, e2, e3, e4⟩ := back_bits s a I.k h
          refine ⟨e2, e3, fun w1 g x hf => ?_⟩
          have := hf.w4 _ e4 I.k q e0 (by rw [upto_len s a hle0]; omega)
          rw [show upto s a ++ q.data.toList = upto s (bitsQ s a I.k).2.1 from e1.symm] at this
          exact this
        have hk1 : (I.kd == 4) = true := by simpa using hkd
        have hne : ∀ j : Int, j ≠ 4 → (I.kd == j) = false := fun j hj => by rw [hkd]; simpa using fun e => hj e.symm
        have hk_1 := hne 1 (by decide)
        have hk_2 := hne 2 (by decide)
        have hk_3 := hne 3 (by decide)
        have hk_5 := hne 5 (by decide)
        clear hne hkd hok hN
        generalize (bitsS s a 0 I.k).1 = V at *
        generalize (bitsS s a 0 I.k).2.1 = A at *
        generalize (bitsS s a 0 I.k).2.2 = G at *
        go_wp2_with fail
        refine HFF.out.at.mono ?_
        rintro e w5 ⟨rfl, rfl⟩
        have hA := HFF.out.alloc
        have HG6 : Hid (Fg w.heap.size (w5.alloc (.cells #[.int .u64 0, .int .u64 0] 34)) bw (bw + 1) w5.heap.size s a 0 (upto s a) 0) := hA.1
        have HB6 : Hid (Below w.heap.size w (w5.alloc (.cells #[.int .u64 0, .int .u64 0] 34))) := HBB.out.trans hA.2
        clear hA
        obtain ⟨d0, d1, d2, d3⟩ := HC.out _ HB6.out
        go_wp2_with fail
        generalize (w5.alloc (.cells #[.int .u64 0, .int .u64 0] 34)) = w6 at *
        generalize w5.heap.size = g at *
        clear d0 d1 d2 d3 c0 c1 c2 c3 HFF HBB
        refine (CR.out _ _ _ HG6.out).mono ?_
        rintro e w7 ⟨rfl, hG7, hB7⟩
        have HB7' : Hid (Below w.heap.size w w7) := HB6.out.trans hB7
        obtain ⟨y0, y1, y2, y3⟩ := hG7.cells
        obtain ⟨hGs, hBs⟩ := hG7.set V
        have HG7 : Hid (Fg w.heap.size ((w7.setCell ⟨g, 0, none⟩ (.int .u64 (hiOf V))).setCell ⟨g, 1, none⟩ (.int .u64 (loOf V))) bw (bw + 1) g s A G (upto s a) V) := hGs
        have HB7 : Hid (Below w.heap.size w ((w7.setCell ⟨g, 0, none⟩ (.int .u64 (hiOf V))).setCell ⟨g, 1, none⟩ (.int .u64 (loOf V)))) := HB7'.out.trans hBs
        clear hG7 hB7 HG6 HB6 CR HB7' hGs hBs
        go_wp2_with fail
        generalize (w7.setCell ⟨g, 0, none⟩ (.int .u64 (hiOf V))).setCell ⟨g, 1, none⟩ (.int .u64 (loOf V)) = w7' at *
        refine HG7.out.fault.mono ?_
        rintro e w8 ⟨rfl, hG8, hB8⟩
        have HG8 : Hid (Fg w.heap.size w8 bw (bw + 1) g s A G (upto s a) V) := hG8
        have HB8 : Hid (Below w.heap.size w w8) := HB7.out.trans hB8
        clear hG8 hB8 HG7 HB7
        by_cases hG0 : G = 0
        · subst hG0
          rw [show faultAt A 0 = 0 by unfold faultAt; rw [if_pos rfl]]
          obtain ⟨hle1, hle2, hCW⟩ := HOK.out rfl
          obtain ⟨d0, d1, d2, d3⟩ := HC.out _ HB8.out
          obtain ⟨g0, g1, g2, g3⟩ := HG8.out.cells
          have CW : Hid (Calls Try.prog 29 #[.pointer (some ⟨bw, 0, none⟩), .agg #[.int .u64 (hiOf V), .int .u64 (loOf V)], .int .i64 I.k] w8.drew fun e w' => e = .returned (.tuple #[]) ∧ Fo w.heap.size w' bw (bw + 1) s A 0 (upto s A) ∧ Below w.heap.size w8 w' ∧ w'.cell? ⟨g, 0, none⟩ = some (.int .u64 (hiOf V)) ∧ w'.cell? ⟨g, 1, none⟩ = some (.int .u64 (loOf V)) ∧ w'.cell? ⟨b0, off + i * 4 + 3, none⟩ = some (.int .i64 I.k)) := by
            refine (hCW w8.drew g V HG8.out).mono ?_
            rintro e w' ⟨rfl, ⟨q1, q2⟩, q4, q5⟩
            have q3 : Below w.heap.size w8 w' := ⟨q2.os, q2.tape, q2.output, q2.size, q2.block⟩
            exact ⟨rfl, q1, q3, q4, q5, (q3.cell hb).trans d3⟩
          clear hCW HOK HER HG8
          go_wp2
          go_region_held3 (fun w' => w'.cell? ⟨g, 0, none⟩ = some (.int .u64 (hiOf V)) ∧ w'.cell? ⟨g, 1, none⟩ = some (.int .u64 (loOf V)) ∧ w'.cell? ⟨b0, off + i * 4 + 3, none⟩ = some (.int .i64 I.k))
            (first | go_keep | exact hkp)
            (first | (go_at_call 29; refine CW.out.mono ?_; rintro e w9 ⟨rfl, hF9, hB9, hkp⟩))
          clear hkp
          have HF9 : Hid (Fo w.heap.size w9 bw (bw + 1) s A 0 (upto s A)) := hF9
          have HB9 : Hid (Below w.heap.size w w9) := HB8.out.trans hB9
          clear hF9 hB9 CW HB8 d0 d1 d2 d3
          have hnl : ¬ (A : Int) < (a : Int) := by have := hle1; omega
          have hnm : ¬ (s.size : Int) < (A : Int) := by have := hle2; omega
          have hln : (upto s A).length = A := upto_len s A hle2
          go_wp2_with fail
          refine HF9.out.at.mono ?_
          rintro e w10 ⟨rfl, rfl⟩
          go_wp2_with fail
          refine HF9.out.at.mono ?_
          rintro e w11 ⟨rfl, rfl⟩
          go_wp2_with fail
          refine HF9.out.len.mono ?_
          rintro e w12 ⟨rfl, rfl⟩
          rw [hln]
          go_wp2_with fail
          refine HF9.out.at.mono ?_
          rintro e w13 ⟨rfl, rfl⟩
          go_wp2
          exact ⟨⟨i + 1, rfl, by omega, A, HF9.out, HB9.out⟩, by simp only [intOf]; omega⟩
        · obtain ⟨rfl, hAa⟩ := HER.out hG0
          obtain rfl : a = A := hAa.symm
          clear HER HOK
          have hG' : (G == 0) = false := by simpa using hG0
          rw [faultAt_err _ hG0]
          have HOT : Hid (Calls Try.prog 15 #[.pointer (some ⟨bw, 0, none⟩)] w8 fun e w' => e = .returned (.tuple #[.string (s.extract 0 a), .int .i64 0]) ∧ Fg w.heap.size w' bw (bw + 1) g s a G (upto s a) 0 ∧ Below w.heap.size w8 w') := by
            have := HG8.out.out; rw [upto_arr] at this; exact this
          go_wp2_with fail
          refine HOT.out.mono ?_
          rintro e w9 ⟨rfl, hG9, hB9⟩
          have g0 : w9.cell? ⟨g, 0, none⟩ = some (.int .u64 0) := hG9.cells.1
          have g1 : w9.cell? ⟨g, 1, none⟩ = some (.int .u64 0) := hG9.cells.2.1
          have HG9 : Hid (Fg w.heap.size w9 bw (bw + 1) g s a G (upto s a) 0) := hG9
          have HB9 : Hid (Below w.heap.size w w9) := HB8.out.trans hB9
          clear hG9 hB9 HOT HG8 HB8
          go_wp2_with fail
          refine HG9.out.at.mono ?_
          rintro e w10 ⟨rfl, rfl⟩
          go_wp2_with fail
          refine (HG9.out.end hsz).mono ?_
          rintro e w11 ⟨rfl, hB11⟩
          rw [endR_err _ _ hG0]
          have HB11 : Hid (Below w.heap.size w w11) := HB9.out.trans hB11
          clear hB11
          go_wp2
          go_ret
          exact ⟨by simp, HB11.out⟩
      have hn4 : (I.kd == 4) = false := by simpa using hkd
      clear hkd
      by_cases hkd : I.kd = 5
      · have CR : Hid (∀ (w1 : World) (g x : Nat), Fg w.heap.size w1 bw (bw + 1) g s a 0 (upto s a) x → Calls Try.prog 25 #[.pointer (some ⟨bw + 1, 0, none⟩), .int .i64 I.k] w1 fun e w' => e = .returned (.string (rawS s a 0 I.k).1) ∧ Fg w.heap.size w' bw (bw + 1) g s (rawS s a 0 I.k).2.1 (rawS s a 0 I.k).2.2 (upto s a) x ∧ Below w.heap.size w1 w') := fun w1 g x h => h.r5 hsz I.k
        have HER : Hid ((rawS s a 0 I.k).2.2 ≠ 0 → (rawS s a 0 I.k).1 = ⟨#[]⟩ ∧ (rawS s a 0 I.k).2.1 = a) := by
          show _ → _
          rw [show rawS s a 0 I.k = rawR s a I.k by unfold rawS; rw [if_pos rfl]]
          intro h; exact none_raw s a I.k h
        have HOK : Hid ((rawS s a 0 I.k).2.2 = 0 → a ≤ (rawS s a 0 I.k).2.1 ∧ (rawS s a 0 I.k).2.1 ≤ s.size ∧ ∀ w1 : World, Fo w.heap.size w1 bw (bw + 1) s (rawS s a 0 I.k).2.1 0 (upto s a) → Calls Try.prog 30 #[.pointer (some ⟨bw, 0, none⟩), .string (rawS s a 0 I.k).1] w1 fun e w' => e = .returned (.tuple #[]) ∧ Fo w.heap.size w' bw (bw + 1) s (rawS s a 0 I.k).2.1 0 (upto s (rawS s a 0 I.k).2.1) ∧ Below w.heap.size w1 w') := by
          show _ → _
          rw [show rawS s a 0 I.k = rawR s a I.k by unfold rawS; rw [if_pos rfl]]
          intro h
          obtain ⟨e1, e2, e3, e4⟩ := back_raw s a I.k h
          refine ⟨e2, e3, fun w1 hf => ?_⟩
          have := hf.w5 (rawR s a I.k).1 (by rw [upto_len s a hle0]; omega)
          rw [show upto s a ++ (rawR s a I.k).1.data.toList = upto s (rawR s a I.k).2.1 from e1.symm] at this
          exact this
        have hk1 : (I.kd == 5) = true := by simpa using hkd
        have hne : ∀ j : Int, j ≠ 5 → (I.kd == j) = false := fun j hj => by rw [hkd]; simpa using fun e => hj e.symm
        have hk_1 := hne 1 (by decide)
        have hk_2 := hne 2 (by decide)
        have hk_3 := hne 3 (by decide)
        have hk_4 := hne 4 (by decide)
        clear hne hkd hok hN
        generalize (rawS s a 0 I.k).1 = V at *
        generalize (rawS s a 0 I.k).2.1 = A at *
        generalize (rawS s a 0 I.k).2.2 = G at *
        go_wp2_with fail
        refine HFF.out.at.mono ?_
        rintro e w5 ⟨rfl, rfl⟩
        have hA := HFF.out.alloc
        have HG6 : Hid (Fg w.heap.size (w5.alloc (.cells #[.int .u64 0, .int .u64 0] 34)) bw (bw + 1) w5.heap.size s a 0 (upto s a) 0) := hA.1
        have HB6 : Hid (Below w.heap.size w (w5.alloc (.cells #[.int .u64 0, .int .u64 0] 34))) := HBB.out.trans hA.2
        clear hA
        obtain ⟨d0, d1, d2, d3⟩ := HC.out _ HB6.out
        go_wp2_with fail
        generalize (w5.alloc (.cells #[.int .u64 0, .int .u64 0] 34)) = w6 at *
        generalize w5.heap.size = g at *
        clear d0 d1 d2 d3 c0 c1 c2 c3 HFF HBB
        refine (CR.out _ _ _ HG6.out).mono ?_
        rintro e w7 ⟨rfl, hG7, hB7⟩
        have HG7 : Hid (Fg w.heap.size w7 bw (bw + 1) g s A G (upto s a) 0) := hG7
        have HB7 : Hid (Below w.heap.size w w7) := HB6.out.trans hB7
        clear hG7 hB7 HG6 HB6 CR
        go_wp2_with fail
        refine HG7.out.fault.mono ?_
        rintro e w8 ⟨rfl, hG8, hB8⟩
        have HG8 : Hid (Fg w.heap.size w8 bw (bw + 1) g s A G (upto s a) 0) := hG8
        have HB8 : Hid (Below w.heap.size w w8) := HB7.out.trans hB8
        clear hG8 hB8 HG7 HB7
        by_cases hG0 : G = 0
        · subst hG0
          rw [show faultAt A 0 = 0 by unfold faultAt; rw [if_pos rfl]]
          obtain ⟨hle1, hle2, hCW⟩ := HOK.out rfl
          obtain ⟨d0, d1, d2, d3⟩ := HC.out _ HB8.out
          have HFo : Hid (Fo w.heap.size w8 bw (bw + 1) s A 0 (upto s a)) := HG8.out.fo
          have CW : Hid (Calls Try.prog 30 #[.pointer (some ⟨bw, 0, none⟩), .string V] w8 fun e w' => e = .returned (.tuple #[]) ∧ Fo w.heap.size w' bw (bw + 1) s A 0 (upto s A) ∧ Below w.heap.size w8 w') := hCW w8 HFo.out
          clear hCW HOK HER HG8 HFo
          go_wp2_with fail
          refine CW.out.mono ?_
          rintro e w9 ⟨rfl, hF9, hB9⟩
          have HF9 : Hid (Fo w.heap.size w9 bw (bw + 1) s A 0 (upto s A)) := hF9
          have HB9 : Hid (Below w.heap.size w w9) := HB8.out.trans hB9
          clear hF9 hB9 CW HB8 d0 d1 d2 d3
          have hnl : ¬ (A : Int) < (a : Int) := by have := hle1; omega
          have hnm : ¬ (s.size : Int) < (A : Int) := by have := hle2; omega
          have hln : (upto s A).length = A := upto_len s A hle2
          go_wp2_with fail
          refine HF9.out.at.mono ?_
          rintro e w10 ⟨rfl, rfl⟩
          go_wp2_with fail
          refine HF9.out.at.mono ?_
          rintro e w11 ⟨rfl, rfl⟩
          go_wp2_with fail
          refine HF9.out.len.mono ?_
          rintro e w12 ⟨rfl, rfl⟩
          rw [hln]
          go_wp2_with fail
          refine HF9.out.at.mono ?_
          rintro e w13 ⟨rfl, rfl⟩
          go_wp2
          exact ⟨⟨i + 1, rfl, by omega, A, HF9.out, HB9.out⟩, by simp only [intOf]; omega⟩
        · obtain ⟨rfl, hAa⟩ := HER.out hG0
          obtain rfl : a = A := hAa.symm
          clear HER HOK
          have hG' : (G == 0) = false := by simpa using hG0
          rw [faultAt_err _ hG0]
          have HOT : Hid (Calls Try.prog 15 #[.pointer (some ⟨bw, 0, none⟩)] w8 fun e w' => e = .returned (.tuple #[.string (s.extract 0 a), .int .i64 0]) ∧ Fg w.heap.size w' bw (bw + 1) g s a G (upto s a) 0 ∧ Below w.heap.size w8 w') := by
            have := HG8.out.out; rw [upto_arr] at this; exact this
          go_wp2_with fail
          refine HOT.out.mono ?_
          rintro e w9 ⟨rfl, hG9, hB9⟩
          have g0 : w9.cell? ⟨g, 0, none⟩ = some (.int .u64 0) := hG9.cells.1
          have g1 : w9.cell? ⟨g, 1, none⟩ = some (.int .u64 0) := hG9.cells.2.1
          have HG9 : Hid (Fg w.heap.size w9 bw (bw + 1) g s a G (upto s a) 0) := hG9
          have HB9 : Hid (Below w.heap.size w w9) := HB8.out.trans hB9
          clear hG9 hB9 HOT HG8 HB8
          go_wp2_with fail
          refine HG9.out.at.mono ?_
          rintro e w10 ⟨rfl, rfl⟩
          go_wp2_with fail
          refine (HG9.out.end hsz).mono ?_
          rintro e w11 ⟨rfl, hB11⟩
          rw [endR_err _ _ hG0]
          have HB11 : Hid (Below w.heap.size w w11) := HB9.out.trans hB11
          clear hB11
          go_wp2
          go_ret
          exact ⟨by simp, HB11.out⟩
      have hn5 : (I.kd == 5) = false := by simpa using hkd
      clear hkd
      go_wp2_with fail
      refine HFF.out.at.mono ?_
      rintro e w5 ⟨rfl, rfl⟩
      have hA := HFF.out.alloc
      have HG6 : Hid (Fg w.heap.size (w5.alloc (.cells #[.int .u64 0, .int .u64 0] 34)) bw (bw + 1) w5.heap.size s a 0 (upto s a) 0) := hA.1
      have HB6 : Hid (Below w.heap.size w (w5.alloc (.cells #[.int .u64 0, .int .u64 0] 34))) := HBB.out.trans hA.2
      clear hA
      obtain ⟨d0, d1, d2, d3⟩ := HC.out _ HB6.out
      go_wp2_with fail
      generalize (w5.alloc (.cells #[.int .u64 0, .int .u64 0] 34)) = w6 at *
      generalize w5.heap.size = g at *
      clear d0 d1 d2 d3 c0 c1 c2 c3 HFF HBB
      refine HG6.out.fault.mono ?_
      rintro e w8 ⟨rfl, hG8, hB8⟩
      rw [show faultAt a 0 = 0 by unfold faultAt; rw [if_pos rfl]]
      have HF9 : Hid (Fo w.heap.size w8 bw (bw + 1) s a 0 (upto s a)) := hG8.fo
      have HB9 : Hid (Below w.heap.size w w8) := HB6.out.trans hB8
      obtain ⟨d0, d1, d2, d3⟩ := HC.out _ HB9.out
      clear hG8 hB8 HG6 HB6
      have hle1 : a ≤ a := Nat.le_refl _
      have hle2 := hle0
      have hnl : ¬ (a : Int) < (a : Int) := by have := hle1; omega
      have hnm : ¬ (s.size : Int) < (a : Int) := by have := hle2; omega
      have hln : (upto s a).length = a := upto_len s a hle2
      go_wp2_with fail
      refine HF9.out.at.mono ?_
      rintro e w10 ⟨rfl, rfl⟩
      go_wp2_with fail
      refine HF9.out.at.mono ?_
      rintro e w11 ⟨rfl, rfl⟩
      go_wp2_with fail
      refine HF9.out.len.mono ?_
      rintro e w12 ⟨rfl, rfl⟩
      rw [hln]
      go_wp2_with fail
      refine HF9.out.at.mono ?_
      rintro e w13 ⟨rfl, rfl⟩
      go_wp2
      exact ⟨⟨i + 1, rfl, by omega, a, HF9.out, HB9.out⟩, by simp only [intOf]; omega⟩
    · obtain rfl : i = l.length := by omega
      have HBB : Hid (Below w.heap.size w wr) := hB
      have HFF : Hid (Fo w.heap.size wr bw (bw + 1) s a 0 (upto s a)) := hF
      have hle : a ≤ s.size := hF.le
      clear hF hB
      go_wp2_with fail
      have CO : Hid (Calls Try.prog 15 #[.pointer (some ⟨bw, 0, none⟩)] wr fun e w' => e = .returned (.tuple #[.string (s.extract 0 a), .int .i64 0]) ∧ Fo w.heap.size w' bw (bw + 1) s a 0 (upto s a) ∧ Below w.heap.size wr w') := by
        have := HFF.out.out; rw [upto_arr] at this; exact this
      refine CO.out.mono ?_
      rintro e w5 ⟨rfl, hF5, hB5⟩
      have HF5 : Hid (Fo w.heap.size w5 bw (bw + 1) s a 0 (upto s a)) := hF5
      have HB5 : Hid (Below w.heap.size w w5) := HBB.out.trans hB5
      clear hF5 hB5 CO HBB HFF
      go_wp2_with fail
      refine HF5.out.at.mono ?_
      rintro e w6 ⟨rfl, rfl⟩
      go_wp2_with fail
      refine (HF5.out.end hsz).mono ?_
      rintro e w7 ⟨rfl, hF7, hB7⟩
      have HF7 : Hid (Fo w.heap.size w7 bw (bw + 1) s a 0 (upto s a)) := hF7
      have HB7 : Hid (Below w.heap.size w w7) := HB5.out.trans hB7
      clear hF7 hB7 HB5 HF5
      by_cases hae : a = s.size
      · rw [show endR s a 0 = 0 by unfold endR; rw [if_neg (by omega)]]
        have hae' : ((a : Int) == (s.size : Int)) = true := by simp; omega
        go_wp2_with fail
        refine HF7.out.at.mono ?_
        rintro e w8 ⟨rfl, rfl⟩
        go_wp2
        go_ret
        exact ⟨by simp [hae], HB7.out⟩
      · rw [show endR s a 0 = 31 by unfold endR; rw [if_pos ⟨rfl, by omega⟩]]
        have hae' : ((a : Int) == (s.size : Int)) = false := by simp; omega
        go_wp2_with fail
        refine HF7.out.at.mono ?_
        rintro e w8 ⟨rfl, rfl⟩
        go_wp2
        go_ret
        exact ⟨by simp, HB7.out⟩
end Go.Proofs.Ytdpddlaedffmdaa
