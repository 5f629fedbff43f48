/- The walk of LexTokens. -/
import Derived.Test.YtlgfpjaomiomjaaGreatDoorYj
namespace Go.Proofs.YtlgfpjaomiomjaaGreatDoor
open Go.RowKit
set_option linter.unusedVariables false
set_option linter.unusedSimpArgs false

set_option maxHeartbeats 4000000 in
set_option maxRecDepth 100000 in
theorem lexTokens_any (s o : ByteArray) (hs : s.size ≤ maxLen) (ho : o.size ≤ maxLen) (w : World) (hT : Tabs w) :
    Calls Tryz.prog 3 #[.string s, .string o] w fun e w' => e = .returned (.bool true) ∧ Below w.heap.size w w' := by
  have C7 : Hid (∀ w, Tabs w → Calls Tryz.prog 7 #[.string s] w fun e w' => ∃ sv, e = .returned (.tuple #[sv, .agg (fltA (tokR s.data.toList).2)]) ∧ w'.ownsRow w.heap.size 39 6 sv (tokR s.data.toList).1.length (tcells (tokR s.data.toList).1) ∧ Below w.heap.size w w') := fun w h => tokens_any s hs w h
  have C7o : Hid (∀ w, Tabs w → Calls Tryz.prog 7 #[.string o] w fun e w' => ∃ sv, e = .returned (.tuple #[sv, .agg (fltA (tokR o.data.toList).2)]) ∧ w'.ownsRow w.heap.size 39 6 sv (tokR o.data.toList).1.length (tcells (tokR o.data.toList).1) ∧ Below w.heap.size w w') := fun w h => tokens_any o ho w h
  have C6 : Hid (∀ w, Calls Tryz.prog 6 #[.string s] w fun e w' => ∃ sv, e = .returned (.tuple #[sv, .agg (fltA (tokR s.data.toList).2)]) ∧ w'.ownsRow w.heap.size 47 6 sv (tokR s.data.toList).1.length (tcells (tokR s.data.toList).1) ∧ Below w.heap.size w w') := fun w => rtokens_any s hs w
  have hna := tok_count s.data.toList
  have hnb := tok_count o.data.toList
  have CL : Hid (Calls Tryz.prog 5 #[] w fun e w' => e = .returned (.bool true) ∧ Below w.heap.size w w') := live_any w hT
  have HT : Hid (Tabs w) := hT
  generalize tokR s.data.toList = TA at *
  generalize tokR o.data.toList = TB at *
  clear hT hs ho
  go_enter Tryz.func3, Tryz.ntmps3
  go_wp2_with fail
  refine CL.out.mono ?_
  rintro e w1 ⟨rfl, hb1⟩
  have T1 : Hid (Tabs w1) := HT.out.below hb1
  have HB1 : Hid (Below w.heap.size w w1) := hb1
  clear hb1 CL
  go_wp2_with fail
  refine (C6.out _).mono ?_
  rintro e w2 ⟨sv, rfl, hr2, hb2⟩
  obtain ⟨wad, wcap, rfl, hw6⟩ := rtok6_of_row hr2
  have hwl : ∀ k, wad.map (·.block) = some k → k < w2.heap.size := fun k e => by
    cases wad with
    | none => cases e
    | some a => exact (hr2.lt k (by simpa [Value.ownBlock] using e)).2
  have T2 : Hid (Tabs (w2.alloc (.cells (fltA TA.2) 28))) := (T1.out.below hb2).below ((Below.refl _ _).alloc (Nat.le_refl _) _)
  have HB2 : Hid (Below w.heap.size w (w2.alloc (.cells (fltA TA.2) 28))) := bst (bst HB1.out hb2 (Nat.le_refl _)) ((Below.refl _ _).alloc (Nat.le_refl _) _) (Nat.le_refl _)
  have HW2 : Hid (Tok6 (w2.alloc (.cells (fltA TA.2) 28)) wad TA.1) := hw6.below ((Below.refl _ _).alloc (Nat.le_refl _) _)
  have HWL : Hid (∀ k, wad.map (·.block) = some k → k < w2.heap.size) := hwl
  have HE2 : Hid (Blk (w2.alloc (.cells (fltA TA.2) 28)) w2.heap.size (fltA TA.2) 28) := Blk.new _ _ _
  have hbe : w.heap.size ≤ w2.heap.size := Nat.le_trans HB1.out.size hb2.size
  clear hr2 hb2 hw6 hwl T1 HB1 C6
  go_upto_region 3 with fail
  generalize hbeE : w2.heap.size = be at *
  have hsz2 : (w2.alloc (.cells (fltA TA.2) 28)).heap.size = be + 1 := by simp [hbeE]
  generalize w2.alloc (.cells (fltA TA.2) 28) = W2 at *
  go_wp2_with fail
  refine (C7.out _ T2.out).mono ?_
  rintro e w3 ⟨va, rfl, hra, hb3⟩
  rw [hsz2] at hra
  have hlb3 := hb3.size
  rw [hsz2] at hlb3
  have LA : Hid (∀ k, va.ownBlock = some k → k < w3.heap.size) := fun k e => (hra.lt k e).2
  have N3 : Hid (Below w3.heap.size w3 (w3.alloc (.cells (fltA TA.2) 28))) := (Below.refl _ _).alloc (Nat.le_refl _) _
  have T3 : Hid (Tabs (w3.alloc (.cells (fltA TA.2) 28))) := (T2.out.below hb3).below N3.out
  have HB3 : Hid (Below w.heap.size w (w3.alloc (.cells (fltA TA.2) 28))) := bst (bst HB2.out hb3 (Nat.le_refl _)) N3.out (Nat.le_refl _)
  have HW3 : Hid (Tok6 (w3.alloc (.cells (fltA TA.2) 28)) wad TA.1) := (HW2.out.below hb3).below N3.out
  have HE3 : Hid (Blk (w3.alloc (.cells (fltA TA.2) 28)) be (fltA TA.2) 28) := (HE2.out.below hb3).below N3.out
  have HF3 : Hid (Blk (w3.alloc (.cells (fltA TA.2) 28)) w3.heap.size (fltA TA.2) 28) := Blk.new _ _ _
  have RA3 : Hid ((w3.alloc (.cells (fltA TA.2) 28)).ownsRow (be + 1) 39 6 va TA.1.length (tcells TA.1)) := hra.alloc _
  clear hra hb3 N3 T2 HB2 HW2 HE2 hsz2
  go_upto_region 4 with fail
  generalize hbfE : w3.heap.size = bf at *
  have hsz3 : (w3.alloc (.cells (fltA TA.2) 28)).heap.size = bf + 1 := by simp [hbfE]
  generalize w3.alloc (.cells (fltA TA.2) 28) = W3 at *
  go_wp2_with fail
  refine (C7o.out _ T3.out).mono ?_
  rintro e w4 ⟨vb, rfl, hrb, hb4⟩
  rw [hsz3] at hrb
  have hlb4 := hb4.size
  rw [hsz3] at hlb4
  have LB : Hid (∀ k, vb.ownBlock = some k → k < w4.heap.size) := fun k e => (hrb.lt k e).2
  have N4 : Hid (Below w4.heap.size w4 (w4.alloc (.cells (fltA TB.2) 28))) := (Below.refl _ _).alloc (Nat.le_refl _) _
  have T4 : Hid (Tabs (w4.alloc (.cells (fltA TB.2) 28))) := (T3.out.below hb4).below N4.out
  have HB4 : Hid (Below w.heap.size w (w4.alloc (.cells (fltA TB.2) 28))) := bst (bst HB3.out hb4 (Nat.le_refl _)) N4.out (Nat.le_refl _)
  have HW4 : Hid (Tok6 (w4.alloc (.cells (fltA TB.2) 28)) wad TA.1) := (HW3.out.below hb4).below N4.out
  have HE4 : Hid (Blk (w4.alloc (.cells (fltA TB.2) 28)) be (fltA TA.2) 28) := (HE3.out.below hb4).below N4.out
  have HF4 : Hid (Blk (w4.alloc (.cells (fltA TB.2) 28)) bf (fltA TA.2) 28) := (HF3.out.below hb4).below N4.out
  have RA4 : Hid ((w4.alloc (.cells (fltA TB.2) 28)).ownsRow (be + 1) 39 6 va TA.1.length (tcells TA.1)) := (ownsRow_kept (S := fun _ => False) RA3.out (Kept.of_below hb4) (fun _ _ => id)).alloc _
  have RB4 : Hid ((w4.alloc (.cells (fltA TB.2) 28)).ownsRow (bf + 1) 39 6 vb TB.1.length (tcells TB.1)) := hrb.alloc _
  clear hrb hb4 N4 T3 HB3 HW3 HE3 HF3 RA3 hsz3
  go_upto_region 5 with fail
  generalize hbcE : w4.heap.size = bc at *
  have hsz4 : (w4.alloc (.cells (fltA TB.2) 28)).heap.size = bc + 1 := by simp [hbcE]
  generalize w4.alloc (.cells (fltA TB.2) 28) = W4 at *
  go_wp2_with fail
  refine (C7.out _ T4.out).mono ?_
  rintro e w5 ⟨vc, rfl, hrc, hb5⟩
  rw [hsz4] at hrc
  have hlb5 := hb5.size
  rw [hsz4] at hlb5
  have HH : Hid (Hold w (w5.alloc (.cells (fltA TA.2) 28)) TA TB wad be bf w5.heap.size (bf + 1) (bc + 1) (w5.heap.size + 1) va vb vc (tcells TA.1) (tcells TB.1) (tcells TA.1)) := by
    have n5 : Below w5.heap.size w5 (w5.alloc (.cells (fltA TA.2) 28)) := (Below.refl _ _).alloc (Nat.le_refl _) _
    exact ⟨(HW4.out.below hb5).below n5, HWL.out, (HE4.out.below hb5).below n5, (HF4.out.below hb5).below n5, Blk.new _ _ _, (ownsRow_kept (S := fun _ => False) RA4.out (Kept.of_below hb5) (fun _ _ => id)).alloc _, LA.out, (ownsRow_kept (S := fun _ => False) RB4.out (Kept.of_below hb5) (fun _ _ => id)).alloc _, fun k e => by have := LB.out k e; omega, hrc.alloc _, fun k e => (hrc.lt k e).2, ⟨hbe, by omega, by omega, by omega, by omega, by omega, by simp⟩, bst (bst HB4.out hb5 (Nat.le_refl _)) n5 (Nat.le_refl _)⟩
  have T5 : Hid (Tabs (w5.alloc (.cells (fltA TA.2) 28))) := (T4.out.below hb5).below ((Below.refl _ _).alloc (Nat.le_refl _) _)
  clear hrc hb5 T4 HB4 HW4 HE4 HF4 RA4 RB4 hsz4 LA LB HWL hlb3 hlb4 hlb5 C7o
  go_upto_region 6 with fail
  generalize w5.heap.size + 1 = Bd at *
  generalize w5.heap.size = bg at *
  generalize w5.alloc (.cells (fltA TA.2) 28) = W5 at *
  generalize bf + 1 = Bb at *
  generalize bc + 1 = Bc at *
  obtain ⟨aad, acap, rfl⟩ := ownsRow_slice HH.out.ra
  obtain ⟨bad, bcap, rfl⟩ := ownsRow_slice HH.out.rb
  obtain ⟨cad, ccap, rfl⟩ := ownsRow_slice HH.out.rc
  have CS : Hid (∀ (ad : Option Addr) (cap : Nat) (wx : World), Tok6 wx ad TA.1 → Tok6 wx wad TA.1 → Calls Tryz.prog 8 #[.slice ad TA.1.length cap, .slice wad TA.1.length wcap] wx fun e w' => e = .returned (.bool true) ∧ Below wx.heap.size wx w') := fun ad cap wx h1 h2 => sames_any TA.1 ad wad cap wcap hna wx h1 h2
  have HTA6 : Hid (Tok6 W5 aad TA.1) := by
    obtain ⟨ad, cap, e, h⟩ := tok6_of_row HH.out.ra
    injection e with e1 e2 e3
    subst e1; exact h
  go_wp2_with fail
  refine (CS.out _ _ _ HTA6.out HH.out.want).mono ?_
  rintro e w6 ⟨rfl, hb6⟩
  have H6 : Hid (Hold w w6 TA TB wad be bf bg Bb Bc Bd (.slice aad TA.1.length acap) (.slice bad TB.1.length bcap) (.slice cad TA.1.length ccap) (tcells TA.1) (tcells TB.1) (tcells TA.1)) := HH.out.below hb6
  have T6 : Hid (Tabs w6) := T5.out.below hb6
  clear hb6 HH T5 HTA6
  go_wp2
  go_loopw [15] (fun i wr => ∃ (k : Nat) (xs : List Value), k ≤ TA.1.length ∧ i = .int .i64 k ∧ Aside (Hold w wr TA TB wad be bf bg Bb Bc Bd (.slice aad TA.1.length acap) (.slice bad TB.1.length bcap) (.slice cad TA.1.length ccap) xs (tcells TB.1) (tcells TA.1) ∧ ∀ j, j < k → xs[j * 6]? = some (.int .i64 (-1)))) (fun i _ => TA.1.length - (intOf i).toNat)
  case atStart => exact ⟨0, (tcells TA.1), by omega, rfl, ⟨H6.out, fun j hj => by omega⟩⟩
  case round =>
    obtain ⟨k, xs, hk, rfl, hA⟩ := hrel
    by_cases hlt : k < TA.1.length
    · obtain ⟨g, cap, e, _⟩ := hA.out.1.ra.form (by omega)
      injection e with e1 e2 e3
      subst e1
      obtain ⟨ys, hy, hy1, hy2⟩ := hA.out.1.overA k hlt (-1)
      have HY : Hid (Hold w (overW wr g (k * 6) (-1)) TA TB wad be bf bg Bb Bc Bd (.slice (some ⟨g, 0, none⟩) TA.1.length acap) (.slice bad TB.1.length bcap) (.slice cad TA.1.length ccap) ys (tcells TB.1) (tcells TA.1) ∧ ∀ j, j < k + 1 → ys[j * 6]? = some (.int .i64 (-1))) := ⟨hy, fun j hj => by
        by_cases e : j = k
        · subst e; exact hy1
        · rw [hy2 j e]; exact hA.out.2 j (by omega)⟩
      obtain ⟨u0, _, c0⟩ := row_cells hA.out.1.ra k hlt 0 (by omega)
      obtain ⟨u1, _, c1⟩ := row_cells hA.out.1.ra k hlt 1 (by omega)
      obtain ⟨u2, _, c2⟩ := row_cells hA.out.1.ra k hlt 2 (by omega)
      obtain ⟨u3, _, c3⟩ := row_cells hA.out.1.ra k hlt 3 (by omega)
      obtain ⟨u4, _, c4⟩ := row_cells hA.out.1.ra k hlt 4 (by omega)
      obtain ⟨u5, _, c5⟩ := row_cells hA.out.1.ra k hlt 5 (by omega)
      rw [Nat.add_zero] at c0
      have f0 := hA.out.1.ra.frozenAt (k * 6)
      have f1 := hA.out.1.ra.frozenAt (k * 6 + 1)
      have f2 := hA.out.1.ra.frozenAt (k * 6 + 2)
      have f3 := hA.out.1.ra.frozenAt (k * 6 + 3)
      have f4 := hA.out.1.ra.frozenAt (k * 6 + 4)
      have f5 := hA.out.1.ra.frozenAt (k * 6 + 5)
      clear hA hy hy1 hy2 H6
      go_wp2
      exact ⟨⟨k + 1, ys, by omega, by go_num, HY.out⟩, by simp only [intOf]; omega⟩
    · have e : k = TA.1.length := by omega
      subst e
      obtain ⟨w7, hWo⟩ : ∃ w7, w7 = wr := ⟨_, rfl⟩
      subst hWo
      have H7 : Hid (Hold w w7 TA TB wad be bf bg Bb Bc Bd (.slice aad TA.1.length acap) (.slice bad TB.1.length bcap) (.slice cad TA.1.length ccap) xs (tcells TB.1) (tcells TA.1)) := hA.out.1
      have KA : Hid (∀ j, j < TA.1.length → xs[j * 6]? = some (.int .i64 (-1))) := hA.out.2
      clear hA H6
      obtain ⟨xa, hxA⟩ : ∃ x, x = xs := ⟨_, rfl⟩
      subst hxA
      go_wp2
      go_loopw [16] (fun i wr => ∃ (k : Nat) (xs : List Value), k ≤ TB.1.length ∧ i = .int .i64 k ∧ Aside (Hold w wr TA TB wad be bf bg Bb Bc Bd (.slice aad TA.1.length acap) (.slice bad TB.1.length bcap) (.slice cad TA.1.length ccap) xa xs (tcells TA.1) ∧ ∀ j, j < k → xs[j * 6]? = some (.int .i64 (-2)))) (fun i _ => TB.1.length - (intOf i).toNat)
      case atStart => exact ⟨0, (tcells TB.1), by omega, rfl, ⟨H7.out, fun j hj => by omega⟩⟩
      case round =>
        obtain ⟨k, xs, hk, rfl, hA⟩ := hrel
        by_cases hlt : k < TB.1.length
        · obtain ⟨g, cap, e, _⟩ := hA.out.1.rb.form (by omega)
          injection e with e1 e2 e3
          subst e1
          obtain ⟨ys, hy, hy1, hy2⟩ := hA.out.1.overB k hlt (-2)
          have HY : Hid (Hold w (overW wr g (k * 6) (-2)) TA TB wad be bf bg Bb Bc Bd (.slice aad TA.1.length acap) (.slice (some ⟨g, 0, none⟩) TB.1.length bcap) (.slice cad TA.1.length ccap) xa ys (tcells TA.1) ∧ ∀ j, j < k + 1 → ys[j * 6]? = some (.int .i64 (-2))) := ⟨hy, fun j hj => by
            by_cases e : j = k
            · subst e; exact hy1
            · rw [hy2 j e]; exact hA.out.2 j (by omega)⟩
          obtain ⟨u0, _, c0⟩ := row_cells hA.out.1.rb k hlt 0 (by omega)
          obtain ⟨u1, _, c1⟩ := row_cells hA.out.1.rb k hlt 1 (by omega)
          obtain ⟨u2, _, c2⟩ := row_cells hA.out.1.rb k hlt 2 (by omega)
          obtain ⟨u3, _, c3⟩ := row_cells hA.out.1.rb k hlt 3 (by omega)
          obtain ⟨u4, _, c4⟩ := row_cells hA.out.1.rb k hlt 4 (by omega)
          obtain ⟨u5, _, c5⟩ := row_cells hA.out.1.rb k hlt 5 (by omega)
          rw [Nat.add_zero] at c0
          have f0 := hA.out.1.rb.frozenAt (k * 6)
          have f1 := hA.out.1.rb.frozenAt (k * 6 + 1)
          have f2 := hA.out.1.rb.frozenAt (k * 6 + 2)
          have f3 := hA.out.1.rb.frozenAt (k * 6 + 3)
          have f4 := hA.out.1.rb.frozenAt (k * 6 + 4)
          have f5 := hA.out.1.rb.frozenAt (k * 6 + 5)
          clear hA hy hy1 hy2 H7
          go_wp2
          exact ⟨⟨k + 1, ys, by omega, by go_num, HY.out⟩, by simp only [intOf]; omega⟩
        · have e : k = TB.1.length := by omega
          subst e
          obtain ⟨w8, hWo⟩ : ∃ w8, w8 = wr := ⟨_, rfl⟩
          subst hWo
          have H8 : Hid (Hold w w8 TA TB wad be bf bg Bb Bc Bd (.slice aad TA.1.length acap) (.slice bad TB.1.length bcap) (.slice cad TA.1.length ccap) xa xs (tcells TA.1)) := hA.out.1
          have KB : Hid (∀ j, j < TB.1.length → xs[j * 6]? = some (.int .i64 (-2))) := hA.out.2
          clear hA H7
          obtain ⟨xb, hxB⟩ : ∃ x, x = xs := ⟨_, rfl⟩
          subst hxB
          have HTC6 : Hid (Tok6 w8 cad TA.1) := by
            obtain ⟨ad, cap, e, h⟩ := tok6_of_row H8.out.rc
            injection e with e1 e2 e3
            subst e1; exact h
          go_wp2_with fail
          refine (CS.out _ _ _ HTC6.out H8.out.want).mono ?_
          rintro e w9 ⟨rfl, hb9⟩
          have H9 : Hid (Hold w w9 TA TB wad be bf bg Bb Bc Bd (.slice aad TA.1.length acap) (.slice bad TB.1.length bcap) (.slice cad TA.1.length ccap) xa xb (tcells TA.1)) := H8.out.below hb9
          clear hb9 H8 HTC6
          go_wp2
          go_loopw [18] (fun i wr => ∃ (k : Nat) (xs : List Value), k ≤ TA.1.length ∧ i = .int .i64 k ∧ Aside (Hold w wr TA TB wad be bf bg Bb Bc Bd (.slice aad TA.1.length acap) (.slice bad TB.1.length bcap) (.slice cad TA.1.length ccap) xa xb xs ∧ ∀ j, j < k → xs[j * 6]? = some (.int .i64 (-3)))) (fun i _ => TA.1.length - (intOf i).toNat)
          case atStart => exact ⟨0, (tcells TA.1), by omega, rfl, ⟨H9.out, fun j hj => by omega⟩⟩
          case round =>
            obtain ⟨k, xs, hk, rfl, hA⟩ := hrel
            by_cases hlt : k < TA.1.length
            · obtain ⟨g, cap, e, _⟩ := hA.out.1.rc.form (by omega)
              injection e with e1 e2 e3
              subst e1
              obtain ⟨ys, hy, hy1, hy2⟩ := hA.out.1.overC k hlt (-3)
              have HY : Hid (Hold w (overW wr g (k * 6) (-3)) TA TB wad be bf bg Bb Bc Bd (.slice aad TA.1.length acap) (.slice bad TB.1.length bcap) (.slice (some ⟨g, 0, none⟩) TA.1.length ccap) xa xb ys ∧ ∀ j, j < k + 1 → ys[j * 6]? = some (.int .i64 (-3))) := ⟨hy, fun j hj => by
                by_cases e : j = k
                · subst e; exact hy1
                · rw [hy2 j e]; exact hA.out.2 j (by omega)⟩
              obtain ⟨u0, _, c0⟩ := row_cells hA.out.1.rc k hlt 0 (by omega)
              obtain ⟨u1, _, c1⟩ := row_cells hA.out.1.rc k hlt 1 (by omega)
              obtain ⟨u2, _, c2⟩ := row_cells hA.out.1.rc k hlt 2 (by omega)
              obtain ⟨u3, _, c3⟩ := row_cells hA.out.1.rc k hlt 3 (by omega)
              obtain ⟨u4, _, c4⟩ := row_cells hA.out.1.rc k hlt 4 (by omega)
              obtain ⟨u5, _, c5⟩ := row_cells hA.out.1.rc k hlt 5 (by omega)
              rw [Nat.add_zero] at c0
              have f0 := hA.out.1.rc.frozenAt (k * 6)
              have f1 := hA.out.1.rc.frozenAt (k * 6 + 1)
              have f2 := hA.out.1.rc.frozenAt (k * 6 + 2)
              have f3 := hA.out.1.rc.frozenAt (k * 6 + 3)
              have f4 := hA.out.1.rc.frozenAt (k * 6 + 4)
              have f5 := hA.out.1.rc.frozenAt (k * 6 + 5)
              clear hA hy hy1 hy2 H9
              go_wp2
              exact ⟨⟨k + 1, ys, by omega, by go_num, HY.out⟩, by simp only [intOf]; omega⟩
            · have e : k = TA.1.length := by omega
              subst e
              obtain ⟨w10, hWo⟩ : ∃ w10, w10 = wr := ⟨_, rfl⟩
              subst hWo
              have H10 : Hid (Hold w w10 TA TB wad be bf bg Bb Bc Bd (.slice aad TA.1.length acap) (.slice bad TB.1.length bcap) (.slice cad TA.1.length ccap) xa xb xs) := hA.out.1
              have KC : Hid (∀ j, j < TA.1.length → xs[j * 6]? = some (.int .i64 (-3))) := hA.out.2
              clear hA H9
              obtain ⟨xc, hxC⟩ : ∃ x, x = xs := ⟨_, rfl⟩
              subst hxC
              obtain ⟨i36, hi36, hz0, hz1, hz3⟩ := info_tok (i0 := 0) infoTok
              obtain ⟨o1, o2, o3, o4, o5, o6, o7⟩ := H10.out.ord
              have LA : Hid (∀ k, Value.ownBlock (.slice aad TA.1.length acap) = some k → be + 1 ≤ k ∧ k < bf) := fun k e => ⟨(H10.out.ra.lt k e).1, H10.out.la k e⟩
              have LB : Hid (∀ k, Value.ownBlock (.slice bad TB.1.length bcap) = some k → Bb ≤ k ∧ k < Bc) := fun k e => ⟨(H10.out.rb.lt k e).1, H10.out.lb k e⟩
              have LC : Hid (∀ k, Value.ownBlock (.slice cad TA.1.length ccap) = some k → Bc ≤ k ∧ k < bg) := fun k e => ⟨(H10.out.rc.lt k e).1, H10.out.lc k e⟩
              clear T6
              have HRX : Hid ((w10.alloc (.cells #[Value.int .i64 (-4), .string ⟨#[]⟩, .int .u64 0, .int .u64 0, .int .i64 0, .int .i64 0, .int .i64 (-5), .string ⟨#[]⟩, .int .u64 0, .int .u64 0, .int .i64 0, .int .i64 0] 39)).ownsRow (be + 1) 39 6 (.slice aad TA.1.length acap) TA.1.length xa) := (H10.out.ra).alloc _
              have HNX : Hid (∀ (j : Nat) (u : Value), ([Value.int .i64 (-4), .string ⟨#[]⟩, .int .u64 0, .int .u64 0, .int .i64 0, .int .i64 0, .int .i64 (-5), .string ⟨#[]⟩, .int .u64 0, .int .u64 0, .int .i64 0, .int .i64 0] : List Value)[j]? = some u → (w10.alloc (.cells #[Value.int .i64 (-4), .string ⟨#[]⟩, .int .u64 0, .int .u64 0, .int .i64 0, .int .i64 0, .int .i64 (-5), .string ⟨#[]⟩, .int .u64 0, .int .u64 0, .int .i64 0, .int .i64 0] 39)).cell? ((⟨w10.heap.size, 0, none⟩ : Addr).add j) = some u) := World.news_of_block (Blk.new w10 #[Value.int .i64 (-4), .string ⟨#[]⟩, .int .u64 0, .int .u64 0, .int .i64 0, .int .i64 0, .int .i64 (-5), .string ⟨#[]⟩, .int .u64 0, .int .u64 0, .int .i64 0, .int .i64 0] 39)
              have HOX : Hid (∀ u ∈ ([Value.int .i64 (-4), .string ⟨#[]⟩, .int .u64 0, .int .u64 0, .int .i64 0, .int .i64 0, .int .i64 (-5), .string ⟨#[]⟩, .int .u64 0, .int .u64 0, .int .i64 0, .int .i64 0] : List Value), u.oneCell' = true) := fun u hu => by
                simp only [List.mem_cons, List.not_mem_nil, or_false] at hu; rcases hu with rfl | rfl | rfl | rfl | rfl | rfl | rfl | rfl | rfl | rfl | rfl | rfl <;> rfl
              have HPX : Hid (TA.1.length + 2 ≤ maxLen) := by show _ ≤ _; unfold maxLen; omega
              have HQX : Hid ((TA.1.length + 2) * 56 ≤ 140737488355328) := by show _ ≤ _; omega
              have HSX : Hid ((be + 1) ≤ (w10.alloc (.cells #[Value.int .i64 (-4), .string ⟨#[]⟩, .int .u64 0, .int .u64 0, .int .i64 0, .int .i64 0, .int .i64 (-5), .string ⟨#[]⟩, .int .u64 0, .int .u64 0, .int .i64 0, .int .i64 0] 39)).heap.size) := by show _ ≤ _; simp; omega
              go_wp2_with (at_builtin; refine wpList_append_lies _ rfl _ _ 31 rfl (be + 1) 39 i36 (.agg zero36) 6 56 Tryz.underlying31 hi36 hz0 hz1 hz3 rfl (by decide) (.slice aad TA.1.length acap) TA.1.length xa rfl HRX.out ⟨w10.heap.size, 0, none⟩ 2 2 [Value.int .i64 (-4), .string ⟨#[]⟩, .int .u64 0, .int .u64 0, .int .i64 0, .int .i64 0, .int .i64 (-5), .string ⟨#[]⟩, .int .u64 0, .int .u64 0, .int .i64 0, .int .i64 0] rfl rfl HNX.out HOX.out (by decide) HPX.out HQX.out HSX.out _ rfl ?_)
              intro gx capx w11 hownX hgrX hwhX hltX
              have hKX : Kept (fun k => Value.ownBlock (.slice aad TA.1.length acap) = some k) w10 w11 := ((Kept.refl _ _).alloc _).grown hgrX (fun k e => e)
              have hszX : w10.heap.size ≤ w11.heap.size := hKX.size
              have hGX : Value.ownBlock (.slice aad TA.1.length acap) = some gx ∨ w10.heap.size ≤ gx := by
                rcases hwhX with e | e
                · exact .inl e
                · right; first | omega | (have e9 := e; simp only [alloc_size] at e9; omega) | (rw [World.alloc] at e; simp at e; omega)
              have RX : Hid (w11.ownsRow (be + 1) 39 6 (.slice (some ⟨gx, 0, none⟩) (TA.1.length + 2) capx) (TA.1.length + 2) (xa ++ [Value.int .i64 (-4), .string ⟨#[]⟩, .int .u64 0, .int .u64 0, .int .i64 0, .int .i64 0, .int .i64 (-5), .string ⟨#[]⟩, .int .u64 0, .int .u64 0, .int .i64 0, .int .i64 0])) := hownX
              clear hownX hgrX hwhX hltX HRX HNX HOX HPX HQX HSX
              have RB11 : Hid (w11.ownsRow Bb 39 6 (.slice bad TB.1.length bcap) TB.1.length xb) := ownsRow_kept H10.out.rb hKX (fun k e e2 => by have := LA.out k e2; have := LB.out k e; omega)
              have RC11 : Hid (w11.ownsRow Bc 39 6 (.slice cad TA.1.length ccap) TA.1.length xc) := ownsRow_kept H10.out.rc hKX (fun k e e2 => by have := LA.out k e2; have := LC.out k e; omega)
              have HGX : Hid (gx < bf ∨ Bd ≤ gx) := by
                rcases hGX with e | e
                · exact .inl (LA.out _ e).2
                · exact .inr (by omega)
              have HKX : Hid (Kept (fun k => Value.ownBlock (.slice aad TA.1.length acap) = some k) w10 w11) := hKX
              clear hKX hGX
              go_upto_region 21 with fail
              have HRY : Hid ((w11.alloc (.cells #[Value.int .i64 (-6), .string ⟨#[]⟩, .int .u64 0, .int .u64 0, .int .i64 0, .int .i64 0, .int .i64 (-7), .string ⟨#[]⟩, .int .u64 0, .int .u64 0, .int .i64 0, .int .i64 0] 39)).ownsRow Bb 39 6 (.slice bad TB.1.length bcap) TB.1.length xb) := (RB11.out).alloc _
              have HNY : Hid (∀ (j : Nat) (u : Value), ([Value.int .i64 (-6), .string ⟨#[]⟩, .int .u64 0, .int .u64 0, .int .i64 0, .int .i64 0, .int .i64 (-7), .string ⟨#[]⟩, .int .u64 0, .int .u64 0, .int .i64 0, .int .i64 0] : List Value)[j]? = some u → (w11.alloc (.cells #[Value.int .i64 (-6), .string ⟨#[]⟩, .int .u64 0, .int .u64 0, .int .i64 0, .int .i64 0, .int .i64 (-7), .string ⟨#[]⟩, .int .u64 0, .int .u64 0, .int .i64 0, .int .i64 0] 39)).cell? ((⟨w11.heap.size, 0, none⟩ : Addr).add j) = some u) := World.news_of_block (Blk.new w11 #[Value.int .i64 (-6), .string ⟨#[]⟩, .int .u64 0, .int .u64 0, .int .i64 0, .int .i64 0, .int .i64 (-7), .string ⟨#[]⟩, .int .u64 0, .int .u64 0, .int .i64 0, .int .i64 0] 39)
              have HOY : Hid (∀ u ∈ ([Value.int .i64 (-6), .string ⟨#[]⟩, .int .u64 0, .int .u64 0, .int .i64 0, .int .i64 0, .int .i64 (-7), .string ⟨#[]⟩, .int .u64 0, .int .u64 0, .int .i64 0, .int .i64 0] : List Value), u.oneCell' = true) := fun u hu => by
                simp only [List.mem_cons, List.not_mem_nil, or_false] at hu; rcases hu with rfl | rfl | rfl | rfl | rfl | rfl | rfl | rfl | rfl | rfl | rfl | rfl <;> rfl
              have HPY : Hid (TB.1.length + 2 ≤ maxLen) := by show _ ≤ _; unfold maxLen; omega
              have HQY : Hid ((TB.1.length + 2) * 56 ≤ 140737488355328) := by show _ ≤ _; omega
              have HSY : Hid (Bb ≤ (w11.alloc (.cells #[Value.int .i64 (-6), .string ⟨#[]⟩, .int .u64 0, .int .u64 0, .int .i64 0, .int .i64 0, .int .i64 (-7), .string ⟨#[]⟩, .int .u64 0, .int .u64 0, .int .i64 0, .int .i64 0] 39)).heap.size) := by show _ ≤ _; simp; omega
              go_wp2_with (at_builtin; refine wpList_append_lies _ rfl _ _ 31 rfl Bb 39 i36 (.agg zero36) 6 56 Tryz.underlying31 hi36 hz0 hz1 hz3 rfl (by decide) (.slice bad TB.1.length bcap) TB.1.length xb rfl HRY.out ⟨w11.heap.size, 0, none⟩ 2 2 [Value.int .i64 (-6), .string ⟨#[]⟩, .int .u64 0, .int .u64 0, .int .i64 0, .int .i64 0, .int .i64 (-7), .string ⟨#[]⟩, .int .u64 0, .int .u64 0, .int .i64 0, .int .i64 0] rfl rfl HNY.out HOY.out (by decide) HPY.out HQY.out HSY.out _ rfl ?_)
              intro gy capy w12 hownY hgrY hwhY hltY
              have hKY : Kept (fun k => Value.ownBlock (.slice bad TB.1.length bcap) = some k) w11 w12 := ((Kept.refl _ _).alloc _).grown hgrY (fun k e => e)
              have hszY : w11.heap.size ≤ w12.heap.size := hKY.size
              have hGY : Value.ownBlock (.slice bad TB.1.length bcap) = some gy ∨ w11.heap.size ≤ gy := by
                rcases hwhY with e | e
                · exact .inl e
                · right; first | omega | (have e9 := e; simp only [alloc_size] at e9; omega) | (rw [World.alloc] at e; simp at e; omega)
              have RY : Hid (w12.ownsRow Bb 39 6 (.slice (some ⟨gy, 0, none⟩) (TB.1.length + 2) capy) (TB.1.length + 2) (xb ++ [Value.int .i64 (-6), .string ⟨#[]⟩, .int .u64 0, .int .u64 0, .int .i64 0, .int .i64 0, .int .i64 (-7), .string ⟨#[]⟩, .int .u64 0, .int .u64 0, .int .i64 0, .int .i64 0])) := hownY
              clear hownY hgrY hwhY hltY HRY HNY HOY HPY HQY HSY
              have RC12 : Hid (w12.ownsRow Bc 39 6 (.slice cad TA.1.length ccap) TA.1.length xc) := ownsRow_kept RC11.out hKY (fun k e e2 => by have := LB.out k e2; have := LC.out k e; omega)
              have HGY : Hid ((Bb ≤ gy ∧ gy < Bc) ∨ Bd ≤ gy) := by
                rcases hGY with e | e
                · exact .inl (LB.out _ e)
                · exact .inr (by omega)
              have RX12 : Hid (w12.ownsRow (be + 1) 39 6 (.slice (some ⟨gx, 0, none⟩) (TA.1.length + 2) capx) (TA.1.length + 2) (xa ++ [Value.int .i64 (-4), .string ⟨#[]⟩, .int .u64 0, .int .u64 0, .int .i64 0, .int .i64 0, .int .i64 (-5), .string ⟨#[]⟩, .int .u64 0, .int .u64 0, .int .i64 0, .int .i64 0])) := ownsRow_kept RX.out hKY (fun k e e2 => by
                have h1 := LB.out k e2
                have h2 : gx = k := by simpa [Value.ownBlock] using e
                have := HGX.out
                omega)
              have HKY : Hid (Kept (fun k => Value.ownBlock (.slice bad TB.1.length bcap) = some k) w11 w12) := hKY
              clear hKY hGY RX RB11 RC11
              go_upto_region 22 with fail
              have HRZ : Hid ((w12.alloc (.cells #[Value.int .i64 (-8), .string ⟨#[]⟩, .int .u64 0, .int .u64 0, .int .i64 0, .int .i64 0, .int .i64 (-9), .string ⟨#[]⟩, .int .u64 0, .int .u64 0, .int .i64 0, .int .i64 0] 39)).ownsRow Bc 39 6 (.slice cad TA.1.length ccap) TA.1.length xc) := (RC12.out).alloc _
              have HNZ : Hid (∀ (j : Nat) (u : Value), ([Value.int .i64 (-8), .string ⟨#[]⟩, .int .u64 0, .int .u64 0, .int .i64 0, .int .i64 0, .int .i64 (-9), .string ⟨#[]⟩, .int .u64 0, .int .u64 0, .int .i64 0, .int .i64 0] : List Value)[j]? = some u → (w12.alloc (.cells #[Value.int .i64 (-8), .string ⟨#[]⟩, .int .u64 0, .int .u64 0, .int .i64 0, .int .i64 0, .int .i64 (-9), .string ⟨#[]⟩, .int .u64 0, .int .u64 0, .int .i64 0, .int .i64 0] 39)).cell? ((⟨w12.heap.size, 0, none⟩ : Addr).add j) = some u) := World.news_of_block (Blk.new w12 #[Value.int .i64 (-8), .string ⟨#[]⟩, .int .u64 0, .int .u64 0, .int .i64 0, .int .i64 0, .int .i64 (-9), .string ⟨#[]⟩, .int .u64 0, .int .u64 0, .int .i64 0, .int .i64 0] 39)
              have HOZ : Hid (∀ u ∈ ([Value.int .i64 (-8), .string ⟨#[]⟩, .int .u64 0, .int .u64 0, .int .i64 0, .int .i64 0, .int .i64 (-9), .string ⟨#[]⟩, .int .u64 0, .int .u64 0, .int .i64 0, .int .i64 0] : List Value), u.oneCell' = true) := fun u hu => by
                simp only [List.mem_cons, List.not_mem_nil, or_false] at hu; rcases hu with rfl | rfl | rfl | rfl | rfl | rfl | rfl | rfl | rfl | rfl | rfl | rfl <;> rfl
              have HPZ : Hid (TA.1.length + 2 ≤ maxLen) := by show _ ≤ _; unfold maxLen; omega
              have HQZ : Hid ((TA.1.length + 2) * 56 ≤ 140737488355328) := by show _ ≤ _; omega
              have HSZ : Hid (Bc ≤ (w12.alloc (.cells #[Value.int .i64 (-8), .string ⟨#[]⟩, .int .u64 0, .int .u64 0, .int .i64 0, .int .i64 0, .int .i64 (-9), .string ⟨#[]⟩, .int .u64 0, .int .u64 0, .int .i64 0, .int .i64 0] 39)).heap.size) := by show _ ≤ _; simp; omega
              go_wp2_with (at_builtin; refine wpList_append_lies _ rfl _ _ 31 rfl Bc 39 i36 (.agg zero36) 6 56 Tryz.underlying31 hi36 hz0 hz1 hz3 rfl (by decide) (.slice cad TA.1.length ccap) TA.1.length xc rfl HRZ.out ⟨w12.heap.size, 0, none⟩ 2 2 [Value.int .i64 (-8), .string ⟨#[]⟩, .int .u64 0, .int .u64 0, .int .i64 0, .int .i64 0, .int .i64 (-9), .string ⟨#[]⟩, .int .u64 0, .int .u64 0, .int .i64 0, .int .i64 0] rfl rfl HNZ.out HOZ.out (by decide) HPZ.out HQZ.out HSZ.out _ rfl ?_)
              intro gz capz w13 hownZ hgrZ hwhZ hltZ
              have hKZ : Kept (fun k => Value.ownBlock (.slice cad TA.1.length ccap) = some k) w12 w13 := ((Kept.refl _ _).alloc _).grown hgrZ (fun k e => e)
              have hszZ : w12.heap.size ≤ w13.heap.size := hKZ.size
              have hGZ : Value.ownBlock (.slice cad TA.1.length ccap) = some gz ∨ w12.heap.size ≤ gz := by
                rcases hwhZ with e | e
                · exact .inl e
                · right; first | omega | (have e9 := e; simp only [alloc_size] at e9; omega) | (rw [World.alloc] at e; simp at e; omega)
              have RZ : Hid (w13.ownsRow Bc 39 6 (.slice (some ⟨gz, 0, none⟩) (TA.1.length + 2) capz) (TA.1.length + 2) (xc ++ [Value.int .i64 (-8), .string ⟨#[]⟩, .int .u64 0, .int .u64 0, .int .i64 0, .int .i64 0, .int .i64 (-9), .string ⟨#[]⟩, .int .u64 0, .int .u64 0, .int .i64 0, .int .i64 0])) := hownZ
              clear hownZ hgrZ hwhZ hltZ HRZ HNZ HOZ HPZ HQZ HSZ
              have RX13 : Hid (w13.ownsRow (be + 1) 39 6 (.slice (some ⟨gx, 0, none⟩) (TA.1.length + 2) capx) (TA.1.length + 2) (xa ++ [Value.int .i64 (-4), .string ⟨#[]⟩, .int .u64 0, .int .u64 0, .int .i64 0, .int .i64 0, .int .i64 (-5), .string ⟨#[]⟩, .int .u64 0, .int .u64 0, .int .i64 0, .int .i64 0])) := ownsRow_kept RX12.out hKZ (fun k e e2 => by
                have h1 := LC.out k e2
                have h2 : gx = k := by simpa [Value.ownBlock] using e
                have := HGX.out
                omega)
              have RY13 : Hid (w13.ownsRow Bb 39 6 (.slice (some ⟨gy, 0, none⟩) (TB.1.length + 2) capy) (TB.1.length + 2) (xb ++ [Value.int .i64 (-6), .string ⟨#[]⟩, .int .u64 0, .int .u64 0, .int .i64 0, .int .i64 0, .int .i64 (-7), .string ⟨#[]⟩, .int .u64 0, .int .u64 0, .int .i64 0, .int .i64 0])) := ownsRow_kept RY.out hKZ (fun k e e2 => by
                have h1 := LC.out k e2
                have h2 : gy = k := by simpa [Value.ownBlock] using e
                have := HGY.out
                omega)
              have HK13 : Hid (Kept (fun k => be < k ∧ k ≠ bf ∧ k ≠ bg) w10 w13) := ((HKX.out.mono (fun k _ e => by have := LA.out k e; omega)).trans (HKY.out.mono (fun k _ e => by have := LB.out k e; omega))).trans (hKZ.mono (fun k _ e => by have := LC.out k e; omega))
              have FE : Hid (Blk w13 be (fltA TA.2) 28) := H10.out.fe.kept HK13.out (by omega)
              have FF : Hid (Blk w13 bf (fltA TA.2) 28) := H10.out.ff.kept HK13.out (by omega)
              have FG : Hid (Blk w13 bg (fltA TA.2) 28) := H10.out.fg.kept HK13.out (by omega)
              have WA : Hid (Tok6 w13 wad TA.1) := fun i t hi => by
                obtain ⟨g, e, h6⟩ := H10.out.want i t hi
                refine ⟨g, e, h6.kept HK13.out (fun e2 => ?_)⟩
                have h1 := H10.out.wlow g (by rw [e]; rfl)
                omega
              have BE : Hid (Below w.heap.size w w13) := H10.out.bel.trans (HK13.out.below H10.out.bel.size (by omega))
              have LX : Hid (xa.length = TA.1.length * 6 ∧ xb.length = TB.1.length * 6 ∧ xc.length = TA.1.length * 6) := ⟨H10.out.ra.1, H10.out.rb.1, H10.out.rc.1⟩
              clear HKX HKY hKZ hGZ HK13 H10 RX12 RY RC12 hszX hszY hszZ LA LB LC HGX HGY o1 o2 o3 o4 o5 o6 o7 hi36 hz0 hz1 hz3
              go_upto_region 23 with fail
              have x0 : w13.cell? ⟨gx, TA.1.length * 6, none⟩ = some (.int .i64 (-4)) := by
                have hl := LX.out.1
                rw [RX13.out.cellAt (TA.1.length * 6) (by omega), List.getElem?_append_right (by omega), hl, show TA.1.length * 6 - TA.1.length * 6 = 0 by omega]; rfl
              have x1 : w13.cell? ⟨gx, (TA.1.length + 1) * 6, none⟩ = some (.int .i64 (-5)) := by
                have hl := LX.out.1
                rw [RX13.out.cellAt ((TA.1.length + 1) * 6) (by omega), List.getElem?_append_right (by omega), hl, show (TA.1.length + 1) * 6 - TA.1.length * 6 = 6 by omega]; rfl
              have y0 : w13.cell? ⟨gy, TB.1.length * 6, none⟩ = some (.int .i64 (-6)) := by
                have hl := LX.out.2.1
                rw [RY13.out.cellAt (TB.1.length * 6) (by omega), List.getElem?_append_right (by omega), hl, show TB.1.length * 6 - TB.1.length * 6 = 0 by omega]; rfl
              have y1 : w13.cell? ⟨gy, (TB.1.length + 1) * 6, none⟩ = some (.int .i64 (-7)) := by
                have hl := LX.out.2.1
                rw [RY13.out.cellAt ((TB.1.length + 1) * 6) (by omega), List.getElem?_append_right (by omega), hl, show (TB.1.length + 1) * 6 - TB.1.length * 6 = 6 by omega]; rfl
              have z0 : w13.cell? ⟨gz, TA.1.length * 6, none⟩ = some (.int .i64 (-8)) := by
                have hl := LX.out.2.2
                rw [RZ.out.cellAt (TA.1.length * 6) (by omega), List.getElem?_append_right (by omega), hl, show TA.1.length * 6 - TA.1.length * 6 = 0 by omega]; rfl
              have CX : Hid (∀ j, j < TA.1.length → w13.cell? ⟨gx, j * 6, none⟩ = some (.int .i64 (-1))) := fun j hj => by
                have hl := LX.out.1
                rw [RX13.out.cellAt (j * 6) (by omega), List.getElem?_append_left (by omega)]
                exact KA.out j hj
              have CY : Hid (∀ j, j < TB.1.length → w13.cell? ⟨gy, j * 6, none⟩ = some (.int .i64 (-2))) := fun j hj => by
                have hl := LX.out.2.1
                rw [RY13.out.cellAt (j * 6) (by omega), List.getElem?_append_left (by omega)]
                exact KB.out j hj
              have CZ : Hid (∀ j, j < TA.1.length → w13.cell? ⟨gz, j * 6, none⟩ = some (.int .i64 (-3))) := fun j hj => by
                have hl := LX.out.2.2
                rw [RZ.out.cellAt (j * 6) (by omega), List.getElem?_append_left (by omega)]
                exact KC.out j hj
              clear RX13 RY13 RZ LX KA KB KC
              go_wp2
              clear x0 x1 y0 y1 z0
              go_loopw [22, 23] (fun b i wr => ∃ (k : Nat), k ≤ TA.1.length ∧ b = .bool true ∧ i = .int .i64 k ∧ wr = w13) (fun _ i _ => TA.1.length - (intOf i).toNat)
              case atStart => exact ⟨0, by omega, rfl, rfl, rfl⟩
              case round =>
                obtain ⟨k, hk, rfl, rfl, hwr⟩ := hrel
                obtain rfl := Eq.symm hwr
                by_cases hlt : k < TA.1.length
                · have e1 := CX.out k hlt
                  have e2 := CZ.out k hlt
                  go_wp2
                  exact ⟨⟨k + 1, by omega, rfl, by go_num, trivial⟩, by simp only [intOf]; omega⟩
                · have e : k = TA.1.length := by omega
                  subst e
                  go_wp2
                  go_loopw [22, 24] (fun b i wr => ∃ (k : Nat), k ≤ TB.1.length ∧ b = .bool true ∧ i = .int .i64 k ∧ wr = w13) (fun _ i _ => TB.1.length - (intOf i).toNat)
                  case atStart => exact ⟨0, by omega, rfl, rfl, rfl⟩
                  case round =>
                    obtain ⟨k, hk, rfl, rfl, hwr⟩ := hrel
                    obtain rfl := Eq.symm hwr
                    by_cases hlt : k < TB.1.length
                    · have e1 := CY.out k hlt
                      go_wp2
                      exact ⟨⟨k + 1, by omega, rfl, by go_num, trivial⟩, by simp only [intOf]; omega⟩
                    · have e : k = TB.1.length := by omega
                      subst e
                      go_wp2_with fail
                      refine (C7.out _ (HT.out.below BE.out)).mono ?_
                      rintro e w14 ⟨vd, rfl, hrd, hb14⟩
                      obtain ⟨dad, dcap, rfl, hd6⟩ := tok6_of_row hrd
                      have n14 : Below w14.heap.size w14 (w14.alloc (.cells (fltA TA.2) 28)) := (Below.refl _ _).alloc (Nat.le_refl _) _
                      have FE1 : Hid (Blk (w14.alloc (.cells (fltA TA.2) 28)) be (fltA TA.2) 28) := (FE.out.below hb14).below n14
                      have FF1 : Hid (Blk (w14.alloc (.cells (fltA TA.2) 28)) bf (fltA TA.2) 28) := (FF.out.below hb14).below n14
                      have FG1 : Hid (Blk (w14.alloc (.cells (fltA TA.2) 28)) bg (fltA TA.2) 28) := (FG.out.below hb14).below n14
                      have FH1 : Hid (Blk (w14.alloc (.cells (fltA TA.2) 28)) w14.heap.size (fltA TA.2) 28) := Blk.new _ _ _
                      have WA1 : Hid (Tok6 (w14.alloc (.cells (fltA TA.2) 28)) wad TA.1) := (WA.out.below hb14).below n14
                      have WD1 : Hid (Tok6 (w14.alloc (.cells (fltA TA.2) 28)) dad TA.1) := hd6.below n14
                      have BE1 : Hid (Below w.heap.size w (w14.alloc (.cells (fltA TA.2) 28))) := bst (bst BE.out hb14 (Nat.le_refl _)) n14 (Nat.le_refl _)
                      clear hrd hb14 hd6 n14 FE FF FG WA BE
                      go_upto_region 33 with fail
                      generalize w14.heap.size = bh at *
                      generalize w14.alloc (.cells (fltA TA.2) 28) = W14 at *
                      go_wp2_with fail
                      refine (CS.out _ _ _ WD1.out WA1.out).mono ?_
                      rintro e w15 ⟨rfl, hb15⟩
                      have BE2 : Hid (Below w.heap.size w w15) := bst BE1.out hb15 (Nat.le_refl _)
                      have fe := FE1.out.below hb15
                      have ff := FF1.out.below hb15
                      have fg := FG1.out.below hb15
                      have fh := FH1.out.below hb15
                      obtain ⟨tl, er, ln, cl⟩ := TA
                      have e0 := fe.cell 0 (v := .int .i64 (er : Int)) rfl
                      have e1 := fe.cell 1 (v := .int .i64 (ln : Int)) rfl
                      have e2 := fe.cell 2 (v := .int .i64 (cl : Int)) rfl
                      have f0 := ff.cell 0 (v := .int .i64 (er : Int)) rfl
                      have f1 := ff.cell 1 (v := .int .i64 (ln : Int)) rfl
                      have f2 := ff.cell 2 (v := .int .i64 (cl : Int)) rfl
                      have g0 := fg.cell 0 (v := .int .i64 (er : Int)) rfl
                      have g1 := fg.cell 1 (v := .int .i64 (ln : Int)) rfl
                      have g2 := fg.cell 2 (v := .int .i64 (cl : Int)) rfl
                      have h0 := fh.cell 0 (v := .int .i64 (er : Int)) rfl
                      have h1 := fh.cell 1 (v := .int .i64 (ln : Int)) rfl
                      have h2 := fh.cell 2 (v := .int .i64 (cl : Int)) rfl
                      clear fe ff fg fh hb15 FE1 FF1 FG1 FH1 WA1 WD1 BE1 CS C7 HT CX CY CZ
                      go_wp2
                      go_ret
                      exact ⟨rfl, BE2.out⟩
end Go.Proofs.YtlgfpjaomiomjaaGreatDoor
