/- The walk of SumsSpreads at no texts. -/
import Derived.Test.YtabipemlemppjaaDoorSy
namespace Go.Proofs.YtabipemlemppjaaDoor
open Go.RowKit Go.Maps
set_option linter.unusedVariables false
set_option linter.unusedSimpArgs false

set_option maxHeartbeats 8000000 in
set_option maxRecDepth 100000 in
theorem spreads_none (ad : Option Addr) (cap : Nat) (seed : Nat) (hseed : seed < 4294967296) (m : Int) (hm1 : -9223372036854775808 ≤ m) (hm2 : m ≤ 9223372036854775807) (w : World) (hT : Tab w) :
    Calls Tryd.prog 7 #[.int .u32 seed, .int .i64 m, .slice ad 0 cap] w fun e w' => e = .returned (.bool true) ∧ Below w.heap.size w w' := by
  obtain ⟨i0, hi, hz0, hz1, hz2⟩ := info_parts info3
  have CL : Hid (∀ w : World, Tab w → Calls Tryd.prog 9 #[] w fun e w' => e = .returned (.bool true) ∧ Below w.heap.size w w') := live_any
  obtain ⟨A, er, hAl, her, hout⟩ := SlAny.out (seed := seed) (m := m) (l := ([] : List (List UInt8)))
  have hA0 : A.length = 0 := by simpa using hAl
  have C26 : Hid (∀ (ad : Option Addr) (c : Nat) (w1 : World), Calls Tryd.prog 26 #[.int .u32 seed, .int .i64 m, .slice ad 0 c] w1 fun e w' => Below w1.heap.size w1 w' ∧ ∃ v, e = .returned (.tuple #[v, .int .i64 er]) ∧ w'.ownsRow w1.heap.size 3 1 v A.length (intsV A)) := fun ad c w1 => by
    by_cases h : m < 1
    · refine (rslots_arg seed m h _ w1).mono ?_
      rintro e w' ⟨rfl, rfl⟩
      exact ⟨Below.refl _ _, hout _ _ _ (by unfold SlAny; rw [if_pos h])⟩
    · obtain ⟨N, rfl⟩ : ∃ N : Nat, m = N := ⟨m.toNat, by omega⟩
      refine (rslots_none seed N (by omega) ad c w1).mono ?_
      rintro e w' ⟨rfl, rfl⟩
      exact ⟨Below.refl _ _, hout _ _ _ (by unfold SlAny; rw [if_neg h]; exact ⟨_, rfl, World.ownsRow_nil _ _ _ _, rfl, by simp⟩)⟩
  have C27 : Hid (∀ (g k : Nat) (w1 : World), g < w1.heap.size → Calls Tryd.prog 27 #[.int .u32 seed, .int .i64 m, .slice (some ⟨g, 0, none⟩) 0 k] w1 fun e w' => Below w1.heap.size w1 w' ∧ ∃ v, e = .returned (.tuple #[v, .int .i64 er]) ∧ w'.ownsRow w1.heap.size 3 1 v A.length (intsV A)) := fun g k w1 h' => by
    have := slots_at seed hseed m hm2 g 0 k [] (by simp) (by simp) w1 (fun i hi => by simp at hi) h'
    exact this.mono fun e w' ⟨h1, h2⟩ => ⟨h1, hout _ _ _ h2⟩
  have C10 : Hid (∀ (ad : Option Addr) (c : Nat) (w1 : World), Calls Tryd.prog 10 #[.slice ad 0 c] w1 fun e w' => ∃ v, e = .returned v ∧ w'.ownsRow w1.heap.size 9 1 v 1 (strV [mark]) ∧ Below w1.heap.size w1 w') := fun ad c w1 => lent_none ad c w1
  have C13 : Hid (∀ (g k : Nat) (ad : Option Addr) (c : Nat) (w1 : World), Strs w1 g 0 [mark] → Calls Tryd.prog 13 #[.slice (some ⟨g, 0, none⟩) 1 k, .slice ad 0 c] w1 fun e w' => e = .returned (.bool true) ∧ w'.heap = w1.heap ∧ Below w1.heap.size w1 w') := fun g k ad c w1 h => back_none g k ad c w1 h
  have C28 : Hid (∀ (B1 B2 : Nat) (v1 v2 : Value) (w1 : World), w1.ownsRow B1 3 1 v1 A.length (intsV A) → w1.ownsRow B2 3 1 v2 A.length (intsV A) → Calls Tryd.prog 28 #[v1, v2] w1 fun e w' => e = .returned (.bool true) ∧ w'.heap = w1.heap ∧ Below w1.heap.size w1 w') := fun B1 B2 v1 v2 w1 h1 h2 => sameInts_any A (by omega) B1 B2 v1 v2 w1 h1 h2
  clear hout
  have hAl : A.length ≤ 0 := by omega
  clear hA0
  go_enter Tryd.func7, Tryd.ntmps7
  go_wp2_with fail
  refine (CL.out _ hT).mono ?_
  rintro e wr ⟨rfl, hb1⟩
  have HB1 : Hid (Below w.heap.size w wr) := hb1
  have hs1 := hb1.size
  clear hb1
  go_wp2_with fail
  refine wp_loop_rounds 1 ?_
  rw [rounds_succ]
  go_wp2_with fail
  refine (C26.out _ _ _).mono ?_
  rintro e w2 ⟨hb2, vw, rfl, hrw⟩
  have hs2 := hb2.size
  have HRW : Hid (w2.ownsRow wr.heap.size 3 1 vw A.length (intsV A)) := hrw
  have HB2 : Hid (Below w.heap.size w w2) := HB1.out.trans (hb2.mono hs1)
  clear hrw hb2
  go_wp2_with fail
  refine (C10.out _ _ _).mono ?_
  rintro e w3 ⟨va, rfl, hra, hb3⟩
  obtain ⟨g3, k3, rfl, hg0, hg1, hk, hk2, hG⟩ := strs_of_own hra rfl (by omega)
  have hs3 := hb3.size
  have HRA3 : Hid (w3.ownsRow w2.heap.size 9 1 (.slice (some ⟨g3, 0, none⟩) 1 k3) 1 (strV ([mark]))) := hra
  have HG3 : Hid (Strs w3 g3 0 ([mark])) := hG
  have HRW3 : Hid (w3.ownsRow wr.heap.size 3 1 vw A.length (intsV A)) := row_below HRW.out hb3
  have HB3 : Hid (Below w.heap.size w w3) := HB2.out.trans (hb3.mono (by omega))
  have hnk : 0 ≤ k3 := by omega
  have hk3 : k3 ≤ 9223372036854775807 := by simpa [maxLen] using hk2
  clear hra hb3 hG hk2 C26 C10
  go_wp2_with fail
  refine (C27.out g3 k3 _ hg1).mono ?_
  rintro e w4 ⟨hb4, v1, rfl, hr1⟩
  have hs4 := hb4.size
  have HRA4 : Hid (w4.ownsRow w2.heap.size 9 1 (.slice (some ⟨g3, 0, none⟩) 1 k3) 1 (strV ([mark]))) := row_below HRA3.out hb4
  have HG4 : Hid (Strs w4 g3 0 ([mark])) := HG3.out.below hb4 hg1
  have HRW4 : Hid (w4.ownsRow wr.heap.size 3 1 vw A.length (intsV A)) := row_below HRW3.out hb4
  have HB4 : Hid (Below w.heap.size w w4) := HB3.out.trans (hb4.mono (by omega))
  have HR1 : Hid (w4.ownsRow w3.heap.size 3 1 v1 A.length (intsV A)) := hr1
  clear hb4 hr1
  go_wp2_with fail
  refine (C27.out g3 k3 _ (by omega)).mono ?_
  rintro e w5 ⟨hb5, v2, rfl, hr2⟩
  have hs5 := hb5.size
  have HRA5 : Hid (w5.ownsRow w2.heap.size 9 1 (.slice (some ⟨g3, 0, none⟩) 1 k3) 1 (strV ([mark]))) := row_below HRA4.out hb5
  have HG5 : Hid (Strs w5 g3 0 ([mark])) := HG4.out.below hb5 (by omega)
  have HRW5 : Hid (w5.ownsRow wr.heap.size 3 1 vw A.length (intsV A)) := row_below HRW4.out hb5
  have HR15 : Hid (w5.ownsRow w3.heap.size 3 1 v1 A.length (intsV A)) := row_below HR1.out hb5
  have HB5 : Hid (Below w.heap.size w w5) := HB4.out.trans (hb5.mono (by omega))
  have HR25 : Hid (w5.ownsRow w4.heap.size 3 1 v2 A.length (intsV A)) := hr2
  clear hb5 hr2
  go_wp2_with fail
  refine (C13.out g3 k3 _ _ _ HG5.out).mono ?_
  rintro e w6 ⟨rfl, hh6, hb6⟩
  have HH6 : Hid (w6.heap = w5.heap) := hh6
  have HB6 : Hid (Below w.heap.size w w6) := HB5.out.trans (hb6.mono (by omega))
  clear hh6 hb6
  go_wp2_with fail
  refine (C28.out _ _ v1 vw _ (row_heap HR15.out HH6.out) (row_heap HRW5.out HH6.out)).mono ?_
  rintro e w7 ⟨rfl, hh7, hb7⟩
  have HH7 : Hid (w7.heap = w5.heap) := hh7.trans HH6.out
  have HB7 : Hid (Below w.heap.size w w7) := HB6.out.trans (hb7.mono (by rw [HH6.out]; omega))
  clear hh7 hb7
  go_wp2_with fail
  refine (C28.out _ _ v2 vw _ (row_heap HR25.out HH7.out) (row_heap HRW5.out HH7.out)).mono ?_
  rintro e w8 ⟨rfl, hh8, hb8⟩
  have HH8 : Hid (w8.heap = w5.heap) := hh8.trans HH7.out
  have HB8 : Hid (Below w.heap.size w w8) := HB7.out.trans (hb8.mono (by rw [HH7.out]; omega))
  clear hh8 hb8
  obtain ⟨a1, c1, rfl, _⟩ := row_val HR15.out
  obtain ⟨a2, c2, rfl, _⟩ := row_val HR25.out
  obtain ⟨B0, hB0⟩ : ∃ B0, B0 = wr.heap.size := ⟨_, rfl⟩
  have HK8 : Hid (Kp w vw A B0 w2.heap.size g3 k3 0 w3.heap.size [] w8) := ⟨by rw [hB0]; exact row_heap HRW5.out HH8.out, row_heap HRA5.out HH8.out, HB8.out, by rw [HH8.out]; omega, fun k hk => by have := (HRW.out.lt k hk).2; omega, hg1, by omega⟩
  have HR18 : Hid (w8.ownsRow w3.heap.size 3 1 (.slice a1 A.length c1) A.length (intsV A)) := row_heap HR15.out HH8.out
  have HR28 : Hid (w8.ownsRow w4.heap.size 3 1 (.slice a2 A.length c2) A.length (intsV A)) := row_heap HR25.out HH8.out
  have HV1 : Hid (∀ k, (Value.slice a1 A.length c1).ownBlock = some k → w3.heap.size ≤ k ∧ k < w4.heap.size) := HR1.out.lt
  have hs8 : w5.heap.size ≤ w8.heap.size := by rw [HH8.out]; exact Nat.le_refl _
  have HVW : Hid (∀ k, vw.ownBlock = some k → k < w2.heap.size) := fun k hk => (HRW.out.lt k hk).2
  have hwg : w.heap.size ≤ g3 := by omega
  clear hB0 HH6 HH7 HH8 HB6 HB7 HB8 HR15 HR25 HR1 HRW HRW3 HRW4 HRW5 HG3 HG4 HG5 HRA3 HRA4 HRA5 HB2 HB3 HB4 HB5 C13
  go_wp2_with fail
  go_loopw [22] (fun iv wx => ∃ (p : Nat) (X1 : List Value), p ≤ A.length ∧ iv = .int .i64 p ∧ wx.ownsRow w3.heap.size 3 1 (.slice a1 A.length c1) A.length X1 ∧ (∀ j, j < p → X1[j]? = some (.int .i64 (-1))) ∧ wx.ownsRow w4.heap.size 3 1 (.slice a2 A.length c2) A.length (intsV A) ∧ Kp w vw A B0 w2.heap.size g3 k3 0 w3.heap.size [] wx) (fun iv _ => A.length - (intOf iv).toNat)
  case atStart => exact ⟨0, intsV A, by omega, rfl, HR18.out, fun j h => by omega, HR28.out, HK8.out⟩
  case round =>
    obtain ⟨p, X1, hp, rfl, hr1, hx1, hr2, hkp⟩ := hrel
    have R1 : Hid (wr.ownsRow w3.heap.size 3 1 (.slice a1 A.length c1) A.length X1) := hr1
    have X1H : Hid (∀ j, j < p → X1[j]? = some (.int .i64 (-1))) := hx1
    have R2 : Hid (wr.ownsRow w4.heap.size 3 1 (.slice a2 A.length c2) A.length (intsV A)) := hr2
    clear hx1 hr2
    by_cases hlt : p < A.length
    · exact absurd hlt (by omega)
    · obtain rfl : p = A.length := by omega
      have hX1l : X1.length = A.length := by have := hr1.1; omega
      have KP : Hid (Kp w vw A B0 w2.heap.size g3 k3 0 w3.heap.size [] wr) := hkp
      have hszr := hkp.sz
      have H1 : Hid ((wr.alloc (.cells #[.int .i64 (-2), .int .i64 (-3), .int .i64 (-4)] 3)).ownsRow w3.heap.size 3 1 (.slice a1 A.length c1) A.length X1) := hr1.alloc _
      have STEP : Hid (∀ (gg cg : Nat) (w9 : World), w9.ownsRow w3.heap.size 3 1 (.slice (some ⟨gg, 0, none⟩) (A.length + 3) cg) (A.length + 3) (X1 ++ [.int .i64 (-2), .int .i64 (-3), .int .i64 (-4)]) → (wr.alloc (.cells #[.int .i64 (-2), .int .i64 (-3), .int .i64 (-4)] 3)).grownBy w9 (Value.slice a1 A.length c1).ownBlock → ((Value.slice a1 A.length c1).ownBlock = some gg ∨ gg = wr.heap.size + 1) →
          w9.ownsRow w4.heap.size 3 1 (.slice a2 A.length c2) A.length (intsV A) ∧ Kp w vw A B0 w2.heap.size g3 k3 0 w3.heap.size [] w9 ∧ (∀ k, (Value.slice a2 A.length c2).ownBlock = some k → k ≠ gg)) := fun gg cg w9 h9 hg9 hor => by
        refine ⟨World.ownsRow.kept (R2.out.alloc _) hg9 ?_, (KP.out.alloc _).grown hg9 (fun k hk => (HV1.out k hk).1), fun k hk e => ?_⟩
        · cases hv : (Value.slice a2 A.length c2).ownBlock with
          | none => exact .inl rfl
          | some k => exact .inr fun e => by have := (R2.out.lt k hv).1; have := (HV1.out k e.symm).2; omega
        · subst e
          have h2 := R2.out.lt k hk
          rcases hor with h | h
          · have := (HV1.out k h).2; omega
          · omega
      clear hkp hr1
      go_wp2_with (at_builtin; refine wpList_append_lies _ rfl _ _ 42 rfl w3.heap.size 3 i0 (.int .i64 0) 1 8 Tryd.underlying42 hi hz0 hz1 hz2 rfl (by decide) _ _ _ rfl H1.out ⟨wr.heap.size, 0, none⟩ 3 3 [.int .i64 (-2), .int .i64 (-3), .int .i64 (-4)] rfl rfl (three_cells wr _ _ _ 3) (by intro u hu; simp at hu; rcases hu with rfl | rfl | rfl <;> rfl) (by decide) (by unfold maxLen; omega) (by omega) (by simp; omega) (wr.heap.size + 1) (by simp) ?_)
      intro gg cg w9 hown9 hgrow9 hor9 hlt9
      obtain ⟨hr29, hk9, hne9⟩ := STEP.out gg cg w9 hown9 hgrow9 hor9
      obtain ⟨XG, hXG⟩ : ∃ XG, X1 ++ [Value.int .i64 (-2), .int .i64 (-3), .int .i64 (-4)] = XG := ⟨_, rfl⟩
      rw [hXG] at hown9
      have HXG : Hid ((∀ j, j < A.length → XG[j]? = some (.int .i64 (-1))) ∧ XG[A.length]? = some (.int .i64 (-2)) ∧ XG[A.length + 2]? = some (.int .i64 (-4))) := by
        refine ⟨fun j hj => ?_, ?_, ?_⟩
        · rw [← hXG, List.getElem?_append_left (by omega)]; exact X1H.out j hj
        · rw [← hXG, List.getElem?_append_right (by omega), hX1l, Nat.sub_self]; rfl
        · rw [← hXG, List.getElem?_append_right (by omega), hX1l, show A.length + 2 - A.length = 2 by omega]; rfl
      have HRG : Hid (w9.ownsRow w3.heap.size 3 1 (.slice (some ⟨gg, 0, none⟩) (A.length + 3) cg) (A.length + 3) XG) := hown9
      have HR29 : Hid (w9.ownsRow w4.heap.size 3 1 (.slice a2 A.length c2) A.length (intsV A)) := hr29
      have HK9 : Hid (Kp w vw A B0 w2.heap.size g3 k3 0 w3.heap.size [] w9) := hk9
      have HNE : Hid (∀ k, (Value.slice a2 A.length c2).ownBlock = some k → k ≠ gg) := hne9
      clear hown9 hgrow9 hor9 hlt9 STEP H1 hXG hX1l X1H hr29 hk9 hne9 KP R1 R2 HR18 HR28 HK8
      go_wp2_with fail
      go_loopw [24] (fun iv wx => ∃ (p : Nat) (X2 : List Value), p ≤ A.length ∧ iv = .int .i64 p ∧ wx.ownsRow w4.heap.size 3 1 (.slice a2 A.length c2) A.length X2 ∧ (∀ j, j < p → X2[j]? = some (.int .i64 (-5))) ∧ wx.ownsRow w3.heap.size 3 1 (.slice (some ⟨gg, 0, none⟩) (A.length + 3) cg) (A.length + 3) XG ∧ Kp w vw A B0 w2.heap.size g3 k3 0 w3.heap.size [] wx) (fun iv _ => A.length - (intOf iv).toNat)
      case atStart => exact ⟨0, intsV A, by omega, rfl, HR29.out, fun j h => by omega, HRG.out, HK9.out⟩
      case round =>
        obtain ⟨p, X2, hp, rfl, hr2, hx2, hrg, hkp⟩ := hrel
        have X2H : Hid (∀ j, j < p → X2[j]? = some (.int .i64 (-5))) := hx2
        have RG : Hid (wr.ownsRow w3.heap.size 3 1 (.slice (some ⟨gg, 0, none⟩) (A.length + 3) cg) (A.length + 3) XG) := hrg
        clear hx2 hrg
        by_cases hlt : p < A.length
        · exact absurd hlt (by omega)
        · obtain rfl : p = A.length := by omega
          have hX2l : X2.length = A.length := by have := hr2.1; omega
          have KP : Hid (Kp w vw A B0 w2.heap.size g3 k3 0 w3.heap.size [] wr) := hkp
          have hszr := hkp.sz
          have hr2lt : Hid (∀ k, (Value.slice a2 A.length c2).ownBlock = some k → w4.heap.size ≤ k ∧ k < wr.heap.size) := hr2.lt
          have H2 : Hid ((wr.alloc (.cells #[.int .i64 (-6), .int .i64 (-7), .int .i64 (-8)] 3)).ownsRow w3.heap.size 3 1 (.slice a2 A.length c2) A.length X2) := row_base (hr2.alloc _) hs4
          have STEP : Hid (∀ (w9 : World), (wr.alloc (.cells #[.int .i64 (-6), .int .i64 (-7), .int .i64 (-8)] 3)).grownBy w9 (Value.slice a2 A.length c2).ownBlock →
              w9.ownsRow w3.heap.size 3 1 (.slice (some ⟨gg, 0, none⟩) (A.length + 3) cg) (A.length + 3) XG ∧ Kp w vw A B0 w2.heap.size g3 k3 0 w3.heap.size [] w9) := fun w9 hg9 => by
            refine ⟨World.ownsRow.kept (RG.out.alloc _) hg9 (.inr fun e => HNE.out gg e.symm rfl), (KP.out.alloc _).grown hg9 (fun k hk => by have := (hr2lt.out k hk).1; omega)⟩
          clear hkp hr2
          go_wp2_with (at_builtin; refine wpList_append_lies _ rfl _ _ 42 rfl w3.heap.size 3 i0 (.int .i64 0) 1 8 Tryd.underlying42 hi hz0 hz1 hz2 rfl (by decide) _ _ _ rfl H2.out ⟨wr.heap.size, 0, none⟩ 3 3 [.int .i64 (-6), .int .i64 (-7), .int .i64 (-8)] rfl rfl (three_cells wr _ _ _ 3) (by intro u hu; simp at hu; rcases hu with rfl | rfl | rfl <;> rfl) (by decide) (by unfold maxLen; omega) (by omega) (by simp; omega) (wr.heap.size + 1) (by simp) ?_)
          intro gm cm w10 hown10 hgrow10 hor10 hlt10
          obtain ⟨hrg10, hk10⟩ := STEP.out w10 hgrow10
          obtain ⟨XM, hXM⟩ : ∃ XM, X2 ++ [Value.int .i64 (-6), .int .i64 (-7), .int .i64 (-8)] = XM := ⟨_, rfl⟩
          rw [hXM] at hown10
          have HXM : Hid ((∀ j, j < A.length → XM[j]? = some (.int .i64 (-5))) ∧ XM[A.length]? = some (.int .i64 (-6))) := by
            refine ⟨fun j hj => ?_, ?_⟩
            · rw [← hXM, List.getElem?_append_left (by omega)]; exact X2H.out j hj
            · rw [← hXM, List.getElem?_append_right (by omega), hX2l, Nat.sub_self]; rfl
          have HG10 : Hid (w10.ownsRow w3.heap.size 3 1 (.slice (some ⟨gg, 0, none⟩) (A.length + 3) cg) (A.length + 3) XG) := hrg10
          have HM10 : Hid (w10.ownsRow w3.heap.size 3 1 (.slice (some ⟨gm, 0, none⟩) (A.length + 3) cm) (A.length + 3) XM) := hown10
          have HK10 : Hid (Kp w vw A B0 w2.heap.size g3 k3 0 w3.heap.size [] w10) := hk10
          clear hown10 hgrow10 hor10 hlt10 STEP H2 hXM hX2l X2H hrg10 hk10 KP RG HRG HR29 HK9 hr2lt
          go_wp2_with fail
          go_loopw [26, 27] (fun ov iv wx => ∃ p : Nat, p ≤ A.length ∧ ov = .bool true ∧ iv = .int .i64 p ∧ wx.heap = w10.heap ∧ Below w.heap.size w wx) (fun _ iv _ => A.length - (intOf iv).toNat)
          case atStart => exact ⟨0, by omega, rfl, rfl, rfl, HK10.out.be⟩
          case round =>
            obtain ⟨p, hp, rfl, rfl, hh, hBx⟩ := hrel
            have HH : Hid (wr.heap = w10.heap) := hh
            have rg := row_heap HG10.out hh
            have rm := row_heap HM10.out hh
            clear hh
            by_cases hlt : p < A.length
            · exact absurd hlt (by omega)
            · obtain rfl : p = A.length := by omega
              have hc1 : wr.cell? ⟨gg, A.length, none⟩ = some (.int .i64 (-2)) := by rw [rg.cellAt A.length (by omega)]; exact HXG.out.2.1
              have hc2 : wr.cell? ⟨gg, A.length + 2, none⟩ = some (.int .i64 (-4)) := by rw [rg.cellAt (A.length + 2) (by omega)]; exact HXG.out.2.2
              have hc3 : wr.cell? ⟨gm, A.length, none⟩ = some (.int .i64 (-6)) := by rw [rm.cellAt A.length (by omega)]; exact HXM.out.2
              have hkx := HK10.out.heap HH.out hBx
              have hc4 : wr.cell? ⟨g3, 0, none⟩ = some (.string mark) := by
                rw [hkx.ra.cellAt 0 (by omega), strV]; rfl
              have hfz := hkx.ra.frozenAt 0
              have THIRD : Hid (∀ X : World, X.heap = w10.heap → Below w.heap.size w X → Strs (X.setCell ⟨g3, 0, none⟩ (.string ⟨#[111, 116, 104, 101, 114]⟩)) g3 0 [] ∧ g3 < (X.setCell ⟨g3, 0, none⟩ (.string ⟨#[111, 116, 104, 101, 114]⟩)).heap.size ∧ (X.setCell ⟨g3, 0, none⟩ (.string ⟨#[111, 116, 104, 101, 114]⟩)).ownsRow B0 3 1 vw A.length (intsV A) ∧ Below w.heap.size w (X.setCell ⟨g3, 0, none⟩ (.string ⟨#[111, 116, 104, 101, 114]⟩))) := fun X hX hBX => by
                have hkX := HK10.out.heap hX hBX
                have hst := hkX.ra.stored 0 (.string ⟨#[111, 116, 104, 101, 114]⟩)
                have e : (strV ([] ++ [mark])).set 0 (.string ⟨#[111, 116, 104, 101, 114]⟩) = strV ([] ++ [⟨#[111, 116, 104, 101, 114]⟩]) := rfl
                rw [e] at hst
                obtain ⟨g', k', e', _, hgl, _, _, hstr⟩ := strs_of_own hst.1 rfl (by omega)
                simp only [Value.slice.injEq, Option.some.injEq, Addr.mk.injEq, and_true, true_and] at e'
                obtain ⟨rfl, _⟩ := e'
                refine ⟨strs_snoc hstr, hgl, World.ownsRow.kept hkX.rw hst.2 ?_, Below.grown hkX.be hst.2 (Nat.le_trans hkX.wb hkX.sz) (fun k hk => by cases hk; exact hwg)⟩
                cases hv : vw.ownBlock with
                | none => exact .inl rfl
                | some k => exact .inr fun e => by cases e; have := HVW.out _ hv; omega
              have hA2 : (A.length : Int) + 2 < (A.length : Int) + 3 := by omega
              clear rg rm hkx
              go_wp2_with fail
              obtain ⟨t1, t2, t3, t4⟩ := THIRD.out wr HH.out hBx
              refine (C27.out g3 k3 _ t2).mono ?_
              rintro e w11 ⟨hb11, v3, rfl, hr3⟩
              have HR3 := hr3
              have HRWf := row_below t3 hb11
              have HBf : Below w.heap.size w w11 := t4.trans (hb11.mono t4.size)
              have HRR : Hid (∃ B1 B2, w11.ownsRow B1 3 1 v3 A.length (intsV A) ∧ w11.ownsRow B2 3 1 vw A.length (intsV A)) := ⟨_, _, HR3, HRWf⟩
              clear hr3 HR3 HRWf t1 t2 t3 t4 hb11 THIRD hc1 hc2 hc3 hc4 hfz
              go_wp2_with fail
              obtain ⟨B1, B2, q1, q2⟩ := HRR.out
              refine (C28.out B1 B2 v3 vw _ q1 q2).mono ?_
              rintro e w12 ⟨rfl, hh12, hb12⟩
              have HBe : Below w.heap.size w w12 := HBf.trans (hb12.mono HBf.size)
              clear hh12 hb12 q1 q2 HRR
              go_wp2_with fail
              go_ret
              exact ⟨by simp, HBe⟩
end Go.Proofs.YtabipemlemppjaaDoor
