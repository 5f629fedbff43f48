/- The walk of SumsSums: whatever the texts and the number: true; older memory is as it was. -/
import Derived.Test.YtabipemlemppjaaDoorSl
import Derived.Test.YtabipemlemppjaaDoorCu
import Derived.Test.YtabipemlemppjaaDoorLe
namespace Go.Proofs.YtabipemlemppjaaDoor
open Go.RowKit
set_option linter.unusedVariables false
set_option linter.unusedSimpArgs false

theorem strs_front {w : World} {g : Nat} {l : List ByteArray} {m : ByteArray} (h : Strs w g 0 (l ++ [m])) : Strs w g 0 l := fun i hi => by
  have := h i (by simp; omega)
  rw [List.getElem_append_left hi] at this
  exact this

set_option maxHeartbeats 4000000 in
theorem sums_row (b o cap : Nat) (l : List ByteArray) (hl : l.length * 16 ≤ 140737488351232) (hls : ∀ s ∈ l, s.size ≤ 9223372036854775807) (n : Nat) (hn : n < 4294967296) (s : ByteArray) (hs : s.size ≤ 9223372036854775807)
    (w : World) (hS : Strs w b o l) (hb : b < w.heap.size) (hT : Tab w) :
    Calls Tryd.prog 3 #[.slice (some ⟨b, o, none⟩) l.length cap, .int .u32 n, .string s] w fun e w' => e = .returned (.bool true) ∧ Below w.heap.size w w' := by
  have CL : Hid (∀ w : World, Tab w → Calls Tryd.prog 9 #[] w fun e w' => e = .returned (.bool true) ∧ Below w.heap.size w w') := live_any
  have C1 : Hid (∀ w : World, Strs w b o l → b < w.heap.size → Calls Tryd.prog 10 #[.slice (some ⟨b, o, none⟩) l.length cap] w fun e w' => ∃ v, e = .returned v ∧ w'.ownsRow w.heap.size 9 1 v (l.length + 1) (strV (l ++ [mark])) ∧ Below w.heap.size w w') := fun w h h' => lent_row b o cap l hl w h h'
  have C2 : Hid (∀ (w : World), Tab w → Calls Tryd.prog 14 #[.int .u32 n, .string s] w fun e w' => e = .returned (.int .u32 (moreC n s.data.toList)) ∧ w' = w) := fun w h => more_any n hn s hs w h
  have C3 : Hid (∀ (w : World), Calls Tryd.prog 11 #[.int .u32 n, .string s] w fun e w' => e = .returned (.int .u32 (moreC n s.data.toList)) ∧ w' = w) := fun w => rmore_any n hn s hs w
  have HLS : Hid (∀ s ∈ l, s.size ≤ 9223372036854775807) := hls
  generalize moreC n s.data.toList = M at *
  clear hls hs
  go_enter Tryd.func3, Tryd.ntmps3
  go_wp2_with fail
  refine (CL.out _ hT).mono ?_
  rintro e w1 ⟨rfl, hb1⟩
  have T1 := hT.below hb1
  have S1 := hS.below hb1 hb
  have b1 : b < w1.heap.size := Nat.lt_of_lt_of_le hb hb1.size
  go_wp2_with fail
  refine (C1.out _ S1 b1).mono ?_
  rintro e w2 ⟨v, rfl, hown, hb2⟩
  obtain ⟨g, k, rfl, hg0, hg1, hk, hk2, hG⟩ := strs_of_own hown (by simp) (by omega)
  have B2 : Below w.heap.size w w2 := hb1.trans (hb2.mono hb1.size)
  have T2 : Tab w2 := T1.below hb2
  have S2 : Strs w2 b o l := S1.below hb2 b1
  have b2 : b < w2.heap.size := Nat.lt_of_lt_of_le b1 hb2.size
  have hk3 : l.length ≤ k := by omega
  have HG : Hid (Strs w2 g 0 (l ++ [mark])) := hG
  have HF : Hid (Strs w2 g 0 l) := strs_front hG
  have HS : Hid (Strs w2 b o l) := S2
  have HT : Hid (Tab w2) := T2
  have CS : Hid (∀ w : World, Tab w → Strs w g 0 l → Calls Tryd.prog 12 #[.slice (some ⟨g, 0, none⟩) l.length k] w fun e w' => e = .returned (.int .u32 (sumC 0 l)) ∧ w' = w) := fun w h h' => sum_any g 0 k l (by omega) HLS.out w h h'
  have CB : Hid (∀ w : World, Strs w b o l → Strs w g 0 (l ++ [mark]) → Calls Tryd.prog 13 #[.slice (some ⟨g, 0, none⟩) (l.length + 1) k, .slice (some ⟨b, o, none⟩) l.length cap] w fun e w' => e = .returned (.bool true) ∧ w'.heap = w.heap ∧ Below w.heap.size w w') := fun w h h' => back_row g k b o cap l hl w h h'
  clear hown hb1 hb2 T1 S1 T2 S2 hS hT hG CL C1 hg0
  go_wp2
  go_loopw [10, 11] (fun a i wr => ∃ p m : Nat, a = .int .u32 m ∧ i = .int .i64 p ∧ p ≤ l.length ∧ m < 4294967296 ∧ sumC m (l.drop p) = sumC 0 l ∧ wr = w2) (fun _ i _ => (l.length - intOf i).toNat)
  case atStart => exact ⟨0, 0, rfl, rfl, by omega, by decide, rfl, rfl⟩
  case round =>
    obtain ⟨p, m, rfl, rfl, hp, hm, hx, rfl⟩ := hrel
    by_cases h : p < l.length
    · have hc := HS.out p h
      have C : Hid (∀ w : World, Calls Tryd.prog 11 #[.int .u32 (m : Int), .string l[p]] w fun e w' => e = .returned (.int .u32 (moreC m (l[p]).data.toList)) ∧ w' = w) := rmore_any m hm _ (HLS.out _ (List.getElem_mem h))
      have HX : Hid (sumC m (l.drop p) = sumC 0 l) := hx
      have HE : Hid (sumC m (l.drop p) = sumC (moreC m (l[p]).data.toList) (l.drop (p + 1))) := sumC_at m l h
      have hm' := moreC_lt m (l[p]).data.toList
      clear hx
      generalize moreC m (l[p]).data.toList = M' at *
      generalize l[p] = S at *
      go_wp2_with fail
      refine (C.out _).mono ?_
      rintro e w1 ⟨rfl, rfl⟩
      go_wp2
      refine ⟨⟨p + 1, M', rfl, rfl, by omega, hm', ?_, trivial⟩, by simp only [intOf]; omega⟩
      rw [← HX.out, HE.out]
    · have e2 : l.drop p = [] := List.drop_eq_nil_of_le (by omega)
      rw [e2] at hx
      have hx' : m = sumC 0 l := hx
      subst hx'
      clear hx e2
      generalize sumC 0 l = Z at *
      go_wp2_with fail
      refine (CS.out _ HT.out HF.out).mono ?_
      rintro e w3 ⟨rfl, rfl⟩
      go_wp2_with fail
      refine (CS.out _ HT.out HF.out).mono ?_
      rintro e w4 ⟨rfl, rfl⟩
      go_wp2_with fail
      refine (CB.out _ HS.out HG.out).mono ?_
      rintro e w5 ⟨rfl, hh5, hb5⟩
      have T5 : Tab w5 := HT.out.below hb5
      have B5 : Below w.heap.size w w5 := B2.trans (hb5.mono B2.size)
      clear hh5 hb5
      go_wp2_with fail
      refine (C2.out _ T5).mono ?_
      rintro e w6 ⟨rfl, rfl⟩
      go_wp2_with fail
      refine (C3.out _).mono ?_
      rintro e w7 ⟨rfl, rfl⟩
      go_wp2
      go_ret
      exact ⟨by simp, B5⟩

set_option maxHeartbeats 4000000 in
theorem sums_none (a : Option Addr) (cap : Nat) (n : Nat) (hn : n < 4294967296) (s : ByteArray) (hs : s.size ≤ 9223372036854775807) (w : World) (hT : Tab w) :
    Calls Tryd.prog 3 #[.slice a 0 cap, .int .u32 n, .string s] w fun e w' => e = .returned (.bool true) ∧ Below w.heap.size w w' := by
  have CL : Hid (∀ w : World, Tab w → Calls Tryd.prog 9 #[] w fun e w' => e = .returned (.bool true) ∧ Below w.heap.size w w') := live_any
  have C1 : Hid (∀ w : World, Calls Tryd.prog 10 #[.slice a 0 cap] w fun e w' => ∃ v, e = .returned v ∧ w'.ownsRow w.heap.size 9 1 v 1 (strV [mark]) ∧ Below w.heap.size w w') := fun w => lent_none a cap w
  have C2 : Hid (∀ (w : World), Tab w → Calls Tryd.prog 14 #[.int .u32 n, .string s] w fun e w' => e = .returned (.int .u32 (moreC n s.data.toList)) ∧ w' = w) := fun w h => more_any n hn s hs w h
  have C3 : Hid (∀ (w : World), Calls Tryd.prog 11 #[.int .u32 n, .string s] w fun e w' => e = .returned (.int .u32 (moreC n s.data.toList)) ∧ w' = w) := fun w => rmore_any n hn s hs w
  generalize moreC n s.data.toList = M at *
  clear hs
  go_enter Tryd.func3, Tryd.ntmps3
  go_wp2_with fail
  refine (CL.out _ hT).mono ?_
  rintro e w1 ⟨rfl, hb1⟩
  have T1 := hT.below hb1
  go_wp2_with fail
  refine (C1.out _).mono ?_
  rintro e w2 ⟨v, rfl, hown, hb2⟩
  obtain ⟨g, k, rfl, hg0, hg1, hk, hk2, hG⟩ := strs_of_own hown (by simp) (by omega)
  have B2 : Below w.heap.size w w2 := hb1.trans (hb2.mono hb1.size)
  have HT : Hid (Tab w2) := T1.below hb2
  have HG : Hid (Strs w2 g 0 [mark]) := hG
  have CS : Hid (∀ w : World, Tab w → Calls Tryd.prog 12 #[.slice (some ⟨g, 0, none⟩) 0 k] w fun e w' => e = .returned (.int .u32 0) ∧ w' = w) := fun w h => sum_any g 0 k [] (by decide) (by simp) w h (fun i hi => by simp at hi)
  have CB : Hid (∀ w : World, Strs w g 0 [mark] → Calls Tryd.prog 13 #[.slice (some ⟨g, 0, none⟩) 1 k, .slice a 0 cap] w fun e w' => e = .returned (.bool true) ∧ w'.heap = w.heap ∧ Below w.heap.size w w') := fun w h => back_none g k a cap w h
  clear hown hb1 hb2 T1 hT hG CL C1 hg0
  go_wp2
  refine wp_loop_rounds 1 ?_
  rw [rounds_succ]
  go_wp2_with fail
  refine (CS.out _ HT.out).mono ?_
  rintro e w3 ⟨rfl, rfl⟩
  go_wp2_with fail
  refine (CS.out _ HT.out).mono ?_
  rintro e w4 ⟨rfl, rfl⟩
  go_wp2_with fail
  refine (CB.out _ HG.out).mono ?_
  rintro e w5 ⟨rfl, hh5, hb5⟩
  have T5 : Tab w5 := HT.out.below hb5
  have B5 : Below w.heap.size w w5 := B2.trans (hb5.mono B2.size)
  clear hh5 hb5
  go_wp2_with fail
  refine (C2.out _ T5).mono ?_
  rintro e w6 ⟨rfl, rfl⟩
  go_wp2_with fail
  refine (C3.out _).mono ?_
  rintro e w7 ⟨rfl, rfl⟩
  go_wp2
  go_ret
  exact ⟨by simp, B5⟩
end Go.Proofs.YtabipemlemppjaaDoor
