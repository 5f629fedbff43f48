/- The walk of SumsFours: whatever the two numbers and the text: true; older memory is as it was. -/
import Derived.Test.YtabipemlemppjaaDoorSl
import Derived.Test.YtabipemlemppjaaDoorFv
namespace Go.Proofs.YtabipemlemppjaaDoor
open Go.RowKit
set_option linter.unusedVariables false
set_option linter.unusedSimpArgs false

/-- Of a text of four bytes and more the last four, as a word's. -/
theorem last_four (s : ByteArray) (h : 4 ≤ s.size) : ∃ y, y < 4294967296 ∧ s.data.toList = (s.extract 0 (s.size - 4)).data.toList ++ le4 y ∧ s.extract (s.size - 4) s.size = ⟨(le4 y).toArray⟩ := by
  have hsz : s.data.toList.length = s.size := by simp
  have e1 : (s.extract 0 (s.size - 4)).data.toList = s.data.toList.take (s.size - 4) := by
    simp [ByteArray.data_extract]
  have e2 : (s.extract (s.size - 4) s.size).data.toList = s.data.toList.drop (s.size - 4) := by
    simp [ByteArray.data_extract]
    rw [List.take_of_length_le (by simp)]
  have hl : (s.data.toList.drop (s.size - 4)).length = 4 := by rw [List.length_drop]; omega
  obtain ⟨a, b, c, d, hd⟩ : ∃ a b c d, s.data.toList.drop (s.size - 4) = [a, b, c, d] := by
    match hh : s.data.toList.drop (s.size - 4) with
    | [a, b, c, d] => exact ⟨a, b, c, d, rfl⟩
    | [] => rw [hh] at hl; simp at hl
    | [_] => rw [hh] at hl; simp at hl
    | [_, _] => rw [hh] at hl; simp at hl
    | [_, _, _] => rw [hh] at hl; simp at hl
    | _ :: _ :: _ :: _ :: _ :: _ => rw [hh] at hl; simp at hl
  obtain ⟨y, hy, e⟩ := le4_of a b c d
  refine ⟨y, hy, ?_, ?_⟩
  · rw [e1, e, ← hd, List.take_append_drop]
  · apply ByteArray.ext
    apply Array.ext'
    show (s.extract (s.size - 4) s.size).data.toList = _
    rw [e2, hd, e]

set_option maxHeartbeats 4000000 in
theorem fours_walk (n m : Nat) (hn : n < 4294967296) (hm : m < 4294967296) (s : ByteArray) (hs : s.size ≤ 9223372036854775807) (w : World) (hT : Tab w) :
    Calls Tryd.prog 5 #[.int .u32 n, .int .u32 m, .string s] w fun e w' => e = .returned (.bool true) ∧ Below w.heap.size w w' := by
  have CL : Hid (∀ w : World, Tab w → Calls Tryd.prog 9 #[] w fun e w' => e = .returned (.bool true) ∧ Below w.heap.size w w') := live_any
  have C1 : Hid (∀ w : World, Calls Tryd.prog 19 #[.int .u32 n, .int .u32 m] w fun e w' => e = .returned (.string ⟨(le4 (fourW n m)).toArray⟩) ∧ Below w.heap.size w w') := four_any n m hn hm
  have hsz : (⟨(le4 (fourW n m)).toArray⟩ : ByteArray).size = 4 := rfl
  have C2 : Hid (∀ w : World, Tab w → Calls Tryd.prog 14 #[.int .u32 n, .string ⟨(le4 (fourW n m)).toArray⟩] w fun e w' => e = .returned (.int .u32 m) ∧ w' = w) := by
    show ∀ w : World, _
    intro w h
    have := more_any n hn ⟨(le4 (fourW n m)).toArray⟩ (by rw [hsz]; decide) w h
    rw [show (⟨(le4 (fourW n m)).toArray⟩ : ByteArray).data.toList = le4 (fourW n m) from rfl, four_leads n m hm] at this
    exact this
  generalize (⟨(le4 (fourW n m)).toArray⟩ : ByteArray) = y at *
  by_cases h4 : 4 ≤ s.size
  · obtain ⟨z, hz, e1, e2⟩ := last_four s h4
    have hx : (s.extract 0 (s.size - 4)).size ≤ 9223372036854775807 := by simp [ByteArray.size_extract]; omega
    have C3 : Hid (∀ w : World, Tab w → Calls Tryd.prog 14 #[.int .u32 n, .string (s.extract 0 (s.size - 4))] w fun e w' => e = .returned (.int .u32 (moreC n (s.extract 0 (s.size - 4)).data.toList)) ∧ w' = w) := fun w h => more_any n hn _ hx w h
    have hf := moreC_lt n (s.extract 0 (s.size - 4)).data.toList
    have e3 : moreC n s.data.toList = moreC (moreC n (s.extract 0 (s.size - 4)).data.toList) (le4 z) := by
      conv => lhs; rw [e1]
      exact more_append n hn _ _
    have C4 : Hid (∀ w : World, Tab w → Calls Tryd.prog 14 #[.int .u32 n, .string s] w fun e w' => e = .returned (.int .u32 (moreC n s.data.toList)) ∧ w' = w) := fun w h => more_any n hn _ hs w h
    rw [e3] at C4
    generalize hq : moreC n (s.extract 0 (s.size - 4)).data.toList = q at *
    have C5 : Hid (∀ w : World, Calls Tryd.prog 19 #[.int .u32 q, .int .u32 (moreC q (le4 z))] w fun e w' => e = .returned (.string (s.extract (s.size - 4) s.size)) ∧ Below w.heap.size w w') := by
      show ∀ w : World, _
      intro w
      have := four_any q (moreC q (le4 z)) hf (moreC_lt _ _) w
      rw [four_only q hf z hz, ← e2] at this
      exact this
    have hr := moreC_lt q (le4 z)
    generalize moreC q (le4 z) = r at *
    clear e1 e2 e3 hq
    obtain ⟨K, hK⟩ : ∃ K, s.size = K + 4 := ⟨s.size - 4, by omega⟩
    rw [show s.size - 4 = K by omega] at C3 C5
    have hKi : (s.size : Int) - 4 = (K : Int) := by omega
    go_enter Tryd.func5, Tryd.ntmps5
    go_wp2_with fail
    refine (CL.out _ hT).mono ?_
    rintro e w1 ⟨rfl, hb1⟩
    have T1 := hT.below hb1
    go_wp2_with fail
    refine (C1.out _).mono ?_
    rintro e w2 ⟨rfl, hb2⟩
    have T2 := T1.below hb2
    have B2 : Below w.heap.size w w2 := hb1.trans (hb2.mono hb1.size)
    clear hb1 hb2 T1 hT
    go_wp2_with fail
    refine (C2.out _ T2).mono ?_
    rintro e w3 ⟨rfl, rfl⟩
    go_wp2_with fail
    refine (C3.out _ T2).mono ?_
    rintro e w4 ⟨rfl, rfl⟩
    go_wp2_with fail
    refine (C4.out _ T2).mono ?_
    rintro e w5 ⟨rfl, rfl⟩
    go_wp2_with fail
    refine (C5.out _).mono ?_
    rintro e w6 ⟨rfl, hb6⟩
    have B6 : Below w.heap.size w w6 := B2.trans (hb6.mono B2.size)
    go_wp2
    go_ret
    exact ⟨by simp, B6⟩
  · go_enter Tryd.func5, Tryd.ntmps5
    go_wp2_with fail
    refine (CL.out _ hT).mono ?_
    rintro e w1 ⟨rfl, hb1⟩
    have T1 := hT.below hb1
    go_wp2_with fail
    refine (C1.out _).mono ?_
    rintro e w2 ⟨rfl, hb2⟩
    have T2 := T1.below hb2
    have B2 : Below w.heap.size w w2 := hb1.trans (hb2.mono hb1.size)
    clear hb1 hb2 T1 hT
    go_wp2_with fail
    refine (C2.out _ T2).mono ?_
    rintro e w3 ⟨rfl, rfl⟩
    go_wp2
    go_ret
    exact ⟨by simp, B2⟩
end Go.Proofs.YtabipemlemppjaaDoor
