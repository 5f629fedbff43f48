/- Package value's fromDigits at every text, fromNumber. -/
import Derived.Test.YtlgfpjaomiomjaaGreatDoorWf
import Derived.Lib.Strings
namespace Go.Proofs.YtlgfpjaomiomjaaGreatDoor
open Go.RowKit
set_option linter.unusedVariables false
set_option linter.unusedSimpArgs false

theorem fromDigits_any (base : Nat) (s : ByteArray) (hb0 : 2 ≤ base) (hb1 : base ≤ 16) (hs : s.size ≤ maxLen) (w : World) (hT : Tab w) :
    Calls Tryz.prog 74 #[.string s, .int .u64 base] w fun e w' => e = .returned (.tuple #[B (fdN base s.data.toList).1, .int .i64 (fdN base s.data.toList).2]) ∧ Below w.heap.size w w' := by
  by_cases hne : s.data.toList = []
  · have e0 : fdN base s.data.toList = (0, 12) := by unfold fdN; rw [if_pos (Or.inl hne)]
    have h1 : s.toList.isEmpty = true := by rw [ByteArray.toList_eq, hne]; rfl
    rw [e0]
    clear e0 hne
    go_enter Tryz.func74, Tryz.ntmps74
    go_wp2
    refine bodyPost_ret (v := .tuple #[B 0, .int .i64 12]) ?_ rfl ⟨rfl, ?_⟩
    · rw [zero_words]; simp [results, Tryz.results74, go_sem]
    · go_grown
  by_cases hz : 1 < s.data.toList.length ∧ s.data.toList.head? = some 48
  · have e0 : fdN base s.data.toList = (0, 12) := by unfold fdN; rw [if_pos (Or.inr hz)]
    have h1 : s.toList.isEmpty = false := by rw [ByteArray.toList_eq]; simpa using hne
    have hl : 1 < s.size := by simpa using hz.1
    have hp0 : 0 < s.size := by omega
    have hp1 : ((s[0].toNat : Int) == 48) = true := by
      have e1 : s.data.toList = s[0] :: s.data.toList.drop 1 := by simpa using byte_at s (p := 0) hp0
      have e2 := hz.2
      rw [e1, List.head?_cons] at e2
      rw [Option.some.inj e2]; rfl
    rw [e0]
    clear e0 hne hz
    go_enter Tryz.func74, Tryz.ntmps74
    go_wp2
    refine bodyPost_ret (v := .tuple #[B 0, .int .i64 12]) ?_ rfl ⟨rfl, ?_⟩
    · rw [zero_words]; simp [results, Tryz.results74, go_sem]
    · go_grown
  · exact fromDigits_loop base s hb0 hb1 hs hne hz w hT

theorem extract_list (s : ByteArray) (a b : Nat) : (s.extract a b).data.toList = (s.data.toList.take b).drop a := by
  rw [Lib.extract_data, List.drop_take]
theorem cutPrefix_no (s p : ByteArray) (w : World) (h : s.data.toList.take p.size ≠ p.data.toList) : Calls Tryz.prog 64 #[.string s, .string p] w fun e w' => e = .returned (.tuple #[.string s, .bool false]) ∧ w' = w := by
  by_cases hl : p.size ≤ s.size
  · have h1 : ((s.extract 0 p.size).toList == p.toList) = false := by
      rw [ByteArray.toList_eq, ByteArray.toList_eq, extract_list, List.drop_zero, beq_eq_false_iff_ne]; exact h
    clear h
    go_enter Tryz.func64, Tryz.ntmps64
    go_wp2
    go_ret2
    exact ⟨rfl, rfl⟩
  · have h2 : decide ((p.size : Int) ≤ s.size) = false := by simp; omega
    clear h
    go_enter Tryz.func64, Tryz.ntmps64
    go_wp2
    go_ret2
    exact ⟨rfl, rfl⟩
theorem cutPrefix_yes (s p : ByteArray) (w : World) (h : s.data.toList.take p.size = p.data.toList) : Calls Tryz.prog 64 #[.string s, .string p] w fun e w' => e = .returned (.tuple #[.string (s.extract p.size s.size), .bool true]) ∧ w' = w := by
  have hl : p.size ≤ s.size := by
    have := congrArg List.length h
    simp at this; omega
  have h1 : ((s.extract 0 p.size).toList == p.toList) = true := by
    rw [ByteArray.toList_eq, ByteArray.toList_eq, extract_list, List.drop_zero, h]; simp
  clear h
  go_enter Tryz.func64, Tryz.ntmps64
  go_wp2
  go_ret2
  exact ⟨rfl, rfl⟩

/-- What a number's text says. -/
def fnN (l : List UInt8) : Nat × Int :=
  if l.take 2 = [48, 120] then fdN 16 (l.drop 2) else if l.take 2 = [48, 98] then fdN 2 (l.drop 2) else fdN 10 l

theorem fd16 (s : ByteArray) (hs : s.size ≤ maxLen) (w : World) (hT : Tab w) : Calls Tryz.prog 74 #[.string s, .int .u64 16] w fun e w' => e = .returned (.tuple #[B (fdN 16 s.data.toList).1, .int .i64 (fdN 16 s.data.toList).2]) ∧ Below w.heap.size w w' := fromDigits_any 16 s (by decide) (by decide) hs w hT
theorem fd2 (s : ByteArray) (hs : s.size ≤ maxLen) (w : World) (hT : Tab w) : Calls Tryz.prog 74 #[.string s, .int .u64 2] w fun e w' => e = .returned (.tuple #[B (fdN 2 s.data.toList).1, .int .i64 (fdN 2 s.data.toList).2]) ∧ Below w.heap.size w w' := fromDigits_any 2 s (by decide) (by decide) hs w hT
theorem fd10 (s : ByteArray) (hs : s.size ≤ maxLen) (w : World) (hT : Tab w) : Calls Tryz.prog 74 #[.string s, .int .u64 10] w fun e w' => e = .returned (.tuple #[B (fdN 10 s.data.toList).1, .int .i64 (fdN 10 s.data.toList).2]) ∧ Below w.heap.size w w' := fromDigits_any 10 s (by decide) (by decide) hs w hT

set_option maxHeartbeats 1000000 in
theorem fromNumber_any (s : ByteArray) (hs : s.size ≤ maxLen) (w : World) (hT : Tab w) :
    Calls Tryz.prog 62 #[.string s] w fun e w' => e = .returned (.tuple #[B (fnN s.data.toList).1, .int .i64 (fnN s.data.toList).2]) ∧ Below w.heap.size w w' := by
  have hT1 : Hid (Tab (w.alloc (.cells #[.int .u64 0, .int .u64 0] 37))) := hT.below ((Below.refl _ _).alloc (Nat.le_refl _) _)
  have hx : (s.extract 2 s.size).data.toList = s.data.toList.drop 2 := by
    rw [extract_list, List.take_of_length_le (by simp)]
  have hxs : (s.extract 2 s.size).size ≤ maxLen := by simp; omega
  by_cases h1 : s.data.toList.take 2 = [48, 120]
  · have e0 : fnN s.data.toList = fdN 16 (s.extract 2 s.size).data.toList := by unfold fnN; rw [if_pos h1, hx]
    rw [e0]
    generalize hv : fdN 16 (s.extract 2 s.size).data.toList = v
    have HC : Hid (Calls Tryz.prog 64 #[.string s, .string ⟨#[48, 120]⟩] (w.alloc (.cells #[.int .u64 0, .int .u64 0] 37)) _) := cutPrefix_yes s ⟨#[48, 120]⟩ _ h1
    have HD : Hid (Calls Tryz.prog 74 #[.string (s.extract 2 s.size), .int .u64 16] (w.alloc (.cells #[.int .u64 0, .int .u64 0] 37)) fun e w' => e = .returned (.tuple #[B v.1, .int .i64 v.2]) ∧ Below (w.alloc (.cells #[.int .u64 0, .int .u64 0] 37)).heap.size (w.alloc (.cells #[.int .u64 0, .int .u64 0] 37)) w') := by rw [← hv]; exact fd16 _ hxs _ hT1.out
    clear e0 hx h1 hT hv
    go_enter Tryz.func62, Tryz.ntmps62
    go_wp2_with fail
    refine HC.out.mono ?_
    rintro e w1 ⟨rfl, rfl⟩
    go_wp2_with fail
    refine HD.out.mono ?_
    rintro e w2 ⟨rfl, hb2⟩
    obtain ⟨hc2, hf2⟩ := bcell hb2
    simp at hc2 hf2
    go_wp2
    refine bodyPost_ret (v := .tuple #[B v.1, .int .i64 v.2]) ?_ rfl ⟨rfl, ?_⟩
    · simp [results, Tryz.results62, go_sem, hc2, hf2]
    · exact ((bstep ((Below.refl _ _).alloc (Nat.le_refl _) _) hb2).setCell (Nat.le_refl _) _).setCell (Nat.le_refl _) _
  have HC1 : Hid (Calls Tryz.prog 64 #[.string s, .string ⟨#[48, 120]⟩] (w.alloc (.cells #[.int .u64 0, .int .u64 0] 37)) _) := cutPrefix_no s ⟨#[48, 120]⟩ _ h1
  by_cases h2 : s.data.toList.take 2 = [48, 98]
  · have e0 : fnN s.data.toList = fdN 2 (s.extract 2 s.size).data.toList := by unfold fnN; rw [if_neg h1, if_pos h2, hx]
    rw [e0]
    generalize hv : fdN 2 (s.extract 2 s.size).data.toList = v
    have HC : Hid (Calls Tryz.prog 64 #[.string s, .string ⟨#[48, 98]⟩] (w.alloc (.cells #[.int .u64 0, .int .u64 0] 37)) _) := cutPrefix_yes s ⟨#[48, 98]⟩ _ h2
    have HD : Hid (Calls Tryz.prog 74 #[.string (s.extract 2 s.size), .int .u64 2] (w.alloc (.cells #[.int .u64 0, .int .u64 0] 37)) fun e w' => e = .returned (.tuple #[B v.1, .int .i64 v.2]) ∧ Below (w.alloc (.cells #[.int .u64 0, .int .u64 0] 37)).heap.size (w.alloc (.cells #[.int .u64 0, .int .u64 0] 37)) w') := by rw [← hv]; exact fd2 _ hxs _ hT1.out
    clear e0 hx h1 h2 hT hv
    go_enter Tryz.func62, Tryz.ntmps62
    go_wp2_with fail
    refine HC1.out.mono ?_
    rintro e w1 ⟨rfl, rfl⟩
    go_wp2_with fail
    refine HC.out.mono ?_
    rintro e w1 ⟨rfl, rfl⟩
    go_wp2_with fail
    refine HD.out.mono ?_
    rintro e w2 ⟨rfl, hb2⟩
    obtain ⟨hc2, hf2⟩ := bcell hb2
    simp at hc2 hf2
    go_wp2
    refine bodyPost_ret (v := .tuple #[B v.1, .int .i64 v.2]) ?_ rfl ⟨rfl, ?_⟩
    · simp [results, Tryz.results62, go_sem, hc2, hf2]
    · exact ((bstep ((Below.refl _ _).alloc (Nat.le_refl _) _) hb2).setCell (Nat.le_refl _) _).setCell (Nat.le_refl _) _
  · have e0 : fnN s.data.toList = fdN 10 s.data.toList := by unfold fnN; rw [if_neg h1, if_neg h2]
    rw [e0]
    generalize hv : fdN 10 s.data.toList = v
    have HC : Hid (Calls Tryz.prog 64 #[.string s, .string ⟨#[48, 98]⟩] (w.alloc (.cells #[.int .u64 0, .int .u64 0] 37)) _) := cutPrefix_no s ⟨#[48, 98]⟩ _ h2
    have HD : Hid (Calls Tryz.prog 74 #[.string s, .int .u64 10] (w.alloc (.cells #[.int .u64 0, .int .u64 0] 37)) fun e w' => e = .returned (.tuple #[B v.1, .int .i64 v.2]) ∧ Below (w.alloc (.cells #[.int .u64 0, .int .u64 0] 37)).heap.size (w.alloc (.cells #[.int .u64 0, .int .u64 0] 37)) w') := by rw [← hv]; exact fd10 _ hs _ hT1.out
    clear e0 hx h1 h2 hT hv
    go_enter Tryz.func62, Tryz.ntmps62
    go_wp2_with fail
    refine HC1.out.mono ?_
    rintro e w1 ⟨rfl, rfl⟩
    go_wp2_with fail
    refine HC.out.mono ?_
    rintro e w1 ⟨rfl, rfl⟩
    go_wp2_with fail
    refine HD.out.mono ?_
    rintro e w2 ⟨rfl, hb2⟩
    obtain ⟨hc2, hf2⟩ := bcell hb2
    simp at hc2 hf2
    go_wp2
    refine bodyPost_ret (v := .tuple #[B v.1, .int .i64 v.2]) ?_ rfl ⟨rfl, ?_⟩
    · simp [results, Tryz.results62, go_sem, hc2, hf2]
    · exact ((bstep ((Below.refl _ _).alloc (Nat.le_refl _) _) hb2).setCell (Nat.le_refl _) _).setCell (Nat.le_refl _) _
end Go.Proofs.YtlgfpjaomiomjaaGreatDoor
