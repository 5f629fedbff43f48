/- Package lex: number, first. -/
import Derived.Test.YtlgfpjaomiomjaaGreatDoorLh
namespace Go.Proofs.YtlgfpjaomiomjaaGreatDoor
open Go.RowKit
set_option linter.unusedVariables false
set_option linter.unusedSimpArgs false

theorem lower_colon : ∀ c : Fin 256, UInt8.ofNat c.val ≠ 58 → Lib.lowerB (UInt8.ofNat c.val) ≠ 58 := by decide +kernel
theorem lower_no {c : UInt8} (h : c ≠ 58) : Lib.lowerB c ≠ 58 := by
  have := lower_colon ⟨c.toNat, c.toNat_lt⟩
  simp only [UInt8.ofNat_toNat] at this
  exact this h
theorem cut_no_colon {d : List UInt8} (h : ∀ c ∈ d, c ≠ 58) : ∀ c ∈ cutL d, c ≠ 58 := by
  intro c hc
  unfold cutL Lib.toLowerA at hc
  obtain ⟨b, hb, rfl⟩ := List.mem_map.1 hc
  refine lower_no (h b ?_)
  rcases List.mem_append.1 hb with h1 | h1
  · exact List.mem_of_mem_take ((List.dropWhile_sublist (fun x => x == 48) (l := d.take (d.length - 1))).subset h1)
  · exact List.mem_of_mem_drop h1
theorem plain_no_colon {l : List UInt8} (h : ∀ c ∈ l, c ≠ 58) : ∀ c ∈ plainL l, c ≠ 58 := by
  have hd : ∀ c ∈ l.drop 2, c ≠ 58 := fun c hc => h c (List.mem_of_mem_drop hc)
  unfold plainL
  intro c hc
  split at hc
  · rcases List.mem_append.1 hc with h1 | h1
    · simp at h1; rcases h1 with rfl | rfl <;> decide
    · exact cut_no_colon hd c h1
  · split at hc
    · rcases List.mem_append.1 hc with h1 | h1
      · simp at h1; rcases h1 with rfl | rfl <;> decide
      · exact cut_no_colon hd c h1
    · exact h c hc
theorem cut_length (d : List UInt8) : (cutL d).length ≤ d.length := by
  unfold cutL Lib.toLowerA
  rw [List.length_map, List.length_append, List.length_drop]
  have := len_trim (d.take (d.length - 1)) 48
  rw [List.length_take] at this
  omega
theorem plain_length (l : List UInt8) : (plainL l).length ≤ l.length + 2 := by
  have := cut_length (l.drop 2)
  rw [List.length_drop] at this
  unfold plainL
  split
  · simp; omega
  · split
    · simp; omega
    · omega
/-- A word that begins with a digit. -/
def numW (l : List UInt8) : Wd := if (prN (plainL l)).2 = 0 then ⟨3, l, (prN (plainL l)).1, 0⟩ else ⟨0, [], 0, 61⟩
theorem hi0 : hiOf 0 = 0 := by decide
theorem lo0 : loOf 0 = 0 := by decide
theorem info34 : (Tryz.prog.info? 37).map (·.size) = some 2 := by kernel_rfl
set_option maxHeartbeats 2000000 in
theorem number_any (s : ByteArray) (hs : s.size ≤ 65536) (ha : ∀ b ∈ s.data.toList, b.toNat < 128) (hcol : ∀ c ∈ s.data.toList, c ≠ 58) (w : World) (hT : Tabs w) :
    Calls Tryz.prog 40 #[.string s] w fun e w' => e = .returned (wdV (numW s.data.toList)) ∧ Below w.heap.size w w' := by
  have hB0 : Below w.heap.size w (w.alloc (.cells zero36 39)) := (Below.refl _ _).alloc (Nat.le_refl _) _
  have CP : Hid (Calls Tryz.prog 52 #[.string s] (w.alloc (.cells zero36 39)) fun e w' => e = .returned (.string ⟨(plainL s.data.toList).toArray⟩) ∧ Below (w.alloc (.cells zero36 39)).heap.size (w.alloc (.cells zero36 39)) w') := plain_any s hs ha _ (hT.below hB0)
  have hpl : (⟨(plainL s.data.toList).toArray⟩ : ByteArray).size ≤ maxLen := by
    show (plainL s.data.toList).toArray.size ≤ maxLen
    have h1 := plain_length s.data.toList
    have h2 : s.data.toList.length = s.size := by simp
    unfold maxLen; simp; omega
  have CV : Hid (∀ w1, Below w.heap.size w w1 → Calls Tryz.prog 51 #[.string ⟨(plainL s.data.toList).toArray⟩, .int .i64 128] w1 fun e w' => e = .returned (.tuple #[B (prN (plainL s.data.toList)).1, .int .i64 (prN (plainL s.data.toList)).2]) ∧ Below w1.heap.size w1 w') := fun w1 h => parse_128 ⟨(plainL s.data.toList).toArray⟩ hpl (plain_no_colon hcol) w1 (hT.below h).six
  have HE : Hid (numW s.data.toList = if (prN (plainL s.data.toList)).2 = 0 then ⟨3, s.data.toList, (prN (plainL s.data.toList)).1, 0⟩ else ⟨0, [], 0, 61⟩) := rfl
  have HB0 : Hid _ := hB0
  clear hT hB0 hs ha hcol hpl
  generalize numW s.data.toList = L at *
  generalize prN (plainL s.data.toList) = v at *
  generalize (⟨(plainL s.data.toList).toArray⟩ : ByteArray) = q at *
  go_enter Tryz.func40, Tryz.ntmps40
  go_wp2_with fail
  refine CP.out.mono ?_
  rintro e w1 ⟨rfl, hb1⟩
  have hbb : Hid (Below w.heap.size w w1) := HB0.out.trans (hb1.mono (by simp))
  have HZ1 : Hid (Blk w1 w.heap.size zero36 39) := (Blk.new w zero36 39).below hb1
  clear CP HB0 hb1
  go_wp2_with fail
  refine (CV.out _ hbb.out).mono ?_
  rintro e w2 ⟨rfl, hb2⟩
  have hbb2 : Hid (Below w.heap.size w (w2.alloc (.cells #[.int .u64 (hiOf v.1), .int .u64 (loOf v.1)] 37))) := (bst hbb.out hb2).alloc (by have := hbb.out.size; have := hb2.size; omega) _
  have HZ : Hid (Blk (w2.alloc (.cells #[.int .u64 (hiOf v.1), .int .u64 (loOf v.1)] 37)) w.heap.size zero36 39) := (HZ1.out.below hb2).below ((Below.refl _ _).alloc (Nat.le_refl _) _)
  clear CV hbb HZ1 hb2
  by_cases h0 : v.2 = 0
  · have h0' : (v.2 != 0) = false := by simp [h0]
    have E : Hid (L = ⟨3, s.data.toList, v.1, 0⟩) := by show _ = _; rw [HE.out, if_pos h0]
    clear h0
    go_wp2_with (refine wpList_store_row rfl 39 _ _ rfl w.heap.size _ rfl rfl 39 _ HZ.out info36 rfl one36 ?_)
    rw [E.out]
    refine bodyPost_ret (v := wdV ⟨3, s.data.toList, v.1, 0⟩) ?_ rfl ⟨rfl, below_setRow hbb2.out (Nat.le_refl _) _⟩
    simp [results, Tryz.results40, go_sem, row_back HZ.out, wdV]
  · have h0' : (v.2 != 0) = true := by simp [h0]
    have E : Hid (L = ⟨0, [], 0, 61⟩) := by show _ = _; rw [HE.out, if_neg h0]
    clear h0
    go_wp2_with (refine wpList_store_row rfl 39 _ _ rfl w.heap.size _ rfl rfl 39 _ HZ.out info36 rfl one36 ?_)
    rw [E.out]
    refine bodyPost_ret (v := wdV ⟨0, [], 0, 61⟩) ?_ rfl ⟨rfl, below_setRow hbb2.out (Nat.le_refl _) _⟩
    simp [results, Tryz.results40, go_sem, row_back HZ.out, wdV, hi0, lo0]
/-- The bytes of a word are letters, digits and the underline. -/
theorem wlen_part : ∀ (l : List UInt8), ∀ c ∈ l.take (wlen l), ptI (cI c) = true
  | [], c, h => by simp at h
  | b :: l, c, h => by
    cases hb : ptI (cI b)
    · rw [wlen_stop hb] at h; simp at h
    · rw [wlen_go hb, List.take_succ_cons] at h
      rcases List.mem_cons.1 h with rfl | h
      · exact hb
      · exact wlen_part l c h
theorem pt_ascii {c : UInt8} (h : ptI (cI c) = true) : c.toNat < 128 ∧ c ≠ 58 := by
  constructor
  · apply Classical.byContradiction; intro hn
    rw [pt_high (by unfold cI; omega)] at h; cases h
  · rintro rfl; revert h; decide
/-- The word that a text begins with. -/
def firstW (l : List UInt8) : Wd :=
  if wlen l = 0 then signW l else if dgI (cI (l.headD 0)) = true then numW (l.take (wlen l)) else lettW (l.take (wlen l))
set_option maxHeartbeats 2000000 in
theorem first_any (s : ByteArray) (hs : s.size ≤ 65536) (w : World) (hT : Tabs w) :
    Calls Tryz.prog 21 #[.string s] w fun e w' => e = .returned (wdV (firstW s.data.toList)) ∧ Below w.heap.size w w' := by
  have hlen : s.data.toList.length = s.size := by simp
  have hml : s.size ≤ maxLen := by unfold maxLen; omega
  have hB0 : Below w.heap.size w (w.alloc (.cells zero36 39)) := (Below.refl _ _).alloc (Nat.le_refl _) _
  have hwl := wlen_le s.data.toList
  have hx : (s.extract 0 (wlen s.data.toList)).data.toList = s.data.toList.take (wlen s.data.toList) := by rw [ext_list]; rfl
  have hxs : (s.extract 0 (wlen s.data.toList)).size ≤ 65536 := by simp; omega
  have CS : Hid (Calls Tryz.prog 30 #[.string s, .func (.func 35) #[] #[]] (w.alloc (.cells zero36 39)) fun e w' => e = .returned (.int .i64 (wlen s.data.toList)) ∧ Below (w.alloc (.cells zero36 39)).heap.size (w.alloc (.cells zero36 39)) w') := span_word s hml _
  have C0 : Hid (∀ w1, Below w.heap.size w w1 → Calls Tryz.prog 39 #[.string s] w1 fun e w' => e = .returned (wdV (signW s.data.toList)) ∧ Below w1.heap.size w1 w') := fun w1 h => sign_any s w1 (hT.below h)
  have C1 : Hid (∀ w1, Below w.heap.size w w1 → Calls Tryz.prog 40 #[.string (s.extract 0 (wlen s.data.toList))] w1 fun e w' => e = .returned (wdV (numW (s.data.toList.take (wlen s.data.toList)))) ∧ Below w1.heap.size w1 w') := fun w1 h => by
    have := number_any (s.extract 0 (wlen s.data.toList)) hxs (fun b hb => (pt_ascii (wlen_part _ b (hx ▸ hb))).1) (fun b hb => (pt_ascii (wlen_part _ b (hx ▸ hb))).2) w1 (hT.below h)
    rw [hx] at this; exact this
  have C2 : Hid (∀ w1, Below w.heap.size w w1 → Calls Tryz.prog 41 #[.string (s.extract 0 (wlen s.data.toList))] w1 fun e w' => e = .returned (wdV (lettW (s.data.toList.take (wlen s.data.toList)))) ∧ Below w1.heap.size w1 w') := fun w1 h => by
    have := lett_any (s.extract 0 (wlen s.data.toList)) (by unfold maxLen; omega) w1 (hT.below h)
    rw [hx] at this; exact this
  have CD : Hid (∀ (r : Int) w, Calls Tryz.prog 38 #[.int .i32 r] w fun e w' => e = .returned (.bool (dgI r)) ∧ w' = w) := fun r w => dg_any r w
  have HE : Hid (firstW s.data.toList = if wlen s.data.toList = 0 then signW s.data.toList else if dgI (cI (s.data.toList.headD 0)) = true then numW (s.data.toList.take (wlen s.data.toList)) else lettW (s.data.toList.take (wlen s.data.toList))) := rfl
  have hhd : ∀ h : 0 < s.size, s.data.toList.headD 0 = s[0] := fun h => by
    have e : s.data.toList = s[0] :: s.data.toList.drop 1 := by simpa using byteAt s (p := 0) h
    rw [e]; rfl
  have HH : Hid (∀ h : 0 < s.size, s.data.toList.headD 0 = s[0]) := hhd
  have HB0 : Hid _ := hB0
  clear hhd hT hB0 hml hx hxs
  rw [hlen] at hwl
  clear hlen
  generalize firstW s.data.toList = L at *
  generalize signW s.data.toList = L0 at *
  generalize numW (s.data.toList.take (wlen s.data.toList)) = L1 at *
  generalize lettW (s.data.toList.take (wlen s.data.toList)) = L2 at *
  generalize wlen s.data.toList = n at *
  obtain ⟨a0, a1, a2, a3⟩ := L0
  obtain ⟨b0, b1, b2, b3⟩ := L1
  obtain ⟨c0, c1, c2, c3⟩ := L2
  go_enter Tryz.func21, Tryz.ntmps21
  go_wp2_with fail
  refine CS.out.mono ?_
  rintro e w1 ⟨rfl, hb1⟩
  have hbb : Hid (Below w.heap.size w w1) := HB0.out.trans (hb1.mono (by simp))
  have HZ1 : Hid (Blk w1 w.heap.size zero36 39) := (Blk.new w zero36 39).below hb1
  clear CS HB0 hb1
  rcases Nat.eq_zero_or_pos n with rfl | hn
  · have E : Hid (L = ⟨a0, a1, a2, a3⟩) := by show _ = _; rw [HE.out, if_pos rfl]
    go_wp2_with fail
    refine (C0.out _ hbb.out).mono ?_
    rintro e w2 ⟨rfl, hb2⟩
    have hbb2 : Hid (Below w.heap.size w w2) := bst hbb.out hb2
    have HZ : Hid (Blk w2 w.heap.size zero36 39) := HZ1.out.below hb2
    clear hb2
    unfold wdV
    go_wp2_with (refine wpList_store_row rfl 39 _ _ rfl w.heap.size _ rfl rfl 39 _ HZ.out info36 rfl one36 ?_)
    rw [E.out]
    refine bodyPost_ret (v := wdV ⟨a0, a1, a2, a3⟩) ?_ rfl ⟨rfl, below_setRow hbb2.out (Nat.le_refl _) _⟩
    simp [results, Tryz.results21, go_sem, row_back HZ.out, wdV]
  · have q0 : ((n : Int) == 0) = false := by simp; omega
    have hs0 : 0 < s.size := by omega
    have hd : Hid (∀ w, Calls Tryz.prog 38 #[.int .i32 (s[0].toNat : Int)] w fun e w' => e = .returned (.bool (dgI (cI (s.data.toList.headD 0)))) ∧ w' = w) := fun w => by rw [HH.out hs0]; exact CD.out _ w
    have hw32 : IntKind.i32.wrap (s[0].toNat : Int) = (s[0].toNat : Int) := by
      have := s[0].toNat_lt
      rw [IntKind.wrap_i32]; omega
    cases hdg : dgI (cI (s.data.toList.headD 0))
    · have E : Hid (L = ⟨c0, c1, c2, c3⟩) := by show _ = _; rw [HE.out, if_neg (by omega), hdg]; rfl
      rw [hdg] at hd
      clear hdg
      go_wp2_with (go_at_call 38; refine (hd.out _).mono ?_; rintro e w' ⟨rfl, hw'⟩; obtain rfl := Eq.symm hw')
      refine (C2.out _ hbb.out).mono ?_
      rintro e w2 ⟨rfl, hb2⟩
      have hbb2 : Hid (Below w.heap.size w w2) := bst hbb.out hb2
      have HZ : Hid (Blk w2 w.heap.size zero36 39) := HZ1.out.below hb2
      clear hb2
      unfold wdV
      go_wp2_with (refine wpList_store_row rfl 39 _ _ rfl w.heap.size _ rfl rfl 39 _ HZ.out info36 rfl one36 ?_)
      rw [E.out]
      refine bodyPost_ret (v := wdV ⟨c0, c1, c2, c3⟩) ?_ rfl ⟨rfl, below_setRow hbb2.out (Nat.le_refl _) _⟩
      simp [results, Tryz.results21, go_sem, row_back HZ.out, wdV]
    · have E : Hid (L = ⟨b0, b1, b2, b3⟩) := by show _ = _; rw [HE.out, if_neg (by omega), hdg]; rfl
      rw [hdg] at hd
      clear hdg
      go_wp2_with (go_at_call 38; refine (hd.out _).mono ?_; rintro e w' ⟨rfl, hw'⟩; obtain rfl := Eq.symm hw')
      refine (C1.out _ hbb.out).mono ?_
      rintro e w2 ⟨rfl, hb2⟩
      have hbb2 : Hid (Below w.heap.size w w2) := bst hbb.out hb2
      have HZ : Hid (Blk w2 w.heap.size zero36 39) := HZ1.out.below hb2
      clear hb2
      unfold wdV
      go_wp2_with (refine wpList_store_row rfl 39 _ _ rfl w.heap.size _ rfl rfl 39 _ HZ.out info36 rfl one36 ?_)
      rw [E.out]
      refine bodyPost_ret (v := wdV ⟨b0, b1, b2, b3⟩) ?_ rfl ⟨rfl, below_setRow hbb2.out (Nat.le_refl _) _⟩
      simp [results, Tryz.results21, go_sem, row_back HZ.out, wdV]
end Go.Proofs.YtlgfpjaomiomjaaGreatDoor
