/- Package lex: behind: the place behind some bytes. -/
import Derived.Test.YtlgfpjaomiomjaaGreatDoorLe
import Derived.Test.YtlgfpjaomiomjaaGreatDoorSf
import Derived.Lib.LastIndexByte
namespace Go.Proofs.YtlgfpjaomiomjaaGreatDoor
open Go.RowKit
set_option linter.unusedVariables false
set_option linter.unusedSimpArgs false

theorem past_break (l : List UInt8) (i : Nat) (p : Nat × Nat) (hi : l[i]? = some 10) (hn : ∀ j, i < j → l[j]? ≠ some 10) : past p l = (p.1 + l.count 10, 1 + (l.length - (i + 1))) := by
  obtain ⟨h1, h2⟩ := List.getElem?_eq_some_iff.1 hi
  have hz : (l.drop (i + 1)).count 10 = 0 := by
    rw [List.count_eq_zero]
    intro hm
    obtain ⟨j, hj, hj2⟩ := List.getElem_of_mem hm
    refine hn (i + 1 + j) (by omega) ?_
    rw [← List.getElem?_drop, List.getElem?_eq_getElem hj, hj2]
  have hsp : l = (l.take i ++ [10]) ++ l.drop (i + 1) := by
    rw [← h2, ← List.take_succ_eq_append_getElem h1, List.take_append_drop]
  have hc : l.count 10 = (l.take i).count 10 + 1 := by
    conv => lhs; rw [hsp]
    rw [List.count_append, List.count_append, hz]; simp
  have e : past p l = past (past p (l.take i ++ [10])) (l.drop (i + 1)) := by
    conv => lhs; rw [hsp]
    rw [past_append]
  rw [e, past_plain _ _ hz, past_append, hc]
  simp only [past, if_true, past_lines, List.length_drop]
  rw [Nat.add_assoc]
theorem dataAt (s : ByteArray) {j : Nat} (h : j < s.size) : s.data[j]! = s[j] := by
  rw [getElem!_pos s.data j h]; rfl
/-- Where the last end of a line stands. -/
theorem last_ten (s : ByteArray) (h : 0 < s.data.toList.count 10) : ∃ i : Nat, i < s.size ∧ Lib.lastIndexByte s 10 = (i : Int) ∧ s.data.toList[i]? = some 10 ∧ ∀ j, i < j → s.data.toList[j]? ≠ some 10 := by
  rcases Lib.lastIdx_spec s 10 s.size with ⟨_, hn⟩ | ⟨i, hi, he, hc, hn⟩
  · exfalso
    have hm := List.count_pos_iff.1 h
    obtain ⟨j, hj, hj2⟩ := List.getElem_of_mem hm
    have hj' : j < s.size := by simpa using hj
    have := hn j hj'
    rw [dataAt s hj'] at this
    have e : s[j] = 10 := hj2
    rw [e] at this
    exact this rfl
  · refine ⟨i, hi, he, ?_, fun j hij hj => ?_⟩
    · rw [getAt s hi]
      rw [dataAt s hi] at hc
      congr 1; apply UInt8.toNat_inj.1
      show _ = 10
      omega
    · have hjl : j < s.data.toList.length := (List.getElem?_eq_some_iff.1 hj).1
      have hj' : j < s.size := by simpa using hjl
      have := hn j hij hj'
      rw [dataAt s hj'] at this
      rw [getAt s hj'] at hj
      injection hj with hj
      rw [hj] at this
      exact this rfl
abbrev Pl (p : Nat × Nat) : Value := .agg #[.int .i64 (p.1 : Int), .int .i64 (p.2 : Int)]
set_option maxHeartbeats 1000000 in
theorem behind_any (p : Nat × Nat) (s : ByteArray) (hl : p.1 ≤ 4294967296) (hc : p.2 ≤ 4294967296) (hs : s.size ≤ 4294967296) (w : World) :
    Calls Tryz.prog 20 #[Pl p, .string s] w fun e w' => e = .returned (Pl (past p s.data.toList)) ∧ Below w.heap.size w w' := by
  obtain ⟨l, c⟩ := p
  simp only at hl hc
  have hlen : s.data.toList.length = s.size := by simp
  by_cases h0 : s.data.toList.count 10 = 0
  · have E : Hid (past (l, c) s.data.toList = (l, c + s.size)) := by show _ = _; rw [past_plain _ _ h0, hlen]
    have CC : Hid (∀ w, Calls Tryz.prog 33 #[.string s, .string ⟨#[10]⟩] w fun e w' => e = .returned (.int .i64 0) ∧ w' = w) := fun w => by
      have := Tryz.strings_Count_one s 10 w
      unfold Lib.countByte at this
      rw [h0] at this
      exact this
    generalize past (l, c) s.data.toList = q at *
    clear h0
    go_enter Tryz.func20, Tryz.ntmps20
    go_wp2_with (go_at_call 33; refine (CC.out _).mono ?_; rintro e w' ⟨rfl, rfl⟩)
    refine bodyPost_ret (v := Pl q) ?_ rfl ⟨rfl, ?_⟩
    · rw [E.out]; simp [results, Tryz.results20, go_sem]
    · go_grown
  · obtain ⟨i, hi, he, hx, hn⟩ := last_ten s (by omega)
    obtain ⟨k, hk⟩ : ∃ k : Nat, k = s.data.toList.count 10 := ⟨_, rfl⟩
    have hkl : k ≤ s.size := by rw [hk, ← hlen]; exact List.count_le_length
    have hk0 : (0 : Int) < (k : Int) := by omega
    have E : Hid (past (l, c) s.data.toList = (l + k, 1 + (s.size - (i + 1)))) := by show _ = _; rw [past_break _ i _ hx hn, hlen, hk]
    have CC : Hid (∀ w, Calls Tryz.prog 33 #[.string s, .string ⟨#[10]⟩] w fun e w' => e = .returned (.int .i64 k) ∧ w' = w) := fun w => by
      have := Tryz.strings_Count_one s 10 w
      unfold Lib.countByte at this
      rw [← hk] at this
      exact this
    have CL : Hid (∀ w, Calls Tryz.prog 34 #[.string s, .int .u8 10] w fun e w' => e = .returned (.int .i64 i) ∧ w' = w) := fun w => by
      have := Tryz.strings_LastIndexByte s 10 (by omega) w
      rw [he] at this
      exact this
    generalize past (l, c) s.data.toList = q at *
    clear h0 he hx hn hk hlen
    have hsz : (s.extract (i + 1) s.size).size = s.size - (i + 1) := by simp
    go_enter Tryz.func20, Tryz.ntmps20
    go_wp2_with (first | (go_at_call 33; refine (CC.out _).mono ?_; rintro e w' ⟨rfl, rfl⟩) | (go_at_call 34; refine (CL.out _).mono ?_; rintro e w' ⟨rfl, rfl⟩))
    refine bodyPost_ret (v := Pl q) ?_ rfl ⟨rfl, ?_⟩
    · rw [E.out]; simp [results, Tryz.results20, go_sem]
    · go_grown
end Go.Proofs.YtlgfpjaomiomjaaGreatDoor
