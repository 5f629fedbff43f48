/- The statement's own question: is a text blanks and remarks? -/
import Derived.Test.YtlgfpjaomiomjaaDoorSa
namespace Go.Proofs.YtlgfpjaomiomjaaDoor
open Go.RowKit
set_option linter.unusedVariables false
set_option linter.unusedSimpArgs false

def blkB (l : List UInt8) (en : Bool) : Bool := match blkL false l with
  | none => false
  | some m => !m || en
theorem blk_go {m : Bool} {c : UInt8} {cs : List UInt8} (h : goI m (cI c) = true) : blkL m (c :: cs) = blkL (remI m (cI c)) cs := by rw [blkL, if_pos h]
theorem blk_no {m : Bool} {c : UInt8} {cs : List UInt8} (h : goI m (cI c) = false) : blkL m (c :: cs) = none := by rw [blkL, if_neg (by rw [h]; simp)]
set_option maxHeartbeats 1000000 in
theorem blank_any (s : ByteArray) (en : Bool) (hs : s.size ≤ maxLen) (w : World) : Calls Tryd.prog 13 #[.string s, .bool en] w fun e w' => e = .returned (.bool (blkB s.data.toList en)) ∧ w' = w := by
  unfold maxLen at hs
  have HN : Hid (blkL false s.data.toList = none → blkB s.data.toList en = false) := fun h => by unfold blkB; rw [h]
  have HS : Hid (∀ m, blkL false s.data.toList = some m → blkB s.data.toList en = (!m || en)) := fun m h => by unfold blkB; rw [h]
  go_enter Tryd.func13, Tryd.ntmps13
  go_wp2
  go_loopw [5, 6] (fun r i wr => ∃ (k : Nat) (m : Bool), k ≤ s.size ∧ i = .int .i64 k ∧ r = .bool m ∧ Aside (blkL m (s.data.toList.drop k) = blkL false s.data.toList) ∧ wr = w) (fun _ i _ => s.size - (intOf i).toNat)
  case atStart => exact ⟨0, false, by omega, rfl, rfl, (by show _ = _; simp), rfl⟩
  case round =>
    obtain ⟨k, m, hk, rfl, rfl, A, hwr⟩ := hrel
    obtain rfl := Eq.symm hwr
    by_cases hlt : k < s.size
    · have hA := A.out
      rw [byteAt s hlt] at hA
      have HA : Hid (blkL m (s[k] :: s.data.toList.drop (k + 1)) = blkL false s.data.toList) := hA
      clear hA A
      have HG : Hid (∀ m', goI m (cI s[k]) = true → remI m (cI s[k]) = m' → blkL m' (s.data.toList.drop (k + 1)) = blkL false s.data.toList) := fun m' h1 h2 => by rw [← HA.out, blk_go h1, h2]
      have HX : Hid (goI m (cI s[k]) = false → blkB s.data.toList en = false) := fun h => HN.out (by rw [← HA.out, blk_no h])
      have hc : ∀ n : Nat, (s[k].toNat : Int) = n → cI s[k] = n := fun n h => h
      cases m
      · by_cases h35 : (s[k].toNat : Int) = 35
        · have q : ((s[k].toNat : Int) == 35) = true := by simpa using h35
          have E : Hid (blkL true (s.data.toList.drop (k + 1)) = blkL false s.data.toList) := HG.out true (by show goI false (s[k].toNat : Int) = true; rw [h35]; decide) (by show remI false (s[k].toNat : Int) = true; rw [h35]; decide)
          clear h35 hc
          go_wp2
          exact ⟨⟨k + 1, true, by omega, by go_num, rfl, E.out, trivial⟩, by simp only [intOf]; omega⟩
        · have q : ((s[k].toNat : Int) == 35) = false := by simpa using h35
          by_cases h32 : (s[k].toNat : Int) = 32
          · have q2 : ((s[k].toNat : Int) != 32) = false := by simp [h32]
            have E : Hid (blkL false (s.data.toList.drop (k + 1)) = blkL false s.data.toList) := HG.out false (by show goI false (s[k].toNat : Int) = true; rw [h32]; decide) (by show remI false (s[k].toNat : Int) = false; rw [h32]; decide)
            clear h35 hc h32
            go_wp2
            exact ⟨⟨k + 1, false, by omega, by go_num, rfl, E.out, trivial⟩, by simp only [intOf]; omega⟩
          have q2 : ((s[k].toNat : Int) != 32) = true := by simpa using h32
          by_cases h9 : (s[k].toNat : Int) = 9
          · have q3 : ((s[k].toNat : Int) != 9) = false := by simp [h9]
            have E : Hid (blkL false (s.data.toList.drop (k + 1)) = blkL false s.data.toList) := HG.out false (by show goI false (s[k].toNat : Int) = true; rw [h9]; decide) (by show remI false (s[k].toNat : Int) = false; rw [h9]; decide)
            clear h35 hc h32 h9
            go_wp2
            exact ⟨⟨k + 1, false, by omega, by go_num, rfl, E.out, trivial⟩, by simp only [intOf]; omega⟩
          have q3 : ((s[k].toNat : Int) != 9) = true := by simpa using h9
          by_cases h10 : (s[k].toNat : Int) = 10
          · have q4 : ((s[k].toNat : Int) != 10) = false := by simp [h10]
            have E : Hid (blkL false (s.data.toList.drop (k + 1)) = blkL false s.data.toList) := HG.out false (by show goI false (s[k].toNat : Int) = true; rw [h10]; decide) (by show remI false (s[k].toNat : Int) = false; rw [h10]; decide)
            clear h35 hc h32 h9 h10
            go_wp2
            exact ⟨⟨k + 1, false, by omega, by go_num, rfl, E.out, trivial⟩, by simp only [intOf]; omega⟩
          have q4 : ((s[k].toNat : Int) != 10) = true := by simpa using h10
          by_cases h13 : (s[k].toNat : Int) = 13
          · have q5 : ((s[k].toNat : Int) != 13) = false := by simp [h13]
            have E : Hid (blkL false (s.data.toList.drop (k + 1)) = blkL false s.data.toList) := HG.out false (by show goI false (s[k].toNat : Int) = true; rw [h13]; decide) (by show remI false (s[k].toNat : Int) = false; rw [h13]; decide)
            clear h35 hc h32 h9 h10 h13
            go_wp2
            exact ⟨⟨k + 1, false, by omega, by go_num, rfl, E.out, trivial⟩, by simp only [intOf]; omega⟩
          have q5 : ((s[k].toNat : Int) != 13) = true := by simpa using h13
          have E : Hid (blkB s.data.toList en = false) := HX.out (by
            show goI false (s[k].toNat : Int) = false
            unfold goI remI blI
            rw [if_neg h35, if_neg h10]
            simp [h32, h9, h10, h13])
          clear h35 hc h32 h9 h10 h13
          go_wp2
          go_ret
          exact ⟨by rw [E.out]; rfl, rfl⟩
      · by_cases h10 : (s[k].toNat : Int) = 10
        · have q4 : ((s[k].toNat : Int) != 10) = false := by simp [h10]
          have E : Hid (blkL false (s.data.toList.drop (k + 1)) = blkL false s.data.toList) := HG.out false (go_true _) (by show remI true (s[k].toNat : Int) = false; rw [h10]; decide)
          clear hc h10
          go_wp2
          exact ⟨⟨k + 1, false, by omega, by go_num, rfl, E.out, trivial⟩, by simp only [intOf]; omega⟩
        · have q4 : ((s[k].toNat : Int) != 10) = true := by simpa using h10
          have E : Hid (blkL true (s.data.toList.drop (k + 1)) = blkL false s.data.toList) := HG.out true (go_true _) (by show remI true (s[k].toNat : Int) = true; unfold remI; rw [if_neg h10]; simp)
          clear hc h10
          go_wp2
          exact ⟨⟨k + 1, true, by omega, by go_num, rfl, E.out, trivial⟩, by simp only [intOf]; omega⟩
    · have e : k = s.size := by omega
      subst e
      have E : Hid (blkB s.data.toList en = (!m || en)) := HS.out m (by rw [← A.out, List.drop_eq_nil_of_le (by simp)]; rfl)
      clear A
      cases m
      all_goals
        go_wp2
        go_ret
        exact ⟨by rw [E.out]; rfl, rfl⟩
end Go.Proofs.YtlgfpjaomiomjaaDoor
