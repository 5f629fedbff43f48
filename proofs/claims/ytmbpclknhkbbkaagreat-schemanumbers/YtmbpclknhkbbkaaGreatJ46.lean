/- The document's names: reserved, IsName. -/
import Derived.Test.YtmbpclknhkbbkaaGreatJ22
namespace Go.Proofs.YtmbpclknhkbbkaaGreat
open Go.RowKit
set_option linter.unusedVariables false
set_option linter.unusedSimpArgs false

set_option maxHeartbeats 4000000 in
set_option maxRecDepth 100000 in
theorem rresv_any (s : ByteArray) (w : World) : Calls Tryz.prog 80 #[.string s] w fun e w' => e = .returned (.bool (isResB s.data.toList)) ∧ w' = w := by
  have hl : s.toList = s.data.toList := ByteArray.toList_eq s
  have HY : Hid (∀ t, (s.toList == t) = true → t ∈ resL → isResB s.data.toList = true) := fun t h ht => by rw [hl] at h; exact res_yes ht h
  have HN : Hid ((∀ t, t ∈ resL → (s.toList == t) = false) → isResB s.data.toList = false) := fun h => by
    unfold isResB
    rw [Bool.eq_false_iff]
    intro hc
    have := h _ (List.contains_iff_mem.1 hc)
    rw [hl] at this
    simp at this
  clear hl
  generalize isResB s.data.toList = r at *
  go_enter Tryz.func80, Tryz.ntmps80
  go_wp2
  all_goals
    go_ret
    refine ⟨?_, rfl⟩
    first
      | (exfalso; simp_all only [Bool.true_eq_false, Bool.false_eq_true]; done)
      | (rename_i hq hr; rw [hq] at hr; cases hr; done)
      | (have hy : r = true := HY.out _ (by assumption) (by decide); rw [hy]; rfl)
      | (have hf : r = false := HN.out (by
          intro t ht
          simp only [resL, List.mem_cons, List.not_mem_nil, or_false] at ht
          rcases ht with rfl | rfl | rfl | rfl | rfl | rfl | rfl | rfl | rfl | rfl | rfl | rfl | rfl | rfl | rfl | rfl | rfl | rfl | rfl | rfl | rfl | rfl | rfl | rfl | rfl | rfl | rfl | rfl | rfl <;> assumption)
         rw [hf]; rfl)
      | (exfalso; simp_all; done)

set_option maxHeartbeats 2000000 in
set_option maxRecDepth 100000 in
theorem risName_any (s : ByteArray) (hs : s.size ≤ 140737488351232) (w : World) :
    Calls Tryz.prog 18 #[.string s] w fun e w' => e = .returned (.bool (nameB s.data.toList)) ∧ w' = w := by
  have hlen : s.data.toList.length = s.size := by simp
  by_cases h0 : s.size = 0
  · have q0 : ((s.size : Int) < 1) := by omega
    have E : Hid (nameB s.data.toList = false) := by
      have : s.data.toList = [] := List.eq_nil_of_length_eq_zero (by omega)
      show _ = _; unfold nameB; rw [this]; rfl
    generalize nameB s.data.toList = b at *
    clear hlen
    go_enter Tryz.func18, Tryz.ntmps18
    go_wp2
    go_ret
    exact ⟨by rw [E.out]; rfl, rfl⟩
  have q0 : decide ((s.size : Int) < 1) = false := by simp; omega
  have hne : s.data.toList ≠ [] := fun h => h0 (by rw [← hlen, h]; rfl)
  by_cases h1 : s.size ≤ 32
  rotate_left
  · have q1 : (32 : Int) < (s.size : Int) := by omega
    have E : Hid (nameB s.data.toList = false) := by show _ = _; unfold nameB; rw [hlen, decide_eq_false h1]; simp
    generalize nameB s.data.toList = b at *
    clear hlen h1
    go_enter Tryz.func18, Tryz.ntmps18
    go_wp2
    go_ret
    exact ⟨by rw [E.out]; rfl, rfl⟩
  have q1 : decide ((32 : Int) < (s.size : Int)) = false := by simp; omega
  have CR : Hid (∀ w, Calls Tryz.prog 80 #[.string s] w fun e w' => e = .returned (.bool (isResB s.data.toList)) ∧ w' = w) := rresv_any s
  obtain ⟨R, hR⟩ : ∃ R, R = nameB s.data.toList := ⟨_, rfl⟩
  have E : Hid (R = (!isResB s.data.toList && nmOk true s.data.toList)) := by
    show _ = _; rw [hR]; unfold nameB; rw [hlen, decide_eq_true h1, List.isEmpty_eq_false_iff.2 hne]; simp
  rw [← hR]
  clear hR hne
  have HS : Hid (s.size ≠ 0) := h0
  clear h0 h1
  have H0 : Hid (nmOk (0 == 0) (s.data.toList.drop 0) = nmOk true s.data.toList) := rfl
  generalize nmOk true s.data.toList = NO at *
  generalize isResB s.data.toList = RB at *
  go_enter Tryz.func18, Tryz.ntmps18
  go_wp2
  go_loopw [3] (fun i wr => ∃ k : Nat, k ≤ s.size ∧ i = .int .i64 k ∧ Aside (nmOk (k == 0) (s.data.toList.drop k) = NO) ∧ wr = w) (fun i _ => s.size - (intOf i).toNat)
  case atStart => exact ⟨0, by omega, rfl, H0.out, rfl⟩
  case round =>
    obtain ⟨k, hk, rfl, hA, hwr⟩ := hrel
    obtain rfl := Eq.symm hwr
    by_cases hlt : k < s.size
    · have A2 : Hid (nmOk (k == 0) (s[k] :: s.data.toList.drop (k + 1)) = NO) := by show _ = _; rw [← byteAt s hlt]; exact hA.out
      have ST : Hid (okI (k == 0) (cI s[k]) = false → NO = false) := fun h => by rw [← A2.out, nmOk, h]; rfl
      have GO : Hid (okI (k == 0) (cI s[k]) = true → nmOk ((k + 1) == 0) (s.data.toList.drop (k + 1)) = NO) := fun h => by rw [← A2.out, nmOk, h]; simp
      have HO : Hid (okI (k == 0) (cI s[k]) = ((decide (97 ≤ cI s[k]) && decide (cI s[k] ≤ 122)) || (!(k == 0) && ((decide (48 ≤ cI s[k]) && decide (cI s[k] ≤ 57)) || cI s[k] == 95)))) := rfl
      clear hA A2
      obtain ⟨x, hx⟩ : ∃ x : Int, x = (s[k].toNat : Int) := ⟨_, rfl⟩
      have hz : ((k : Int) == 0) = (k == 0) := by cases k <;> rfl
      generalize hz0 : (k == 0) = z at *
      have hx' : cI s[k] = x := hx.symm
      rw [hx'] at ST GO HO
      clear hx'
      have HX : Hid (x = (s[k].toNat : Int)) := hx
      clear hx
      have HZ : Hid ((k == 0) = z) := hz0
      clear hz0
      have e1 : ((s[k].toNat : Int)) = x := HX.out.symm
      by_cases a1 : 97 ≤ x
      · by_cases a2 : x ≤ 122
        · have b1 : 48 ≤ x := by omega
          have b2 : decide (x ≤ 57) = false := by simp; omega
          have b3 : (x == 95) = false := by simp; omega
          have d1 : decide (97 ≤ x) = true := by simpa using a1
          have d2 : decide (x ≤ 122) = true := by simpa using a2
          have GO2 := GO.out (by rw [HO.out, d1, d2]; rfl)
          have GO3 : Hid _ := GO2
          clear GO2 GO ST HO
          go_wp2
          exact ⟨⟨k + 1, by omega, by go_num, GO3.out, trivial⟩, by simp only [intOf]; omega⟩
        · have b1 : 48 ≤ x := by omega
          have b2 : decide (x ≤ 57) = false := by simp; omega
          have b3 : (x == 95) = false := by simp; omega
          have d1 : decide (97 ≤ x) = true := by simpa using a1
          have d2 : decide (x ≤ 122) = false := by simpa using a2
          have ST2 : Hid (NO = false) := ST.out (by rw [HO.out, d1, d2, b2, b3]; simp)
          clear GO ST HO
          cases z
          all_goals
            go_wp2
            go_ret
            exact ⟨by rw [E.out, ST2.out]; simp, rfl⟩
      · have d1 : decide (97 ≤ x) = false := by simpa using a1
        by_cases c1 : 48 ≤ x
        · have c1' : decide (48 ≤ x) = true := by simpa using c1
          by_cases c2 : x ≤ 57
          · have c2' : decide (x ≤ 57) = true := by simpa using c2
            cases z
            · have GO3 : Hid (nmOk ((k + 1) == 0) (s.data.toList.drop (k + 1)) = NO) := GO.out (by rw [HO.out, d1, c1', c2']; rfl)
              clear GO ST HO
              go_wp2
              exact ⟨⟨k + 1, by omega, by go_num, GO3.out, trivial⟩, by simp only [intOf]; omega⟩
            · have ST2 : Hid (NO = false) := ST.out (by rw [HO.out, d1]; rfl)
              clear GO ST HO
              go_wp2
              go_ret
              exact ⟨by rw [E.out, ST2.out]; simp, rfl⟩
          · have c2' : decide (x ≤ 57) = false := by simpa using c2
            by_cases c3 : x = 95
            · have c3' : (x == 95) = true := by simpa using c3
              cases z
              · have GO3 : Hid (nmOk ((k + 1) == 0) (s.data.toList.drop (k + 1)) = NO) := GO.out (by rw [HO.out, d1, c1', c2', c3']; rfl)
                clear GO ST HO c3
                go_wp2
                exact ⟨⟨k + 1, by omega, by go_num, GO3.out, trivial⟩, by simp only [intOf]; omega⟩
              · have ST2 : Hid (NO = false) := ST.out (by rw [HO.out, d1]; rfl)
                clear GO ST HO c3
                go_wp2
                go_ret
                exact ⟨by rw [E.out, ST2.out]; simp, rfl⟩
            · have c3' : (x == 95) = false := by simpa using c3
              have ST2 : Hid (NO = false) := ST.out (by rw [HO.out, d1, c1', c2', c3']; simp)
              clear GO ST HO c3
              cases z
              all_goals
                go_wp2
                go_ret
                exact ⟨by rw [E.out, ST2.out]; simp, rfl⟩
        · have c1' : decide (48 ≤ x) = false := by simpa using c1
          have c3' : (x == 95) = false := by simp; omega
          have ST2 : Hid (NO = false) := ST.out (by rw [HO.out, d1, c1', c3']; simp)
          clear GO ST HO
          cases z
          all_goals
            go_wp2
            go_ret
            exact ⟨by rw [E.out, ST2.out]; simp, rfl⟩
    · have e : k = s.size := by omega
      subst e
      have E2 : Hid (NO = true) := by
        show _ = _; rw [← hA.out, List.drop_of_length_le (by simp)]; cases (s.size == 0) <;> rfl
      clear hA
      go_wp2_with (go_at_call 80; refine (CR.out _).mono ?_; rintro e w' ⟨rfl, hw'⟩; obtain rfl := Eq.symm hw')
      go_ret
      exact ⟨by rw [E.out, E2.out]; simp, rfl⟩
end Go.Proofs.YtmbpclknhkbbkaaGreat
