/- The document's IsName and Reserved; package lex's Reserved. -/
import Derived.Test.YtlgfpjaomiomjaaGreatDoorLq
namespace Go.Proofs.YtlgfpjaomiomjaaGreatDoor
open Go.RowKit
set_option linter.unusedVariables false
set_option linter.unusedSimpArgs false

/-- A row of texts in memory. -/
def SRow (w : World) (g : Nat) (l : List (List UInt8)) : Prop := (∀ k t, l[k]? = some t → w.cell? ⟨g, k, none⟩ = some (.string ⟨t.toArray⟩)) ∧ ∀ k, w.frozen? ⟨g, k, none⟩ = false
theorem SRow.of_blk {w : World} {g : Nat} {l : List (List UInt8)} {t : TypeId} (h : Blk w g (strsA l) t) : SRow w g l := ⟨fun k x hx => h.cell k (strsA_at l k x hx), fun k => h.frozen k⟩
theorem rreserved_any (w : World) : Calls Tryz.prog 43 #[] w fun e w' => e = .returned (.slice (some ⟨w.heap.size, 0, none⟩) 29 29) ∧ Blk w' w.heap.size (strsA resL) 9 ∧ Below w.heap.size w w' := by
  go_enter Tryz.func43, Tryz.ntmps43
  go_wp2
  go_ret
  refine ⟨rfl, Blk.new _ _ _, ?_⟩
  go_grown
theorem one48 : (strsA resL).all (·.oneCell') = true := by decide +kernel
theorem rsmall_any (c : UInt8) (w : World) : Calls Tryz.prog 42 #[.int .u8 (cI c)] w fun e w' => e = .returned (.bool (smI (cI c))) ∧ w' = w := by
  generalize cI c = r
  have H : Hid (∀ b : Bool, smI r = b → Ending.returned (.bool b) = Ending.returned (.bool (smI r))) := fun b h => by rw [h]
  by_cases h1 : 97 ≤ r
  · go_enter Tryz.func42, Tryz.ntmps42
    go_wp2
    go_ret
    exact ⟨H.out _ (by unfold smI; simp [h1]), rfl⟩
  · have d1 : decide (97 ≤ r) = false := by simpa using h1
    go_enter Tryz.func42, Tryz.ntmps42
    go_wp2
    go_ret
    exact ⟨H.out _ (by unfold smI; simp [d1]), rfl⟩
theorem rdigit_any (c : UInt8) (w : World) : Calls Tryz.prog 25 #[.int .u8 (cI c)] w fun e w' => e = .returned (.bool (dgI (cI c))) ∧ w' = w := by
  generalize cI c = r
  have H : Hid (∀ b : Bool, dgI r = b → Ending.returned (.bool b) = Ending.returned (.bool (dgI r))) := fun b h => by rw [h]
  by_cases h1 : 48 ≤ r
  · go_enter Tryz.func25, Tryz.ntmps25
    go_wp2
    go_ret
    exact ⟨H.out _ (by unfold dgI; simp [h1]), rfl⟩
  · have d1 : decide (48 ≤ r) = false := by simpa using h1
    go_enter Tryz.func25, Tryz.ntmps25
    go_wp2
    go_ret
    exact ⟨H.out _ (by unfold dgI; simp [d1]), rfl⟩
set_option maxHeartbeats 1000000 in
set_option maxRecDepth 100000 in
theorem rresv_any (s : ByteArray) (w : World) : Calls Tryz.prog 26 #[.string s] w fun e w' => e = .returned (.bool (isResB s.data.toList)) ∧ Below w.heap.size w w' := by
  have HX : Hid (∀ k, k < 29 → ∃ t : List UInt8, resL[k]? = some t) := fun k hk => ⟨resL[k]'hk, List.getElem?_eq_getElem hk⟩
  have HY : Hid (∀ k t, resL[k]? = some t → s.data.toList = t → isResB s.data.toList = true) := fun k t h e => by
    unfold isResB; rw [List.contains_iff_mem, e]; exact List.mem_of_getElem? h
  have HN : Hid ((∀ k t, k < 29 → resL[k]? = some t → s.data.toList ≠ t) → isResB s.data.toList = false) := fun h => by
    unfold isResB
    rw [Bool.eq_false_iff]
    intro hc
    rw [List.contains_iff_mem] at hc
    obtain ⟨j, hj, e⟩ := List.getElem_of_mem hc
    exact h j _ hj (List.getElem?_eq_getElem hj) e.symm
  have C : Hid (Calls Tryz.prog 43 #[] w fun e w' => e = .returned (.slice (some ⟨w.heap.size, 0, none⟩) 29 29) ∧ Hid (SRow w' w.heap.size resL ∧ Below w.heap.size w w')) := by
    refine (rreserved_any w).mono ?_
    rintro e w' ⟨rfl, h1, h2⟩
    exact ⟨rfl, SRow.of_blk h1, h2⟩
  go_enter Tryz.func26, Tryz.ntmps26
  go_wp2_with fail
  refine C.out.mono ?_
  rintro e w1 ⟨rfl, H1⟩
  go_wp2
  go_loopw [4] (fun i wr => ∃ k : Nat, k ≤ 29 ∧ i = .int .i64 k ∧ Aside (∀ j t, j < k → resL[j]? = some t → s.data.toList ≠ t) ∧ wr = w1) (fun i _ => 29 - (intOf i).toNat)
  case atStart => exact ⟨0, by omega, rfl, (fun j t h => by omega), rfl⟩
  case round =>
    obtain ⟨k, hk, rfl, hA, hwr⟩ := hrel
    obtain rfl := Eq.symm hwr
    by_cases hlt : k < 29
    · obtain ⟨t, ht⟩ := HX.out k hlt
      have HT : Hid (resL[k]? = some t) := ht
      have hc : w1.cell? ⟨w.heap.size, k, none⟩ = some (.string ⟨t.toArray⟩) := H1.out.1.1 k t ht
      clear ht
      by_cases he : s.data.toList = t
      · have q : (t == s.toList) = true := by rw [ByteArray.toList_eq]; simpa using he.symm
        have E : Hid (isResB s.data.toList = true) := HY.out k t HT.out he
        clear he
        go_wp2
        go_ret
        exact ⟨by rw [E.out]; rfl, H1.out.2⟩
      · have q : (t == s.toList) = false := by rw [ByteArray.toList_eq]; simpa using fun e => he (Eq.symm e)
        have A2 : Aside (∀ j t, j < k + 1 → resL[j]? = some t → s.data.toList ≠ t) := fun j u hj hu => by
          by_cases e : j = k
          · subst e; rw [HT.out] at hu; injection hu with hu; rw [← hu]; exact he
          · exact hA.out j u (by omega) hu
        clear he hA
        go_wp2
        exact ⟨⟨k + 1, by omega, by go_num, A2, trivial⟩, by simp only [intOf]; omega⟩
    · have e : k = 29 := by omega
      subst e
      have E : Hid (isResB s.data.toList = false) := HN.out hA.out
      clear hA
      go_wp2
      go_ret
      exact ⟨by rw [E.out]; rfl, H1.out.2⟩
def rnameB (l : List UInt8) : Bool := decide (1 ≤ l.length) && (decide (l.length ≤ 32) && (smI (cI (l.headD 0)) && (l.all (fun c => smI (cI c) || dgI (cI c) || cI c == 95) && !isResB l)))
set_option maxHeartbeats 2000000 in
set_option maxRecDepth 100000 in
theorem risName_any (s : ByteArray) (hs : s.size ≤ maxLen) (w : World) : Calls Tryz.prog 27 #[.string s] w fun e w' => e = .returned (.bool (rnameB s.data.toList)) ∧ Below w.heap.size w w' := by
  unfold maxLen at hs
  have hlen : s.data.toList.length = s.size := by simp
  have RB : Hid (Below w.heap.size w w) := Below.refl _ _
  by_cases h1 : 1 ≤ s.size
  rotate_left
  · have q0 : (s.size : Int) < 1 := by omega
    have E : Hid (rnameB s.data.toList = false) := by show _ = _; unfold rnameB; rw [hlen, decide_eq_false h1]; rfl
    generalize rnameB s.data.toList = b at *
    clear hlen h1
    go_enter Tryz.func27, Tryz.ntmps27
    go_wp2
    go_ret
    exact ⟨by rw [E.out]; rfl, RB.out⟩
  have q0 : decide ((s.size : Int) < 1) = false := by simp; omega
  by_cases h2 : s.size ≤ 32
  rotate_left
  · have q1 : (32 : Int) < (s.size : Int) := by omega
    have E : Hid (rnameB s.data.toList = false) := by show _ = _; unfold rnameB; rw [hlen, decide_eq_false h2]; simp
    generalize rnameB s.data.toList = b at *
    clear hlen h1 h2
    go_enter Tryz.func27, Tryz.ntmps27
    go_wp2
    go_ret
    exact ⟨by rw [E.out]; rfl, RB.out⟩
  have q1 : decide ((32 : Int) < (s.size : Int)) = false := by simp; omega
  have hs0 : 0 < s.size := by omega
  have hhd : s.data.toList.headD 0 = s[0] := by
    have e : s.data.toList = s[0] :: s.data.toList.drop 1 := by simpa using byteAt s (p := 0) hs0
    rw [e]; rfl
  have hsm : smI (cI (s.data.toList.headD 0)) = (decide (97 ≤ (s[0].toNat : Int)) && decide ((s[0].toNat : Int) ≤ 122)) := by rw [hhd]; rfl
  by_cases h3 : 97 ≤ (s[0].toNat : Int)
  rotate_left
  · have q2 : (s[0].toNat : Int) < 97 := by omega
    have E : Hid (rnameB s.data.toList = false) := by show _ = _; unfold rnameB; rw [hsm, decide_eq_false h3]; simp
    generalize rnameB s.data.toList = b at *
    clear hlen h1 h2 h3 hsm hhd
    go_enter Tryz.func27, Tryz.ntmps27
    go_wp2
    go_ret
    exact ⟨by rw [E.out]; rfl, RB.out⟩
  have q2 : decide ((s[0].toNat : Int) < 97) = false := by simp; omega
  by_cases h4 : (s[0].toNat : Int) ≤ 122
  rotate_left
  · have q3 : (122 : Int) < (s[0].toNat : Int) := by omega
    have E : Hid (rnameB s.data.toList = false) := by show _ = _; unfold rnameB; rw [hsm, decide_eq_false h4]; simp
    generalize rnameB s.data.toList = b at *
    clear hlen h1 h2 h3 h4 hsm hhd
    go_enter Tryz.func27, Tryz.ntmps27
    go_wp2
    go_ret
    exact ⟨by rw [E.out]; rfl, RB.out⟩
  have q3 : decide ((122 : Int) < (s[0].toNat : Int)) = false := by simp; omega
  have E : Hid (rnameB s.data.toList = (s.data.toList.all (fun c => smI (cI c) || dgI (cI c) || cI c == 95) && !isResB s.data.toList)) := by
    show _ = _; unfold rnameB; rw [hsm, hlen, decide_eq_true h1, decide_eq_true h2, decide_eq_true h3, decide_eq_true h4]; simp
  have HA : Hid (∀ k : Nat, (∃ h : k < s.size, (smI (cI s[k]) || dgI (cI s[k]) || cI s[k] == 95) = false) → s.data.toList.all (fun c => smI (cI c) || dgI (cI c) || cI c == 95) = false) := fun k hk => by
    obtain ⟨h, hk⟩ := hk
    rw [List.all_eq_false]
    exact ⟨s[k], List.mem_of_getElem? (getAt s h), by rw [hk]; simp⟩
  have HB : Hid ((∀ k (h : k < s.size), (smI (cI s[k]) || dgI (cI s[k]) || cI s[k] == 95) = true) → s.data.toList.all (fun c => smI (cI c) || dgI (cI c) || cI c == 95) = true) := fun h => by
    rw [List.all_eq_true]
    intro c hc
    obtain ⟨j, hj, e⟩ := List.getElem_of_mem hc
    have hj' : j < s.size := by rw [← hlen]; exact hj
    have := h j hj'
    have e2 : s[j] = c := e
    rw [e2] at this; exact this
  rw [E.out]
  have CR : Hid (Calls Tryz.prog 26 #[.string s] w fun e w' => e = .returned (.bool (isResB s.data.toList)) ∧ Below w.heap.size w w') := rresv_any s w
  generalize s.data.toList.all (fun c => smI (cI c) || dgI (cI c) || cI c == 95) = AL at *
  generalize isResB s.data.toList = rs at *
  clear hlen h1 h2 h3 h4 hsm hhd E
  go_enter Tryz.func27, Tryz.ntmps27
  go_wp2
  go_loopw [3] (fun i wr => ∃ k : Nat, k ≤ s.size ∧ i = .int .i64 k ∧ Aside (∀ j (h : j < s.size), j < k → (smI (cI s[j]) || dgI (cI s[j]) || cI s[j] == 95) = true) ∧ wr = w) (fun i _ => s.size - (intOf i).toNat)
  case atStart => exact ⟨0, by omega, rfl, (fun j t h => by omega), rfl⟩
  case round =>
    obtain ⟨k, hk, rfl, hA, hwr⟩ := hrel
    obtain rfl := Eq.symm hwr
    by_cases hlt : k < s.size
    · have CS : Hid (∀ w, Calls Tryz.prog 42 #[.int .u8 (s[k].toNat : Int)] w fun e w' => e = .returned (.bool (smI (cI s[k]))) ∧ w' = w) := rsmall_any s[k]
      have CD : Hid (∀ w, Calls Tryz.prog 25 #[.int .u8 (s[k].toNat : Int)] w fun e w' => e = .returned (.bool (dgI (cI s[k]))) ∧ w' = w) := rdigit_any s[k]
      have A2 : Hid ((smI (cI s[k]) || dgI (cI s[k]) || cI s[k] == 95) = true → ∀ j (h : j < s.size), j < k + 1 → (smI (cI s[j]) || dgI (cI s[j]) || cI s[j] == 95) = true) := fun hx j h hj => by
        by_cases e : j = k
        · subst e; exact hx
        · exact hA.out j h (by omega)
      have A3 : Hid ((smI (cI s[k]) || dgI (cI s[k]) || cI s[k] == 95) = false → AL = false) := fun hx => HA.out k ⟨hlt, hx⟩
      clear hA
      generalize smI (cI s[k]) = a at *
      generalize dgI (cI s[k]) = d at *
      obtain ⟨u, hu⟩ : ∃ u, u = (cI s[k] == 95) := ⟨_, rfl⟩
      rw [← hu] at A2 A3
      have hv : ((s[k].toNat : Int) != 95) = !u := by rw [hu]; rfl
      clear hu
      cases a <;> cases d <;> cases u
      all_goals
        go_wp2_with (first | (go_at_call 42; refine (CS.out _).mono ?_; rintro e w' ⟨rfl, hw'⟩; obtain rfl := Eq.symm hw') | (go_at_call 25; refine (CD.out _).mono ?_; rintro e w' ⟨rfl, hw'⟩; obtain rfl := Eq.symm hw'))
        first
          | exact ⟨⟨k + 1, by omega, by go_num, A2.out rfl, trivial⟩, by simp only [intOf]; omega⟩
          | (go_ret
             exact ⟨by rw [A3.out rfl]; rfl, RB.out⟩)
    · have e : k = s.size := by omega
      subst e
      have E2 : Hid (AL = true) := HB.out (fun j h => hA.out j h h)
      clear hA
      go_wp2_with fail
      refine CR.out.mono ?_
      rintro e w2 ⟨rfl, hb2⟩
      go_wp2
      go_ret
      exact ⟨by rw [E2.out]; rfl, hb2⟩
end Go.Proofs.YtlgfpjaomiomjaaGreatDoor
