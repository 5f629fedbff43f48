/- Package lex: span with the question of a gap, of a word; gap. -/
import Derived.Test.YtlgfpjaomiomjaaGreatDoorLa
namespace Go.Proofs.YtlgfpjaomiomjaaGreatDoor
open Go.RowKit
set_option linter.unusedVariables false
set_option linter.unusedSimpArgs false

theorem byteAt (s : ByteArray) {p : Nat} (h : p < s.size) : s.data.toList.drop p = s[p] :: s.data.toList.drop (p + 1) := by
  have h' : p < s.data.toList.length := by simpa using h
  rw [List.drop_eq_getElem_cons h']; rfl
theorem getAt (s : ByteArray) {p : Nat} (h : p < s.size) : s.data.toList[p]? = some s[p] := by
  have h' : p < s.data.toList.length := by simpa using h
  rw [List.getElem?_eq_getElem h']; rfl
/-- What a rune of several bytes is made of. -/
theorem decode_run (s : ByteArray) (p : Nat) (h : p < s.size) (ha : 128 ≤ (s[p]'h).toNat) : p + (Utf8.decode s p).2 ≤ s.size ∧ ∀ i (c : UInt8), i < (Utf8.decode s p).2 → (s.data.toList.drop p)[i]? = some c → 128 ≤ c.toNat := by
  have hg : ∀ k, p + k < s.size → (s.data.toList.drop p)[k]? = some (s.get! (p + k)) := fun k hk => by
    rw [List.getElem?_drop, getAt s hk]
    have : s.get! (p + k) = s[p + k] := by simpa using get_at s (p + k) hk
    rw [this]
  have h0 : s.get! (p + 0) = s[p] := get_at s p h
  have key : ∀ n : Nat, n ≤ 4 → (∀ k, 1 ≤ k → k < n → p + k < s.size ∧ (s.get! (p + k)).toNat / 64 = 2) → p + n ≤ s.size ∨ n = 0 → p + n ≤ s.size ∧ ∀ i (c : UInt8), i < n → (s.data.toList.drop p)[i]? = some c → 128 ≤ c.toNat := by
    intro n hn hk hz
    refine ⟨by omega, fun i c hi hc => ?_⟩
    rcases Nat.eq_zero_or_pos i with rfl | hi0
    · rw [hg 0 (by omega)] at hc
      injection hc with hc
      rw [← hc, h0]; exact ha
    · obtain ⟨h1, h2⟩ := hk i hi0 hi
      rw [hg i h1] at hc
      injection hc with hc
      rw [← hc]; omega
  have hn : ¬ (s[p]'h).toNat < 128 := by omega
  simp only [Utf8.decode, h0, hn, if_false]
  split
  · rename_i h1
    simp only [Bool.and_eq_true, decide_eq_true_eq, beq_iff_eq] at h1
    split
    · exact key 2 (by omega) (fun k hk1 hk2 => by
        have e : k = 1 := by omega
        subst e; exact h1.2) (.inl (by omega))
    · exact key 1 (by omega) (fun k hk1 hk2 => by omega) (.inl (by omega))
  · split
    · rename_i h1 h2
      simp only [Bool.and_eq_true, decide_eq_true_eq, beq_iff_eq] at h2
      split
      · exact key 3 (by omega) (fun k hk1 hk2 => by
          rcases (by omega : k = 1 ∨ k = 2) with rfl | rfl
          · exact h2.1.2
          · exact h2.2) (.inl (by omega))
      · exact key 1 (by omega) (fun k hk1 hk2 => by omega) (.inl (by omega))
    · split
      · rename_i h1 h2 h3
        simp only [Bool.and_eq_true, decide_eq_true_eq, beq_iff_eq] at h3
        split
        · exact key 4 (by omega) (fun k hk1 hk2 => by
            rcases (by omega : k = 1 ∨ k = 2 ∨ k = 3) with rfl | rfl | rfl
            · exact h3.1.1.2
            · exact h3.1.2
            · exact h3.2) (.inl (by omega))
        · exact key 1 (by omega) (fun k hk1 hk2 => by omega) (.inl (by omega))
      · exact key 1 (by omega) (fun k hk1 hk2 => by omega) (.inl (by omega))

/-- The question of a gap. -/
theorem gap1_any (r : Int) (m : Bool) (b : Nat) (w : World) (hb : Blk w b #[.bool m] 4) : Calls Tryz.prog 31 #[.int .i32 r, .pointer (some ⟨b, 0, none⟩)] w fun e w' => e = .returned (.bool (goI m r)) ∧ Blk w' b #[.bool (remI m r)] 4 ∧ Kept (fun k => k = b) w w' := by
  have c0 := hb.cell 0 (v := .bool m) rfl
  have f0 := hb.frozen 0
  have HB : Hid (Blk w b #[.bool m] 4) := hb
  have HG : Hid (goI m r = (remI m r || blI r)) := rfl
  have CB : Hid (∀ w, Calls Tryz.prog 32 #[.int .i32 r] w fun e w' => e = .returned (.bool (blI r)) ∧ w' = w) := bl_any r
  clear hb
  by_cases h1 : r = 35
  · have e1 : (r == 35) = true := by simpa using h1
    have E : Hid (remI m r = true) := by show _ = _; unfold remI; rw [if_pos h1]
    have E2 : Hid (goI m r = true) := by show _ = _; rw [HG.out, E.out]; rfl
    have HX : Hid (Blk (w.setCell ⟨b, 0, none⟩ (.bool true)) b #[.bool true] 4) := HB.out.set 0 (.bool true)
    have c1 : (w.setCell ⟨b, 0, none⟩ (.bool true)).cell? ⟨b, 0, none⟩ = some (.bool true) := HX.out.cell 0 rfl
    generalize goI m r = g at *
    generalize remI m r = q at *
    clear h1
    go_enter Tryz.func31, Tryz.ntmps31
    go_wp2_with (go_at_call 32; refine (CB.out _).mono ?_; rintro e w' ⟨rfl, rfl⟩)
    go_ret
    exact ⟨by rw [E2.out]; rfl, by rw [E.out]; exact HX.out, Kept.set (S := fun k => k = b) (Kept.refl _ _) rfl _⟩
  · have e1 : (r == 35) = false := by simpa using h1
    by_cases h2 : r = 10
    · have e2 : (r == 10) = true := by simpa using h2
      have E : Hid (remI m r = false) := by show _ = _; unfold remI; rw [if_neg h1, if_pos h2]
      have E2 : Hid (goI m r = true) := by show _ = _; rw [HG.out, E.out, h2]; decide
      have EB : blI r = true := by rw [h2]; decide
      have HX : Hid (Blk (w.setCell ⟨b, 0, none⟩ (.bool false)) b #[.bool false] 4) := HB.out.set 0 (.bool false)
      have c1 : (w.setCell ⟨b, 0, none⟩ (.bool false)).cell? ⟨b, 0, none⟩ = some (.bool false) := HX.out.cell 0 rfl
      rw [EB] at CB
      generalize goI m r = g at *
      generalize remI m r = q at *
      clear h1 h2 EB
      go_enter Tryz.func31, Tryz.ntmps31
      go_wp2_with (go_at_call 32; refine (CB.out _).mono ?_; rintro e w' ⟨rfl, rfl⟩)
      go_ret
      exact ⟨by rw [E2.out]; rfl, by rw [E.out]; exact HX.out, Kept.set (S := fun k => k = b) (Kept.refl _ _) rfl _⟩
    · have e2 : (r == 10) = false := by simpa using h2
      have E : Hid (remI m r = m) := by show _ = _; unfold remI; rw [if_neg h1, if_neg h2]
      have E2 : Hid (goI m r = (m || blI r)) := by show _ = _; rw [HG.out, E.out]
      generalize goI m r = g at *
      generalize remI m r = q at *
      generalize blI r = bl at *
      clear h1 h2
      cases m
      all_goals
        go_enter Tryz.func31, Tryz.ntmps31
        go_wp2_with (go_at_call 32; refine (CB.out _).mono ?_; rintro e w' ⟨rfl, rfl⟩)
        go_ret
        exact ⟨by rw [E2.out]; rfl, by rw [E.out]; exact HB.out, Kept.refl _ _⟩
end Go.Proofs.YtlgfpjaomiomjaaGreatDoor
