/- The document's sign, past, skipped. -/
import Derived.Test.YtlgfpjaomiomjaaGreatDoorYa
namespace Go.Proofs.YtlgfpjaomiomjaaGreatDoor
open Go.RowKit
set_option linter.unusedVariables false
set_option linter.unusedSimpArgs false

def oneS (r : Int) : Bool := r == 123 || r == 125 || r == 40 || r == 41 || r == 59 || r == 58 || r == 44 || r == 46 || r == 61 || r == 60 || r == 43 || r == 45 || r == 38 || r == 124 || r == 94
def rsignN (l : List UInt8) : Nat := if l.take 2 = [61, 61] ∨ l.take 2 = [33, 61] ∨ l.take 2 = [60, 61] then 2 else if oneS (cI (l.headD 0)) = true then 1 else 0
theorem head_at (s : ByteArray) {k : Nat} (h : k < s.size) : (s.data.toList.drop k).headD 0 = s[k] := by rw [byteAt s h]; rfl
theorem one_any (s : ByteArray) (k : Nat) (h : k < s.size) (X : ByteArray) (hX : ((k + 1 : Nat) : Int) < (s.size : Int) → X = s.extract k (k + 2)) (hX2 : ¬ ((k + 1 : Nat) : Int) < (s.size : Int) → X = ⟨#[]⟩) (h1 : ¬ X.toList = [61, 61]) (h2 : ¬ X.toList = [33, 61]) (h3 : ¬ X.toList = [60, 61]) (hk : s.size ≤ 65536) (w : World) :
    Calls Tryz.prog 24 #[.string s, .int .i64 (k : Int)] w fun e w' => e = .returned (.int .i64 (if oneS (cI s[k]) = true then 1 else 0)) ∧ w' = w := by
  have HO : Hid (oneS (cI s[k]) = oneS (s[k].toNat : Int)) := rfl
  obtain ⟨R, hR⟩ : ∃ R : Int, R = if oneS (cI s[k]) = true then (1 : Int) else 0 := ⟨_, rfl⟩
  have HRR : Hid (R = if oneS (cI s[k]) = true then (1 : Int) else 0) := hR
  rw [← hR]
  clear hR
  have f1 : (X.toList == [61, 61]) = false := by simpa using h1
  have f2 : (X.toList == [33, 61]) = false := by simpa using h2
  have f3 : (X.toList == [60, 61]) = false := by simpa using h3
  have U : Hid (∀ b : Bool, oneS (s[k].toNat : Int) = b → R = if b = true then 1 else 0) := fun b hb => by rw [HRR.out, HO.out, hb]
  clear h1 h2 h3
  by_cases hk1 : ((k + 1 : Nat) : Int) < (s.size : Int)
  · have hXe := hX hk1
    subst hXe
    have hk2 : decide ((k : Int) + 1 < (s.size : Int)) = true := by simp; omega
    clear hX hX2
    cases e0 : ((s[k].toNat : Int) == 123)
    rotate_left
    · have V : Hid (R = 1) := U.out true (by unfold oneS; simp only [e0, Bool.or_true, Bool.true_or])
      go_enter Tryz.func24, Tryz.ntmps24
      go_wp2
      go_ret
      exact ⟨by rw [V.out]; rfl, rfl⟩
    cases e1 : ((s[k].toNat : Int) == 125)
    rotate_left
    · have V : Hid (R = 1) := U.out true (by unfold oneS; simp only [e0, e1, Bool.or_true, Bool.true_or])
      go_enter Tryz.func24, Tryz.ntmps24
      go_wp2
      go_ret
      exact ⟨by rw [V.out]; rfl, rfl⟩
    cases e2 : ((s[k].toNat : Int) == 40)
    rotate_left
    · have V : Hid (R = 1) := U.out true (by unfold oneS; simp only [e0, e1, e2, Bool.or_true, Bool.true_or])
      go_enter Tryz.func24, Tryz.ntmps24
      go_wp2
      go_ret
      exact ⟨by rw [V.out]; rfl, rfl⟩
    cases e3 : ((s[k].toNat : Int) == 41)
    rotate_left
    · have V : Hid (R = 1) := U.out true (by unfold oneS; simp only [e0, e1, e2, e3, Bool.or_true, Bool.true_or])
      go_enter Tryz.func24, Tryz.ntmps24
      go_wp2
      go_ret
      exact ⟨by rw [V.out]; rfl, rfl⟩
    cases e4 : ((s[k].toNat : Int) == 59)
    rotate_left
    · have V : Hid (R = 1) := U.out true (by unfold oneS; simp only [e0, e1, e2, e3, e4, Bool.or_true, Bool.true_or])
      go_enter Tryz.func24, Tryz.ntmps24
      go_wp2
      go_ret
      exact ⟨by rw [V.out]; rfl, rfl⟩
    cases e5 : ((s[k].toNat : Int) == 58)
    rotate_left
    · have V : Hid (R = 1) := U.out true (by unfold oneS; simp only [e0, e1, e2, e3, e4, e5, Bool.or_true, Bool.true_or])
      go_enter Tryz.func24, Tryz.ntmps24
      go_wp2
      go_ret
      exact ⟨by rw [V.out]; rfl, rfl⟩
    cases e6 : ((s[k].toNat : Int) == 44)
    rotate_left
    · have V : Hid (R = 1) := U.out true (by unfold oneS; simp only [e0, e1, e2, e3, e4, e5, e6, Bool.or_true, Bool.true_or])
      go_enter Tryz.func24, Tryz.ntmps24
      go_wp2
      go_ret
      exact ⟨by rw [V.out]; rfl, rfl⟩
    cases e7 : ((s[k].toNat : Int) == 46)
    rotate_left
    · have V : Hid (R = 1) := U.out true (by unfold oneS; simp only [e0, e1, e2, e3, e4, e5, e6, e7, Bool.or_true, Bool.true_or])
      go_enter Tryz.func24, Tryz.ntmps24
      go_wp2
      go_ret
      exact ⟨by rw [V.out]; rfl, rfl⟩
    cases e8 : ((s[k].toNat : Int) == 61)
    rotate_left
    · have V : Hid (R = 1) := U.out true (by unfold oneS; simp only [e0, e1, e2, e3, e4, e5, e6, e7, e8, Bool.or_true, Bool.true_or])
      go_enter Tryz.func24, Tryz.ntmps24
      go_wp2
      go_ret
      exact ⟨by rw [V.out]; rfl, rfl⟩
    cases e9 : ((s[k].toNat : Int) == 60)
    rotate_left
    · have V : Hid (R = 1) := U.out true (by unfold oneS; simp only [e0, e1, e2, e3, e4, e5, e6, e7, e8, e9, Bool.or_true, Bool.true_or])
      go_enter Tryz.func24, Tryz.ntmps24
      go_wp2
      go_ret
      exact ⟨by rw [V.out]; rfl, rfl⟩
    cases e10 : ((s[k].toNat : Int) == 43)
    rotate_left
    · have V : Hid (R = 1) := U.out true (by unfold oneS; simp only [e0, e1, e2, e3, e4, e5, e6, e7, e8, e9, e10, Bool.or_true, Bool.true_or])
      go_enter Tryz.func24, Tryz.ntmps24
      go_wp2
      go_ret
      exact ⟨by rw [V.out]; rfl, rfl⟩
    cases e11 : ((s[k].toNat : Int) == 45)
    rotate_left
    · have V : Hid (R = 1) := U.out true (by unfold oneS; simp only [e0, e1, e2, e3, e4, e5, e6, e7, e8, e9, e10, e11, Bool.or_true, Bool.true_or])
      go_enter Tryz.func24, Tryz.ntmps24
      go_wp2
      go_ret
      exact ⟨by rw [V.out]; rfl, rfl⟩
    cases e12 : ((s[k].toNat : Int) == 38)
    rotate_left
    · have V : Hid (R = 1) := U.out true (by unfold oneS; simp only [e0, e1, e2, e3, e4, e5, e6, e7, e8, e9, e10, e11, e12, Bool.or_true, Bool.true_or])
      go_enter Tryz.func24, Tryz.ntmps24
      go_wp2
      go_ret
      exact ⟨by rw [V.out]; rfl, rfl⟩
    cases e13 : ((s[k].toNat : Int) == 124)
    rotate_left
    · have V : Hid (R = 1) := U.out true (by unfold oneS; simp only [e0, e1, e2, e3, e4, e5, e6, e7, e8, e9, e10, e11, e12, e13, Bool.or_true, Bool.true_or])
      go_enter Tryz.func24, Tryz.ntmps24
      go_wp2
      go_ret
      exact ⟨by rw [V.out]; rfl, rfl⟩
    cases e14 : ((s[k].toNat : Int) == 94)
    rotate_left
    · have V : Hid (R = 1) := U.out true (by unfold oneS; simp only [e0, e1, e2, e3, e4, e5, e6, e7, e8, e9, e10, e11, e12, e13, e14, Bool.or_true, Bool.true_or])
      go_enter Tryz.func24, Tryz.ntmps24
      go_wp2
      go_ret
      exact ⟨by rw [V.out]; rfl, rfl⟩
    have V : Hid (R = 0) := U.out false (by unfold oneS; simp only [e0, e1, e2, e3, e4, e5, e6, e7, e8, e9, e10, e11, e12, e13, e14]; rfl)
    go_enter Tryz.func24, Tryz.ntmps24
    go_wp2
    go_ret
    exact ⟨by rw [V.out]; rfl, rfl⟩
  · have hXe := hX2 hk1
    subst hXe
    have hk2 : decide ((k : Int) + 1 < (s.size : Int)) = false := by simp; omega
    clear hX hX2
    cases e0 : ((s[k].toNat : Int) == 123)
    rotate_left
    · have V : Hid (R = 1) := U.out true (by unfold oneS; simp only [e0, Bool.or_true, Bool.true_or])
      go_enter Tryz.func24, Tryz.ntmps24
      go_wp2
      go_ret
      exact ⟨by rw [V.out]; rfl, rfl⟩
    cases e1 : ((s[k].toNat : Int) == 125)
    rotate_left
    · have V : Hid (R = 1) := U.out true (by unfold oneS; simp only [e0, e1, Bool.or_true, Bool.true_or])
      go_enter Tryz.func24, Tryz.ntmps24
      go_wp2
      go_ret
      exact ⟨by rw [V.out]; rfl, rfl⟩
    cases e2 : ((s[k].toNat : Int) == 40)
    rotate_left
    · have V : Hid (R = 1) := U.out true (by unfold oneS; simp only [e0, e1, e2, Bool.or_true, Bool.true_or])
      go_enter Tryz.func24, Tryz.ntmps24
      go_wp2
      go_ret
      exact ⟨by rw [V.out]; rfl, rfl⟩
    cases e3 : ((s[k].toNat : Int) == 41)
    rotate_left
    · have V : Hid (R = 1) := U.out true (by unfold oneS; simp only [e0, e1, e2, e3, Bool.or_true, Bool.true_or])
      go_enter Tryz.func24, Tryz.ntmps24
      go_wp2
      go_ret
      exact ⟨by rw [V.out]; rfl, rfl⟩
    cases e4 : ((s[k].toNat : Int) == 59)
    rotate_left
    · have V : Hid (R = 1) := U.out true (by unfold oneS; simp only [e0, e1, e2, e3, e4, Bool.or_true, Bool.true_or])
      go_enter Tryz.func24, Tryz.ntmps24
      go_wp2
      go_ret
      exact ⟨by rw [V.out]; rfl, rfl⟩
    cases e5 : ((s[k].toNat : Int) == 58)
    rotate_left
    · have V : Hid (R = 1) := U.out true (by unfold oneS; simp only [e0, e1, e2, e3, e4, e5, Bool.or_true, Bool.true_or])
      go_enter Tryz.func24, Tryz.ntmps24
      go_wp2
      go_ret
      exact ⟨by rw [V.out]; rfl, rfl⟩
    cases e6 : ((s[k].toNat : Int) == 44)
    rotate_left
    · have V : Hid (R = 1) := U.out true (by unfold oneS; simp only [e0, e1, e2, e3, e4, e5, e6, Bool.or_true, Bool.true_or])
      go_enter Tryz.func24, Tryz.ntmps24
      go_wp2
      go_ret
      exact ⟨by rw [V.out]; rfl, rfl⟩
    cases e7 : ((s[k].toNat : Int) == 46)
    rotate_left
    · have V : Hid (R = 1) := U.out true (by unfold oneS; simp only [e0, e1, e2, e3, e4, e5, e6, e7, Bool.or_true, Bool.true_or])
      go_enter Tryz.func24, Tryz.ntmps24
      go_wp2
      go_ret
      exact ⟨by rw [V.out]; rfl, rfl⟩
    cases e8 : ((s[k].toNat : Int) == 61)
    rotate_left
    · have V : Hid (R = 1) := U.out true (by unfold oneS; simp only [e0, e1, e2, e3, e4, e5, e6, e7, e8, Bool.or_true, Bool.true_or])
      go_enter Tryz.func24, Tryz.ntmps24
      go_wp2
      go_ret
      exact ⟨by rw [V.out]; rfl, rfl⟩
    cases e9 : ((s[k].toNat : Int) == 60)
    rotate_left
    · have V : Hid (R = 1) := U.out true (by unfold oneS; simp only [e0, e1, e2, e3, e4, e5, e6, e7, e8, e9, Bool.or_true, Bool.true_or])
      go_enter Tryz.func24, Tryz.ntmps24
      go_wp2
      go_ret
      exact ⟨by rw [V.out]; rfl, rfl⟩
    cases e10 : ((s[k].toNat : Int) == 43)
    rotate_left
    · have V : Hid (R = 1) := U.out true (by unfold oneS; simp only [e0, e1, e2, e3, e4, e5, e6, e7, e8, e9, e10, Bool.or_true, Bool.true_or])
      go_enter Tryz.func24, Tryz.ntmps24
      go_wp2
      go_ret
      exact ⟨by rw [V.out]; rfl, rfl⟩
    cases e11 : ((s[k].toNat : Int) == 45)
    rotate_left
    · have V : Hid (R = 1) := U.out true (by unfold oneS; simp only [e0, e1, e2, e3, e4, e5, e6, e7, e8, e9, e10, e11, Bool.or_true, Bool.true_or])
      go_enter Tryz.func24, Tryz.ntmps24
      go_wp2
      go_ret
      exact ⟨by rw [V.out]; rfl, rfl⟩
    cases e12 : ((s[k].toNat : Int) == 38)
    rotate_left
    · have V : Hid (R = 1) := U.out true (by unfold oneS; simp only [e0, e1, e2, e3, e4, e5, e6, e7, e8, e9, e10, e11, e12, Bool.or_true, Bool.true_or])
      go_enter Tryz.func24, Tryz.ntmps24
      go_wp2
      go_ret
      exact ⟨by rw [V.out]; rfl, rfl⟩
    cases e13 : ((s[k].toNat : Int) == 124)
    rotate_left
    · have V : Hid (R = 1) := U.out true (by unfold oneS; simp only [e0, e1, e2, e3, e4, e5, e6, e7, e8, e9, e10, e11, e12, e13, Bool.or_true, Bool.true_or])
      go_enter Tryz.func24, Tryz.ntmps24
      go_wp2
      go_ret
      exact ⟨by rw [V.out]; rfl, rfl⟩
    cases e14 : ((s[k].toNat : Int) == 94)
    rotate_left
    · have V : Hid (R = 1) := U.out true (by unfold oneS; simp only [e0, e1, e2, e3, e4, e5, e6, e7, e8, e9, e10, e11, e12, e13, e14, Bool.or_true, Bool.true_or])
      go_enter Tryz.func24, Tryz.ntmps24
      go_wp2
      go_ret
      exact ⟨by rw [V.out]; rfl, rfl⟩
    have V : Hid (R = 0) := U.out false (by unfold oneS; simp only [e0, e1, e2, e3, e4, e5, e6, e7, e8, e9, e10, e11, e12, e13, e14]; rfl)
    go_enter Tryz.func24, Tryz.ntmps24
    go_wp2
    go_ret
    exact ⟨by rw [V.out]; rfl, rfl⟩
theorem past_snoc (p : Nat × Nat) (s : ByteArray) (k : Nat) (h : k < s.size) : past p (s.data.toList.take (k + 1)) = if s[k] = 10 then ((past p (s.data.toList.take k)).1 + 1, 1) else ((past p (s.data.toList.take k)).1, (past p (s.data.toList.take k)).2 + 1) := by
  have e : s.data.toList.take (k + 1) = s.data.toList.take k ++ [s[k]] := by
    rw [List.take_add_one, getAt s h]; rfl
  rw [e, past_append]; rfl
set_option maxHeartbeats 1000000 in
theorem rpast_any (p : Nat × Nat) (s : ByteArray) (hl : p.1 ≤ 4294967296) (hc : p.2 ≤ 4294967296) (hs : s.size ≤ 4294967296) (w : World) :
    Calls Tryz.prog 15 #[Pl p, .string s] w fun e w' => e = .returned (Pl (past p s.data.toList)) ∧ Below w.heap.size w w' := by
  obtain ⟨H0, hH0⟩ : ∃ h, h = w.heap.size := ⟨_, rfl⟩
  have HQ : Hid (∀ k, k ≤ s.size → (past p (s.data.toList.take k)).1 ≤ 8589934592 ∧ (past p (s.data.toList.take k)).2 ≤ 8589934593) := fun k hk => by
    have := past_le (s.data.toList.take k) p
    rw [List.length_take] at this; omega
  have HN : Hid (∀ k (h : k < s.size), past p (s.data.toList.take (k + 1)) = if s[k] = 10 then ((past p (s.data.toList.take k)).1 + 1, 1) else ((past p (s.data.toList.take k)).1, (past p (s.data.toList.take k)).2 + 1)) := fun k h => past_snoc p s k h
  have HE : Hid (past p (s.data.toList.take s.size) = past p s.data.toList) := by show _ = _; rw [List.take_of_length_le (by simp)]
  have H1 : Hid (past p (s.data.toList.take 0) = p) := rfl
  have HB0 : Hid (Below w.heap.size w ((w.alloc (.cells #[.int .i64 (p.1 : Int), .int .i64 (p.2 : Int)] 26)).alloc (.cells #[.int .i64 0, .int .i64 0] 26))) := ((Below.refl _ _).alloc (Nat.le_refl _) _).alloc (by simp) _
  have HBK : Hid (Blk ((w.alloc (.cells #[.int .i64 (p.1 : Int), .int .i64 (p.2 : Int)] 26)).alloc (.cells #[.int .i64 0, .int .i64 0] 26)) w.heap.size #[.int .i64 (p.1 : Int), .int .i64 (p.2 : Int)] 26) := (Blk.new _ _ _).below ((Below.refl _ _).alloc (Nat.le_refl _) _)
  have HBZ : Hid (Blk ((w.alloc (.cells #[.int .i64 (p.1 : Int), .int .i64 (p.2 : Int)] 26)).alloc (.cells #[.int .i64 0, .int .i64 0] 26)) (w.heap.size + 1) #[.int .i64 0, .int .i64 0] 26) := by
    have := Blk.new (w.alloc (.cells #[.int .i64 (p.1 : Int), .int .i64 (p.2 : Int)] 26)) #[.int .i64 0, .int .i64 0] 26
    show Blk _ _ _ _; simpa using this
  generalize past p s.data.toList = Q at *
  obtain ⟨P, hP⟩ : ∃ P : Nat → Nat × Nat, P = fun k => past p (s.data.toList.take k) := ⟨_, rfl⟩
  have HQ : Hid (∀ k, k ≤ s.size → (P k).1 ≤ 8589934592 ∧ (P k).2 ≤ 8589934593) := by rw [hP]; exact HQ.out
  have HN : Hid (∀ k (h : k < s.size), P (k + 1) = if s[k] = 10 then ((P k).1 + 1, 1) else ((P k).1, (P k).2 + 1)) := by rw [hP]; exact HN.out
  have HE : Hid (P s.size = Q) := by rw [hP]; exact HE.out
  have H1 : Hid (P 0 = p) := by rw [hP]; exact H1.out
  clear hP
  go_enter Tryz.func15, Tryz.ntmps15
  go_wp2
  go_loopw [5] (fun i wr => ∃ (k : Nat), k ≤ s.size ∧ i = .int .i64 k ∧ Blk wr w.heap.size #[.int .i64 ((P k).1 : Int), .int .i64 ((P k).2 : Int)] 26 ∧ Blk wr (w.heap.size + 1) #[.int .i64 0, .int .i64 0] 26 ∧ Below w.heap.size w wr) (fun i _ => s.size - (intOf i).toNat)
  case atStart => exact ⟨0, by omega, rfl, by rw [H1.out]; exact HBK.out, HBZ.out, HB0.out⟩
  case round =>
    obtain ⟨k, hk, rfl, hb1, hb2, hB⟩ := hrel
    have B1 : Hid (Blk wr w.heap.size #[.int .i64 ((P k).1 : Int), .int .i64 ((P k).2 : Int)] 26) := hb1
    have B2 : Hid (Blk wr (w.heap.size + 1) #[.int .i64 0, .int .i64 0] 26) := hb2
    have B3 : Hid (Below w.heap.size w wr) := hB
    have q := HQ.out k hk
    have c0 := hb1.cell 0 (v := .int .i64 ((P k).1 : Int)) rfl
    have c1 := hb1.cell 1 (v := .int .i64 ((P k).2 : Int)) rfl
    have f0 := hb1.frozen 0
    have f1 := hb1.frozen 1
    have d0 := hb2.cell 0 (v := .int .i64 0) rfl
    have d1 := hb2.cell 1 (v := .int .i64 0) rfl
    have g0 := hb2.frozen 0
    have g1 := hb2.frozen 1
    clear hb1 hb2 hB
    by_cases hlt : k < s.size
    · have E := HN.out k hlt
      by_cases e : s[k] = 10
      · have hr : ((s[k].toNat : Int) == 10) = true := by rw [e]; rfl
        rw [if_pos e] at E
        have HE2 : Hid (P (k + 1) = ((P k).1 + 1, 1)) := E
        clear e E
        go_wp2
        refine ⟨⟨k + 1, by omega, by go_num, ?_, ?_, ?_⟩, by simp only [intOf]; omega⟩
        · rw [HE2.out]
          exact ((B1.out.set 1 _).set 0 _).set 1 _
        · exact B2.out.kept (((Kept.refl (fun j => j = w.heap.size) wr).set rfl _).set rfl _ |>.set rfl _) (by omega)
        · exact B3.out.trans ((((Kept.refl (fun j => j = w.heap.size) wr).set rfl _).set rfl _ |>.set rfl _).below B3.out.size (by omega))
      · have hr : ((s[k].toNat : Int) == 10) = false := by
          rw [beq_eq_false_iff_ne]; intro h; exact e (UInt8.toNat_inj.1 (by rw [show (10 : UInt8).toNat = 10 from rfl]; omega))
        rw [if_neg e] at E
        have HE2 : Hid (P (k + 1) = ((P k).1, (P k).2 + 1)) := E
        clear e E
        go_wp2
        refine ⟨⟨k + 1, by omega, by go_num, ?_, ?_, ?_⟩, by simp only [intOf]; omega⟩
        · rw [HE2.out]
          exact B1.out.set 1 _
        · exact B2.out.kept ((Kept.refl (fun j => j = w.heap.size) wr).set rfl _) (by omega)
        · exact B3.out.trans (((Kept.refl (fun j => j = w.heap.size) wr).set rfl _).below B3.out.size (by omega))
    · have e : k = s.size := by omega
      subst e
      have E2 : Hid (P s.size = Q) := HE.out
      clear HE HN HQ H1
      go_wp2
      refine bodyPost_ret (v := Pl (P s.size)) ?_ rfl ⟨by rw [E2.out], ?_⟩
      · have z0 := ((B2.out.set 0 (.int .i64 ((P s.size).1 : Int))).set 1 (.int .i64 ((P s.size).2 : Int))).cell 0 (v := .int .i64 ((P s.size).1 : Int)) rfl
        have z1 := ((B2.out.set 0 (.int .i64 ((P s.size).1 : Int))).set 1 (.int .i64 ((P s.size).2 : Int))).cell 1 (v := .int .i64 ((P s.size).2 : Int)) rfl
        simp [results, Tryz.results15, go_sem, z0, z1]
      · exact B3.out.trans (((Kept.refl (fun j => w.heap.size ≤ j) wr).set (by simp) _).set (by simp) _ |>.below B3.out.size (fun _ h => h))
theorem two_any (s : ByteArray) (k : Nat) (h : k + 1 < s.size) (hs : s.size ≤ 65536) (h0 : (s.extract k (k + 2)).toList = [61, 61] ∨ (s.extract k (k + 2)).toList = [33, 61] ∨ (s.extract k (k + 2)).toList = [60, 61]) (w : World) :
    Calls Tryz.prog 24 #[.string s, .int .i64 (k : Int)] w fun e w' => e = .returned (.int .i64 2) ∧ w' = w := by
  have hk2 : decide ((k : Int) + 1 < (s.size : Int)) = true := by simp; omega
  cases f1 : ((s.extract k (k + 2)).toList == [61, 61]) <;> cases f2 : ((s.extract k (k + 2)).toList == [33, 61]) <;> cases f3 : ((s.extract k (k + 2)).toList == [60, 61])
  all_goals first
    | (exfalso; simp only [beq_eq_false_iff_ne] at f1 f2 f3; rcases h0 with e | e | e <;> contradiction)
    | (clear h0
       go_enter Tryz.func24, Tryz.ntmps24
       go_wp2
       go_ret
       exact ⟨rfl, rfl⟩)
theorem rsign_any (s : ByteArray) (k : Nat) (h : k < s.size) (hs : s.size ≤ 65536) (w : World) :
    Calls Tryz.prog 24 #[.string s, .int .i64 (k : Int)] w fun e w' => e = .returned (.int .i64 (rsignN (s.data.toList.drop k) : Int)) ∧ w' = w := by
  have hx : (s.extract k (k + 2)).toList = (s.data.toList.drop k).take 2 := by
    rw [ByteArray.toList_eq, ext_list, List.drop_take]; simp
  by_cases hT : (s.data.toList.drop k).take 2 = [61, 61] ∨ (s.data.toList.drop k).take 2 = [33, 61] ∨ (s.data.toList.drop k).take 2 = [60, 61]
  · have h1 : k + 1 < s.size := by
      have hl : ((s.data.toList.drop k).take 2).length = 2 := by rcases hT with e | e | e <;> rw [e] <;> rfl
      rw [List.length_take, List.length_drop] at hl
      have : s.data.toList.length = s.size := by simp
      omega
    have := two_any s k h1 hs (by rw [hx]; exact hT) w
    unfold rsignN; rw [if_pos hT]; exact this
  · have e0 : rsignN (s.data.toList.drop k) = if oneS (cI s[k]) = true then 1 else 0 := by unfold rsignN; rw [if_neg hT, head_at s h]
    have e1 : ((rsignN (s.data.toList.drop k) : Nat) : Int) = if oneS (cI s[k]) = true then 1 else 0 := by rw [e0]; split <;> rfl
    rw [e1]
    by_cases h1 : ((k + 1 : Nat) : Int) < (s.size : Int)
    · exact one_any s k h (s.extract k (k + 2)) (fun _ => rfl) (fun h2 => absurd h1 h2) (by rw [hx]; exact fun e => hT (.inl e)) (by rw [hx]; exact fun e => hT (.inr (.inl e))) (by rw [hx]; exact fun e => hT (.inr (.inr e))) hs w
    · exact one_any s k h ⟨#[]⟩ (fun h2 => absurd h2 h1) (fun _ => rfl) (by simp [ByteArray.toList_eq]) (by simp [ByteArray.toList_eq]) (by simp [ByteArray.toList_eq]) hs w
theorem ext_take (s : ByteArray) (a b : Nat) : (s.extract a b).data.toList = (s.data.toList.drop a).take (b - a) := by rw [ext_list, List.drop_take]
theorem rem_step (m u10 u35 bl : Bool) (c : UInt8) (h10 : (cI c == 10) = u10) (h35 : (cI c == 35) = u35) (hb : blI (cI c) = bl) :
    remI m (cI c) = (u35 || (!u10 && m)) ∧ goI m (cI c) = (u35 || (!u10 && m) || bl) ∧ (u10 = true → bl = true) ∧ (u10 = true → u35 = false) := by
  have e : remI m (cI c) = (u35 || (!u10 && m)) := by
    unfold remI; rw [← h10, ← h35]
    by_cases h1 : cI c = 35
    · simp [h1]
    · by_cases h2 : cI c = 10
      · simp [h2]
      · have q1 : (cI c == 35) = false := by simpa using h1
        have q2 : (cI c == 10) = false := by simpa using h2
        rw [if_neg h1, if_neg h2, q1, q2]; rfl
  refine ⟨e, by unfold goI; rw [e, hb], fun h => ?_, fun h => ?_⟩
  · rw [← hb]; rw [h] at h10; have := eq_of_beq h10; rw [this]; rfl
  · rw [← h35]; rw [h] at h10; have := eq_of_beq h10; rw [this]; rfl
set_option maxHeartbeats 1000000 in
theorem rskipped_any (s : ByteArray) (a : Nat) (ha : a ≤ s.size) (hs : s.size ≤ 65536) (w : World) :
    Calls Tryz.prog 14 #[.string s, .int .i64 (a : Int)] w fun e w' => e = .returned (.int .i64 ((a + gapL false (s.data.toList.drop a) : Nat) : Int)) ∧ w' = w := by
  obtain ⟨G, hG⟩ : ∃ G, G = a + gapL false (s.data.toList.drop a) := ⟨_, rfl⟩
  have HG : Hid (G = a + gapL false (s.data.toList.drop a)) := hG
  rw [← hG]
  clear hG
  go_enter Tryz.func14, Tryz.ntmps14
  go_wp2
  go_loopw [1, 5] (fun i r wr => ∃ (k : Nat) (m : Bool), k ≤ s.size ∧ i = .int .i64 k ∧ r = .bool m ∧ Aside (G = k + gapL m (s.data.toList.drop k)) ∧ wr = w) (fun i _ _ => s.size - (intOf i).toNat)
  case atStart => exact ⟨a, false, by omega, rfl, rfl, HG.out, rfl⟩
  case round =>
    obtain ⟨k, m, hk, rfl, rfl, hA, hwr⟩ := hrel
    obtain rfl := Eq.symm hwr
    by_cases hlt : k < s.size
    · have CB : Hid (∀ w, Calls Tryz.prog 22 #[.int .u8 (s[k].toNat : Int)] w fun e w' => e = .returned (.bool (blI (cI s[k]))) ∧ w' = w) := rblank_any s[k]
      have A2 : Hid (G = k + gapL m (s[k] :: s.data.toList.drop (k + 1))) := by show _ = _; rw [← byteAt s hlt]; exact hA.out
      obtain ⟨u10, h10⟩ : ∃ u, u = (cI s[k] == 10) := ⟨_, rfl⟩
      obtain ⟨u35, h35⟩ : ∃ u, u = (cI s[k] == 35) := ⟨_, rfl⟩
      obtain ⟨e1, e2, e3, e4⟩ := rem_step m u10 u35 _ s[k] h10.symm h35.symm rfl
      have ST : Hid (goI m (cI s[k]) = false → G = k) := fun h => by rw [A2.out, gap_stop h]; rfl
      have GO : Hid (goI m (cI s[k]) = true → G = (k + 1) + gapL (remI m (cI s[k])) (s.data.toList.drop (k + 1))) := fun h => by rw [A2.out, gap_go h]; omega
      rw [e2] at ST GO
      rw [e1] at GO
      have f10 : ((s[k].toNat : Int) != 10) = !u10 := by rw [h10]; rfl
      have f35 : ((s[k].toNat : Int) == 35) = u35 := by rw [h35]
      clear h10 h35 e1 e2 hA A2
      generalize blI (cI s[k]) = bl at *
      cases m <;> cases u10 <;> cases u35 <;> cases bl
      all_goals first
        | (exfalso; revert e3 e4; simp; done)
        | (clear e3 e4
           go_wp2_with (go_at_call 22; refine (CB.out _).mono ?_; rintro e w' ⟨rfl, hw'⟩; obtain rfl := Eq.symm hw')
           first
             | exact ⟨⟨k + 1, _, by omega, by go_num, rfl, GO.out rfl, trivial⟩, by simp only [intOf]; omega⟩
             | (go_ret
                exact ⟨by rw [ST.out rfl]; rfl, rfl⟩))
    · have e : k = s.size := by omega
      subst e
      have E : Hid (G = s.size) := by show _ = _; rw [hA.out, List.drop_of_length_le (by simp)]; rfl
      clear hA
      go_wp2
      go_ret
      exact ⟨by rw [E.out]; rfl, rfl⟩
end Go.Proofs.YtlgfpjaomiomjaaGreatDoor
