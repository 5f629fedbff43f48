/- The document's readers: each call: its answer, the place and the error behind it. -/
import Derived.Test.YtdpddlaedffmdaaNm
import Derived.Test.YtdpddlaedffmdaaBc
namespace Go.Proofs.Ytdpddlaedffmdaa
open Go.RowKit
set_option linter.unusedVariables false
set_option linter.unusedSimpArgs false

/-- The document's reader in memory. -/
def RF (w : World) (c : Nat) (s : ByteArray) (a : Nat) (f : Int) : Prop :=
  w.cell? ⟨c, 0, none⟩ = some (.string s) ∧ w.cell? ⟨c, 1, none⟩ = some (.int .i64 a) ∧ w.cell? ⟨c, 2, none⟩ = some (.int .i64 f) ∧ w.cell? ⟨c, 3, none⟩ = some (.int .i64 (faultAt a f)) ∧
  w.frozen? ⟨c, 1, none⟩ = false ∧ w.frozen? ⟨c, 2, none⟩ = false ∧ w.frozen? ⟨c, 3, none⟩ = false ∧ a ≤ s.size
theorem RF.lt {w : World} {c : Nat} {s : ByteArray} {a : Nat} {f : Int} (h : RF w c s a f) : c < w.heap.size := World.block_lt_of_cell? w ⟨c, 0, none⟩ h.1
theorem RF.kept {S : Nat → Prop} {w w' : World} {c : Nat} {s : ByteArray} {a : Nat} {f : Int} (h : RF w c s a f) (hk : Kept S w w') (hc : ¬ S c) : RF w' c s a f := by
  have hl := h.lt
  obtain ⟨h0, h1, h2, h3, h4, h5, h6, h7⟩ := h
  exact ⟨hk.cell h0 hc, hk.cell h1 hc, hk.cell h2 hc, hk.cell h3 hc, (hk.frozen (p := ⟨c, 1, none⟩) hl hc).trans h4, (hk.frozen (p := ⟨c, 2, none⟩) hl hc).trans h5, (hk.frozen (p := ⟨c, 3, none⟩) hl hc).trans h6, h7⟩
theorem RF.below {w w' : World} {c : Nat} {s : ByteArray} {a : Nat} {f : Int} (h : RF w c s a f) (hb : Below w.heap.size w w') : RF w' c s a f := h.kept (S := fun _ => False) (Kept.of_below hb) id
theorem RF.drew {w : World} {c : Nat} {s : ByteArray} {a : Nat} {f : Int} (h : RF w c s a f) (n : Nat) : RF (w.drewN n) c s a f := h
theorem RF.place {w : World} {c : Nat} {s : ByteArray} {a : Nat} (h : RF w c s a 0) (a' : Nat) (ha : a' ≤ s.size) : RF (w.setCell ⟨c, 1, none⟩ (.int .i64 (a' : Int))) c s a' 0 := by
  obtain ⟨h0, h1, h2, h3, h4, h5, h6, h7⟩ := h
  refine ⟨?_, World.cell?_setCell_same _ _ _ h1, ?_, ?_, by simpa using h4, by simpa using h5, by simpa using h6, ha⟩
  · rw [World.cell?_setCell_other _ _ _ _ (by intro x; injection x with _ x _; cases x)]; exact h0
  · rw [World.cell?_setCell_other _ _ _ _ (by intro x; injection x with _ x _; cases x)]; exact h2
  · rw [World.cell?_setCell_other _ _ _ _ (by intro x; injection x with _ x _; cases x)]; exact h3
theorem RF.err {w : World} {c : Nat} {s : ByteArray} {a : Nat} (h : RF w c s a 0) (e : Int) (he : e ≠ 0) : RF ((w.setCell ⟨c, 2, none⟩ (.int .i64 e)).setCell ⟨c, 3, none⟩ (.int .i64 (a : Int))) c s a e := by
  obtain ⟨h0, h1, h2, h3, h4, h5, h6, h7⟩ := h
  have g3 : (w.setCell ⟨c, 2, none⟩ (.int .i64 e)).cell? ⟨c, 3, none⟩ = some (.int .i64 (faultAt a 0)) := by rw [World.cell?_setCell_other _ _ _ _ (by intro x; injection x with _ x _; cases x)]; exact h3
  refine ⟨?_, ?_, ?_, ?_, by simpa using h4, by simpa using h5, by simpa using h6, h7⟩
  · rw [World.cell?_setCell_other _ _ _ _ (by intro x; injection x with _ x _; cases x), World.cell?_setCell_other _ _ _ _ (by intro x; injection x with _ x _; cases x)]; exact h0
  · rw [World.cell?_setCell_other _ _ _ _ (by intro x; injection x with _ x _; cases x), World.cell?_setCell_other _ _ _ _ (by intro x; injection x with _ x _; cases x)]; exact h1
  · rw [World.cell?_setCell_other _ _ _ _ (by intro x; injection x with _ x _; cases x)]; exact World.cell?_setCell_same _ _ _ h2
  · rw [show faultAt a e = (a : Int) by unfold faultAt; rw [if_neg he]]; exact World.cell?_setCell_same _ _ _ g3
theorem RF.new (s : ByteArray) (w : World) (t : TypeId) : RF (w.alloc (.cells #[.string s, .int .i64 0, .int .i64 0, .int .i64 0] t)) w.heap.size s 0 0 :=
  ⟨by simp, by simp, by simp, by simp [faultAt], by simp, by simp, by simp, by omega⟩
theorem numS_fits : ∀ (l : List UInt8) (i n : Nat), (numS l i n).2.2 = 0 → (numS l i n).2.1 ≤ i + l.length
  | [], i, n => by intro h; simp [numS] at h
  | c :: r, i, n => by
    rw [numS]
    split
    · split
      · split
        · intro _; simp
        · intro h; have := numS_fits r (i + 1) _ h; simp; omega
      · intro h; simp at h
    · intro h; simp at h
theorem numR_fits (s : ByteArray) (a : Nat) (ha : a ≤ s.size) (m : Nat) : (numR (s.data.toList.drop a) m).2.2 = 0 → a + (numR (s.data.toList.drop a) m).2.1 ≤ s.size := by
  have hl : (s.data.toList.drop a).length = s.size - a := by simp
  unfold numR
  split
  · intro _; simpa using ha
  · split
    · intro h; have := numS_fits _ _ _ h; rw [hl] at this; omega
    · intro h; simp at h
theorem bad_any {w : World} {c : Nat} {s : ByteArray} {a : Nat} (h : RF w c s a 0) (e : Int) (he : e ≠ 0) : Calls Try.prog 70 #[.pointer (some ⟨c, 0, none⟩), .int .i64 e] w fun x w' => x = .returned (.tuple #[]) ∧ RF w' c s a e ∧ Kept (fun k => k = c) w w' := by
  have hR := h.err e he
  have hK : Kept (fun k => k = c) w ((w.setCell ⟨c, 2, none⟩ (.int .i64 e)).setCell ⟨c, 3, none⟩ (.int .i64 (a : Int))) := Kept.set (S := fun k => k = c) (Kept.set (S := fun k => k = c) (Kept.refl _ _) rfl _) rfl _
  obtain ⟨h0, h1, h2, h3, h4, h5, h6, h7⟩ := h
  have g1 : (w.setCell ⟨c, 2, none⟩ (.int .i64 e)).cell? ⟨c, 1, none⟩ = some (.int .i64 a) := by rw [World.cell?_setCell_other _ _ _ _ (by intro x; injection x with _ x _; cases x)]; exact h1
  have g3 : (w.setCell ⟨c, 2, none⟩ (.int .i64 e)).cell? ⟨c, 3, none⟩ = some (.int .i64 (faultAt a 0)) := by rw [World.cell?_setCell_other _ _ _ _ (by intro x; injection x with _ x _; cases x)]; exact h3
  have g6 : (w.setCell ⟨c, 2, none⟩ (.int .i64 e)).frozen? ⟨c, 3, none⟩ = false := by simpa using h6
  go_enter Try.func70, Try.ntmps70
  go_wp2
  first | go_end0 | refine bodyPost_ret (results_none rfl _ _ _) rfl ?_
  all_goals exact ⟨rfl, hR, hK⟩
set_option maxRecDepth 100000 in
theorem rend_any {w : World} {c : Nat} {s : ByteArray} {a : Nat} {f : Int} (h : RF w c s a f) : Calls Try.prog 46 #[.pointer (some ⟨c, 0, none⟩)] w fun e w' => e = .returned (.int .i64 (endR s a f)) ∧ ∃ n, w' = w.drewN n := by
  obtain ⟨h0, h1, h2, h3, h4, h5, h6, h7⟩ := h
  by_cases hf : f = 0
  · subst hf
    by_cases ha : a < s.size
    · have ha' : (a : Int) < (s.size : Int) := by omega
      rw [show endR s a 0 = 31 by unfold endR; rw [if_pos ⟨rfl, ha⟩]]
      go_enter Try.func46, Try.ntmps46
      go_wp2
      go_quiet (fail)
      go_wp2
      go_ret
      exact ⟨rfl, _, rfl⟩
    · have ha' : ¬ (a : Int) < (s.size : Int) := by omega
      have hd : decide ((a : Int) < (s.size : Int)) = false := by simp; omega
      rw [show endR s a 0 = 0 by unfold endR; rw [if_neg (fun h => ha h.2)]]
      go_enter Try.func46, Try.ntmps46
      go_wp2
      go_quiet (fail)
      go_wp2
      go_ret
      exact ⟨rfl, _, rfl⟩
  · have hd : (f == 0) = false := by simpa using hf
    rw [show endR s a f = f by unfold endR; rw [if_neg (fun h => hf h.1)]]
    go_enter Try.func46, Try.ntmps46
    go_wp2
    go_quiet (fail)
    go_wp2
    go_ret
    exact ⟨rfl, _, rfl⟩
set_option maxRecDepth 100000 in
theorem x41 {w : World} {c : Nat} {s : ByteArray} {a : Nat} {f : Int} (h : RF w c s a f) (hs : s.size ≤ 140737488351232) (m : Nat) : Calls Try.prog 41 #[.pointer (some ⟨c, 0, none⟩), .int .u64 m] w fun e w' => e = .returned (.int .u64 (uintS s a f m).1) ∧ RF w' c s (uintS s a f m).2.1 (uintS s a f m).2.2 ∧ Kept (fun k => k = c) w w' := by
  by_cases hf : f = 0
  · subst hf
    have hul : uintS s a 0 m = ((numR (s.data.toList.drop a) m).1, a + (numR (s.data.toList.drop a) m).2.1, (numR (s.data.toList.drop a) m).2.2) := by unfold uintS; rw [if_pos rfl]
    have hz := numR_zero (s.data.toList.drop a) m
    have hlen : (numR (s.data.toList.drop a) m).2.2 = 0 → a + (numR (s.data.toList.drop a) m).2.1 ≤ s.size := numR_fits s a h.2.2.2.2.2.2.2 m
    have C : Hid (∀ w : World, Calls Try.prog 69 #[.string s, .int .i64 a, .int .u64 m] w fun e w' => e = .returned (.tuple #[.int .u64 (numR (s.data.toList.drop a) m).1, .int .i64 ((a + (numR (s.data.toList.drop a) m).2.1 : Nat) : Int), .int .i64 (numR (s.data.toList.drop a) m).2.2]) ∧ w' = w) := rnumber_any s hs a h.2.2.2.2.2.2.2 m
    rw [hul]
    generalize numR (s.data.toList.drop a) m = R at *
    obtain ⟨x, k, g⟩ := R
    simp only at C hz hlen ⊢
    have HRF : Hid (RF w c s a 0) := h
    obtain ⟨h0, h1, h2, h3, h4, h5, h6, h7⟩ := h
    clear hul
    by_cases hg : g = 0
    · subst hg
      have HP : Hid (∀ n, RF ((w.drewN n).setCell ⟨c, 1, none⟩ (.int .i64 ((a + k : Nat) : Int))) c s (a + k) 0) := fun n => (HRF.out.drew n).place (a + k) (hlen rfl)
      generalize a + k = q at *
      clear hz hlen
      go_enter Try.func41, Try.ntmps41
      go_wp2
      go_quiet ((go_at_call 69; refine Calls.quiet_of_same (C.out _)))
      go_wp2
      go_ret
      exact ⟨rfl, HP.out _, Kept.set (S := fun k => k = c) ((Kept.refl _ _).drewN _) rfl _⟩
    · have hxk := hz hg
      simp only [Prod.mk.injEq] at hxk
      obtain ⟨rfl, rfl, -⟩ := hxk
      have hg' : (g == 0) = false := by simpa using hg
      have CB : Hid (∀ n, Calls Try.prog 70 #[.pointer (some ⟨c, 0, none⟩), .int .i64 g] (w.drewN n) fun x w' => x = .returned (.tuple #[]) ∧ RF w' c s a g ∧ Kept (fun k => k = c) (w.drewN n) w') := fun n => bad_any (HRF.out.drew n) g hg
      clear hz hlen
      go_enter Try.func41, Try.ntmps41
      go_wp2
      go_quiet ((go_at_call 69; refine Calls.quiet_of_same (C.out _)))
      go_wp2_with fail
      refine (CB.out _).mono ?_
      rintro e w3 ⟨rfl, hR3, hk3⟩
      have hK : Kept (fun k => k = c) w w3 := ((Kept.refl _ _).drewN _).trans hk3
      go_wp2
      go_ret
      exact ⟨rfl, hR3, hK⟩
  · have hul : uintS s a f m = (0, a, f) := by unfold uintS; rw [if_neg hf]
    rw [hul]
    have hR := h
    obtain ⟨h0, h1, h2, h3, h4, h5, h6, h7⟩ := h
    go_enter Try.func41, Try.ntmps41
    go_wp2
    go_ret
    exact ⟨rfl, hR, Kept.refl _ _⟩
set_option maxRecDepth 100000 in
theorem x45 {w : World} {c : Nat} {s : ByteArray} {a : Nat} {f : Int} (h : RF w c s a f) (hs : s.size ≤ 140737488351232) (n : Int) : Calls Try.prog 45 #[.pointer (some ⟨c, 0, none⟩), .int .i64 n] w fun e w' => e = .returned (.string (rawS s a f n).1) ∧ RF w' c s (rawS s a f n).2.1 (rawS s a f n).2.2 ∧ Kept (fun k => k = c) w w' := by
  have HRF : Hid (RF w c s a f) := h
  obtain ⟨h0, h1, h2, h3, h4, h5, h6, h7⟩ := h
  by_cases hf : f = 0
  · subst hf
    have hul : rawS s a 0 n = rawR s a n := by unfold rawS; rw [if_pos rfl]
    rw [hul]
    clear hul
    by_cases hn : n < 0
    · rw [show rawR s a n = (⟨#[]⟩, a, 1) by unfold rawR; rw [if_pos hn]]
      have CB : Hid (Calls Try.prog 70 #[.pointer (some ⟨c, 0, none⟩), .int .i64 1] w fun x w' => x = .returned (.tuple #[]) ∧ RF w' c s a 1 ∧ Kept (fun k => k = c) w w') := bad_any HRF.out 1 (by decide)
      clear hs
      go_enter Try.func45, Try.ntmps45
      go_wp2_with fail
      refine CB.out.mono ?_
      rintro e w3 ⟨rfl, hR3, hk3⟩
      go_wp2
      go_ret
      exact ⟨rfl, hR3, hk3⟩
    · obtain ⟨m, rfl⟩ := Int.eq_ofNat_of_zero_le (show 0 ≤ n by omega)
      have hn' : ¬ (m : Int) < 0 := hn
      have hWs : IntKind.i64.wrap ((s.size : Int) - (a : Int)) = (s.size : Int) - (a : Int) := by rw [IntKind.wrap_i64]; omega
      by_cases hm : a + m ≤ s.size
      · rw [show rawR s a (m : Int) = (s.extract a (a + m), a + m, 0) by unfold rawR; rw [if_neg hn, Int.toNat_natCast, if_pos hm]]
        have hm1 : decide ((s.size : Int) - (a : Int) < (m : Int)) = false := by simp; omega
        have hm2 : (a : Int) + (m : Int) ≤ (s.size : Int) := by omega
        have hm3 : (a : Int) ≤ (a : Int) + (m : Int) := by omega
        have hm5 : (a : Int) ≤ (s.size : Int) := by omega
        have hm4 : IntKind.i64.wrap ((a : Int) + (m : Int)) = (a : Int) + (m : Int) := by rw [IntKind.wrap_i64]; omega
        have HP : Hid (∀ n, RF ((w.drewN n).setCell ⟨c, 1, none⟩ (.int .i64 ((a : Int) + (m : Int)))) c s (a + m) 0) := fun n => (HRF.out.drew n).place (a + m) hm
        clear hn hs
        go_enter Try.func45, Try.ntmps45
        go_wp2
        go_quiet (fail)
        go_wp2
        go_quiet (fail)
        go_wp2
        go_ret
        exact ⟨rfl, HP.out _, Kept.set (S := fun k => k = c) ((Kept.refl _ _).drewN _) rfl _⟩
      · rw [show rawR s a (m : Int) = (⟨#[]⟩, a, 3) by unfold rawR; rw [if_neg hn, Int.toNat_natCast, if_neg hm]]
        have hm1 : (s.size : Int) - (a : Int) < (m : Int) := by omega
        have CB : Hid (∀ n, Calls Try.prog 70 #[.pointer (some ⟨c, 0, none⟩), .int .i64 3] (w.drewN n) fun x w' => x = .returned (.tuple #[]) ∧ RF w' c s a 3 ∧ Kept (fun k => k = c) (w.drewN n) w') := fun n => bad_any (HRF.out.drew n) 3 (by decide)
        clear hn hs
        go_enter Try.func45, Try.ntmps45
        go_wp2
        go_quiet (fail)
        go_wp2_with fail
        refine (CB.out _).mono ?_
        rintro e w3 ⟨rfl, hR3, hk3⟩
        have hK : Kept (fun k => k = c) w w3 := ((Kept.refl _ _).drewN _).trans hk3
        go_wp2
        go_ret
        exact ⟨rfl, hR3, hK⟩
  · have hul : rawS s a f n = (⟨#[]⟩, a, f) := by unfold rawS; rw [if_neg hf]
    rw [hul]
    go_enter Try.func45, Try.ntmps45
    go_wp2
    go_ret
    exact ⟨rfl, HRF.out, Kept.refl _ _⟩
/-- The loop of Fixed. -/
theorem fxN_empty : fxN (⟨#[]⟩ : ByteArray).data.toList = 0 := rfl
theorem rawS_len (s : ByteArray) (a : Nat) (f : Int) (k : Int) (hk : isFx k = true ∨ f ≠ 0) : (rawS s a f k).1.size ≤ 8 := by
  unfold rawS
  split
  · rename_i h0
    rcases hk with hk | hk
    · have := isFx_bounds hk
      unfold rawR
      split
      · exact Nat.zero_le _
      · split
        · rw [ByteArray.size_extract]; omega
        · exact Nat.zero_le _
    · exact absurd h0 hk
  · exact Nat.zero_le _
set_option maxRecDepth 100000 in
set_option maxHeartbeats 1000000 in
theorem x42 {w : World} {c : Nat} {s : ByteArray} {a : Nat} {f : Int} (h : RF w c s a f) (hs : s.size ≤ 140737488351232) (n : Int) : Calls Try.prog 42 #[.pointer (some ⟨c, 0, none⟩), .int .i64 n] w fun e w' => e = .returned (.int .u64 (fixS s a f n).1) ∧ RF w' c s (fixS s a f n).2.1 (fixS s a f n).2.2 ∧ Kept (fun k => k = c) w w' := by
  -- what Raw is asked with
  have loop : ∀ (g : Int) (w1 : World), RF w1 c s a g → Kept (fun k => k = c) w w1 → (isFx n = true ∨ g ≠ 0) → (fixS s a f n = (fxN (rawS s a g n).1.data.toList, (rawS s a g n).2.1, (rawS s a g n).2.2)) →
      Hid (Calls Try.prog 45 #[.pointer (some ⟨c, 0, none⟩), .int .i64 n] w1 fun e w' => e = .returned (.string (rawS s a g n).1) ∧ RF w' c s (fixS s a f n).2.1 (fixS s a f n).2.2 ∧ Kept (fun k => k = c) w w') ∧ (rawS s a g n).1.size ≤ 8 ∧ (fixS s a f n).1 = fxN (rawS s a g n).1.data.toList := by
    intro g w1 h1 hk hg he
    refine ⟨?_, rawS_len s a g n hg, by rw [he]⟩
    show Calls _ _ _ _ _
    rw [he]
    refine (x45 h1 hs n).mono ?_
    rintro e w' ⟨rfl, hR, hk'⟩
    exact ⟨rfl, hR, hk.trans hk'⟩
  have HRF : Hid (RF w c s a f) := h
  obtain ⟨h0, h1, h2, h3, h4, h5, h6, h7⟩ := h
  have fin : ∀ (g : Int), True := fun _ => trivial
  by_cases hf : f = 0
  · subst hf
    cases hF : isFx n
    · have hbad : ¬ (1 ≤ n ∧ n ≤ 8) := fun h => by simp [isFx, h.1, h.2] at hF
      have hv : fixS s a 0 n = (0, a, 1) := by unfold fixS fixQ; rw [if_pos rfl, hF]; rfl
      have hr1 : rawS s a 1 n = (⟨#[]⟩, a, 1) := by unfold rawS; rw [if_neg (by decide)]
      have CB : Hid (Calls Try.prog 70 #[.pointer (some ⟨c, 0, none⟩), .int .i64 1] w fun x w' => x = .returned (.tuple #[]) ∧ RF w' c s a 1 ∧ Kept (fun k => k = c) w w') := bad_any HRF.out 1 (by decide)
      have CR : Hid (∀ w1, RF w1 c s a 1 → Kept (fun k => k = c) w w1 → Calls Try.prog 45 #[.pointer (some ⟨c, 0, none⟩), .int .i64 n] w1 fun e w' => e = .returned (.string ⟨#[]⟩) ∧ RF w' c s a 1 ∧ Kept (fun k => k = c) w w') := by
        show ∀ w1, _
        intro w1 hw hk
        have := (loop 1 w1 hw hk (.inr (by decide)) (by rw [hv, hr1]; rfl)).1.out
        rw [hv, hr1] at this
        exact this
      rw [hv]
      clear loop fin
      by_cases hn1 : n < 1
      · clear hs
        go_enter Try.func42, Try.ntmps42
        go_wp2_with fail
        refine CB.out.mono ?_
        rintro e w3 ⟨rfl, hR3, hk3⟩
        go_wp2_with fail
        refine (CR.out _ hR3 hk3).mono ?_
        rintro e w4 ⟨rfl, hR4, hk4⟩
        go_wp2
        go_loopw [6, 7] (fun x y wr => x = .int .u64 0 ∧ y = .int .i64 0 ∧ wr = w4) (fun _ _ _ => 0)
        case atStart => exact ⟨rfl, rfl, rfl⟩
        case round =>
          obtain ⟨rfl, rfl, rfl⟩ := hrel
          go_wp2
          go_ret
          exact ⟨rfl, hR4, hk4⟩
      · have hn8 : 8 < n := by omega
        have hn1' : ¬ n < 1 := hn1
        clear hs
        go_enter Try.func42, Try.ntmps42
        go_wp2_with fail
        refine CB.out.mono ?_
        rintro e w3 ⟨rfl, hR3, hk3⟩
        go_wp2_with fail
        refine (CR.out _ hR3 hk3).mono ?_
        rintro e w4 ⟨rfl, hR4, hk4⟩
        go_wp2
        go_loopw [6, 7] (fun x y wr => x = .int .u64 0 ∧ y = .int .i64 0 ∧ wr = w4) (fun _ _ _ => 0)
        case atStart => exact ⟨rfl, rfl, rfl⟩
        case round =>
          obtain ⟨rfl, rfl, rfl⟩ := hrel
          go_wp2
          go_ret
          exact ⟨rfl, hR4, hk4⟩
    · have hb := isFx_bounds hF
      have hv : fixS s a 0 n = (fxN (rawS s a 0 n).1.data.toList, (rawS s a 0 n).2.1, (rawS s a 0 n).2.2) := by
        obtain ⟨m, rfl⟩ := Int.eq_ofNat_of_zero_le (show 0 ≤ n by omega)
        have hneg : ¬ (m : Int) < 0 := by omega
        unfold fixS rawS fixQ rawR
        rw [if_pos rfl, if_pos rfl, if_pos hF, if_neg hneg, Int.toNat_natCast]
        split
        · rfl
        · rfl
      obtain ⟨CR, hq8, hval⟩ := loop 0 w HRF.out (Kept.refl _ _) (.inl hF) hv
      have hn1 : ¬ n < 1 := by omega
      have hn8 : ¬ 8 < n := by omega
      generalize (fixS s a 0 n).1 = V at *
      generalize (fixS s a 0 n).2.1 = A at *
      generalize (fixS s a 0 n).2.2 = G at *
      generalize (rawS s a 0 n).1 = q at *
      clear loop fin hv hs hF
      go_enter Try.func42, Try.ntmps42
      go_wp2_with fail
      refine CR.out.mono ?_
      rintro e w3 ⟨rfl, hR3, hk3⟩
      go_wp2
      have HV : Hid (V = fxN q.data.toList) := hval
      clear hval
      go_loopw [6, 7] (fun x y wr => ∃ j m : Nat, j ≤ q.size ∧ y = .int .i64 j ∧ x = .int .u64 m ∧ m = fxN (q.data.toList.take j) ∧ wr = w3) (fun _ y _ => q.size - (intOf y).toNat)
      case atStart => exact ⟨0, 0, by omega, rfl, rfl, rfl, rfl⟩
      case round =>
        obtain ⟨j, m, hj, rfl, rfl, hn, rfl⟩ := hrel
        have HN : Hid (m = fxN (q.data.toList.take j)) := hn
        by_cases hlt : j < q.size
        · have hl : (q.data.toList.take j).length = j := by rw [List.length_take, show q.data.toList.length = q.size by simp]; omega
          have hn7 : m < 72057594037927936 := by
            have h1 := fxN_lt (q.data.toList.take j)
            rw [hl] at h1
            have h2 : (256 : Nat) ^ j ≤ 256 ^ 7 := Nat.pow_le_pow_right (by decide) (by omega)
            have e : (256 : Nat) ^ 7 = 72057594037927936 := by decide
            omega
          have hlb := (q[j]).toNat_lt
          have hW1 : IntKind.u64.wrap ((m : Int) * 256) = (m : Int) * 256 := by rw [IntKind.wrap_u64]; omega
          have hW2 : IntKind.u64.wrap ((m : Int) * 256 + ((q[j]).toNat : Int)) = (m : Int) * 256 + ((q[j]).toNat : Int) := by rw [IntKind.wrap_u64]; omega
          have HS1 : Hid (m * 256 + (q[j]).toNat = fxN (q.data.toList.take (j + 1))) := by
            show _ = _
            have h1 : j < q.data.toList.length := by simpa using hlt
            rw [List.take_succ_eq_append_getElem h1, fxN_snoc, ← hn]; rfl
          clear hn hl hn7
          go_wp2
          exact ⟨⟨j + 1, m * 256 + (q[j]).toNat, by omega, rfl, congrArg (Value.int .u64) (by omega), HS1.out, trivial⟩, by simp only [intOf]; omega⟩
        · have HE : Hid (m = V) := by show _ = _; rw [HV.out, HN.out, List.take_of_length_le (by rw [show q.data.toList.length = q.size by simp]; omega)]
          clear hn HN
          go_wp2
          go_ret
          rw [← HE.out]
          exact ⟨rfl, hR3, hk3⟩
  · have hv : fixS s a f n = (fxN (rawS s a f n).1.data.toList, (rawS s a f n).2.1, (rawS s a f n).2.2) := by
      unfold fixS rawS; rw [if_neg hf, if_neg hf]; rfl
    obtain ⟨CR, hq8, hval⟩ := loop f w HRF.out (Kept.refl _ _) (.inr hf) hv
    have hf' : (f == 0) = false := by simpa using hf
    generalize (fixS s a f n).1 = V at *
    generalize (fixS s a f n).2.1 = A at *
    generalize (fixS s a f n).2.2 = G at *
    generalize (rawS s a f n).1 = q at *
    clear loop fin hv hs
    go_enter Try.func42, Try.ntmps42
    go_wp2_with fail
    refine CR.out.mono ?_
    rintro e w3 ⟨rfl, hR3, hk3⟩
    go_wp2
    have HV : Hid (V = fxN q.data.toList) := hval
    clear hval
    go_loopw [6, 7] (fun x y wr => ∃ j m : Nat, j ≤ q.size ∧ y = .int .i64 j ∧ x = .int .u64 m ∧ m = fxN (q.data.toList.take j) ∧ wr = w3) (fun _ y _ => q.size - (intOf y).toNat)
    case atStart => exact ⟨0, 0, by omega, rfl, rfl, rfl, rfl⟩
    case round =>
      obtain ⟨j, m, hj, rfl, rfl, hn, rfl⟩ := hrel
      have HN : Hid (m = fxN (q.data.toList.take j)) := hn
      by_cases hlt : j < q.size
      · have hl : (q.data.toList.take j).length = j := by rw [List.length_take, show q.data.toList.length = q.size by simp]; omega
        have hn7 : m < 72057594037927936 := by
          have h1 := fxN_lt (q.data.toList.take j)
          rw [hl] at h1
          have h2 : (256 : Nat) ^ j ≤ 256 ^ 7 := Nat.pow_le_pow_right (by decide) (by omega)
          have e : (256 : Nat) ^ 7 = 72057594037927936 := by decide
          omega
        have hlb := (q[j]).toNat_lt
        have hW1 : IntKind.u64.wrap ((m : Int) * 256) = (m : Int) * 256 := by rw [IntKind.wrap_u64]; omega
        have hW2 : IntKind.u64.wrap ((m : Int) * 256 + ((q[j]).toNat : Int)) = (m : Int) * 256 + ((q[j]).toNat : Int) := by rw [IntKind.wrap_u64]; omega
        have HS1 : Hid (m * 256 + (q[j]).toNat = fxN (q.data.toList.take (j + 1))) := by
          show _ = _
          have h1 : j < q.data.toList.length := by simpa using hlt
          rw [List.take_succ_eq_append_getElem h1, fxN_snoc, ← hn]; rfl
        clear hn hl hn7
        go_wp2
        exact ⟨⟨j + 1, m * 256 + (q[j]).toNat, by omega, rfl, congrArg (Value.int .u64) (by omega), HS1.out, trivial⟩, by simp only [intOf]; omega⟩
      · have HE : Hid (m = V) := by show _ = _; rw [HV.out, HN.out, List.take_of_length_le (by rw [show q.data.toList.length = q.size by simp]; omega)]
        clear hn HN
        go_wp2
        go_ret
        rw [← HE.out]
        exact ⟨rfl, hR3, hk3⟩
end Go.Proofs.Ytdpddlaedffmdaa
