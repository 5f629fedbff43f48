/- The document's readers: Text and Bits. -/
import Derived.Test.YtdpddlaedffmdaaRr
namespace Go.Proofs.Ytdpddlaedffmdaa
open Go.RowKit
set_option linter.unusedVariables false
set_option linter.unusedSimpArgs false

set_option maxRecDepth 100000 in
set_option maxHeartbeats 1000000 in
theorem x43 {w : World} {c : Nat} {s : ByteArray} {a : Nat} {f : Int} (h : RF w c s a f) (hs : s.size ≤ 140737488351232) (n : Int) (hmx : n ≤ 9223372036854775807) : Calls Try.prog 43 #[.pointer (some ⟨c, 0, none⟩), .int .i64 n] w fun e w' => e = .returned (.string (textS s a f n).1) ∧ RF w' c s (textS s a f n).2.1 (textS s a f n).2.2 ∧ Kept (fun k => k = c) w w' := by
  have HRF : Hid (RF w c s a f) := h
  obtain ⟨h0, h1, h2, h3, h4, h5, h6, h7⟩ := h
  by_cases hf : f = 0
  · subst hf
    have hul : textS s a 0 n = textQ s a n := by unfold textS; rw [if_pos rfl]
    rw [hul]
    clear hul
    by_cases hn : n < 0
    · rw [show textQ s a n = (⟨#[]⟩, a, 1) by unfold textQ; rw [if_pos hn]]
      have CB : Hid (Calls Try.prog 70 #[.pointer (some ⟨c, 0, none⟩), .int .i64 1] w fun x w' => x = .returned (.tuple #[]) ∧ RF w' c s a 1 ∧ Kept (fun k => k = c) w w') := bad_any HRF.out 1 (by decide)
      clear hs hmx
      go_enter Try.func43, Try.ntmps43
      go_wp2_with fail
      refine CB.out.mono ?_
      rintro e w3 ⟨rfl, hR3, hk3⟩
      go_wp2
      go_ret
      exact ⟨rfl, hR3, hk3⟩
    · obtain ⟨m, rfl⟩ := Int.eq_ofNat_of_zero_le (show 0 ≤ n by omega)
      have hn' : ¬ (m : Int) < 0 := hn
      have hW : IntKind.u64.wrap (m : Int) = (m : Int) := by rw [IntKind.wrap_u64]; omega
      have hle := numR_most (s.data.toList.drop a) m
      have hfit := numR_fits s a h7 m
      have C : Hid (∀ w : World, Calls Try.prog 69 #[.string s, .int .i64 a, .int .u64 m] w fun e w' => e = .returned (.tuple #[.int .u64 (numR (s.data.toList.drop a) m).1, .int .i64 ((a + (numR (s.data.toList.drop a) m).2.1 : Nat) : Int), .int .i64 (numR (s.data.toList.drop a) m).2.2]) ∧ w' = w) := rnumber_any s hs a h7 m
      have hz := numR_zero (s.data.toList.drop a) m
      have HQ : Hid (textQ s a (m : Int) = if (numR (s.data.toList.drop a) m).2.2 ≠ 0 then (⟨#[]⟩, a, (numR (s.data.toList.drop a) m).2.2)
  else if (rawR s (a + (numR (s.data.toList.drop a) m).2.1) (numR (s.data.toList.drop a) m).1).2.2 ≠ 0 then (⟨#[]⟩, a, (rawR s (a + (numR (s.data.toList.drop a) m).2.1) (numR (s.data.toList.drop a) m).1).2.2)
  else rawR s (a + (numR (s.data.toList.drop a) m).2.1) (numR (s.data.toList.drop a) m).1) := by show _ = _; unfold textQ; rw [if_neg hn, Int.toNat_natCast]
      generalize numR (s.data.toList.drop a) m = R at *
      generalize textQ s a (m : Int) = Q at *
      obtain ⟨v, k, g⟩ := R
      simp only at C hle HQ hfit hz
      by_cases hg : g = 0
      · subst hg
        have hfit := hfit rfl
        have hWv : IntKind.i64.wrap (v : Int) = (v : Int) := by rw [IntKind.wrap_i64]; omega
        obtain ⟨p, hp⟩ : ∃ p, a + k = p := ⟨_, rfl⟩
        rw [hp] at C HQ hfit
        have hWp : IntKind.i64.wrap ((s.size : Int) - (p : Int)) = (s.size : Int) - (p : Int) := by rw [IntKind.wrap_i64]; omega
        have hWq : IntKind.u64.wrap ((s.size : Int) - (p : Int)) = (s.size : Int) - (p : Int) := by rw [IntKind.wrap_u64]; omega
        have HQ2 : Hid (Q = if (rawR s p (v : Int)).2.2 ≠ 0 then (⟨#[]⟩, a, (rawR s p (v : Int)).2.2) else rawR s p (v : Int)) := by show _ = _; rw [HQ.out]; simp
        have hvn : ¬ (v : Int) < 0 := by omega
        by_cases hpv : p + v ≤ s.size
        · have hQ : Q = (s.extract p (p + v), p + v, 0) := by
            rw [HQ2.out, show rawR s p (v : Int) = (s.extract p (p + v), p + v, 0) by unfold rawR; rw [if_neg hvn, Int.toNat_natCast, if_pos hpv]]; simp
          subst hQ
          have hd : decide ((s.size : Int) - (p : Int) < (v : Int)) = false := by simp; omega
          have hWa : IntKind.i64.wrap ((p : Int) + (v : Int)) = (p : Int) + (v : Int) := by rw [IntKind.wrap_i64]; omega
          have hm2 : (p : Int) + (v : Int) ≤ (s.size : Int) := by omega
          have hm3 : (p : Int) ≤ (p : Int) + (v : Int) := by omega
          have HP : Hid (∀ n, RF ((w.drewN n).setCell ⟨c, 1, none⟩ (.int .i64 ((p : Int) + (v : Int)))) c s (p + v) 0) := fun n => (HRF.out.drew n).place (p + v) hpv
          have HC : Hid (∀ n, ((w.drewN n).setCell ⟨c, 1, none⟩ (.int .i64 ((p : Int) + (v : Int)))).cell? ⟨c, 0, none⟩ = some (.string s)) := fun n => (HP.out n).1
          clear hz hle hp HQ HQ2 hn hs hmx
          go_enter Try.func43, Try.ntmps43
          go_wp2
          go_quiet ((go_at_call 69; refine Calls.quiet_of_same (C.out _)))
          have hc0 := HC.out nq
          go_wp2
          go_ret
          exact ⟨rfl, HP.out _, Kept.set (S := fun k => k = c) ((Kept.refl _ _).drewN _) rfl _⟩
        · have hQ : Q = (⟨#[]⟩, a, 3) := by
            rw [HQ2.out, show rawR s p (v : Int) = (⟨#[]⟩, p, 3) by unfold rawR; rw [if_neg hvn, Int.toNat_natCast, if_neg hpv]]; simp
          subst hQ
          have hd : (s.size : Int) - (p : Int) < (v : Int) := by omega
          have CB : Hid (∀ n, Calls Try.prog 70 #[.pointer (some ⟨c, 0, none⟩), .int .i64 3] (w.drewN n) fun x w' => x = .returned (.tuple #[]) ∧ RF w' c s a 3 ∧ Kept (fun k => k = c) (w.drewN n) w') := fun n => bad_any (HRF.out.drew n) 3 (by decide)
          clear hz hle hp HQ HQ2 hn hs hmx
          go_enter Try.func43, Try.ntmps43
          go_wp2
          go_quiet ((go_at_call 69; refine Calls.quiet_of_same (C.out _)))
          go_wp2_with fail
          refine (CB.out _).mono ?_
          rintro e w3 ⟨rfl, hR3, hk3⟩
          have hK : Kept (fun k => k = c) w w3 := ((Kept.refl _ _).drewN _).trans hk3
          go_wp2
          go_ret
          exact ⟨rfl, hR3, hK⟩
      · have hg' : (g == 0) = false := by simpa using hg
        have hQ : Q = (⟨#[]⟩, a, g) := by rw [HQ.out, if_pos hg]
        subst hQ
        have CB : Hid (∀ n, Calls Try.prog 70 #[.pointer (some ⟨c, 0, none⟩), .int .i64 g] (w.drewN n) fun x w' => x = .returned (.tuple #[]) ∧ RF w' c s a g ∧ Kept (fun k => k = c) (w.drewN n) w') := fun n => bad_any (HRF.out.drew n) g hg
        clear hz hle HQ hn hs hmx hfit
        go_enter Try.func43, Try.ntmps43
        go_wp2
        go_quiet ((go_at_call 69; refine Calls.quiet_of_same (C.out _)))
        go_wp2_with fail
        refine (CB.out _).mono ?_
        rintro e w3 ⟨rfl, hR3, hk3⟩
        have hK : Kept (fun k => k = c) w w3 := ((Kept.refl _ _).drewN _).trans hk3
        go_wp2
        go_ret
        exact ⟨rfl, hR3, hK⟩
  · have hul : textS s a f n = (⟨#[]⟩, a, f) := by unfold textS; rw [if_neg hf]
    rw [hul]
    clear hmx
    go_enter Try.func43, Try.ntmps43
    go_wp2
    go_ret
    exact ⟨rfl, HRF.out, Kept.refl _ _⟩
end Go.Proofs.Ytdpddlaedffmdaa
