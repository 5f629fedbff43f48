/- The document's most. -/
import Derived.Test.YtmbpclknhkbbkaaGreatGc
set_option linter.unusedSimpArgs false
set_option linter.unusedVariables false
namespace Go.Proofs.YtmbpclknhkbbkaaGreat
open Go.RowKit
set_option linter.unusedVariables false
set_option linter.unusedSimpArgs false

set_option maxHeartbeats 8000000 in
set_option maxRecDepth 100000 in
theorem rmost_any : ∀ (N : Nat) (xs : List Stg) (v : Value) (w : World),szL xs ≤ N → StgRow w v xs → Calls Tryz.prog 91 #[v] w fun e w' => e = .returned (.tuple #[.int .i64 (rmL xs (0,-1)).1,.int .i64 (rmL xs (0,-1)).2]) ∧ w' = w := by
 intro N
 induction N using Nat.strongRecOn with
 | _ N ih =>
  intro xs v w hN hr
  obtain ⟨ad,cap,rfl,_⟩ := hr.slice
  have hlen : xs.length * 176 ≤ 140737488351232 := (stgRow_row hr).2
  have HR : Hid (StgRow w (.slice ad xs.length cap) xs) := hr
  have HSZ : Hid (szL xs ≤ N) := hN
  have HIH : Hid (∀ M,M < N → ∀ (xs : List Stg) (v : Value) (w : World),szL xs ≤ M → StgRow w v xs → Calls Tryz.prog 91 #[v] w fun e w' => e = .returned (.tuple #[.int .i64 (rmL xs (0,-1)).1,.int .i64 (rmL xs (0,-1)).2]) ∧ w' = w) := ih
  obtain ⟨n,hn⟩ : ∃ n,n = xs.length := ⟨_,rfl⟩
  have HN : Hid (n = xs.length) := hn
  obtain ⟨R,hR⟩ : ∃ R,R = rmL xs (0,-1) := ⟨_,rfl⟩
  have HRR : Hid (rmL (xs.drop 0) (0,-1) = R) := hR.symm
  rw [← hn] at hlen HR ⊢
  rw [← hR]
  clear hn hr hN ih hR
  go_enter Tryz.func91,Tryz.ntmps91
  go_wp2_with fail
  go_loopw [4,5,6] (fun on en i wr => ∃ (k : Nat) (a b : Int),k ≤ n ∧ on = .int .i64 a ∧ en = .int .i64 b ∧ i = .int .i64 k ∧ wr = w ∧ Aside (rmL (xs.drop k) (a,b) = R)) (fun _ _ i _ => n - (intOf i).toNat)
  case atStart => exact ⟨0,0,-1,by omega,rfl,rfl,rfl,rfl,HRR.out⟩
  case round =>
   clear HRR
   obtain ⟨k,a,b,hk,rfl,rfl,rfl,rfl,hA⟩ := hrel
   have HA : Hid (rmL (xs.drop k) (a,b) = R) := hA.out
   clear hA
   by_cases hlt : k < n
   ·have hd : decide ((k : Int) < n) = true := decide_eq_true (by omega)
    obtain ⟨y,hy⟩ : ∃ y,xs[k]? = some y := ⟨xs[k]'(by rw [← HN.out]; exact hlt),List.getElem?_eq_getElem _⟩
    by_cases ha : 0 ≤ a
    ·have hda : decide (0 ≤ a) = true := decide_eq_true ha
     obtain ⟨bb,o,cs,rfl,_,hcc,hIs⟩ := (stgRow_row HR.out).1.at hy
     obtain ⟨v1,v2,rfl,hok,hth,hel⟩ := (stgIs_iff wr y cs).1 hIs
     obtain ⟨ta,tc,rfl,_⟩ := hth.slice
     obtain ⟨ea,ec,rfl,_⟩ := hel.slice
     have HY : Hid (szL y.thn < N ∧ szL y.els < N) := by
      have h1 := szL_mem hy
      have h2 := HSZ.out
      rw [szS_eq] at h1
      exact ⟨by omega,by omega⟩
     have CT : Hid (Calls Tryz.prog 91 #[.slice ta y.thn.length tc] wr fun e w' => e = .returned (.tuple #[.int .i64 (rmL y.thn (0,-1)).1,.int .i64 (rmL y.thn (0,-1)).2]) ∧ w' = wr) := HIH.out _ HY.out.1 y.thn _ wr (Nat.le_refl _) hth
     have CE : Hid (Calls Tryz.prog 91 #[.slice ea y.els.length ec] wr fun e w' => e = .returned (.tuple #[.int .i64 (rmL y.els (0,-1)).1,.int .i64 (rmL y.els (0,-1)).2]) ∧ w' = wr) := HIH.out _ HY.out.2 y.els _ wr (Nat.le_refl _) hel
     have HS : Hid (R = rmL (xs.drop (k + 1)) (rmS y (a,b))) := by
      show _ = _
      rw [← HA.out,rm_step hy,if_pos ha]
     rw [rmS_eq] at HS
     have e0 : wr.cell? ⟨bb,o + k * 13,none⟩ = some (.int .i64 y.kind) := by have := hcc 0 _ rfl; simpa using this
     have e11 : wr.cell? ⟨bb,o + k * 13 + 11,none⟩ = some (.slice ta y.thn.length tc) := by have := hcc 11 _ rfl; simpa using this
     have e12 : wr.cell? ⟨bb,o + k * 13 + 12,none⟩ = some (.slice ea y.els.length ec) := by have := hcc 12 _ rfl; simpa using this
     clear hcc hIs hth hel hok hy HA HY
     generalize (rmL y.thn (0,-1)).1 = p1 at *
     generalize (rmL y.thn (0,-1)).2 = p2 at *
     generalize (rmL y.els (0,-1)).1 = q1 at *
     generalize (rmL y.els (0,-1)).2 = q2 at *
     by_cases k3 : y.kind = 3
     ·rw [if_pos k3] at HS
      rw [k3] at e0
      clear CT CE e11 e12
      go_wp2
      exact ⟨⟨k + 1,_,_,by omega,rfl,rfl,by go_num,by trivial,HS.out.symm⟩,by simp only [intOf]; omega⟩
     rw [if_neg k3] at HS
     by_cases k1 : y.kind = 1
     ·rw [if_pos (.inl k1),if_pos k1] at HS
      rw [k1] at e0
      clear k3 k1
      by_cases c3 : 0 ≤ p2
      ·skip
       by_cases c1 : p1 < 0
       ·by_cases c2 : q1 < 0
        ·skip
         have c3' : decide (0 ≤ p2) = true := decide_eq_true c3
         have c34 : 0 ≤ p2 ∨ 0 ≤ q2 := .inl c3
         have c1' : decide (p1 < 0) = true := decide_eq_true c1
         have c2' : decide (q1 < 0) = true := decide_eq_true c2
         have c12 : p1 < 0 ∧ q1 < 0 := ⟨c1,c2⟩
         rw [if_pos c12,if_pos c34] at HS
         clear c12 c34
         go_wp2_with fail
         refine CT.out.mono ?_
         rintro e _ ⟨rfl,rfl⟩
         go_wp2_with fail
         refine CE.out.mono ?_
         rintro e _ ⟨rfl,rfl⟩
         clear CT CE
         go_wp2
         exact ⟨⟨k + 1,_,_,by omega,rfl,rfl,by go_num,by trivial,HS.out.symm⟩,by simp only [intOf]; omega⟩
        ·skip
         have c3' : decide (0 ≤ p2) = true := decide_eq_true c3
         have c34 : 0 ≤ p2 ∨ 0 ≤ q2 := .inl c3
         have c1' : decide (p1 < 0) = true := decide_eq_true c1
         have c2' : decide (q1 < 0) = false := decide_eq_false c2
         have c12 : ¬ (p1 < 0 ∧ q1 < 0) := by omega
         rw [if_neg c12,if_pos c34] at HS
         clear c12 c34
         go_wp2_with fail
         refine CT.out.mono ?_
         rintro e _ ⟨rfl,rfl⟩
         go_wp2_with fail
         refine CE.out.mono ?_
         rintro e _ ⟨rfl,rfl⟩
         clear CT CE
         go_wp2
         exact ⟨⟨k + 1,_,_,by omega,rfl,rfl,by go_num,by trivial,HS.out.symm⟩,by simp only [intOf]; omega⟩
       ·skip
        have c3' : decide (0 ≤ p2) = true := decide_eq_true c3
        have c34 : 0 ≤ p2 ∨ 0 ≤ q2 := .inl c3
        have c1' : decide (p1 < 0) = false := decide_eq_false c1
        have c12 : ¬ (p1 < 0 ∧ q1 < 0) := by omega
        rw [if_neg c12,if_pos c34] at HS
        clear c12 c34
        go_wp2_with fail
        refine CT.out.mono ?_
        rintro e _ ⟨rfl,rfl⟩
        go_wp2_with fail
        refine CE.out.mono ?_
        rintro e _ ⟨rfl,rfl⟩
        clear CT CE
        go_wp2
        exact ⟨⟨k + 1,_,_,by omega,rfl,rfl,by go_num,by trivial,HS.out.symm⟩,by simp only [intOf]; omega⟩
      ·by_cases c4 : 0 ≤ q2
       ·skip
        by_cases c1 : p1 < 0
        ·by_cases c2 : q1 < 0
         ·skip
          have c3' : decide (0 ≤ p2) = false := decide_eq_false c3
          have c4' : decide (0 ≤ q2) = true := decide_eq_true c4
          have c34 : 0 ≤ p2 ∨ 0 ≤ q2 := .inr c4
          have c1' : decide (p1 < 0) = true := decide_eq_true c1
          have c2' : decide (q1 < 0) = true := decide_eq_true c2
          have c12 : p1 < 0 ∧ q1 < 0 := ⟨c1,c2⟩
          rw [if_pos c12,if_pos c34] at HS
          clear c12 c34
          go_wp2_with fail
          refine CT.out.mono ?_
          rintro e _ ⟨rfl,rfl⟩
          go_wp2_with fail
          refine CE.out.mono ?_
          rintro e _ ⟨rfl,rfl⟩
          clear CT CE
          go_wp2
          exact ⟨⟨k + 1,_,_,by omega,rfl,rfl,by go_num,by trivial,HS.out.symm⟩,by simp only [intOf]; omega⟩
         ·skip
          have c3' : decide (0 ≤ p2) = false := decide_eq_false c3
          have c4' : decide (0 ≤ q2) = true := decide_eq_true c4
          have c34 : 0 ≤ p2 ∨ 0 ≤ q2 := .inr c4
          have c1' : decide (p1 < 0) = true := decide_eq_true c1
          have c2' : decide (q1 < 0) = false := decide_eq_false c2
          have c12 : ¬ (p1 < 0 ∧ q1 < 0) := by omega
          rw [if_neg c12,if_pos c34] at HS
          clear c12 c34
          go_wp2_with fail
          refine CT.out.mono ?_
          rintro e _ ⟨rfl,rfl⟩
          go_wp2_with fail
          refine CE.out.mono ?_
          rintro e _ ⟨rfl,rfl⟩
          clear CT CE
          go_wp2
          exact ⟨⟨k + 1,_,_,by omega,rfl,rfl,by go_num,by trivial,HS.out.symm⟩,by simp only [intOf]; omega⟩
        ·skip
         have c3' : decide (0 ≤ p2) = false := decide_eq_false c3
         have c4' : decide (0 ≤ q2) = true := decide_eq_true c4
         have c34 : 0 ≤ p2 ∨ 0 ≤ q2 := .inr c4
         have c1' : decide (p1 < 0) = false := decide_eq_false c1
         have c12 : ¬ (p1 < 0 ∧ q1 < 0) := by omega
         rw [if_neg c12,if_pos c34] at HS
         clear c12 c34
         go_wp2_with fail
         refine CT.out.mono ?_
         rintro e _ ⟨rfl,rfl⟩
         go_wp2_with fail
         refine CE.out.mono ?_
         rintro e _ ⟨rfl,rfl⟩
         clear CT CE
         go_wp2
         exact ⟨⟨k + 1,_,_,by omega,rfl,rfl,by go_num,by trivial,HS.out.symm⟩,by simp only [intOf]; omega⟩
       ·skip
        by_cases c1 : p1 < 0
        ·by_cases c2 : q1 < 0
         ·skip
          have c3' : decide (0 ≤ p2) = false := decide_eq_false c3
          have c4' : decide (0 ≤ q2) = false := decide_eq_false c4
          have c34 : ¬ (0 ≤ p2 ∨ 0 ≤ q2) := by omega
          have c1' : decide (p1 < 0) = true := decide_eq_true c1
          have c2' : decide (q1 < 0) = true := decide_eq_true c2
          have c12 : p1 < 0 ∧ q1 < 0 := ⟨c1,c2⟩
          rw [if_pos c12,if_neg c34] at HS
          clear c12 c34
          go_wp2_with fail
          refine CT.out.mono ?_
          rintro e _ ⟨rfl,rfl⟩
          go_wp2_with fail
          refine CE.out.mono ?_
          rintro e _ ⟨rfl,rfl⟩
          clear CT CE
          go_wp2
          exact ⟨⟨k + 1,_,_,by omega,rfl,rfl,by go_num,by trivial,HS.out.symm⟩,by simp only [intOf]; omega⟩
         ·skip
          have c3' : decide (0 ≤ p2) = false := decide_eq_false c3
          have c4' : decide (0 ≤ q2) = false := decide_eq_false c4
          have c34 : ¬ (0 ≤ p2 ∨ 0 ≤ q2) := by omega
          have c1' : decide (p1 < 0) = true := decide_eq_true c1
          have c2' : decide (q1 < 0) = false := decide_eq_false c2
          have c12 : ¬ (p1 < 0 ∧ q1 < 0) := by omega
          rw [if_neg c12,if_neg c34] at HS
          clear c12 c34
          go_wp2_with fail
          refine CT.out.mono ?_
          rintro e _ ⟨rfl,rfl⟩
          go_wp2_with fail
          refine CE.out.mono ?_
          rintro e _ ⟨rfl,rfl⟩
          clear CT CE
          go_wp2
          exact ⟨⟨k + 1,_,_,by omega,rfl,rfl,by go_num,by trivial,HS.out.symm⟩,by simp only [intOf]; omega⟩
        ·skip
         have c3' : decide (0 ≤ p2) = false := decide_eq_false c3
         have c4' : decide (0 ≤ q2) = false := decide_eq_false c4
         have c34 : ¬ (0 ≤ p2 ∨ 0 ≤ q2) := by omega
         have c1' : decide (p1 < 0) = false := decide_eq_false c1
         have c12 : ¬ (p1 < 0 ∧ q1 < 0) := by omega
         rw [if_neg c12,if_neg c34] at HS
         clear c12 c34
         go_wp2_with fail
         refine CT.out.mono ?_
         rintro e _ ⟨rfl,rfl⟩
         go_wp2_with fail
         refine CE.out.mono ?_
         rintro e _ ⟨rfl,rfl⟩
         clear CT CE
         go_wp2
         exact ⟨⟨k + 1,_,_,by omega,rfl,rfl,by go_num,by trivial,HS.out.symm⟩,by simp only [intOf]; omega⟩
     by_cases k2 : y.kind = 2
     ·rw [if_pos (.inr k2),if_neg k1] at HS
      rw [k2] at e0
      clear k3 k1 k2
      by_cases c3 : 0 ≤ p2
      ·skip
       by_cases c1 : p1 < 0
       ·by_cases c2 : q1 < 0
        ·skip
         have c3' : decide (0 ≤ p2) = true := decide_eq_true c3
         have c34 : 0 ≤ p2 ∨ 0 ≤ q2 := .inl c3
         have c1' : decide (p1 < 0) = true := decide_eq_true c1
         have c2' : decide (q1 < 0) = true := decide_eq_true c2
         have c12 : p1 < 0 ∧ q1 < 0 := ⟨c1,c2⟩
         rw [if_pos c12,if_pos c34] at HS
         clear c12 c34
         go_wp2_with fail
         refine CT.out.mono ?_
         rintro e _ ⟨rfl,rfl⟩
         go_wp2_with fail
         refine CE.out.mono ?_
         rintro e _ ⟨rfl,rfl⟩
         clear CT CE
         go_wp2
         exact ⟨⟨k + 1,_,_,by omega,rfl,rfl,by go_num,by trivial,HS.out.symm⟩,by simp only [intOf]; omega⟩
        ·skip
         have c3' : decide (0 ≤ p2) = true := decide_eq_true c3
         have c34 : 0 ≤ p2 ∨ 0 ≤ q2 := .inl c3
         have c1' : decide (p1 < 0) = true := decide_eq_true c1
         have c2' : decide (q1 < 0) = false := decide_eq_false c2
         have c12 : ¬ (p1 < 0 ∧ q1 < 0) := by omega
         rw [if_neg c12,if_pos c34] at HS
         clear c12 c34
         go_wp2_with fail
         refine CT.out.mono ?_
         rintro e _ ⟨rfl,rfl⟩
         go_wp2_with fail
         refine CE.out.mono ?_
         rintro e _ ⟨rfl,rfl⟩
         clear CT CE
         go_wp2
         exact ⟨⟨k + 1,_,_,by omega,rfl,rfl,by go_num,by trivial,HS.out.symm⟩,by simp only [intOf]; omega⟩
       ·skip
        have c3' : decide (0 ≤ p2) = true := decide_eq_true c3
        have c34 : 0 ≤ p2 ∨ 0 ≤ q2 := .inl c3
        have c1' : decide (p1 < 0) = false := decide_eq_false c1
        have c12 : ¬ (p1 < 0 ∧ q1 < 0) := by omega
        rw [if_neg c12,if_pos c34] at HS
        clear c12 c34
        go_wp2_with fail
        refine CT.out.mono ?_
        rintro e _ ⟨rfl,rfl⟩
        go_wp2_with fail
        refine CE.out.mono ?_
        rintro e _ ⟨rfl,rfl⟩
        clear CT CE
        go_wp2
        exact ⟨⟨k + 1,_,_,by omega,rfl,rfl,by go_num,by trivial,HS.out.symm⟩,by simp only [intOf]; omega⟩
      ·by_cases c4 : 0 ≤ q2
       ·skip
        by_cases c1 : p1 < 0
        ·by_cases c2 : q1 < 0
         ·skip
          have c3' : decide (0 ≤ p2) = false := decide_eq_false c3
          have c4' : decide (0 ≤ q2) = true := decide_eq_true c4
          have c34 : 0 ≤ p2 ∨ 0 ≤ q2 := .inr c4
          have c1' : decide (p1 < 0) = true := decide_eq_true c1
          have c2' : decide (q1 < 0) = true := decide_eq_true c2
          have c12 : p1 < 0 ∧ q1 < 0 := ⟨c1,c2⟩
          rw [if_pos c12,if_pos c34] at HS
          clear c12 c34
          go_wp2_with fail
          refine CT.out.mono ?_
          rintro e _ ⟨rfl,rfl⟩
          go_wp2_with fail
          refine CE.out.mono ?_
          rintro e _ ⟨rfl,rfl⟩
          clear CT CE
          go_wp2
          exact ⟨⟨k + 1,_,_,by omega,rfl,rfl,by go_num,by trivial,HS.out.symm⟩,by simp only [intOf]; omega⟩
         ·skip
          have c3' : decide (0 ≤ p2) = false := decide_eq_false c3
          have c4' : decide (0 ≤ q2) = true := decide_eq_true c4
          have c34 : 0 ≤ p2 ∨ 0 ≤ q2 := .inr c4
          have c1' : decide (p1 < 0) = true := decide_eq_true c1
          have c2' : decide (q1 < 0) = false := decide_eq_false c2
          have c12 : ¬ (p1 < 0 ∧ q1 < 0) := by omega
          rw [if_neg c12,if_pos c34] at HS
          clear c12 c34
          go_wp2_with fail
          refine CT.out.mono ?_
          rintro e _ ⟨rfl,rfl⟩
          go_wp2_with fail
          refine CE.out.mono ?_
          rintro e _ ⟨rfl,rfl⟩
          clear CT CE
          go_wp2
          exact ⟨⟨k + 1,_,_,by omega,rfl,rfl,by go_num,by trivial,HS.out.symm⟩,by simp only [intOf]; omega⟩
        ·skip
         have c3' : decide (0 ≤ p2) = false := decide_eq_false c3
         have c4' : decide (0 ≤ q2) = true := decide_eq_true c4
         have c34 : 0 ≤ p2 ∨ 0 ≤ q2 := .inr c4
         have c1' : decide (p1 < 0) = false := decide_eq_false c1
         have c12 : ¬ (p1 < 0 ∧ q1 < 0) := by omega
         rw [if_neg c12,if_pos c34] at HS
         clear c12 c34
         go_wp2_with fail
         refine CT.out.mono ?_
         rintro e _ ⟨rfl,rfl⟩
         go_wp2_with fail
         refine CE.out.mono ?_
         rintro e _ ⟨rfl,rfl⟩
         clear CT CE
         go_wp2
         exact ⟨⟨k + 1,_,_,by omega,rfl,rfl,by go_num,by trivial,HS.out.symm⟩,by simp only [intOf]; omega⟩
       ·skip
        by_cases c1 : p1 < 0
        ·by_cases c2 : q1 < 0
         ·skip
          have c3' : decide (0 ≤ p2) = false := decide_eq_false c3
          have c4' : decide (0 ≤ q2) = false := decide_eq_false c4
          have c34 : ¬ (0 ≤ p2 ∨ 0 ≤ q2) := by omega
          have c1' : decide (p1 < 0) = true := decide_eq_true c1
          have c2' : decide (q1 < 0) = true := decide_eq_true c2
          have c12 : p1 < 0 ∧ q1 < 0 := ⟨c1,c2⟩
          rw [if_pos c12,if_neg c34] at HS
          clear c12 c34
          go_wp2_with fail
          refine CT.out.mono ?_
          rintro e _ ⟨rfl,rfl⟩
          go_wp2_with fail
          refine CE.out.mono ?_
          rintro e _ ⟨rfl,rfl⟩
          clear CT CE
          go_wp2
          exact ⟨⟨k + 1,_,_,by omega,rfl,rfl,by go_num,by trivial,HS.out.symm⟩,by simp only [intOf]; omega⟩
         ·skip
          have c3' : decide (0 ≤ p2) = false := decide_eq_false c3
          have c4' : decide (0 ≤ q2) = false := decide_eq_false c4
          have c34 : ¬ (0 ≤ p2 ∨ 0 ≤ q2) := by omega
          have c1' : decide (p1 < 0) = true := decide_eq_true c1
          have c2' : decide (q1 < 0) = false := decide_eq_false c2
          have c12 : ¬ (p1 < 0 ∧ q1 < 0) := by omega
          rw [if_neg c12,if_neg c34] at HS
          clear c12 c34
          go_wp2_with fail
          refine CT.out.mono ?_
          rintro e _ ⟨rfl,rfl⟩
          go_wp2_with fail
          refine CE.out.mono ?_
          rintro e _ ⟨rfl,rfl⟩
          clear CT CE
          go_wp2
          exact ⟨⟨k + 1,_,_,by omega,rfl,rfl,by go_num,by trivial,HS.out.symm⟩,by simp only [intOf]; omega⟩
        ·skip
         have c3' : decide (0 ≤ p2) = false := decide_eq_false c3
         have c4' : decide (0 ≤ q2) = false := decide_eq_false c4
         have c34 : ¬ (0 ≤ p2 ∨ 0 ≤ q2) := by omega
         have c1' : decide (p1 < 0) = false := decide_eq_false c1
         have c12 : ¬ (p1 < 0 ∧ q1 < 0) := by omega
         rw [if_neg c12,if_neg c34] at HS
         clear c12 c34
         go_wp2_with fail
         refine CT.out.mono ?_
         rintro e _ ⟨rfl,rfl⟩
         go_wp2_with fail
         refine CE.out.mono ?_
         rintro e _ ⟨rfl,rfl⟩
         clear CT CE
         go_wp2
         exact ⟨⟨k + 1,_,_,by omega,rfl,rfl,by go_num,by trivial,HS.out.symm⟩,by simp only [intOf]; omega⟩
     ·rw [if_neg (by omega)] at HS
      have k1' : (y.kind == 1) = false := by simpa using k1
      have k2' : (y.kind == 2) = false := by simpa using k2
      have k3' : (y.kind == 3) = false := by simpa using k3
      clear CT CE e11 e12
      go_wp2
      exact ⟨⟨k + 1,_,_,by omega,rfl,rfl,by go_num,by trivial,HS.out.symm⟩,by simp only [intOf]; omega⟩
    ·have hda : decide (0 ≤ a) = false := decide_eq_false ha
     have HF : Hid (R = (a,b)) := by show _ = _; rw [← HA.out,rm_step hy,if_neg ha]
     clear hy HA
     go_wp2
     refine bodyPost_ret (v := .tuple #[.int .i64 a,.int .i64 b]) (by simp [results,Tryz.results91,go_sem]) rfl ⟨?_,rfl⟩
     rw [HF.out]
   ·have e : k = n := by omega
    subst e
    have HF : Hid (R = (a,b)) := by show _ = _; rw [← HA.out,List.drop_of_length_le (by rw [← HN.out]; omega),rmL]
    have hd : decide ((k : Int) < k) = false := decide_eq_false (by omega)
    clear HA
    go_wp2
    refine bodyPost_ret (v := .tuple #[.int .i64 a,.int .i64 b]) (by simp [results,Tryz.results91,go_sem]) rfl ⟨?_,rfl⟩
    rw [HF.out]
end Go.Proofs.YtmbpclknhkbbkaaGreat
