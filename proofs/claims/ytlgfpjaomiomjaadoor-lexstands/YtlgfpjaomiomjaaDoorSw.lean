/- The walk of LexStands. -/
import Derived.Test.YtlgfpjaomiomjaaDoorSc
namespace Go.Proofs.YtlgfpjaomiomjaaDoor
open Go.RowKit
set_option linter.unusedVariables false
set_option linter.unusedSimpArgs false

set_option maxHeartbeats 8000000 in
set_option maxRecDepth 100000 in
theorem stands_walk (s : ByteArray) (hs0 : s.size ≤ 140737488351232) (w : World) (hT : Tabs w) : Calls Tryd.prog 4 #[.string s] w fun e w' => e = .returned (.bool true) ∧ Below w.heap.size w w' := by
  have hlen : s.data.toList.length = s.size := by simp
  have HT : Hid (∀ w1, Below w.heap.size w w1 → Tabs w1) := fun w1 h => hT.below h
  have CL : Hid (Calls Tryd.prog 7 #[] w fun e w' => e = .returned (.bool true) ∧ Below w.heap.size w w') := live_any w hT
  have CA : Hid (∀ w1, Below w.heap.size w w1 → Calls Tryd.prog 10 #[.string s] w1 fun e w' => ∃ ad cap, e = .returned (.tuple #[.slice ad (tokR s.data.toList).1.length cap, .agg (fltA (tokR s.data.toList).2)]) ∧ Tok6 w' ad (tokR s.data.toList).1 ∧ Below w1.heap.size w1 w') := fun w1 h => tok_six s (by unfold maxLen; omega) w1 (hT.below h)
  have HF : Hid ((tokR s.data.toList).2.1 ≠ 0 → (tokR s.data.toList).1 = [] ∧ decide ((65536 : Int) < (s.size : Int)) = (((tokR s.data.toList).2.1 : Int) == 2)) := fun h => by
    obtain ⟨h1, h2⟩ := tok_fault h
    refine ⟨h1, ?_⟩
    rw [hlen] at h2
    rw [show decide ((65536 : Int) < (s.size : Int)) = decide (65536 < s.size) by rw [Bool.eq_iff_iff]; simp; omega, h2]
    rw [Bool.eq_iff_iff]; simp; omega
  have HS : Hid ((tokR s.data.toList).2.1 = 0 → Stand s.data.toList (tokR s.data.toList).1 0 0 ∧ s.size ≤ 65536) := fun h => ⟨stand_first h, by have := (tok_code h).1; omega⟩
  have nA := tok_count s.data.toList
  obtain ⟨TA, hTA⟩ : ∃ TA, TA = tokR s.data.toList := ⟨_, rfl⟩
  rw [← hTA] at CA HF HS nA
  clear hT hTA
  go_enter Tryd.func4, Tryd.ntmps4
  go_wp2_with fail
  refine CL.out.mono ?_
  rintro e w1 ⟨rfl, hb1⟩
  go_wp2_with fail
  refine (CA.out _ hb1).mono ?_
  rintro e w2 ⟨ad, cap, rfl, hA2, hb2'⟩
  have HBW : Hid (Below w.heap.size w (w2.alloc (.cells (fltA TA.2) 29))) := (bst hb1 hb2').alloc (by have := hb1.size; have := hb2'.size; omega) _
  have HA2 : Hid (Tok6 (w2.alloc (.cells (fltA TA.2) 29)) ad TA.1) := hA2.below ((Below.refl _ _).alloc (Nat.le_refl _) _)
  clear hb1 hb2' hA2 CL CA
  by_cases h1 : TA.2.1 = 0
  rotate_left
  · have q1 : ((TA.2.1 : Int) != 0) = true := by simp [h1]
    obtain ⟨e0, e1⟩ := HF.out h1
    have e2 : TA.1.length = 0 := by rw [e0]; rfl
    have HE : Hid (decide ((65536 : Int) < (s.size : Int)) = ((TA.2.1 : Int) == 2)) := e1
    clear h1 e0 e1
    cases hc : ((TA.2.1 : Int) == 2)
    · have q3 : decide ((65536 : Int) < (s.size : Int)) = false := by rw [HE.out, hc]
      go_wp2
      go_ret
      exact ⟨rfl, HBW.out⟩
    · have q3 : (65536 : Int) < (s.size : Int) := by have := HE.out; rw [hc] at this; exact of_decide_eq_true this
      go_wp2
      go_ret
      exact ⟨rfl, HBW.out⟩
  have q1 : ((TA.2.1 : Int) != 0) = false := by simp [h1]
  obtain ⟨hst, hs⟩ := HS.out h1
  have HST : Hid (Stand s.data.toList TA.1 0 0) := hst
  clear h1 HS HF hst
  obtain ⟨W, hW⟩ : ∃ W, W = w2.alloc (.cells (fltA TA.2) 29) := ⟨_, rfl⟩
  rw [← hW] at HBW HA2
  go_wp2_with fail
  rw [show (w2.alloc (Obj.cells #[Value.int IntKind.i64 (TA.2.1 : Int), .int .i64 (TA.2.2.1 : Int), .int .i64 (TA.2.2.2 : Int)] 29)) = W from hW.symm]
  clear hW
  go_loopw [6, 7, 8, 9] (fun at' ln bg i wr => ∃ (k j : Nat) (b : Int), j ≤ TA.1.length ∧ k ≤ s.size ∧ at' = .int .i64 k ∧ ln = .int .i64 ((plc s.data.toList k).1 : Nat) ∧ bg = .int .i64 b ∧ i = .int .i64 j ∧ (k : Int) - b + 1 = ((plc s.data.toList k).2 : Nat) ∧ 0 ≤ b ∧ b ≤ k ∧ Stand s.data.toList TA.1 j k ∧ Below W.heap.size W wr) (fun _ _ _ i _ => TA.1.length - (intOf i).toNat)
  case atStart => exact ⟨0, 0, 0, by omega, by omega, rfl, rfl, rfl, rfl, by rfl, by omega, by omega, HST.out, Below.refl _ _⟩
  case round =>
    obtain ⟨k, j, b, hj, hk, rfl, rfl, rfl, rfl, hcol, hb0, hbk, hst, hB⟩ := hrel
    have HST1 : Hid (Stand s.data.toList TA.1 j k) := hst
    have HBk : Hid (Below W.heap.size W wr) := hB
    have HCOL : Hid ((k : Int) - b + 1 = ((plc s.data.toList k).2 : Nat)) := hcol
    clear hst hB HST hcol
    by_cases hlt : j < TA.1.length
    · obtain ⟨t, ht⟩ : ∃ t, TA.1[j]? = some t := ⟨_, List.getElem?_eq_getElem hlt⟩
      obtain ⟨ga, eA, h6⟩ := (HA2.out.below HBk.out) j t ht
      subst eA
      have H6 : Hid (At6 wr ga (j * 6) t) := h6
      obtain ⟨a0, a1, a2, a3, a4, a5⟩ := h6
      obtain ⟨g, hK, hn1, htx, hpl, hbl, hplc, hself, hstep⟩ := stand_step HST1.out (by omega) ht
      have hjI : (j : Int) < (TA.1.length : Int) := by omega
      obtain ⟨K, hKe⟩ : ∃ K, K = k + g := ⟨_, rfl⟩
      rw [← hKe] at hK htx hpl hstep hplc
      have HPLC : Hid (plc s.data.toList (K + t.text.length) = ((plc s.data.toList K).1, (plc s.data.toList K).2 + t.text.length)) := hplc
      have hpl1 : t.line = (plc s.data.toList K).1 := congrArg Prod.fst hpl
      have hpl2 : t.col = (plc s.data.toList K).2 := congrArg Prod.snd hpl
      rw [hpl1] at a4
      rw [hpl2] at a5
      have HTX : Hid (t.text = (s.data.toList.drop K).take t.text.length) := htx
      have HBL : Hid (blkB ((s.data.toList.drop k).take g) false = true) := hbl
      have HSF : Hid (tokR t.text = ([⟨t.kind, t.text, t.val, 1, 1⟩], (0, 0, 0))) := hself
      have HSTEP : Hid (Stand s.data.toList TA.1 (j + 1) (K + t.text.length)) := hstep
      have HKE : Hid (K = k + g) := hKe
      have hkK : k ≤ K := by omega
      have HP1 : Hid (t.line = (plc s.data.toList K).1 ∧ t.col = (plc s.data.toList K).2) := ⟨hpl1, hpl2⟩
      clear ht htx hpl hbl hself hstep hpl1 hpl2 hKe HST1 hplc
      have hKs : K < s.size := by omega
      go_wp2_with fail
      go_loopw [6, 7, 8] (fun at' ln bg wq => ∃ (i : Nat) (b : Int), k ≤ i ∧ i ≤ K ∧ at' = .int .i64 i ∧ ln = .int .i64 ((plc s.data.toList i).1 : Nat) ∧ bg = .int .i64 b ∧ (i : Int) - b + 1 = ((plc s.data.toList i).2 : Nat) ∧ 0 ≤ b ∧ b ≤ i ∧ wq = wr) (fun at' _ _ _ => K - (intOf at').toNat)
      case atStart => exact ⟨k, b, by omega, hkK, rfl, rfl, rfl, HCOL.out, hb0, hbk, rfl⟩
      case round =>
        obtain ⟨i, c, hik, hiK, rfl, rfl, rfl, hcol, hc0, hci, hwr⟩ := hrel
        obtain rfl := Eq.symm hwr
        have pb := plc_bound s.data.toList i
        by_cases hlt2 : i < K
        · have his : i < s.size := by omega
          have hah := plc_ahead s.data.toList hlt2 (by omega)
          have hstp := plc_step s his
          have HSTP : Hid (plc s.data.toList (i + 1) = if s[i] = 10 then ((plc s.data.toList i).1 + 1, 1) else ((plc s.data.toList i).1, (plc s.data.toList i).2 + 1)) := hstp
          generalize plc s.data.toList i = pi at *
          generalize plc s.data.toList K = pK at *
          clear hstp
          by_cases he : s[i] = 10
          · have q : ((s[i].toNat : Int) == 10) = true := by rw [he]; rfl
            have E : Hid (plc s.data.toList (i + 1) = (pi.1 + 1, 1)) := by show _ = _; rw [HSTP.out, if_pos he]
            clear he
            by_cases hl : pi.1 < pK.1
            · have hl' : (pi.1 : Int) < (pK.1 : Int) := by omega
              go_wp2
              exact ⟨⟨i + 1, (i : Int) + 1, by omega, by omega, by go_num, by rw [E.out]; go_num, rfl, by rw [E.out]; simp, by omega, by omega, trivial⟩, by simp only [intOf]; omega⟩
            · have hl' : decide ((pi.1 : Int) < (pK.1 : Int)) = false := by simp; omega
              have hl2 : (pi.2 : Int) < (pK.2 : Int) := by omega
              go_wp2
              exact ⟨⟨i + 1, (i : Int) + 1, by omega, by omega, by go_num, by rw [E.out]; go_num, rfl, by rw [E.out]; simp, by omega, by omega, trivial⟩, by simp only [intOf]; omega⟩
          · have q : ((s[i].toNat : Int) == 10) = false := by
              simp only [beq_eq_false_iff_ne]; intro e; exact he (UInt8.toNat_inj.1 (by show _ = 10; omega))
            have E : Hid (plc s.data.toList (i + 1) = (pi.1, pi.2 + 1)) := by show _ = _; rw [HSTP.out, if_neg he]
            have HC : Hid ((i : Int) - c + 1 = (pi.2 : Nat)) := hcol
            clear he
            by_cases hl : pi.1 < pK.1
            · have hl' : (pi.1 : Int) < (pK.1 : Int) := by omega
              go_wp2
              exact ⟨⟨i + 1, c, by omega, by omega, by go_num, by rw [E.out], rfl, by rw [E.out]; have := HC.out; simp; omega, by omega, by omega, trivial⟩, by simp only [intOf]; omega⟩
            · have hl' : decide ((pi.1 : Int) < (pK.1 : Int)) = false := by simp; omega
              have hl2 : (pi.2 : Int) < (pK.2 : Int) := by omega
              go_wp2
              exact ⟨⟨i + 1, c, by omega, by omega, by go_num, by rw [E.out], rfl, by rw [E.out]; have := HC.out; simp; omega, by omega, by omega, trivial⟩, by simp only [intOf]; omega⟩
        · have e : i = K := by omega
          subst e
          obtain ⟨tb, htb⟩ : ∃ tb : ByteArray, tb = ⟨t.text.toArray⟩ := ⟨_, rfl⟩
          obtain ⟨n, hn⟩ : ∃ n, n = t.text.length := ⟨_, rfl⟩
          have htbs : tb.size = n := by rw [htb, hn]; show t.text.toArray.size = _; simp
          have hext : s.extract i (i + n) = tb := by
            rw [htb]
            apply ByteArray.ext
            apply Array.ext'
            rw [ext_list, hn]
            conv => rhs; rw [HTX.out]
            rw [List.take_drop, Nat.add_comm]
          have CBL : Hid (∀ w1, Calls Tryd.prog 13 #[.string (s.extract k i), .bool false] w1 fun e w' => e = .returned (.bool true) ∧ w' = w1) := fun w1 => by
            have := blank_any (s.extract k i) false (by unfold maxLen; simp; omega) w1
            rw [ext_list, show (s.data.toList.take i).drop k = (s.data.toList.drop k).take g by rw [HKE.out, List.take_drop, Nat.add_comm], HBL.out] at this
            exact this
          have CT : Hid (∀ w1, Below w.heap.size w w1 → Calls Tryd.prog 10 #[.string tb] w1 fun e w' => ∃ (g2 : Nat) (cap2 : Nat), e = .returned (.tuple #[.slice (some ⟨g2, 0, none⟩) 1 cap2, .agg (fltA (0, 0, 0))]) ∧ At6 w' g2 0 ⟨t.kind, t.text, t.val, 1, 1⟩ ∧ Below w1.heap.size w1 w') := by
            show ∀ w1, _
            intro w1 h
            have := tok_six tb (by unfold maxLen; omega) w1 (HT.out w1 h)
            rw [show tb.data.toList = t.text by rw [htb], HSF.out] at this
            refine this.mono ?_
            rintro e w' ⟨ad2, cap2, rfl, h6, hb⟩
            obtain ⟨g2, rfl, h6'⟩ := h6 0 _ rfl
            exact ⟨g2, cap2, rfl, by simpa using h6', hb⟩
          have HTB : Hid (tb = ⟨t.text.toArray⟩) := htb
          have HN : Hid (n = t.text.length) := hn
          have qn : decide ((n : Int) < 1) = false := by simp; omega
          have qs : decide ((s.size : Int) < (i : Int) + (n : Int)) = false := by simp; omega
          have hin : (i : Int) + (n : Int) ≤ (s.size : Int) := by omega
          rw [← htb] at a1
          clear htb hn
          go_wp2_with fail
          go_quiet (fail)
          go_wp2_with fail
          refine (CBL.out _).mono ?_
          rintro e wz ⟨rfl, hwz⟩
          obtain rfl := Eq.symm hwz
          have hdq : Below wr.heap.size wr (wr.drewN nq) := ⟨rfl, rfl, rfl, Nat.le_refl _, fun _ _ => rfl⟩
          have HB6 : Hid (Below w.heap.size w (wr.drewN nq)) := bst (bst HBW.out HBk.out) hdq
          have HBx : Hid (Below W.heap.size W (wr.drewN nq)) := bst HBk.out hdq
          have H6x : Hid (At6 (wr.drewN nq) ga (j * 6) t) := H6.out.below hdq
          clear a0 a1 a2 a3 a4 a5 hdq
          obtain ⟨WR, hWR⟩ : ∃ WR, WR = wr.drewN nq := ⟨_, rfl⟩
          rw [← hWR] at HB6 HBx H6x ⊢
          have a1 : WR.cell? ⟨ga, j * 6 + 1, none⟩ = some (.string tb) := by rw [HTB.out]; exact H6x.out.c1
          clear hWR
          go_wp2_with fail
          refine (CT.out _ HB6.out).mono ?_
          rintro e wt ⟨g2, cap2, rfl, h62, hbt⟩
          have H6t := H6x.out.below hbt
          have hg2 := h62.lt
          have hga := H6t.lt
          obtain ⟨k0, k1, k2, k3, k4, k5⟩ := h62
          obtain ⟨b0, b1, b2, b3, b4, b5⟩ := H6t
          have HBt : Hid (Below W.heap.size W (wt.alloc (.cells (fltA (0, 0, 0)) 29))) := (bst HBx.out hbt).alloc (by have := HBx.out.size; have := hbt.size; omega) _
          clear a1 hbt HB6 HBx H6x
          go_wp2_with fail
          go_quiet (fail)
          go_wp2_with fail
          have HPL2 : plc s.data.toList (i + n) = ((plc s.data.toList i).1, (plc s.data.toList i).2 + n) := by rw [HN.out]; exact HPLC.out
          have HS2 : Stand s.data.toList TA.1 (j + 1) (i + n) := by rw [HN.out]; exact HSTEP.out
          exact ⟨⟨i + n, j + 1, c, by omega, by omega, by go_num, by rw [HPL2], rfl, by go_num, by rw [HPL2]; simp; omega, by omega, by omega, HS2, ⟨HBt.out.os, HBt.out.tape, HBt.out.output, HBt.out.size, HBt.out.block⟩⟩, by simp only [intOf]; omega⟩
    · have e : j = TA.1.length := by omega
      subst e
      have CBL : Hid (∀ w1, Calls Tryd.prog 13 #[.string (s.extract k s.size), .bool true] w1 fun e w' => e = .returned (.bool true) ∧ w' = w1) := fun w1 => by
        have := blank_any (s.extract k s.size) true (by unfold maxLen; simp; omega) w1
        rw [ext_list, List.take_of_length_le (by omega), stand_last HST1.out] at this
        exact this
      go_wp2_with fail
      refine (CBL.out _).mono ?_
      rintro e wz ⟨rfl, hwz⟩
      obtain rfl := Eq.symm hwz
      go_wp2
      go_ret
      exact ⟨rfl, bst HBW.out HBk.out⟩
end Go.Proofs.YtlgfpjaomiomjaaDoor
