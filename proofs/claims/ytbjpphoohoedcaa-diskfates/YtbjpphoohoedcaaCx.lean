/- The walk of DiskFates: true; older memory is as it was. -/
import Derived.Test.YtbjpphoohoedcaaCw
import Derived.Deep.DeepCutAuto
import Derived.Deep.CutBlock
namespace Go.Proofs.Ytbjpphoohoedcaa
open Go.RowKit
set_option linter.unusedVariables false
set_option linter.unusedSimpArgs false

set_option maxHeartbeats 4000000 in
set_option maxRecDepth 100000 in
theorem fates_walk (ps qs : List Pu) (fs : List (Int × Int)) (a1 a2 a3 : Option Addr) (c1 c2 c3 : Nat) (w : World) (hv1 : PtsV w ps a1) (hv2 : PtsV w qs a2) (hv3 : FtO w fs a3) (hl1 : ps.length ≤ 8796093021952) (hl2 : qs.length ≤ 8796093021952) (hl3 : fs.length ≤ 8796093021952) :
    Calls Try.prog 7 #[.slice a1 ps.length c1, .slice a2 qs.length c2, .slice a3 fs.length c3] w fun e w' => e = .returned (.bool true) ∧ Below w.heap.size w w' := by
  have HL : Hid (ps.length ≤ 8796093021952 ∧ qs.length ≤ 8796093021952 ∧ fs.length ≤ 8796093021952) := ⟨hl1, hl2, hl3⟩
  have HV1 : Hid (PtsV w ps a1) := hv1
  have HV2 : Hid (PtsV w qs a2) := hv2
  have HV3 : Hid (FtO w fs a3) := hv3
  have hqb : (qs.length : Int) ≤ 8796093021952 := by omega
  have hfb : (fs.length : Int) ≤ 8796093021952 := by omega
  clear hv1 hv2 hv3 hl1 hl2 hl3
  go_enter Try.func7, Try.ntmps7
  go_wp2_with fail
  refine (awake_any _).mono ?_
  rintro e w1 ⟨rfl, hb1⟩
  go_upto_if 22 with fail
  go_cut [8] (fun t wx => w1 = wx ∧ ∃ N : Nat, t = .int .i64 N ∧ 1 ≤ N ∧ N ≤ 60 ∧ N ≤ 1 + qs.length)
  case first =>
    go_wp2
    all_goals go_meet
    · exact ⟨rfl, 60, rfl, by omega, by omega, by omega⟩
    · exact ⟨rfl, 1 + qs.length, by go_num, by omega, by omega, by omega⟩
  case rest =>
    obtain ⟨rfl, N, rfl, hN1, hN2, hN3⟩ := hcut
    have hNb : (N : Int) ≤ 60 := by omega
    have HN : Hid (1 ≤ N ∧ N ≤ 60 ∧ N ≤ 1 + qs.length) := ⟨hN1, hN2, hN3⟩
    have CW0 : Hid (Calls Try.prog 23 #[.int .i64 (N : Int), .slice a1 ps.length c1, .slice none 0 0] w1 fun e w' => Wrote w1 (rdS (base N ps) 0 (ps.length : Int) 1) e w') := by
      have := written_all N hN1 (by omega) ps [] a1 none c1 0 w1 (HV1.out.below hb1) (.inl rfl) (by have := HL.out; omega) (by simp)
      rw [← wS2_none]
      exact this
    have hsz := catB_size (base N ps) (base_size N ps)
    rw [base_length] at hsz
    have hszi : ((catB (base N ps)).size : Int) = 512 * (N : Int) := by rw [hsz]; omega
    have HSZ : Hid ((catB (base N ps)).size = N * 512) := hsz
    clear hsz hN1 hN2 hN3
    obtain ⟨M, hM⟩ : ∃ M, M = min N qs.length := ⟨_, rfl⟩
    have HM : Hid (M ≤ N ∧ M ≤ qs.length ∧ (M = N ∨ M = qs.length)) := by show _ ∧ _ ∧ _; omega
    clear hM
    go_wp2_with fail
    refine CW0.out.mono ?_
    rintro e w2 ⟨d, fd, rfl, dd, hb2⟩
    have hB2 := bstep hb1 hb2 (Nat.le_refl _)
    have Z : Hid (w.heap.size ≤ w1.heap.size) := hb1.size
    unfold pt
    clear hb1 hb2 CW0
    have CI : Hid (Calls Try.prog 18 #[.pointer (some ⟨d, 0, none⟩)] w2 fun e w' => e = .returned (.string (catB (base N ps))) ∧ Below w2.heap.size w2 w') := l_image (Left.refl dd)
    go_wp2_with fail
    refine CI.out.mono ?_
    rintro e w3 ⟨rfl, hb3⟩
    have HD0 : Hid (∃ fp, Dk w1.heap.size w3 d fp (fS (base N ps) 0 (ps.length : Int) qs 0)) := by
      refine ⟨fd, ?_⟩
      have e : fS (base N ps) 0 (ps.length : Int) qs 0 = rdS (base N ps) 0 (ps.length : Int) 1 := by unfold fS rdS fw; simp
      rw [e]; exact dd.below hb3
    have HB3 : Hid (Below w.heap.size w w3) := bstep hB2 hb3 (Nat.le_refl _)
    clear CI dd hb3 hB2
    have HBL : Hid ((base N ps).length = N ∧ ∀ s ∈ base N ps, s.size = 512) := ⟨base_length N ps, base_size N ps⟩
    have CSC : Hid (∀ (i : Nat) (w : World), i < N → Calls Try.prog 29 #[.string (catB (base N ps)), .int .i64 (i : Int)] w fun e w' => e = .returned (.string ((base N ps).getD i ByteArray.empty)) ∧ w' = w) := by
      show ∀ (i : Nat) (w : World), _
      intro i w hi
      have := sector_any (catB (base N ps)) i N HSZ.out (by have := HN.out; omega) hi w
      rw [sec_cat _ (base_size N ps) i (by rw [base_length]; exact hi)] at this
      exact this
    generalize catB (base N ps) = IM at *
    generalize base N ps = L at *
    clear HSZ
    go_wp2_with fail
    go_loopw [11] (fun t wa => ∃ i : Nat, i ≤ M ∧ t = .int .i64 i ∧ (∃ fp, Dk w1.heap.size wa d fp (fS L 0 (ps.length : Int) qs i)) ∧ Below w.heap.size w wa) (fun t _ => M - (intOf t).toNat)
    case atStart => exact ⟨0, Nat.zero_le _, rfl, HD0.out, HB3.out⟩
    case round =>
      obtain ⟨i, hi, rfl, ⟨fp, hD⟩, hBi⟩ := hrel
      clear HD0 HB3
      by_cases hlt : i < M
      · have hi1 : (i : Int) < (N : Int) := by have := HM.out; omega
        have hi2 : (i : Int) < (qs.length : Int) := by have := HM.out; omega
        have hlq : i < qs.length := by have := HM.out; omega
        have hp : qs[i]? = some (qs[i]) := List.getElem?_eq_getElem hlq
        have HPM : Hid (qs[i]? = some (qs[i])) := hp
        generalize qs[i] = p at *
        obtain ⟨pb, off, rfl, hpl, hpts⟩ : ∃ pb off, a2 = some ⟨pb, off, none⟩ ∧ pb < w.heap.size ∧ Pts w pb off qs := by
          rcases HV2.out with h | h
          · rw [h] at hlq; simp at hlq
          · exact h
        obtain ⟨p0, p1, p2, hI⟩ := (hpts.below hBi hpl) i p hp
        have hfq : fq qs i = fullB p.f p.e := by unfold fq; rw [HPM.out]
        have CF : Hid (∀ w : World, Calls Try.prog 27 #[.int .u8 (p.f.toNat : Int), .int .u8 (p.e.toNat : Int)] w fun r w' => r = .returned (.string (fq qs i)) ∧ Hid (Below w.heap.size w w')) := by rw [hfq]; exact full_any p.f p.e
        have CW : Hid (∀ w2 : World, Below wr.heap.size wr w2 → Calls Try.prog 31 #[.pointer (some ⟨d, 0, none⟩), .int .i64 (i : Int), .string (fq qs i)] w2 fun e w' => e = .returned (.int .i64 0) ∧ Hid ((∃ fp, Dk w1.heap.size w' d fp (fS L 0 (ps.length : Int) qs (i + 1))) ∧ Below w.heap.size w w') ∧ w'.cell? ⟨pb, off + i * 3 + 1, none⟩ = some (.int .u8 (p.f.toNat : Int)) ∧ w'.cell? ⟨pb, off + i * 3 + 2, none⟩ = some (.int .u8 (p.e.toNat : Int))) := by
          show ∀ w2 : World, _
          intro w2 hb
          have hd1 := hD.below hb
          have hB1 := bstep hBi hb (Nat.le_refl _)
          have hz1 : w1.heap.size ≤ w2.heap.size := Nat.le_trans (Nat.le_of_lt_succ (by have := (hd1.fp _ hd1.own); omega)) (Nat.le_refl _)
          have hmn : i < (fS L 0 (ps.length : Int) qs i).safe.length := by show i < L.length; rw [HBL.out.1]; omega
          have hwl := write_live (S := fS L 0 (ps.length : Int) qs i) (m := i) (s := fq qs i) rfl rfl hmn (fq_size _ _)
          have C := write_any hd1 (i : Int) (fq qs i) (by rw [fq_size]; omega) (by show (fw qs i).length < _; rw [fw_length]; have := HL.out; omega) hz1
          rw [hwl.1, hwl.2, fS_succ L 0 ps.length i qs (by have := HL.out; have := HN.out; omega)] at C
          refine C.mono ?_
          rintro e w' ⟨rfl, hL⟩
          have hB' : Below w.heap.size w w' := hB1.trans (hL.keeps.below hB1.size (fun k e => by have := (hd1.fp k e).1; have := Z.out; omega))
          obtain ⟨fp', hd', _, _⟩ := hL
          obtain ⟨q0, q1, q2, _⟩ := (hpts.below hB' hpl) i p HPM.out
          exact ⟨rfl, ⟨⟨fp', hd'⟩, hB'⟩, q1, q2⟩
        have KP : Hid (∀ w1 : World, Below wr.heap.size wr w1 → w1.cell? ⟨pb, off + i * 3 + 1, none⟩ = some (.int .u8 (p.f.toNat : Int)) ∧ w1.cell? ⟨pb, off + i * 3 + 2, none⟩ = some (.int .u8 (p.e.toNat : Int))) := by
          show ∀ w1 : World, _
          intro w1 hb
          obtain ⟨q0, q1, q2, _⟩ := (hpts.below (bstep hBi hb (Nat.le_refl _)) hpl) i p HPM.out
          exact ⟨q1, q2⟩
        generalize fq qs i = q at *
        clear hp hD hBi hpts hI HV1 HV2 HV3 HPM hfq CSC
        go_wp2_with fail
        go_region_held3 (fun w' => w'.cell? ⟨pb, off + i * 3 + 1, none⟩ = some (.int .u8 (p.f.toNat : Int)) ∧ w'.cell? ⟨pb, off + i * 3 + 2, none⟩ = some (.int .u8 (p.e.toNat : Int)))
          (first | go_keep | exact c05 | exact KP.out _ ⟨hb4.out.os, hb4.out.tape, hb4.out.output, hb4.out.size, hb4.out.block⟩)
          (first | (go_at_call 27; refine (CF.out _).mono ?_; rintro e w4 ⟨rfl, hb4⟩) | (go_at_call 31; refine (CW.out _ (by exact ⟨hb4.out.os, hb4.out.tape, hb4.out.output, hb4.out.size, hb4.out.block⟩)).mono ?_; rintro e w5 ⟨rfl, hD5, c05⟩))
        clear CF CW KP hb4 c05
        go_wp2
        go_roundw
        case rel => exact ⟨i + 1, by omega, by go_num, hD5.out⟩
        case measure => simp [intOf]; omega
      · have hie : i = M := by omega
        subst hie
        have hCr : Hid (Calls Try.prog 25 #[.pointer (some ⟨d, 0, none⟩), .slice a3 fs.length c3] wr fun e w' => e = .returned (.tuple #[]) ∧ Hid ((∃ fp, Dk w1.heap.size w' d fp (crashD (fS L 0 (ps.length : Int) qs i) fs)) ∧ Below w.heap.size w w')) := by
          refine (l_crash_old (Left.refl hD) fs a3 c3 HV3.out hBi Z.out).mono ?_
          rintro e w' ⟨rfl, hL⟩
          have hB' : Below w.heap.size w w' := hBi.trans (hL.keeps.below hBi.size (fun k e => by have := (hD.fp k e).1; have := Z.out; omega))
          obtain ⟨fp', hd', _, _⟩ := hL
          exact ⟨rfl, ⟨fp', hd'⟩, hB'⟩
        have HOK : Hid ((crashD (fS L 0 (ps.length : Int) qs i) fs).safe.length = N ∧ ∀ s ∈ (crashD (fS L 0 (ps.length : Int) qs i) fs).safe, s.size = 512) := by
          refine ⟨?_, ?_⟩
          · show (settle _ 0 L _).length = N; rw [length_settle]; exact HBL.out.1
          · exact size_settle (fateK_le fs) HBL.out.2 (fw_num qs i L.length (by rw [HBL.out.1]; exact HM.out.1)) (fw_len qs i)
        clear hD hBi
        have hsn := catB_size (crashD (fS L 0 (ps.length : Int) qs i) fs).safe HOK.out.2
        rw [HOK.out.1] at hsn
        have hsni : ((catB (crashD (fS L 0 (ps.length : Int) qs i) fs).safe).size : Int) = 512 * (N : Int) := by rw [hsn]; omega
        have CSN : Hid (∀ (j : Nat) (w : World), j < N → Calls Try.prog 29 #[.string (catB (crashD (fS L 0 (ps.length : Int) qs i) fs).safe), .int .i64 (j : Int)] w fun e w' => e = .returned (.string (fateW L qs fs i j)) ∧ w' = w) := by
          show ∀ (j : Nat) (w : World), _
          intro j w hj
          have := sector_any (catB (crashD (fS L 0 (ps.length : Int) qs i) fs).safe) j N hsn (by have := HN.out; omega) hj w
          rw [sec_cat _ HOK.out.2 j (by rw [HOK.out.1]; exact hj)] at this
          exact this
        have CIM : Hid (∀ w : World, (∃ fp, Dk w1.heap.size w d fp (crashD (fS L 0 (ps.length : Int) qs i) fs)) → Calls Try.prog 18 #[.pointer (some ⟨d, 0, none⟩)] w fun e w' => e = .returned (.string (catB (crashD (fS L 0 (ps.length : Int) qs i) fs).safe)) ∧ Below w.heap.size w w') := by
          show ∀ w : World, _
          rintro w ⟨fp, h⟩
          exact l_image (Left.refl h)
        clear hsn HOK
        generalize catB (crashD (fS L 0 (ps.length : Int) qs i) fs).safe = IN at *
        generalize crashD (fS L 0 (ps.length : Int) qs i) fs = SN at *
        have hcut : (¬ (i : Int) < (N : Int)) ∨ ((i : Int) < (N : Int) ∧ ¬ (i : Int) < (qs.length : Int)) := by have := HM.out; omega
        rcases hcut with hcut | ⟨hcut, hcut2⟩
        all_goals
          go_wp2_with fail
          refine hCr.out.mono ?_
          rintro e y1 ⟨rfl, hy⟩
          have HY : Hid (∃ fp, Dk w1.heap.size y1 d fp SN) := hy.out.1
          have HB : Hid (Below w.heap.size w y1) := hy.out.2
          clear hCr hy
          go_wp2_with fail
          refine (CIM.out _ HY.out).mono ?_
          rintro e y2 ⟨rfl, hb2⟩
          have HB2 : Hid (Below w.heap.size w y2) := bstep HB.out hb2 (Nat.le_refl _)
          clear CIM HY HB hb2
          go_wp2_with fail
          generalize hMi : i = M at *
          clear hMi
          go_loopw [14] (fun t wa => ∃ j : Nat, j ≤ N ∧ t = .int .i64 j ∧ Below w.heap.size w wa) (fun t _ => N - (intOf t).toNat)
          case atStart => exact ⟨0, Nat.zero_le _, rfl, HB2.out⟩
          case round =>
            obtain ⟨i, hj, rfl, hBj⟩ := hrel
            clear HB2
            by_cases hlj : i < N
            · have hj' : (i : Int) < (N : Int) := by omega
              have hiL : i < L.length := by rw [HBL.out.1]; exact hlj
              have hML : M ≤ L.length := by rw [HBL.out.1]; exact HM.out.1
              have HCS : Hid (∀ w : World, Calls Try.prog 29 #[.string IM, .int .i64 (i : Int)] w fun e w' => e = .returned (.string (L.getD i ByteArray.empty)) ∧ w' = w) := fun w => CSC.out i w hlj
              have HSN : Hid (∀ w : World, Calls Try.prog 29 #[.string IN, .int .i64 (i : Int)] w fun e w' => e = .returned (.string (fateW L qs fs M i)) ∧ w' = w) := fun w => CSN.out i w hlj
              have hoo := size_getD HBL.out.2 hiL
              have HBJ : Hid (Below w.heap.size w wr) := hBj
              by_cases hin : i < qs.length ∧ i < fs.length
              · obtain ⟨hlq, hlf⟩ := hin
                have hlq' : (i : Int) < (qs.length : Int) := by omega
                have hlf' : (i : Int) < (fs.length : Int) := by omega
                have him : i < M := by have := HM.out; omega
                have hp : qs[i]? = some (qs[i]) := List.getElem?_eq_getElem hlq
                have HPM : Hid (qs[i]? = some (qs[i])) := hp
                generalize qs[i] = p at *
                obtain ⟨pb, off, rfl, hpl, hpts⟩ : ∃ pb off, a2 = some ⟨pb, off, none⟩ ∧ pb < w.heap.size ∧ Pts w pb off qs := by
                  rcases HV2.out with h | h
                  · rw [h] at hlq; simp at hlq
                  · exact h
                obtain ⟨p0, p1, p2, hI⟩ := (hpts.below hBj hpl) i p hp
                have hf : fs[i]? = some (fs[i]) := List.getElem?_eq_getElem hlf
                generalize fs[i] = kt at *
                obtain ⟨kd, t⟩ := kt
                obtain ⟨fb, foff, rfl, hfl, hfts⟩ : ∃ fb off, a3 = some ⟨fb, off, none⟩ ∧ fb < w.heap.size ∧ Fts w fb off fs := by
                  rcases HV3.out with h | h
                  · rw [h] at hlf; simp at hlf
                  · exact h
                have hfk : fateK fs i = keptK kd t := by unfold fateK; rw [hf]
                have hfq : fq qs i = fullB p.f p.e := by unfold fq; rw [HPM.out]
                have hss := fq_size qs i
                have hnew := fateW_new L HBL.out.2 qs fs M hML i hiL him
                have CF : Hid (∀ w : World, Calls Try.prog 27 #[.int .u8 (p.f.toNat : Int), .int .u8 (p.e.toNat : Int)] w fun r w' => r = .returned (.string (fq qs i)) ∧ Hid (Below w.heap.size w w')) := by rw [hfq]; exact full_any p.f p.e
                have KP : Hid (∀ w1 : World, Below wr.heap.size wr w1 → w1.cell? ⟨pb, off + i * 3 + 1, none⟩ = some (.int .u8 (p.f.toNat : Int)) ∧ w1.cell? ⟨pb, off + i * 3 + 2, none⟩ = some (.int .u8 (p.e.toNat : Int))) := by
                  show ∀ w1 : World, _
                  intro w1 hb
                  obtain ⟨q0, q1, q2, _⟩ := (hpts.below (bstep hBj hb (Nat.le_refl _)) hpl) i p HPM.out
                  exact ⟨q1, q2⟩
                have FC : Hid (∀ w1 : World, Below w.heap.size w w1 → w1.cell? ⟨fb, foff + i * 2, none⟩ = some (.int .i64 kd) ∧ w1.cell? ⟨fb, foff + i * 2 + 1, none⟩ = some (.int .i64 t)) := fun w1 hb => (hfts.below hb hfl) i kd t hf
                generalize fq qs i = s at *
                generalize L.getD i ByteArray.empty = o at *
                clear hp hBj hpts hI HPM hfq CSC CSN hf hfts HV1 HV2 HV3
                go_wp2_with fail
                refine (HCS.out _).mono ?_
                rintro e x1 ⟨rfl, hw⟩
                rw [hw]; clear hw HCS
                go_wp2_with fail
                go_region_held3 (fun w' => w'.cell? ⟨pb, off + i * 3 + 1, none⟩ = some (.int .u8 (p.f.toNat : Int)) ∧ w'.cell? ⟨pb, off + i * 3 + 2, none⟩ = some (.int .u8 (p.e.toNat : Int)))
                  (first | go_keep | exact KP.out _ ⟨hb4.out.os, hb4.out.tape, hb4.out.output, hb4.out.size, hb4.out.block⟩)
                  (first | (go_at_call 27; refine (CF.out _).mono ?_; rintro e w4 ⟨rfl, hb4⟩))
                have HB4 : Hid (Below w.heap.size w w4) := bstep HBJ.out (show Below wr.heap.size wr w4 from ⟨hb4.out.os, hb4.out.tape, hb4.out.output, hb4.out.size, hb4.out.block⟩) (Nat.le_refl _)
                obtain ⟨k0, k1⟩ := FC.out w4 HB4.out
                clear hb4 KP CF FC HBJ
                by_cases h1 : kd = 1
                · have e1 : (kd == 1) = true := by simpa using h1
                  have hq : fateW L qs fs M i = s := by rw [hnew, hfk, h1, kept_one, tear_full hss]
                  rw [hq] at HSN
                  clear hq
                  go_wp2_with fail
                  refine (HSN.out _).mono ?_
                  rintro e x2 ⟨rfl, hw⟩
                  rw [hw]; clear hw
                  go_wp2
                  go_roundw
                  case rel => exact ⟨i + 1, by omega, by go_num, HB4.out⟩
                  case measure => simp [intOf]; omega
                · by_cases h2 : kd = 2
                  · by_cases h3 : (512 : Int) ≤ t
                    · have e1 : (kd == 1) = false := by simpa using h1
                      have e2 : (kd == 2) = true := by simpa using h2
                      have e3 : (512 : Int) ≤ t := h3
                      have hq : fateW L qs fs M i = s := by rw [hnew, hfk, h2, kept_torn t h3, tear_full hss]
                      rw [hq] at HSN
                      clear hq
                      go_wp2_with fail
                      refine (HSN.out _).mono ?_
                      rintro e x2 ⟨rfl, hw⟩
                      rw [hw]; clear hw
                      go_wp2
                      go_roundw
                      case rel => exact ⟨i + 1, by omega, by go_num, HB4.out⟩
                      case measure => simp [intOf]; omega
                    · by_cases h4 : (0 : Int) < t
                      · obtain ⟨T, rfl⟩ : ∃ T : Nat, t = (T : Int) := ⟨t.toNat, by omega⟩
                        have e1 : (kd == 1) = false := by simpa using h1
                        have e2 : (kd == 2) = true := by simpa using h2
                        have e3 : ¬ (512 : Int) ≤ (T : Int) := h3
                        have e4 : (0 : Int) < (T : Int) := h4
                        have hT5 : T ≤ 512 := by omega
                        have hq : fateW L qs fs M i = s.extract 0 T ++ o.extract T 512 := by rw [hnew, hfk, h2, show keptK 2 (T : Int) = T by unfold keptK; simp; omega]; rfl
                        rw [hq] at HSN
                        clear hq
                        go_wp2_with fail
                        go_region
                        go_wp2_with fail
                        refine (HSN.out _).mono ?_
                        rintro e x2 ⟨rfl, hw⟩
                        rw [hw]; clear hw
                        go_wp2
                        go_roundw
                        case rel => exact ⟨i + 1, by omega, by go_num, HB4.out.drew⟩
                        case measure => simp [intOf]; omega
                      · have e1 : (kd == 1) = false := by simpa using h1
                        have e2 : (kd == 2) = true := by simpa using h2
                        have e3 : ¬ (512 : Int) ≤ t := h3
                        have e4 : ¬ (0 : Int) < t := h4
                        have hq : fateW L qs fs M i = o := by rw [hnew, hfk, h2, kept_none t (by omega), tear_zero hoo]
                        rw [hq] at HSN
                        clear hq
                        go_wp2_with fail
                        refine (HSN.out _).mono ?_
                        rintro e x2 ⟨rfl, hw⟩
                        rw [hw]; clear hw
                        go_wp2
                        go_roundw
                        case rel => exact ⟨i + 1, by omega, by go_num, HB4.out⟩
                        case measure => simp [intOf]; omega
                  · have e1 : (kd == 1) = false := by simpa using h1
                    have e2 : (kd == 2) = false := by simpa using h2
                    have hq : fateW L qs fs M i = o := by rw [hnew, hfk, show keptK kd t = 0 by unfold keptK; rw [if_neg h1, if_neg h2], tear_zero hoo]
                    rw [hq] at HSN
                    clear hq
                    go_wp2_with fail
                    refine (HSN.out _).mono ?_
                    rintro e x2 ⟨rfl, hw⟩
                    rw [hw]; clear hw
                    go_wp2
                    go_roundw
                    case rel => exact ⟨i + 1, by omega, by go_num, HB4.out⟩
                    case measure => simp [intOf]; omega
              · have hq : fateW L qs fs M i = L.getD i ByteArray.empty := fateW_old L HBL.out.2 qs fs M hML i hiL (fun e => by
                  have : fs.length ≤ i := by have := HM.out; omega
                  unfold fateK; rw [List.getElem?_eq_none this])
                rw [hq] at HSN
                generalize L.getD i ByteArray.empty = o at *
                have hor : (¬ (i : Int) < (qs.length : Int)) ∨ ((i : Int) < (qs.length : Int) ∧ ¬ (i : Int) < (fs.length : Int)) := by omega
                clear hq CSC CSN HV1 HV2 HV3 hBj hin
                rcases hor with ho1 | ⟨ho1, ho2⟩
                all_goals
                  go_wp2_with fail
                  refine (HCS.out _).mono ?_
                  rintro e x1 ⟨rfl, hw⟩
                  rw [hw]; clear hw HCS
                  go_wp2_with fail
                  refine (HSN.out _).mono ?_
                  rintro e x2 ⟨rfl, hw⟩
                  rw [hw]; clear hw
                  go_wp2
                  go_roundw
                  case rel => exact ⟨i + 1, by omega, by go_num, HBJ.out⟩
                  case measure => simp [intOf]; omega
            · have hj' : ¬ (i : Int) < (N : Int) := by omega
              go_wp2
              go_ret
              exact ⟨rfl, hBj⟩
end Go.Proofs.Ytbjpphoohoedcaa
