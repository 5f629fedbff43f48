/- The walk of LexNames. -/
import Derived.Test.YtlgfpjaomiomjaaDoorNw
namespace Go.Proofs.YtlgfpjaomiomjaaDoor
open Go.RowKit
set_option linter.unusedVariables false
set_option linter.unusedSimpArgs false

set_option maxHeartbeats 8000000 in
set_option maxRecDepth 100000 in
theorem names_walk (s : ByteArray) (hs : s.size ≤ maxLen) (w : World) (hT : Tabs w) : Calls Tryd.prog 3 #[.string s] w fun e w' => e = .returned (.bool true) ∧ Below w.heap.size w w' := by
  have HT : Hid (∀ w1, Below w.heap.size w w1 → Tabs w1) := fun w1 h => hT.below h
  have CL : Hid (Calls Tryd.prog 7 #[] w fun e w' => e = .returned (.bool true) ∧ Below w.heap.size w w') := live_any w hT
  have CN : Hid (∀ w1, Below w.heap.size w w1 → Calls Tryd.prog 8 #[.string s] w1 fun e w' => e = .returned (.bool (nameB s.data.toList)) ∧ Below w1.heap.size w1 w') := fun w1 h => isName_any s hs w1 (hT.below h)
  have CR : Hid (∀ w1, Calls Tryd.prog 9 #[.string s] w1 fun e w' => e = .returned (.bool (nameB s.data.toList)) ∧ Below w1.heap.size w1 w') := fun w1 => by
    have := risName_any s hs w1
    rw [rname_eq] at this; exact this
  have CT := fun w1 (h : Below w.heap.size w w1) => tok_names s hs w1 (hT.below h)
  obtain ⟨nb, hnb⟩ : ∃ nb, nb = nameB s.data.toList := ⟨_, rfl⟩
  rw [← hnb] at CN CR CT
  have HCT : Hid (∀ w1, Below w.heap.size w w1 → Calls Tryd.prog 10 #[.string s] w1 fun e w' => ∃ ad n cap F, e = .returned (.tuple #[.slice ad n cap, .agg (fltA F)]) ∧ Hid ((nb = false ∧ ((n : Int) == 1) = false) ∨ (n = 1 ∧ F.1 = 0 ∧ ∃ (g : Nat) (kd : Nat) (tx : ByteArray), ad = some ⟨g, 0, none⟩ ∧ g < w'.heap.size ∧ w'.cell? ⟨g, 0, none⟩ = some (.int .i64 (kd : Int)) ∧ w'.cell? ⟨g, 1, none⟩ = some (.string tx) ∧ nb = (((kd : Int) == 1) && (tx.toList == s.toList)))) ∧ Below w1.heap.size w1 w') := CT
  clear hT CT hnb
  go_enter Tryd.func3, Tryd.ntmps3
  go_wp2_with fail
  refine CL.out.mono ?_
  rintro e w1 ⟨rfl, hb1⟩
  go_wp2_with fail
  refine (CN.out _ hb1).mono ?_
  rintro e w2 ⟨rfl, hb2'⟩
  have hb2 := bst hb1 hb2'
  clear hb1 hb2' CL CN
  go_wp2_with fail
  refine (CR.out _).mono ?_
  rintro e w3 ⟨rfl, hb3'⟩
  have hb3 := bst hb2 hb3'
  clear hb2 hb3' CR
  go_wp2_with fail
  refine (HCT.out _ hb3).mono ?_
  rintro e w4 ⟨ad, n, cap, F, rfl, HX, hb4'⟩
  have hb4 := bst hb3 hb4'
  have HB5 : Hid (Below w.heap.size w (w4.alloc (.cells (fltA F) 29))) := hb4.alloc hb4.size _
  clear hb3 hb4' hb4 HCT
  go_upto_region 5 with fail
  go_cut [8] from 29 to 51 (fun t wx => t = .bool nb ∧ wx = w4.alloc (.cells (fltA F) 29))
  case first =>
    rcases HX.out with ⟨rfl, hn⟩ | ⟨rfl, hF, g, kd, tx, rfl, hg, c0, c1, hnb⟩
    · clear HX
      go_wp2_with fail
      go_meet
      exact ⟨rfl, rfl⟩
    · have hF' : ((F.1 : Int) == 0) = true := by simp [hF]
      have HNB : Hid (nb = (((kd : Int) == 1) && (tx.toList == s.toList))) := hnb
      clear HX hF hnb
      cases hk : ((kd : Int) == 1)
      · have E : Hid (nb = false) := by show _ = _; rw [HNB.out, hk]; rfl
        go_wp2_with fail
        go_meet
        exact ⟨by rw [E.out], rfl⟩
      · have E : Hid (nb = (tx.toList == s.toList)) := by show _ = _; rw [HNB.out, hk]; rfl
        go_wp2_with fail
        go_meet
        exact ⟨by rw [E.out], rfl⟩
  case rest =>
    obtain ⟨hc1, hc2⟩ := hcut
    subst hc1
    subst hc2
    clear HX
    obtain ⟨W5, hW5⟩ : ∃ W5, W5 = w4.alloc (.cells (fltA F) 29) := ⟨_, rfl⟩
    rw [← hW5] at HB5 ⊢
    clear hW5
    have HZ5 : w.heap.size ≤ W5.heap.size := HB5.out.size
    have C11 : Hid (Calls Tryd.prog 11 #[] W5 fun e w' => e = .returned (.slice (some ⟨W5.heap.size, 0, none⟩) 29 29) ∧ Hid (SRow w' W5.heap.size resL ∧ W5.heap.size < w'.heap.size ∧ Below W5.heap.size W5 w')) := by
      refine (rreserved_any W5).mono ?_
      rintro e w' ⟨rfl, h1, h2⟩
      exact ⟨rfl, SRow.of_blk h1, h1.lt, h2⟩
    have C12 : Hid (∀ w1, Below w.heap.size w w1 → Calls Tryd.prog 12 #[] w1 fun e w' => e = .returned (.slice (some ⟨w1.heap.size, 0, none⟩) 29 29) ∧ Hid (SRow w' w1.heap.size resL ∧ w1.heap.size < w'.heap.size ∧ Below w1.heap.size w1 w')) := by
      show ∀ w1, _
      intro w1 h
      refine (reserved_any w1 (HT.out w1 h)).mono ?_
      rintro e w' ⟨rfl, h1, h2⟩
      exact ⟨rfl, SRow.of_blk h1, h1.lt, h2⟩
    go_wp2_with fail
    refine C11.out.mono ?_
    rintro e w6 ⟨rfl, H6⟩
    have hb6 : Below w.heap.size w w6 := bst HB5.out H6.out.2.2
    have z6 : W5.heap.size < w6.heap.size := H6.out.2.1
    go_wp2_with fail
    refine (C12.out _ hb6).mono ?_
    rintro e w7 ⟨rfl, H7⟩
    have hb7 : Below w.heap.size w w7 := bst hb6 H7.out.2.2
    have z7 : w6.heap.size < w7.heap.size := H7.out.2.1
    go_wp2_with fail
    refine (C12.out _ hb7).mono ?_
    rintro e w8 ⟨rfl, H8⟩
    have z8 : w7.heap.size < w8.heap.size := H8.out.2.1
    have HR : Hid (Rws w w8 W5.heap.size w6.heap.size w7.heap.size) := by
      have hb8 : Below w.heap.size w w8 := bst hb7 H8.out.2.2
      have s6 : SRow w8 w6.heap.size resL := H7.out.1.below H8.out.2.2 z7
      refine ⟨(H6.out.1.below H7.out.2.2 z6).below H8.out.2.2 (by omega), H8.out.1, by omega, by omega, by omega, by omega, z8, by omega, fun k hk => ⟨_, s6.1 k (resL[k]'hk) (List.getElem?_eq_getElem hk)⟩, s6.2, hb8⟩
    have HZ : Hid (W5.heap.size < w8.heap.size ∧ w7.heap.size < w8.heap.size) := ⟨by omega, z8⟩
    generalize W5.heap.size = b9 at *
    generalize w6.heap.size = b10 at *
    generalize w7.heap.size = b11 at *
    clear C11 H6 H7 H8 hb6 hb7 z6 z7 z8 HZ5 HB5
    go_wp2_with fail
    go_loopw [12] (fun i wr => ∃ k : Nat, k ≤ 29 ∧ i = .int .i64 k ∧ Rws w wr b9 b10 b11) (fun i _ => 29 - (intOf i).toNat)
    case atStart => exact ⟨0, by omega, rfl, HR.out⟩
    case round =>
      obtain ⟨k, hk, rfl, hR⟩ := hrel
      have HR1 : Hid (Rws w wr b9 b10 b11) := hR
      clear hR HR
      by_cases hlt : k < 29
      · obtain ⟨v, hv⟩ := HR1.out.one k hlt
        have hf := HR1.out.onef k
        have hk' : (k : Int) < 29 := by omega
        go_wp2
        exact ⟨⟨k + 1, by omega, by go_num, HR1.out.set k _⟩, by simp only [intOf]; omega⟩
      · have e : k = 29 := by omega
        subst e
        go_wp2_with fail
        go_loopw [13] (fun i wq => ∃ k : Nat, k ≤ 29 ∧ i = .int .i64 k ∧ Rws w wq b9 b10 b11) (fun i _ => 29 - (intOf i).toNat)
        case atStart => exact ⟨0, by omega, rfl, HR1.out⟩
        case round =>
          obtain ⟨k, hk, rfl, hR⟩ := hrel
          clear HR1
          by_cases hlt : k < 29
          · obtain ⟨t, ht⟩ : ∃ t, resL[k]? = some t := ⟨resL[k]'hlt, List.getElem?_eq_getElem hlt⟩
            have hk' : (k : Int) < 29 := by omega
            have c9 := hR.want.1 k t ht
            have c11 := hR.two.1 k t ht
            have HR2 : Hid (Rws w wr b9 b10 b11) := hR
            clear hR ht
            go_wp2
            go_region
            go_wp2
            exact ⟨⟨k + 1, by omega, by go_num, HR2.out.below (Below.refl _ _).drew⟩, by simp only [intOf]; omega⟩
          · have e : k = 29 := by omega
            subst e
            have HR2 : Hid (Rws w wr b9 b10 b11) := hR
            have hz : b9 < wr.heap.size := hR.lt9
            clear hR
            go_wp2_with fail
            refine (C12.out _ HR2.out.bel).mono ?_
            rintro e w9 ⟨rfl, H9⟩
            have HS9 : Hid (SRow w9 b9 resL ∧ SRow w9 wr.heap.size resL ∧ b9 < w9.heap.size ∧ wr.heap.size < w9.heap.size ∧ Below w.heap.size w w9) := ⟨(HR2.out.below H9.out.2.2).want, H9.out.1, by have := H9.out.2.1; omega, H9.out.2.1, (HR2.out.below H9.out.2.2).bel⟩
            generalize wr.heap.size = b14 at *
            clear H9 HR2 C12
            go_wp2_with fail
            go_loopw [15] (fun i wq => ∃ k : Nat, k ≤ 29 ∧ i = .int .i64 k ∧ Below w9.heap.size w9 wq) (fun i _ => 29 - (intOf i).toNat)
            case atStart => exact ⟨0, by omega, rfl, Below.refl _ _⟩
            case round =>
              obtain ⟨k, hk, rfl, hB⟩ := hrel
              by_cases hlt : k < 29
              · obtain ⟨t, ht⟩ : ∃ t, resL[k]? = some t := ⟨resL[k]'hlt, List.getElem?_eq_getElem hlt⟩
                have hk' : (k : Int) < 29 := by omega
                have hm : t ∈ resL := List.mem_of_getElem? ht
                have hbw : Below w.heap.size w wr := bst HS9.out.2.2.2.2 hB
                have hzz := hB.size
                have HQ : Hid (∀ wx, Below w9.heap.size w9 wx → wx.cell? ⟨b9, k, none⟩ = some (.string ⟨t.toArray⟩) ∧ wx.cell? ⟨b14, k, none⟩ = some (.string ⟨t.toArray⟩)) := fun wx h => ⟨(HS9.out.1.below h HS9.out.2.2.1).1 k t ht, (HS9.out.2.1.below h HS9.out.2.2.2.1).1 k t ht⟩
                have c14 := (HQ.out wr hB).2
                have CT : Hid (Calls Tryd.prog 10 #[.string ⟨t.toArray⟩] wr fun e w' => ∃ g cap F, e = .returned (.tuple #[.slice (some ⟨g, 0, none⟩) 1 cap, .agg (fltA F)]) ∧ F.1 = 0 ∧ g < w'.heap.size ∧ w'.cell? ⟨g, 0, none⟩ = some (.int .i64 2) ∧ Hid (Below wr.heap.size wr w')) := tok_res t hm wr (HT.out _ hbw)
                have CN : Hid (∀ w1, Below w.heap.size w w1 → Calls Tryd.prog 8 #[.string ⟨t.toArray⟩] w1 fun e w' => e = .returned (.bool false) ∧ Below w1.heap.size w1 w') := by
                  show ∀ w1, _
                  intro w1 h
                  have hl : ∀ t ∈ resL, t.length ≤ 7 := by decide
                  have := isName_any ⟨t.toArray⟩ (by show t.toArray.size ≤ _; have := hl t hm; unfold maxLen; simp; omega) w1 (HT.out w1 h)
                  simp only at this
                  rw [(res_words t hm).1] at this
                  exact this
                have HBW : Hid (Below w.heap.size w wr) := hbw
                have HBB : Hid (Below w9.heap.size w9 wr) := hB
                clear ht hm hbw hB
                go_wp2_with fail
                refine CT.out.mono ?_
                rintro e wa ⟨g, cap, F, rfl, hF, hg, cg, hba⟩
                have hF' : ((F.1 : Int) != 0) = false := by simp [hF]
                have hb1 : Below wr.heap.size wr (wa.alloc (.cells (fltA F) 29)) := hba.out.alloc hba.out.size _
                have hbx : Below w.heap.size w (wa.alloc (.cells (fltA F) 29)) := bst HBW.out hb1
                have HB1 : Hid (Below w9.heap.size w9 (wa.alloc (.cells (fltA F) 29))) := bst HBB.out hb1
                have d14 : wa.cell? ⟨b14, k, none⟩ = some (.string ⟨t.toArray⟩) := (HQ.out wa (bst HBB.out hba.out)).2
                have hl14 : b14 < wa.heap.size := World.block_lt_of_cell? _ _ d14
                clear hF hb1 hba CT HBW HBB
                go_wp2_with fail
                refine (CN.out _ hbx).mono ?_
                rintro e wb ⟨rfl, hbb⟩
                have HB2 : Hid (Below w9.heap.size w9 wb) := bst HB1.out hbb
                have e9 := (HQ.out wb HB2.out).1
                have e14 := (HQ.out wb HB2.out).2
                have eg : wb.cell? ⟨g, 0, none⟩ = some (.int .i64 2) := by
                  rw [hbb.cell (p := ⟨g, 0, none⟩) (by simp; omega), ((Below.refl wa.heap.size wa).alloc (Nat.le_refl _) _).cell (p := ⟨g, 0, none⟩) hg]; exact cg
                have ef : wb.cell? ⟨wa.heap.size, 0, none⟩ = some (.int .i64 (F.1 : Int)) := by
                  rw [hbb.cell (p := ⟨wa.heap.size, 0, none⟩) (by simp)]; simp
                clear hbb hbx HB1 d14 c14 cg
                go_wp2
                go_quiet (fail)
                go_wp2
                exact ⟨⟨k + 1, by omega, by go_num, ⟨HB2.out.os, HB2.out.tape, HB2.out.output, HB2.out.size, HB2.out.block⟩⟩, by simp only [intOf]; omega⟩
              · have e : k = 29 := by omega
                subst e
                have HBX : Hid (Below w.heap.size w wr) := bst HS9.out.2.2.2.2 hB
                clear hB
                go_wp2
                go_ret
                exact ⟨rfl, HBX.out⟩
end Go.Proofs.YtlgfpjaomiomjaaDoor
