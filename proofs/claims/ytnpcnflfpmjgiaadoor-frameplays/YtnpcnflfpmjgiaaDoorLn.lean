/- The walk of FramePlays. -/
import Derived.Test.YtnpcnflfpmjgiaaDoorLm
import Derived.Test.YtnpcnflfpmjgiaaDoorRh
import Derived.Test.YtnpcnflfpmjgiaaDoorCl
namespace Go.Proofs.YtnpcnflfpmjgiaaDoor
open Go.RowKit
set_option linter.unusedVariables false
set_option linter.unusedSimpArgs false

theorem info43 : (Tryd.prog.info? 43).map (fun i => (i.zero, i.size, i.bytes)) = some (some (.agg #[.pointer none, .pointer none]), 2, 16) := by kernel_rfl
set_option maxHeartbeats 8000000 in
set_option maxRecDepth 100000 in
theorem plays5_walk (n0 : Int) (hn0 : I64 n0) (l : List Opr) (ad : Option Addr) (c : Nat) (w : World) (hT : Tab w) (hO : OpsV w l ad) (hll : l.length * 96 ≤ 140737488351232) : Calls Tryd.prog 5 #[.int .i64 n0, .slice ad l.length c] w fun e w' => e = .returned (.bool true) ∧ Below w.heap.size w w' := by
  obtain ⟨i43, hi43, hz430, hz431, hz433⟩ := info_parts info43
  have HO : Hid (OpsV w l ad) := hO
  have HLL : Hid (l.length * 96 ≤ 140737488351232) := hll
  have HTAB : Hid (Tab w) := hT
  have CU : Hid (Calls Tryd.prog 12 #[] w fun e w' => e = .returned (.bool true) ∧ Below w.heap.size w w') := awake_any w hT
  obtain ⟨PN, hPN⟩ : ∃ PN : Nat, pickI n0 4 = (PN : Int) := ⟨(pickI n0 4).toNat, by have := pickI_range n0 4 (by omega); omega⟩
  have hP5 : (PN : Int) < 4 := by have := pickI_range n0 4 (by omega); omega
  have CP : Hid (∀ w1 : World, Calls Tryd.prog 17 #[.int .i64 n0, .int .i64 4] w1 fun e w' => e = .returned (.int .i64 (PN : Int)) ∧ w' = w1) := by
    show ∀ w1 : World, _
    intro w1
    have := pk_any n0 4 hn0 (by omega) (by omega) w1
    rw [hPN] at this
    exact this
  have CA : Hid (∀ w1 : World, w.heap.size ≤ w1.heap.size → Calls Tryd.prog 18 #[.int .i64 (1 + (PN : Int))] w1 fun e w' => ∃ (b : Nat) (fp : Nat → Prop), e = .returned (.tuple #[.pointer (some ⟨b, 0, none⟩), .int .i64 0]) ∧ Hid (Dk w.heap.size w' b fp (freshD (List.replicate (1 + PN) zero512))) ∧ Hid (∀ k, fp k → w1.heap.size ≤ k) ∧ Below w1.heap.size w1 w') := by
    show ∀ w1 : World, _
    intro w1 h
    have := new_ok (1 + PN) (by omega) (by omega) w.heap.size w1 h
    rw [show ((1 + PN : Nat) : Int) = 1 + (PN : Int) by omega] at this
    exact this
  have CB : Hid (∀ w1 : World, w.heap.size ≤ w1.heap.size → Calls Tryd.prog 19 #[.int .i64 (1 + (PN : Int))] w1 fun e w' => ∃ (b : Nat) (fp : Nat → Prop), e = .returned (.tuple #[.pointer (some ⟨b, 0, none⟩), .int .i64 0]) ∧ Hid (Rk w.heap.size w' b fp (freshD (List.replicate (1 + PN) zero512))) ∧ Hid (∀ k, fp k → w1.heap.size ≤ k) ∧ Below w1.heap.size w1 w') := by
    show ∀ w1 : World, _
    intro w1 h
    have := rnew_ok (1 + PN) (by omega) (by omega) w.heap.size w1 h
    rw [show ((1 + PN : Nat) : Int) = 1 + (PN : Int) by omega] at this
    exact this
  obtain ⟨SA, hSA⟩ : ∃ SA, SA = freshD (List.replicate (1 + PN) zero512) := ⟨_, rfl⟩
  have HSA : Hid (SA.wait.length = 0) := hSA ▸ rfl
  rw [← hSA] at CA CB
  clear hn0 hPN hO hll hSA hT
  go_enter Tryd.func5, Tryd.ntmps5
  go_wp2_with fail
  refine CU.out.mono ?_
  rintro e w1 ⟨rfl, hb1⟩
  have z1 := hb1.size
  have HB1 : Hid (Below w.heap.size w w1) := hb1
  clear hb1 CU
  go_wp2_with fail
  refine (CP.out _).mono ?_
  rintro e w1' ⟨rfl, hw⟩
  rw [hw]
  clear hw w1' CP
  go_wp2_with fail
  go_loopw [7, 8] (fun s t wa => ∃ (sv : Value) (k : Nat) (ps : List (Nat × Nat)), sv = s ∧ k ≤ 2 ∧ t = .int .i64 k ∧ ps.length = k ∧ All w.heap.size wa sv ps 0 ∧ Below w.heap.size w wa) (fun _ t _ => 2 - (intOf t).toNat)
  case atStart => exact ⟨_, 0, [], rfl, by omega, rfl, rfl, ⟨fun _ _ => False, fun _ _ => False, fun _ => SA, ⟨World.ownsRow_nil _ _ _ _, fun i p h => by simp at h, fun i j k hi => by simp at hi, fun i k hi => by simp at hi⟩⟩, HB1.out⟩
  case round =>
    clear HB1
    obtain ⟨sv, k, ps, hsv, hk, rfl, hps, hA, hB⟩ := hrel
    subst hsv
    by_cases hlt : k < 2
    · have hk' : (k : Int) < 2 := by omega
      obtain ⟨Fs, Gs, Ss, hF⟩ := hA
      have HF : Hid (Fld w.heap.size wr sv ps Fs Gs Ss 0) := hF
      have HBr : Hid (Below w.heap.size w wr) := hB
      have hzr := hB.size
      clear hF hB
      go_wp2_with fail
      refine (CA.out _ hzr).mono ?_
      rintro e w2 ⟨a, fa, rfl, dA, hfa, hb2⟩
      have z2 := hb2.size
      have HB2 : Hid (Below wr.heap.size wr w2) := hb2
      clear hb2
      go_wp2_with fail
      refine (CB.out _ (by omega)).mono ?_
      rintro e w3 ⟨b, fb, rfl, dB, hfb, hb3⟩
      have z3 := hb3.size
      have hz3 : w.heap.size ≤ w3.heap.size := by omega
      have TA : Hid (Two w.heap.size w3 a b fa fb SA SA) := ⟨dA.out.below hb3, dB.out, fun k h1 h2 => by have := (dA.out.fp k h1).2; have := hfb.out k h2; omega⟩
      have HAB : Hid (∀ k, (fa k ∨ fb k) → wr.heap.size ≤ k) := fun k h => by
        rcases h with h | h
        · exact hfa.out k h
        · have := hfb.out k h; omega
      have HF3 : Hid (Fld w.heap.size w3 sv ps Fs Gs Ss 0) := (HF.out.below HB2.out).below hb3
      have HB3 : Hid (Below w.heap.size w w3) := bstep (bstep HBr.out HB2.out (Nat.le_refl _)) hb3 (Nat.le_refl _)
      have HZF : Hid (∀ i k, i < ps.length → (Fs i k ∨ Gs i k) → k < wr.heap.size) := fun i k hi h => ((HF.out.two i _ (List.getElem?_eq_getElem hi)).1.low k h).2
      have HZV : Hid (∀ k, sv.ownBlock = some k → k < wr.heap.size) := fun k h => (HF.out.row.lt k h).2
      have HR0 : Hid ((w3.alloc (.cells #[.pointer (some ⟨a, 0, none⟩), .pointer (some ⟨b, 0, none⟩)] 43)).ownsRow w.heap.size 43 2 sv k (pcells ps)) := by
        show World.ownsRow _ _ _ _ _ _ _
        rw [← hps]; exact HF3.out.row.alloc _
      have HN0 : Hid (∀ (j : Nat) (u : Value), [Value.pointer (some ⟨a, 0, none⟩), .pointer (some ⟨b, 0, none⟩)][j]? = some u → (w3.alloc (.cells #[.pointer (some ⟨a, 0, none⟩), .pointer (some ⟨b, 0, none⟩)] 43)).cell? ((⟨w3.heap.size, 0, none⟩ : Addr).add j) = some u) := World.news_of_block (Blk.new w3 #[.pointer (some ⟨a, 0, none⟩), .pointer (some ⟨b, 0, none⟩)] 43)
      have HO0 : Hid (∀ u ∈ [Value.pointer (some ⟨a, 0, none⟩), .pointer (some ⟨b, 0, none⟩)], u.oneCell' = true) := fun u hu => by simp at hu; rcases hu with rfl | rfl <;> rfl
      have HZ0 : Hid (k + 1 ≤ maxLen ∧ w.heap.size ≤ (w3.alloc (.cells #[.pointer (some ⟨a, 0, none⟩), .pointer (some ⟨b, 0, none⟩)] 43)).heap.size) := ⟨by unfold maxLen; omega, by rw [World.size_alloc]; omega⟩
      have HZB : Hid ((k + 1) * 16 ≤ 140737488355328) := by show _ ≤ _; omega
      clear dA dB hfa hfb hb3 HF HBr HB2
      go_wp2_with (at_builtin; refine wpList_append_lies _ rfl _ _ 35 rfl w.heap.size 43 i43 (.agg #[.pointer none, .pointer none]) 2 16 Tryd.underlying35 hi43 hz430 hz431 hz433 rfl (by decide) sv k (pcells ps) rfl HR0.out ⟨w3.heap.size, 0, none⟩ 1 1 [.pointer (some ⟨a, 0, none⟩), .pointer (some ⟨b, 0, none⟩)] rfl rfl HN0.out HO0.out (by decide) HZ0.out.1 HZB.out HZ0.out.2 _ rfl ?_)
      intro g1 cap1 w4 hown1 hgr1 hwh1 hlt1
      have hKA : Kept (fun k => sv.ownBlock = some k) w3 w4 := ((Kept.refl _ _).alloc _).grown hgr1 (fun k e => e)
      have HX : Hid (All w.heap.size w4 (.slice (some ⟨g1, 0, none⟩) (k + 1) cap1) (ps ++ [(a, b)]) 0 ∧ Below w.heap.size w w4) := by
        refine ⟨Fld.push (z := wr.heap.size) HF3.out TA.out (by rw [HSA.out]; omega) HZF.out HZV.out HAB.out hKA (fun j e => ?_) ?_, HB3.out.trans (hKA.below hz3 (fun j e => (HF3.out.row.lt j e).1))⟩
        · have hj : g1 = j := by simpa [Value.ownBlock] using e
          subst hj
          rcases hwh1 with e | e
          · exact .inl e
          · right
            have : g1 = w3.heap.size + 1 := by simpa using e
            omega
        · rw [hps]; exact hown1
      have HPS : Hid ((ps ++ [(a, b)]).length = k + 1) := by
        show _ = _
        rw [List.length_append, hps]; rfl
      clear hown1 hgr1 hwh1 hKA TA HAB HF3 HB3 HZF HZV HR0 HN0 HO0 HZ0 HZB CA CB
      go_wp2
      go_roundw
      case rel => exact ⟨_, k + 1, ps ++ [(a, b)], rfl, by omega, by go_num, HPS.out, HX.out⟩
      case measure => simp [intOf]; omega
    · have hk2 : k = 2 := by omega
      subst hk2
      have hk' : ¬ (2 : Int) < 2 := by omega
      obtain ⟨gT, capT, hv⟩ : ∃ gT capT, sv = (.slice (some ⟨gT, 0, none⟩) 2 capT) := by
        obtain ⟨_, _, _, hF⟩ := hA
        rcases hF.row.2 with ⟨_, h0⟩ | ⟨g, cap, _, h1, _⟩
        · omega
        · exact ⟨g, cap, by rw [h1, hps]⟩
      subst hv
      have HPL : Hid (ps.length = 2) := hps
      have HALL : Hid (All w.heap.size wr (.slice (some ⟨gT, 0, none⟩) 2 capT) ps 0) := hA
      have HBT : Hid (Below w.heap.size w wr) := hB
      clear hA hB hps hk hlt CA CB HSA
      have hLi : (l.length : Int) ≤ 1500000000000 := by have := HLL.out; omega
      go_wp2_with fail
      go_loopw [13] (fun t wa => ∃ k : Nat, k ≤ l.length ∧ t = .int .i64 k ∧ All w.heap.size wa (.slice (some ⟨gT, 0, none⟩) 2 capT) ps k ∧ Below w.heap.size w wa) (fun t _ => l.length - (intOf t).toNat)
      case atStart => exact ⟨0, Nat.zero_le _, rfl, HALL.out, HBT.out⟩
      case round =>
        clear HALL HBT
        obtain ⟨k, hk, rfl, hA, hB⟩ := hrel
        have hzr := hB.size
        by_cases hlt : k < l.length
        · have hk' : (k : Int) < (l.length : Int) := by omega
          have hol : l[k]? = some (l[k]) := List.getElem?_eq_getElem hlt
          generalize l[k] = o at *
          obtain ⟨ob, off, rfl, hob, hcs, hok⟩ : ∃ ob off, ad = some ⟨ob, off, none⟩ ∧ ob < w.heap.size ∧ OpsAt w ob off l ∧ ∀ (i : Nat) (o : Opr), l[i]? = some o → OpOk w o := by
            rcases HO.out with h | h
            · rw [h] at hol; simp at hol
            · exact h
          have hoo := hok k o hol
          have hco := hcs k o hol
          obtain ⟨kd, on, nn, ⟨gk, gn, gi, gb⟩, ff, fs, fad, fc0⟩ := o
          obtain ⟨J, hJ⟩ : ∃ J : Nat, pickI on 2 = (J : Int) := ⟨(pickI on 2).toNat, by have := pickI_range on 2 (by omega); omega⟩
          have hJq : J < 2 := by have := pickI_range on 2 (by omega); omega
          have hJi : (J : Int) < 2 := by omega
          have C17 : Hid (∀ w1 : World, Calls Tryd.prog 17 #[.int .i64 on, .int .i64 2] w1 fun e w' => e = .returned (.int .i64 (J : Int)) ∧ w' = w1) := by
            show ∀ w1 : World, _
            intro w1
            have := pk_any on 2 hoo.1 (by omega) (by omega) w1
            rw [hJ] at this
            exact this
          obtain ⟨Fs, Gs, Ss, hF⟩ := hA
          have hp : ps[J]? = some (ps[J]'(by have := HPL.out; omega)) := List.getElem?_eq_getElem _
          generalize ps[J]'(by have := HPL.out; omega) = p at *
          obtain ⟨e1, e2⟩ := pcells_at ps J p hp
          have hrow := hF.row
          rw [HPL.out] at hrow
          have r1 := (hrow.cellAt (J * 2) (by omega)).trans e1
          have r2 := (hrow.cellAt (J * 2 + 1) (by omega)).trans e2
          have hgl : gT < wr.heap.size := (hrow.lt _ rfl).2
          have hx : ∀ (w1 : World), Below w.heap.size w w1 → w1.cell? ⟨ob, off + k * 9, none⟩ = some (.int .i64 kd) ∧ w1.cell? ⟨ob, off + k * 9 + 1, none⟩ = some (.int .i64 on) ∧ w1.cell? ⟨ob, off + k * 9 + 2, none⟩ = some (.int .i64 nn) ∧ w1.cell? ⟨ob, off + k * 9 + 3, none⟩ = some (.int .i64 gk) ∧ w1.cell? ⟨ob, off + k * 9 + 4, none⟩ = some (.int .u64 (gn : Int)) ∧ w1.cell? ⟨ob, off + k * 9 + 5, none⟩ = some (.int .i64 gi) ∧ w1.cell? ⟨ob, off + k * 9 + 6, none⟩ = some (.string gb) ∧ w1.cell? ⟨ob, off + k * 9 + 7, none⟩ = some (.int .u8 (ff.toNat : Int)) ∧ w1.cell? ⟨ob, off + k * 9 + 8, none⟩ = some (.slice fad fs.length fc0) := fun w1 hb => ⟨(hb.cell (p := ⟨ob, off + k * 9, none⟩) hob).trans (hco 0 _ rfl), (hb.cell (p := ⟨ob, off + k * 9 + 1, none⟩) hob).trans (hco 1 _ rfl), (hb.cell (p := ⟨ob, off + k * 9 + 2, none⟩) hob).trans (hco 2 _ rfl), (hb.cell (p := ⟨ob, off + k * 9 + 3, none⟩) hob).trans (hco 3 _ rfl), (hb.cell (p := ⟨ob, off + k * 9 + 4, none⟩) hob).trans (hco 4 _ rfl), (hb.cell (p := ⟨ob, off + k * 9 + 5, none⟩) hob).trans (hco 5 _ rfl), (hb.cell (p := ⟨ob, off + k * 9 + 6, none⟩) hob).trans (hco 6 _ rfl), (hb.cell (p := ⟨ob, off + k * 9 + 7, none⟩) hob).trans (hco 7 _ rfl), (hb.cell (p := ⟨ob, off + k * 9 + 8, none⟩) hob).trans (hco 8 _ rfl)⟩
          have x1 := (hx wr hB).2.1
          obtain ⟨W, hW⟩ : ∃ W, W = wr.alloc (.cells #[.pointer (some ⟨p.1, 0, none⟩), .pointer (some ⟨p.2, 0, none⟩)] 43) := ⟨_, rfl⟩
          have hbW : Below wr.heap.size wr W := hW ▸ Below_new _ _
          have hBW : Below w.heap.size w W := bstep hB hbW (Nat.le_refl _)
          have KW : Blk W wr.heap.size #[.pointer (some ⟨p.1, 0, none⟩), .pointer (some ⟨p.2, 0, none⟩)] 43 := hW ▸ Blk.new _ _ _
          obtain ⟨y0, y1, y2, y3, y4, y5, y6, y7, y8⟩ := hx W hBW
          have y10 := KW.cell 0 (v := .pointer (some ⟨p.1, 0, none⟩)) rfl
          have y11 := KW.cell 1 (v := .pointer (some ⟨p.2, 0, none⟩)) rfl
          have hobW : ob < W.heap.size := Nat.lt_of_lt_of_le hob hBW.size
          have HP : Hid (ps[J]? = some p) := hp
          have C20 : Hid (∀ w1 : World, Below W.heap.size W w1 → Calls Tryd.prog 20 #[.agg #[.pointer (some ⟨p.1, 0, none⟩), .pointer (some ⟨p.2, 0, none⟩)], .agg #[.int .i64 kd, .int .i64 on, .int .i64 nn, .int .i64 gk, .int .u64 (gn : Int), .int .i64 gi, .string gb, .int .u8 (ff.toNat : Int), .slice fad fs.length fc0]] w1 fun e w' => e = .returned (.bool true) ∧ Hid (All w.heap.size w' (.slice (some ⟨gT, 0, none⟩) 2 capT) ps (k + 1) ∧ Below w.heap.size w w') ∧ Hid (w'.cell? ⟨ob, off + k * 9, none⟩ = some (.int .i64 kd) ∧ w'.cell? ⟨ob, off + k * 9 + 1, none⟩ = some (.int .i64 on) ∧ w'.cell? ⟨ob, off + k * 9 + 2, none⟩ = some (.int .i64 nn) ∧ w'.cell? ⟨ob, off + k * 9 + 3, none⟩ = some (.int .i64 gk) ∧ w'.cell? ⟨ob, off + k * 9 + 4, none⟩ = some (.int .u64 (gn : Int)) ∧ w'.cell? ⟨ob, off + k * 9 + 5, none⟩ = some (.int .i64 gi) ∧ w'.cell? ⟨ob, off + k * 9 + 6, none⟩ = some (.string gb) ∧ w'.cell? ⟨ob, off + k * 9 + 7, none⟩ = some (.int .u8 (ff.toNat : Int)) ∧ w'.cell? ⟨ob, off + k * 9 + 8, none⟩ = some (.slice fad fs.length fc0) ∧ w'.cell? ⟨wr.heap.size, 0, none⟩ = some (.pointer (some ⟨p.1, 0, none⟩)) ∧ w'.cell? ⟨wr.heap.size, 1, none⟩ = some (.pointer (some ⟨p.2, 0, none⟩)))) := by
            show ∀ w1 : World, _
            intro w1 hb
            have hF1 := (hF.below hbW).below hb
            have hB1 : Below w.heap.size w w1 := bstep hBW hb (Nat.le_refl _)
            obtain ⟨t1, hm1⟩ := hF1.two J p hp
            have hL := HLL.out
            refine (play_any (v := w) t1 ⟨kd, on, nn, ⟨gk, gn, gi, gb⟩, ff, fs, fad, fc0⟩ hoo (HTAB.out.below hB1) HTAB.out.pos hB1.size hB1 (Nat.le_refl _) (by omega)).mono ?_
            rintro e w' ⟨h1, S', h2, h3⟩
            have hB2 : Below w.heap.size w w' := hB1.trans (TL_low t1 h2 hB1.size)
            refine ⟨h1, ⟨hF1.step J p hp h2 h3, hB2⟩, ?_⟩
            obtain ⟨z0, z1, z2, z3, z4, z5, z6, z7, z8⟩ := hx w' hB2
            obtain ⟨_, _, _, hk2, _⟩ := h2
            have KW2 := (KW.below hb).kept hk2 (fun e => by have := ((hF.two J p hp).1.low _ e).2; omega)
            exact ⟨z0, z1, z2, z3, z4, z5, z6, z7, z8, KW2.cell 0 rfl, KW2.cell 1 rfl⟩
          clear hF hrow e1 e2 hx hbW hBW KW hoo hco hcs hok hol hp hJ hB
          go_wp2_with fail
          refine (C17.out _).mono ?_
          rintro e w4 ⟨rfl, hw⟩
          rw [hw]
          clear hw C17
          go_wp2_with fail
          rw [← hW]
          clear hW
          go_region_held3 (fun w' => w'.cell? ⟨ob, off + k * 9, none⟩ = some (.int .i64 kd) ∧ w'.cell? ⟨ob, off + k * 9 + 1, none⟩ = some (.int .i64 on) ∧ w'.cell? ⟨ob, off + k * 9 + 2, none⟩ = some (.int .i64 nn) ∧ w'.cell? ⟨ob, off + k * 9 + 3, none⟩ = some (.int .i64 gk) ∧ w'.cell? ⟨ob, off + k * 9 + 4, none⟩ = some (.int .u64 (gn : Int)) ∧ w'.cell? ⟨ob, off + k * 9 + 5, none⟩ = some (.int .i64 gi) ∧ w'.cell? ⟨ob, off + k * 9 + 6, none⟩ = some (.string gb) ∧ w'.cell? ⟨ob, off + k * 9 + 7, none⟩ = some (.int .u8 (ff.toNat : Int)) ∧ w'.cell? ⟨ob, off + k * 9 + 8, none⟩ = some (.slice fad fs.length fc0) ∧ w'.cell? ⟨wr.heap.size, 0, none⟩ = some (.pointer (some ⟨p.1, 0, none⟩)) ∧ w'.cell? ⟨wr.heap.size, 1, none⟩ = some (.pointer (some ⟨p.2, 0, none⟩)))
            (first | exact hcA.out | go_keep)
            (first | (go_at_call 20; refine (C20.out _ (by exact ⟨rfl, rfl, rfl, Nat.le_refl _, fun _ _ => rfl⟩)).mono ?_; rintro e wA ⟨rfl, hTA, hcA⟩))
          obtain ⟨_, _, _, _, _, _, _, _, _, s1, s2⟩ := hcA.out
          have hpl : wr.heap.size < wA.heap.size := World.block_lt_of_cell? wA ⟨wr.heap.size, 0, none⟩ s1
          obtain ⟨⟨Fs2, Gs2, Ss2, hF2⟩, hB2⟩ := hTA.out
          have t2 := (hF2.two J p HP.out).1
          have D21 : Hid (∀ w1 : World, Below wA.heap.size wA w1 → Calls Tryd.prog 21 #[.pointer (some ⟨p.1, 0, none⟩)] w1 fun e w' => e = .returned (.agg #[.int .i64 (Ss2 J).rd, .int .i64 (Ss2 J).wr, .int .i64 (Ss2 J).fl]) ∧ Hid (Below wA.heap.size wA w')) := by
            show ∀ w1 : World, _
            intro w1 hb
            obtain ⟨g, h, cg, ch, pv, bx, _, da⟩ := (t2.below hb).da
            exact (stats_any da).mono (fun e w' ⟨h1, h2⟩ => ⟨h1, bstep hb h2 (Nat.le_refl _)⟩)
          have D22 : Hid (∀ w1 : World, Below wA.heap.size wA w1 → Calls Tryd.prog 22 #[.pointer (some ⟨p.2, 0, none⟩)] w1 fun e w' => e = .returned (.agg #[.int .i64 (Ss2 J).rd, .int .i64 (Ss2 J).wr, .int .i64 (Ss2 J).fl]) ∧ Hid (Below wA.heap.size wA w')) := by
            show ∀ w1 : World, _
            intro w1 hb
            obtain ⟨g, cg, pv, _, db⟩ := (t2.below hb).db
            exact (rstats_any db).mono (fun e w' ⟨h1, h2⟩ => ⟨h1, bstep hb h2 (Nat.le_refl _)⟩)
          have D23 : Hid (∀ w1 : World, Below wA.heap.size wA w1 → Calls Tryd.prog 23 #[.pointer (some ⟨p.1, 0, none⟩)] w1 fun e w' => e = .returned (.bool (Ss2 J).off) ∧ w' = w1) := by
            show ∀ w1 : World, _
            intro w1 hb
            obtain ⟨g, h, cg, ch, pv, bx, _, da⟩ := (t2.below hb).da
            exact off_any da
          have D24 : Hid (∀ w1 : World, Below wA.heap.size wA w1 → Calls Tryd.prog 24 #[.pointer (some ⟨p.2, 0, none⟩)] w1 fun e w' => e = .returned (.bool (Ss2 J).off) ∧ w' = w1) := by
            show ∀ w1 : World, _
            intro w1 hb
            obtain ⟨g, cg, pv, _, db⟩ := (t2.below hb).db
            exact roff_any db
          have KPP : Hid (∀ w1 : World, Below wA.heap.size wA w1 → w1.cell? ⟨wr.heap.size, 0, none⟩ = some (.pointer (some ⟨p.1, 0, none⟩)) ∧ w1.cell? ⟨wr.heap.size, 1, none⟩ = some (.pointer (some ⟨p.2, 0, none⟩))) := fun w1 hb => ⟨(hb.cell (p := ⟨wr.heap.size, 0, none⟩) hpl).trans s1, (hb.cell (p := ⟨wr.heap.size, 1, none⟩) hpl).trans s2⟩
          have HEND : Hid (∀ w1 : World, Below wA.heap.size wA w1 → All w.heap.size w1 (.slice (some ⟨gT, 0, none⟩) 2 capT) ps (k + 1) ∧ Below w.heap.size w w1) := fun w1 hb => ⟨⟨Fs2, Gs2, Ss2, hF2.below hb⟩, bstep hB2 hb (Nat.le_refl _)⟩
          clear C20 hcA hTA y0 y1 y2 y3 y4 y5 y6 y7 y8 y10 y11 x1 r1 r2 hF2 hB2 t2 HP
          generalize (Ss2 J).rd = A1 at *
          generalize (Ss2 J).wr = A2 at *
          generalize (Ss2 J).fl = A3 at *
          generalize (Ss2 J).off = A5 at *
          have heq : ∀ w : World, (binOp .neq 49 (.agg #[.int .i64 A1, .int .i64 A2, .int .i64 A3]) (.agg #[.int .i64 A1, .int .i64 A2, .int .i64 A3])).run Tryd.prog w = .ok (.bool false) w := fun w => by rw [run_neS]; simp
          go_wp2_with fail
          go_region_held3 (fun w' => w'.cell? ⟨wr.heap.size, 0, none⟩ = some (.pointer (some ⟨p.1, 0, none⟩)) ∧ w'.cell? ⟨wr.heap.size, 1, none⟩ = some (.pointer (some ⟨p.2, 0, none⟩)))
            (first | go_keep | exact KPP.out _ ⟨h6.out.os, h6.out.tape, h6.out.output, h6.out.size, h6.out.block⟩ | exact KPP.out _ ⟨h5.out.os, h5.out.tape, h5.out.output, h5.out.size, h5.out.block⟩ | exact KPP.out _ ⟨rfl, rfl, rfl, Nat.le_refl _, fun _ _ => rfl⟩)
            (first
              | (go_at_call 21; refine (D21.out _ (by exact ⟨rfl, rfl, rfl, Nat.le_refl _, fun _ _ => rfl⟩)).mono ?_; rintro e w5 ⟨rfl, h5⟩)
              | (go_at_call 22; refine (D22.out _ (by exact ⟨h5.out.os, h5.out.tape, h5.out.output, h5.out.size, h5.out.block⟩)).mono ?_; rintro e w6 ⟨rfl, h6⟩)
              | (go_at_call 23; refine (D23.out _ (by exact ⟨h6.out.os, h6.out.tape, h6.out.output, h6.out.size, h6.out.block⟩)).mono ?_; rintro e w7 ⟨rfl, hw⟩; rw [hw]; clear hw)
              | (go_at_call 24; refine (D24.out _ (by exact ⟨h6.out.os, h6.out.tape, h6.out.output, h6.out.size, h6.out.block⟩)).mono ?_; rintro e w8 ⟨rfl, hw⟩; rw [hw]; clear hw))
          have HX : Hid (All w.heap.size w6 (.slice (some ⟨gT, 0, none⟩) 2 capT) ps (k + 1) ∧ Below w.heap.size w w6) := HEND.out w6 h6.out
          clear D21 D22 D23 D24 KPP HEND h5 h6 s1 s2
          go_wp2
          go_roundw
          case rel => exact ⟨k + 1, by omega, by go_num, HX.out⟩
          case measure => simp [intOf]; omega
        · have hk' : ¬ (k : Int) < (l.length : Int) := by omega
          have hke : k = l.length := by omega
          have HA : Hid (All w.heap.size wr (.slice (some ⟨gT, 0, none⟩) 2 capT) ps k) := hA
          have HBB : Hid (Below w.heap.size w wr) := hB
          clear hA hB
          go_wp2_with fail
          go_loopw [16] (fun t wa => ∃ j : Nat, j ≤ 2 ∧ t = .int .i64 j ∧ All w.heap.size wa (.slice (some ⟨gT, 0, none⟩) 2 capT) ps k ∧ Below w.heap.size w wa) (fun t _ => 2 - (intOf t).toNat)
          case atStart => exact ⟨0, Nat.zero_le _, rfl, HA.out, HBB.out⟩
          case round =>
            obtain ⟨j, hj, rfl, hA, hB⟩ := hrel
            by_cases hlt2 : j < 2
            · have hj' : (j : Int) < 2 := by omega
              obtain ⟨Fs, Gs, Ss, hF⟩ := hA
              have hp : ps[j]? = some (ps[j]'(by have := HPL.out; omega)) := List.getElem?_eq_getElem _
              generalize ps[j]'(by have := HPL.out; omega) = p2 at *
              obtain ⟨e1, e2⟩ := pcells_at ps j p2 hp
              have hrow := hF.row
              rw [HPL.out] at hrow
              have r1 := (hrow.cellAt (j * 2) (by omega)).trans e1
              have r2 := (hrow.cellAt (j * 2 + 1) (by omega)).trans e2
              have hgl := (hrow.lt _ rfl).2
              have HF : Hid (Fld w.heap.size wr (.slice (some ⟨gT, 0, none⟩) 2 capT) ps Fs Gs Ss k) := hF
              have HP2 : Hid (ps[j]? = some p2) := hp
              have HBr : Hid (Below w.heap.size w wr) := hB
              have hfw : (Ss j).wait.length ≤ 17592186044000 := by have := (hF.two j p2 hp).2; have := HLL.out; omega
              have KR : Hid (∀ w1 : World, Below wr.heap.size wr w1 → w1.cell? ⟨gT, j * 2, none⟩ = some (.pointer (some ⟨p2.1, 0, none⟩)) ∧ w1.cell? ⟨gT, j * 2 + 1, none⟩ = some (.pointer (some ⟨p2.2, 0, none⟩))) := fun w1 hb => ⟨(hb.cell (p := ⟨gT, j * 2, none⟩) hgl).trans r1, (hb.cell (p := ⟨gT, j * 2 + 1, none⟩) hgl).trans r2⟩
              have C25 : Hid (Calls Tryd.prog 25 #[.pointer (some ⟨p2.1, 0, none⟩)] wr fun e w' => (∃ ba bc, e = .returned (.slice ba (Ss j).wait.length bc)) ∧ Hid (Below wr.heap.size wr w')) := by
                obtain ⟨g1, h1, cg1, ch1, pv1, bx1, _, d1⟩ := (hF.two j p2 hp).1.da
                exact (pending_any d1 (by omega)).mono (fun e w' ⟨h1, h2, h3⟩ => ⟨⟨_, _, h1⟩, h3⟩)
              have C26 : Hid (∀ w1 : World, Below wr.heap.size wr w1 → Calls Tryd.prog 26 #[.pointer (some ⟨p2.2, 0, none⟩)] w1 fun e w' => (∃ ba bc, e = .returned (.slice ba (Ss j).wait.length bc)) ∧ Hid (Below wr.heap.size wr w')) := by
                show ∀ w1 : World, _
                intro w1 hb
                obtain ⟨g2, cg2, pv2, _, d2⟩ := ((HF.out.two j p2 HP2.out).1.below hb).db
                refine (rpending_any d2 (by omega)).mono ?_
                rintro e w' ⟨v, h1, h2, h3⟩
                obtain ⟨ba, bc, rfl⟩ := ownsRow_slice h2
                exact ⟨⟨ba, bc, h1⟩, bstep hb h3 (Nat.le_refl _)⟩
              have C27 : Hid (∀ w1 : World, Below wr.heap.size wr w1 → Calls Tryd.prog 27 #[.pointer (some ⟨p2.1, 0, none⟩)] w1 fun e w' => e = .returned (.string (catB (Ss j).safe)) ∧ Hid (Below wr.heap.size wr w')) := by
                show ∀ w1 : World, _
                intro w1 hb
                obtain ⟨g1, h1, cg1, ch1, pv1, bx1, _, d1⟩ := ((HF.out.two j p2 HP2.out).1.below hb).da
                exact (image_any d1).mono (fun e w' ⟨h1, h2⟩ => ⟨h1, bstep hb h2 (Nat.le_refl _)⟩)
              have C28 : Hid (∀ w1 : World, Below wr.heap.size wr w1 → Calls Tryd.prog 28 #[.pointer (some ⟨p2.2, 0, none⟩)] w1 fun e w' => e = .returned (.string (catB (Ss j).safe)) ∧ Hid (Below wr.heap.size wr w')) := by
                show ∀ w1 : World, _
                intro w1 hb
                obtain ⟨g2, cg2, pv2, _, d2⟩ := ((HF.out.two j p2 HP2.out).1.below hb).db
                exact (rimage_any d2).mono (fun e w' ⟨h1, h2⟩ => ⟨h1, bstep hb h2 (Nat.le_refl _)⟩)
              have HEND : Hid (∀ w1 : World, Below wr.heap.size wr w1 → All w.heap.size w1 (.slice (some ⟨gT, 0, none⟩) 2 capT) ps k ∧ Below w.heap.size w w1) := fun w1 hb => ⟨⟨Fs, Gs, Ss, HF.out.below hb⟩, bstep HBr.out hb (Nat.le_refl _)⟩
              clear hF hrow e1 e2 hp hB HA HBB HF HBr HP2 hfw
              generalize catB (Ss j).safe = IM at *
              generalize (Ss j).wait.length = PL at *
              go_wp2_with fail
              refine C25.out.mono ?_
              rintro e w5 ⟨⟨ba, bc, rfl⟩, h5⟩
              obtain ⟨q1, q2⟩ := KR.out w5 h5.out
              have hgl5 : gT < w5.heap.size := Nat.lt_of_lt_of_le hgl h5.out.size
              clear C25 r1 r2
              go_wp2_with fail
              refine (C26.out _ h5.out).mono ?_
              rintro e w6 ⟨⟨bd, be, rfl⟩, h6⟩
              obtain ⟨q3, q4⟩ := KR.out w6 h6.out
              have hgl6 : gT < w6.heap.size := Nat.lt_of_lt_of_le hgl h6.out.size
              clear C26 q1 q2 h5
              go_wp2_with fail
              go_region_held3 (fun w' => w'.cell? ⟨gT, j * 2, none⟩ = some (.pointer (some ⟨p2.1, 0, none⟩)) ∧ w'.cell? ⟨gT, j * 2 + 1, none⟩ = some (.pointer (some ⟨p2.2, 0, none⟩)))
                (first | go_keep | exact KR.out _ h8.out | exact KR.out _ h7.out)
                (first | (go_at_call 27; refine (C27.out _ (by exact ⟨h6.out.os, h6.out.tape, h6.out.output, h6.out.size, h6.out.block⟩)).mono ?_; rintro e w7 ⟨rfl, h7⟩) | (go_at_call 28; refine (C28.out _ (by exact h7.out)).mono ?_; rintro e w8 ⟨rfl, h8⟩))
              have HX : Hid (All w.heap.size w8 (.slice (some ⟨gT, 0, none⟩) 2 capT) ps k ∧ Below w.heap.size w w8) := HEND.out w8 h8.out
              clear C27 C28 KR HEND h6 h7 h8 q3 q4
              go_wp2
              go_roundw
              case rel => exact ⟨j + 1, by omega, by go_num, HX.out⟩
              case measure => simp [intOf]; omega
            · have hj' : ¬ (j : Int) < 2 := by omega
              have HX : Hid (Below w.heap.size w wr) := hB
              clear hA hB HA HBB
              go_wp2
              go_ret
              exact ⟨rfl, HX.out⟩
end Go.Proofs.YtnpcnflfpmjgiaaDoor
