/- The walk of DiskCuts: true; older memory is as it was. -/
import Derived.Test.YtbjpphoohoedcaaCy
import Derived.Test.YtbjpphoohoedcaaCk
import Derived.Test.YtbjpphoohoedcaaOq
import Derived.Deep.DeepCutAuto
import Derived.Deep.CutBlock
namespace Go.Proofs.Ytbjpphoohoedcaa
open Go.RowKit
set_option linter.unusedVariables false
set_option linter.unusedSimpArgs false

theorem Bls.below {w w' : World} {B bb off : Nat} {l : List Bool} (h : Bls w bb off l) (hb : Below B w w') (hp : bb < B) : Bls w' bb off l := fun i b hi => (hb.cell (p := ⟨bb, off + i, none⟩) hp).trans (h i b hi)
def shortB : ByteArray := ⟨#[115, 104, 111, 114, 116]⟩
set_option maxHeartbeats 4000000 in
set_option maxRecDepth 100000 in
theorem cuts_walk (steps : Int) (hs1 : I64 steps) (fl re : List Bool) (a1 a2 : Option Addr) (c1 c2 : Nat) (w : World) (hv1 : BlsV w fl a1) (hv2 : BlsV w re a2) (hl1 : fl.length ≤ 140737488351232) (hl2 : re.length ≤ 140737488351232) :
    Calls Try.prog 8 #[.int .i64 steps, .slice a1 fl.length c1, .slice a2 re.length c2] w fun e w' => e = .returned (.bool true) ∧ Below w.heap.size w w' := by
  have hr12 := pickI_range steps 12 (by omega)
  obtain ⟨K, hK⟩ : ∃ K : Nat, 1 + pickI steps 12 = (K : Int) := ⟨(1 + pickI steps 12).toNat, by omega⟩
  have hK1 : 1 ≤ K ∧ K ≤ 12 := by omega
  have hWK : wrap64 (K : Int) = (K : Int) := wrap_small (by omega) (by omega)
  have hKb : (K : Int) ≤ 12 := by omega
  have CP : Hid (∀ w : World, Calls Try.prog 20 #[.int .i64 steps, .int .i64 12] w fun e w' => e = .returned (.int .i64 (pickI steps 12)) ∧ w' = w) := pick_any steps 12 hs1 (by omega) (by omega)
  have CN : Hid (∀ w : World, Calls Try.prog 12 #[.int .i64 3] w fun e w' => Made w.heap.size w (freshD (List.replicate 3 zero512)) e w') := fun w => new_ok 3 (by omega) (by omega) w.heap.size w (Nat.le_refl _)
  have HV1 : Hid (BlsV w fl a1) := hv1
  have HV2 : Hid (BlsV w re a2) := hv2
  have HK : Hid (1 ≤ K ∧ K ≤ 12) := hK1
  have CI0 : Hid (CI K 0 0 0 0 (cutD (freshD (List.replicate 3 zero512)) (K : Int))) := ci_start K hK1.1
  generalize freshD (List.replicate 3 zero512) = S0 at *
  generalize pickI steps 12 = P12 at *
  have hf1 : (fl.length : Int) ≤ 140737488351232 := by omega
  have hf2 : (re.length : Int) ≤ 140737488351232 := by omega
  clear hv1 hv2 hs1 hl1 hl2 hr12 hK1
  go_enter Try.func8, Try.ntmps8
  go_wp2_with fail
  refine (awake_any _).mono ?_
  rintro e w1 ⟨rfl, hb1⟩
  go_wp2_with fail
  refine (CN.out _).mono ?_
  rintro e w2 ⟨d, fd, rfl, dd, hfd, hb2⟩
  unfold pt
  have hB2 := bstep hb1 hb2 (Nat.le_refl _)
  have Z : Hid (w.heap.size ≤ w1.heap.size ∧ w1.heap.size ≤ w2.heap.size) := ⟨hb1.size, hb2.size⟩
  clear hb1 hb2 CN hfd
  go_wp2_with fail
  refine (CP.out _).mono ?_
  rintro e w3 ⟨rfl, hw⟩
  rw [hw]; clear hw CP
  have CC : Hid (Calls Try.prog 32 #[.pointer (some ⟨d, 0, none⟩), .int .i64 (K : Int)] w2 fun e w' => e = .returned (.tuple #[]) ∧ Left w1.heap.size d fd w2 (cutD S0 (K : Int)) w') := l_cut (Left.refl dd) _ (by omega)
  go_wp2_with fail
  refine CC.out.mono ?_
  rintro e w3 ⟨rfl, L3⟩
  have HL : Hid (∃ fp, Dk w1.heap.size w3 d fp (cutD S0 (K : Int))) := by obtain ⟨fp, h, _⟩ := L3; exact ⟨fp, h⟩
  have HB : Hid (Below w.heap.size w w3) := hB2.trans (L3.keeps.below hB2.size (fun k e => by have := (dd.fp k e).1; have := Z.out; omega))
  clear CC L3 dd hB2
  generalize cutD S0 (K : Int) = S1 at *
  -- each call, wherever the disk stands
  have GW : Hid (∀ (wa : World) (S : DS) (n : Int) (s : ByteArray), (∃ fp, Dk w1.heap.size wa d fp S) → Below w.heap.size w wa → s.size ≤ 512 → S.wait.length ≤ 50 → Calls Try.prog 31 #[.pointer (some ⟨d, 0, none⟩), .int .i64 n, .string s] wa fun e w' => e = .returned (.int .i64 (writeE S n s)) ∧ Hid ((∃ fp, Dk w1.heap.size w' d fp (writeD S n s)) ∧ Below w.heap.size w w')) := by
    show ∀ (wa : World) (S : DS) (n : Int) (s : ByteArray), _
    rintro wa S n s ⟨fp, h⟩ hb hs hw
    have hz : w1.heap.size ≤ wa.heap.size := by have := (h.fp _ h.own); omega
    refine (write_any h n s (by omega) (by omega) hz).mono ?_
    rintro e w' ⟨rfl, hL⟩
    have hB' : Below w.heap.size w w' := hb.trans (hL.keeps.below hb.size (fun k e => by have := (h.fp k e).1; have := Z.out; omega))
    obtain ⟨fp', hd', _⟩ := hL
    exact ⟨rfl, ⟨fp', hd'⟩, hB'⟩
  have GF : Hid (∀ (wa : World) (S : DS), (∃ fp, Dk w1.heap.size wa d fp S) → Below w.heap.size w wa → Calls Try.prog 30 #[.pointer (some ⟨d, 0, none⟩)] wa fun e w' => e = .returned (.int .i64 (flushE S)) ∧ Hid ((∃ fp, Dk w1.heap.size w' d fp (flushD S)) ∧ Below w.heap.size w w')) := by
    show ∀ (wa : World) (S : DS), _
    rintro wa S ⟨fp, h⟩ hb
    refine (flush_any h).mono ?_
    rintro e w' ⟨rfl, hL⟩
    have hB' : Below w.heap.size w w' := hb.trans (hL.keeps.below hb.size (fun k e => by have := (h.fp k e).1; have := Z.out; omega))
    obtain ⟨fp', hd', _⟩ := hL
    exact ⟨rfl, ⟨fp', hd'⟩, hB'⟩
  have GR : Hid (∀ (wa : World) (S : DS), (∃ fp, Dk w1.heap.size wa d fp S) → Below w.heap.size w wa → Calls Try.prog 28 #[.pointer (some ⟨d, 0, none⟩), .int .i64 0] wa fun e w' => e = .returned (.tuple #[.string (readS S 0), .int .i64 (refuseD S 0)]) ∧ Hid ((∃ fp, Dk w1.heap.size w' d fp (readD S 0)) ∧ Below w.heap.size w w')) := by
    show ∀ (wa : World) (S : DS), _
    rintro wa S ⟨fp, h⟩ hb
    refine (read_any h 0).mono ?_
    rintro e w' ⟨rfl, hL⟩
    have hB' : Below w.heap.size w w' := hb.trans (hL.keeps.below hb.size (fun k e => by have := (h.fp k e).1; have := Z.out; omega))
    obtain ⟨fp', hd', _⟩ := hL
    exact ⟨rfl, ⟨fp', hd'⟩, hB'⟩
  have GO : Hid (∀ (wa : World) (S : DS), (∃ fp, Dk w1.heap.size wa d fp S) → Calls Try.prog 26 #[.pointer (some ⟨d, 0, none⟩)] wa fun e w' => e = .returned (.bool S.off) ∧ w' = wa) := by
    show ∀ (wa : World) (S : DS), _
    rintro wa S ⟨fp, h⟩
    exact l_off (Left.refl h)
  have GU : Hid (∀ (b e : UInt8) (wa : World), Calls Try.prog 27 #[.int .u8 (b.toNat : Int), .int .u8 (e.toNat : Int)] wa fun r w' => r = .returned (.string (fullB b e)) ∧ Below wa.heap.size wa w') := full_any
  go_wp2_with fail
  go_loopw [11, 12, 13, 14, 15] (fun td tw tf tp ti wa => ∃ (i D W F P : Nat) (S : DS), i ≤ 40 ∧ W ≤ i ∧ F ≤ i ∧ P ≤ i ∧ td = .int .i64 D ∧ tw = .int .i64 W ∧ tf = .int .i64 F ∧ tp = .int .i64 P ∧ ti = .int .i64 i ∧ CI K D W F P S ∧ (∃ fp, Dk w1.heap.size wa d fp S) ∧ Below w.heap.size w wa) (fun _ _ _ _ ti _ => 40 - (intOf ti).toNat)
  case atStart => exact ⟨0, 0, 0, 0, 0, S1, by omega, by omega, by omega, by omega, rfl, rfl, rfl, rfl, rfl, CI0.out, HL.out, HB.out⟩
  case round =>
    obtain ⟨i, D, W, F, P, S, hi, hW, hF, hP, rfl, rfl, rfl, rfl, rfl, hC, hD, hBi⟩ := hrel
    clear HL HB CI0
    by_cases hlt : i < fl.length ∧ i < 40
    · obtain ⟨hi1, hi2⟩ := hlt
      have hi1' : (i : Int) < (fl.length : Int) := by omega
      have hi2' : (i : Int) < 40 := by omega
      have hDK : D + 1 ≤ K := hC.dk
      have hDb : (D : Int) ≤ 11 := by omega
      have HC : Hid (CI K D W F P S) := hC
      have HD : Hid (∃ fp, Dk w1.heap.size wr d fp S) := hD
      have HBi : Hid (Below w.heap.size w wr) := hBi
      have hp : fl[i]? = some (fl[i]) := List.getElem?_eq_getElem hi1
      generalize fl[i] = bf at *
      obtain ⟨fb, foff, rfl, hfl, hfs⟩ : ∃ bb off, a1 = some ⟨bb, off, none⟩ ∧ bb < w.heap.size ∧ Bls w bb off fl := by
        rcases HV1.out with h | h
        · rw [h] at hi1; simp at hi1
        · exact h
      have FC : Hid (∀ w1 : World, Below w.heap.size w w1 → w1.cell? ⟨fb, foff + i, none⟩ = some (.bool bf)) := fun w1 hb => (hfs.below hb hfl) i bf hp
      clear hp hfs hC hD hBi
      have hR : (¬ (i : Int) < (re.length : Int)) ∨ ((i : Int) < (re.length : Int) ∧ ∃ rb roff rv, a2 = some ⟨rb, roff, none⟩ ∧ wr.cell? ⟨rb, roff + i, none⟩ = some (.bool rv)) := by
        by_cases hri : i < re.length
        · right
          refine ⟨by omega, ?_⟩
          rcases HV2.out with h | ⟨rb, roff, h1, h2, h3⟩
          · rw [h] at hri; simp at hri
          · exact ⟨rb, roff, re[i], h1, (h3.below HBi.out h2) i _ (List.getElem?_eq_getElem hri)⟩
        · left; omega
      rcases hR with hR | ⟨hR, rb, roff, rv, rfl, hrc⟩
      · go_upto_if 70 with fail
        go_cut [] (fun wc => (∃ fp, Dk w1.heap.size wc d fp S) ∧ Below w.heap.size w wc)
        case first =>
          go_wp2
          go_meet
          exact ⟨HD.out, HBi.out⟩
        case rest =>
          obtain ⟨hDx, hBx⟩ := hcut
          have HDx : Hid (∃ fp, Dk w1.heap.size wc d fp S) := hDx
          have HBx : Hid (Below w.heap.size w wc) := hBx
          have hc0 := FC.out wc hBx
          clear hDx hBx HD HBi
          by_cases hDD : D + 1 < K
          · have hge : ¬ (K : Int) - 1 ≤ (D : Int) := by omega
            cases bf
            · obtain ⟨m, hm⟩ : ∃ m : Nat, pickI (i : Int) 3 = (m : Int) := ⟨(pickI (i : Int) 3).toNat, by have := pickI_range (i : Int) 3 (by omega); omega⟩
              have hm3 : m < 3 := by have := pickI_range (i : Int) 3 (by omega); omega
              have CPi : Hid (∀ w : World, Calls Try.prog 20 #[.int .i64 (i : Int), .int .i64 3] w fun e w' => e = .returned (.int .i64 (m : Int)) ∧ w' = w) := by
                show ∀ w : World, _
                intro w; rw [← hm]; exact pick_any (i : Int) 3 ⟨by omega, by omega⟩ (by omega) (by omega) w
              obtain ⟨o1, o2, o3⟩ := HC.out.write_yes hDD (by omega) m hm3 (fullB (UInt8.ofNat i) 9) (fullB_size _ _)
              have CU : Hid (∀ (wa : World), Calls Try.prog 27 #[.int .u8 (i : Int), .int .u8 9] wa fun r w' => r = .returned (.string (fullB (UInt8.ofNat i) 9)) ∧ Below wa.heap.size wa w') := by
                show ∀ wa : World, _
                intro wa
                have := GU.out (UInt8.ofNat i) 9 wa
                rw [show ((UInt8.ofNat i).toNat : Int) = (i : Int) by rw [UInt8.toNat_ofNat']; omega] at this
                exact this
              have OP : Hid (∀ wa : World, Below wc.heap.size wc wa → Calls Try.prog 31 #[.pointer (some ⟨d, 0, none⟩), .int .i64 (m : Int), .string (fullB (UInt8.ofNat i) 9)] wa fun e w' => e = .returned (.int .i64 0) ∧ Hid ((∃ fp, Dk w1.heap.size w' d fp (writeD S (m : Int) (fullB (UInt8.ofNat i) 9))) ∧ Below w.heap.size w w')) := by
                show ∀ wa : World, _
                intro wa hb
                obtain ⟨fp, hd⟩ := HDx.out
                have := GW.out wa S (m : Int) (fullB (UInt8.ofNat i) 9) ⟨fp, hd.below hb⟩ (bstep HBx.out hb (Nat.le_refl _)) (by rw [fullB_size]; omega) (by rw [HC.out.pe]; omega)
                rw [o1] at this
                exact this
              generalize writeD S (m : Int) (fullB (UInt8.ofNat i) 9) = S' at *
              generalize fullB (UInt8.ofNat i) 9 = q at *
              have HC' : Hid (CI K (D + 1) (W + 1) F (P + 1) S') := o2
              have HO' : Hid (S'.off = false) := o3
              have hi8 : IntKind.u8.wrap (i : Int) = (i : Int) := by rw [IntKind.wrap_u8]; omega
              clear o1 o2 o3 hm
              go_wp2_with fail
              refine (CPi.out _).mono ?_
              rintro e x0 ⟨rfl, hw⟩
              rw [hw]; clear hw
              go_wp2_with fail
              refine (CU.out _).mono ?_
              rintro e x0 ⟨rfl, hb0⟩
              go_wp2_with fail
              refine (OP.out _ hb0).mono ?_
              rintro e x1 ⟨rfl, hx1⟩
              clear CPi CU hb0
              have HD1 : Hid (∃ fp, Dk w1.heap.size x1 d fp S') := hx1.out.1
              have HB1 : Hid (Below w.heap.size w x1) := hx1.out.2
              have OF : Hid (Calls Try.prog 26 #[.pointer (some ⟨d, 0, none⟩)] x1 fun e w' => e = .returned (.bool false) ∧ w' = x1) := by
                have := GO.out x1 S' HD1.out
                rw [HO'.out] at this
                exact this
              have hc1 := FC.out x1 HB1.out
              clear hx1 OP HDx HBx HC
              go_wp2_with fail
              refine OF.out.mono ?_
              rintro e x2 ⟨rfl, hw⟩
              rw [hw]; clear hw OF
              go_wp2
              go_roundw
              case rel => exact ⟨i + 1, D + 1, W + 1, F, P + 1, S', by omega, by omega, by omega, by omega, by go_num, by go_num, rfl, by go_num, by go_num, HC'.out, HD1.out, HB1.out⟩
              case measure => simp [intOf]; omega
            · obtain ⟨o1, o2, o3⟩ := HC.out.flush_yes hDD (by omega)
              have OP : Hid (Calls Try.prog 30 #[.pointer (some ⟨d, 0, none⟩)] wc fun e w' => e = .returned (.int .i64 0) ∧ Hid ((∃ fp, Dk w1.heap.size w' d fp (flushD S)) ∧ Below w.heap.size w w')) := by
                have := GF.out wc S HDx.out HBx.out
                rw [o1] at this
                exact this
              generalize flushD S = S' at *
              have HC' : Hid (CI K (D + 1) W (F + 1) 0 S') := o2
              have HO' : Hid (S'.off = false) := o3
              clear o1 o2 o3
              go_wp2_with fail
              refine OP.out.mono ?_
              rintro e x1 ⟨rfl, hx1⟩
              have HD1 : Hid (∃ fp, Dk w1.heap.size x1 d fp S') := hx1.out.1
              have HB1 : Hid (Below w.heap.size w x1) := hx1.out.2
              have OF : Hid (Calls Try.prog 26 #[.pointer (some ⟨d, 0, none⟩)] x1 fun e w' => e = .returned (.bool false) ∧ w' = x1) := by
                have := GO.out x1 S' HD1.out
                rw [HO'.out] at this
                exact this
              have hc1 := FC.out x1 HB1.out
              clear hx1 OP HDx HBx HC
              go_wp2_with fail
              refine OF.out.mono ?_
              rintro e x2 ⟨rfl, hw⟩
              rw [hw]; clear hw OF
              go_wp2
              go_roundw
              case rel => exact ⟨i + 1, D + 1, W, F + 1, 0, S', by omega, by omega, by omega, by omega, by go_num, rfl, by go_num, rfl, by go_num, HC'.out, HD1.out, HB1.out⟩
              case measure => simp [intOf]; omega
          · have hge : (K : Int) - 1 ≤ (D : Int) := by omega
            cases bf
            · obtain ⟨m, hm⟩ : ∃ m : Nat, pickI (i : Int) 3 = (m : Int) := ⟨(pickI (i : Int) 3).toNat, by have := pickI_range (i : Int) 3 (by omega); omega⟩
              have hm3 : m < 3 := by have := pickI_range (i : Int) 3 (by omega); omega
              have CPi : Hid (∀ w : World, Calls Try.prog 20 #[.int .i64 (i : Int), .int .i64 3] w fun e w' => e = .returned (.int .i64 (m : Int)) ∧ w' = w) := by
                show ∀ w : World, _
                intro w; rw [← hm]; exact pick_any (i : Int) 3 ⟨by omega, by omega⟩ (by omega) (by omega) w
              obtain ⟨o1, o2, o3⟩ := HC.out.write_no (by omega) m hm3 (fullB (UInt8.ofNat i) 9) (fullB_size _ _)
              have CU : Hid (∀ (wa : World), Calls Try.prog 27 #[.int .u8 (i : Int), .int .u8 9] wa fun r w' => r = .returned (.string (fullB (UInt8.ofNat i) 9)) ∧ Below wa.heap.size wa w') := by
                show ∀ wa : World, _
                intro wa
                have := GU.out (UInt8.ofNat i) 9 wa
                rw [show ((UInt8.ofNat i).toNat : Int) = (i : Int) by rw [UInt8.toNat_ofNat']; omega] at this
                exact this
              have OP : Hid (∀ wa : World, Below wc.heap.size wc wa → Calls Try.prog 31 #[.pointer (some ⟨d, 0, none⟩), .int .i64 (m : Int), .string (fullB (UInt8.ofNat i) 9)] wa fun e w' => e = .returned (.int .i64 40) ∧ Hid ((∃ fp, Dk w1.heap.size w' d fp (writeD S (m : Int) (fullB (UInt8.ofNat i) 9))) ∧ Below w.heap.size w w')) := by
                show ∀ wa : World, _
                intro wa hb
                obtain ⟨fp, hd⟩ := HDx.out
                have := GW.out wa S (m : Int) (fullB (UInt8.ofNat i) 9) ⟨fp, hd.below hb⟩ (bstep HBx.out hb (Nat.le_refl _)) (by rw [fullB_size]; omega) (by rw [HC.out.pe]; omega)
                rw [o1] at this
                exact this
              generalize writeD S (m : Int) (fullB (UInt8.ofNat i) 9) = S' at *
              generalize fullB (UInt8.ofNat i) 9 = q at *
              have HC' : Hid (CI K D W F P S') := o2
              have HO' : Hid (S'.off = true) := o3
              have hi8 : IntKind.u8.wrap (i : Int) = (i : Int) := by rw [IntKind.wrap_u8]; omega
              clear o1 o2 o3 hm
              go_wp2_with fail
              refine (CPi.out _).mono ?_
              rintro e x0 ⟨rfl, hw⟩
              rw [hw]; clear hw
              go_wp2_with fail
              refine (CU.out _).mono ?_
              rintro e x0 ⟨rfl, hb0⟩
              go_wp2_with fail
              refine (OP.out _ hb0).mono ?_
              rintro e x1 ⟨rfl, hx1⟩
              clear CPi CU hb0
              have HD1 : Hid (∃ fp, Dk w1.heap.size x1 d fp S') := hx1.out.1
              have HB1 : Hid (Below w.heap.size w x1) := hx1.out.2
              have OF : Hid (Calls Try.prog 26 #[.pointer (some ⟨d, 0, none⟩)] x1 fun e w' => e = .returned (.bool true) ∧ w' = x1) := by
                have := GO.out x1 S' HD1.out
                rw [HO'.out] at this
                exact this
              have hc1 := FC.out x1 HB1.out
              clear hx1 OP HDx HBx HC
              go_wp2_with fail
              refine OF.out.mono ?_
              rintro e x2 ⟨rfl, hw⟩
              rw [hw]; clear hw OF
              have OR : Hid (Calls Try.prog 28 #[.pointer (some ⟨d, 0, none⟩), .int .i64 0] x1 fun e w' => e = .returned (.tuple #[.string ⟨#[]⟩, .int .i64 40]) ∧ Hid ((∃ fp, Dk w1.heap.size w' d fp S') ∧ Below w.heap.size w w')) := by
                have := GR.out x1 S' HD1.out HB1.out
                obtain ⟨q1, q2, q3⟩ := HC'.out.read HO'.out
                rw [q1, q2, q3] at this
                exact this
              clear HD1 HB1
              go_wp2_with fail
              refine OR.out.mono ?_
              rintro e x3 ⟨rfl, hx3⟩
              clear OR
              go_wp2
              go_roundw
              case rel => exact ⟨i + 1, D, W, F, P, S', by omega, by omega, by omega, by omega, rfl, rfl, rfl, rfl, by go_num, HC'.out, hx3.out.1, hx3.out.2⟩
              case measure => simp [intOf]; omega
            · obtain ⟨o1, o2, o3⟩ := HC.out.flush_no (by omega)
              have OP : Hid (Calls Try.prog 30 #[.pointer (some ⟨d, 0, none⟩)] wc fun e w' => e = .returned (.int .i64 40) ∧ Hid ((∃ fp, Dk w1.heap.size w' d fp (flushD S)) ∧ Below w.heap.size w w')) := by
                have := GF.out wc S HDx.out HBx.out
                rw [o1] at this
                exact this
              generalize flushD S = S' at *
              have HC' : Hid (CI K D W F P S') := o2
              have HO' : Hid (S'.off = true) := o3
              clear o1 o2 o3
              go_wp2_with fail
              refine OP.out.mono ?_
              rintro e x1 ⟨rfl, hx1⟩
              have HD1 : Hid (∃ fp, Dk w1.heap.size x1 d fp S') := hx1.out.1
              have HB1 : Hid (Below w.heap.size w x1) := hx1.out.2
              have OF : Hid (Calls Try.prog 26 #[.pointer (some ⟨d, 0, none⟩)] x1 fun e w' => e = .returned (.bool true) ∧ w' = x1) := by
                have := GO.out x1 S' HD1.out
                rw [HO'.out] at this
                exact this
              have hc1 := FC.out x1 HB1.out
              clear hx1 OP HDx HBx HC
              go_wp2_with fail
              refine OF.out.mono ?_
              rintro e x2 ⟨rfl, hw⟩
              rw [hw]; clear hw OF
              have OR : Hid (Calls Try.prog 28 #[.pointer (some ⟨d, 0, none⟩), .int .i64 0] x1 fun e w' => e = .returned (.tuple #[.string ⟨#[]⟩, .int .i64 40]) ∧ Hid ((∃ fp, Dk w1.heap.size w' d fp S') ∧ Below w.heap.size w w')) := by
                have := GR.out x1 S' HD1.out HB1.out
                obtain ⟨q1, q2, q3⟩ := HC'.out.read HO'.out
                rw [q1, q2, q3] at this
                exact this
              clear HD1 HB1
              go_wp2_with fail
              refine OR.out.mono ?_
              rintro e x3 ⟨rfl, hx3⟩
              clear OR
              go_wp2
              go_roundw
              case rel => exact ⟨i + 1, D, W, F, P, S', by omega, by omega, by omega, by omega, rfl, rfl, rfl, rfl, by go_num, HC'.out, hx3.out.1, hx3.out.2⟩
              case measure => simp [intOf]; omega
      · cases rv
        · go_upto_if 70 with fail
          go_cut [] (fun wc => (∃ fp, Dk w1.heap.size wc d fp S) ∧ Below w.heap.size w wc)
          case first =>
            go_wp2
            go_meet
            exact ⟨HD.out, HBi.out⟩
          case rest =>
            obtain ⟨hDx, hBx⟩ := hcut
            have HDx : Hid (∃ fp, Dk w1.heap.size wc d fp S) := hDx
            have HBx : Hid (Below w.heap.size w wc) := hBx
            have hc0 := FC.out wc hBx
            clear hDx hBx HD HBi
            by_cases hDD : D + 1 < K
            · have hge : ¬ (K : Int) - 1 ≤ (D : Int) := by omega
              cases bf
              · obtain ⟨m, hm⟩ : ∃ m : Nat, pickI (i : Int) 3 = (m : Int) := ⟨(pickI (i : Int) 3).toNat, by have := pickI_range (i : Int) 3 (by omega); omega⟩
                have hm3 : m < 3 := by have := pickI_range (i : Int) 3 (by omega); omega
                have CPi : Hid (∀ w : World, Calls Try.prog 20 #[.int .i64 (i : Int), .int .i64 3] w fun e w' => e = .returned (.int .i64 (m : Int)) ∧ w' = w) := by
                  show ∀ w : World, _
                  intro w; rw [← hm]; exact pick_any (i : Int) 3 ⟨by omega, by omega⟩ (by omega) (by omega) w
                obtain ⟨o1, o2, o3⟩ := HC.out.write_yes hDD (by omega) m hm3 (fullB (UInt8.ofNat i) 9) (fullB_size _ _)
                have CU : Hid (∀ (wa : World), Calls Try.prog 27 #[.int .u8 (i : Int), .int .u8 9] wa fun r w' => r = .returned (.string (fullB (UInt8.ofNat i) 9)) ∧ Below wa.heap.size wa w') := by
                  show ∀ wa : World, _
                  intro wa
                  have := GU.out (UInt8.ofNat i) 9 wa
                  rw [show ((UInt8.ofNat i).toNat : Int) = (i : Int) by rw [UInt8.toNat_ofNat']; omega] at this
                  exact this
                have OP : Hid (∀ wa : World, Below wc.heap.size wc wa → Calls Try.prog 31 #[.pointer (some ⟨d, 0, none⟩), .int .i64 (m : Int), .string (fullB (UInt8.ofNat i) 9)] wa fun e w' => e = .returned (.int .i64 0) ∧ Hid ((∃ fp, Dk w1.heap.size w' d fp (writeD S (m : Int) (fullB (UInt8.ofNat i) 9))) ∧ Below w.heap.size w w')) := by
                  show ∀ wa : World, _
                  intro wa hb
                  obtain ⟨fp, hd⟩ := HDx.out
                  have := GW.out wa S (m : Int) (fullB (UInt8.ofNat i) 9) ⟨fp, hd.below hb⟩ (bstep HBx.out hb (Nat.le_refl _)) (by rw [fullB_size]; omega) (by rw [HC.out.pe]; omega)
                  rw [o1] at this
                  exact this
                generalize writeD S (m : Int) (fullB (UInt8.ofNat i) 9) = S' at *
                generalize fullB (UInt8.ofNat i) 9 = q at *
                have HC' : Hid (CI K (D + 1) (W + 1) F (P + 1) S') := o2
                have HO' : Hid (S'.off = false) := o3
                have hi8 : IntKind.u8.wrap (i : Int) = (i : Int) := by rw [IntKind.wrap_u8]; omega
                clear o1 o2 o3 hm
                go_wp2_with fail
                refine (CPi.out _).mono ?_
                rintro e x0 ⟨rfl, hw⟩
                rw [hw]; clear hw
                go_wp2_with fail
                refine (CU.out _).mono ?_
                rintro e x0 ⟨rfl, hb0⟩
                go_wp2_with fail
                refine (OP.out _ hb0).mono ?_
                rintro e x1 ⟨rfl, hx1⟩
                clear CPi CU hb0
                have HD1 : Hid (∃ fp, Dk w1.heap.size x1 d fp S') := hx1.out.1
                have HB1 : Hid (Below w.heap.size w x1) := hx1.out.2
                have OF : Hid (Calls Try.prog 26 #[.pointer (some ⟨d, 0, none⟩)] x1 fun e w' => e = .returned (.bool false) ∧ w' = x1) := by
                  have := GO.out x1 S' HD1.out
                  rw [HO'.out] at this
                  exact this
                have hc1 := FC.out x1 HB1.out
                clear hx1 OP HDx HBx HC
                go_wp2_with fail
                refine OF.out.mono ?_
                rintro e x2 ⟨rfl, hw⟩
                rw [hw]; clear hw OF
                go_wp2
                go_roundw
                case rel => exact ⟨i + 1, D + 1, W + 1, F, P + 1, S', by omega, by omega, by omega, by omega, by go_num, by go_num, rfl, by go_num, by go_num, HC'.out, HD1.out, HB1.out⟩
                case measure => simp [intOf]; omega
              · obtain ⟨o1, o2, o3⟩ := HC.out.flush_yes hDD (by omega)
                have OP : Hid (Calls Try.prog 30 #[.pointer (some ⟨d, 0, none⟩)] wc fun e w' => e = .returned (.int .i64 0) ∧ Hid ((∃ fp, Dk w1.heap.size w' d fp (flushD S)) ∧ Below w.heap.size w w')) := by
                  have := GF.out wc S HDx.out HBx.out
                  rw [o1] at this
                  exact this
                generalize flushD S = S' at *
                have HC' : Hid (CI K (D + 1) W (F + 1) 0 S') := o2
                have HO' : Hid (S'.off = false) := o3
                clear o1 o2 o3
                go_wp2_with fail
                refine OP.out.mono ?_
                rintro e x1 ⟨rfl, hx1⟩
                have HD1 : Hid (∃ fp, Dk w1.heap.size x1 d fp S') := hx1.out.1
                have HB1 : Hid (Below w.heap.size w x1) := hx1.out.2
                have OF : Hid (Calls Try.prog 26 #[.pointer (some ⟨d, 0, none⟩)] x1 fun e w' => e = .returned (.bool false) ∧ w' = x1) := by
                  have := GO.out x1 S' HD1.out
                  rw [HO'.out] at this
                  exact this
                have hc1 := FC.out x1 HB1.out
                clear hx1 OP HDx HBx HC
                go_wp2_with fail
                refine OF.out.mono ?_
                rintro e x2 ⟨rfl, hw⟩
                rw [hw]; clear hw OF
                go_wp2
                go_roundw
                case rel => exact ⟨i + 1, D + 1, W, F + 1, 0, S', by omega, by omega, by omega, by omega, by go_num, rfl, by go_num, rfl, by go_num, HC'.out, HD1.out, HB1.out⟩
                case measure => simp [intOf]; omega
            · have hge : (K : Int) - 1 ≤ (D : Int) := by omega
              cases bf
              · obtain ⟨m, hm⟩ : ∃ m : Nat, pickI (i : Int) 3 = (m : Int) := ⟨(pickI (i : Int) 3).toNat, by have := pickI_range (i : Int) 3 (by omega); omega⟩
                have hm3 : m < 3 := by have := pickI_range (i : Int) 3 (by omega); omega
                have CPi : Hid (∀ w : World, Calls Try.prog 20 #[.int .i64 (i : Int), .int .i64 3] w fun e w' => e = .returned (.int .i64 (m : Int)) ∧ w' = w) := by
                  show ∀ w : World, _
                  intro w; rw [← hm]; exact pick_any (i : Int) 3 ⟨by omega, by omega⟩ (by omega) (by omega) w
                obtain ⟨o1, o2, o3⟩ := HC.out.write_no (by omega) m hm3 (fullB (UInt8.ofNat i) 9) (fullB_size _ _)
                have CU : Hid (∀ (wa : World), Calls Try.prog 27 #[.int .u8 (i : Int), .int .u8 9] wa fun r w' => r = .returned (.string (fullB (UInt8.ofNat i) 9)) ∧ Below wa.heap.size wa w') := by
                  show ∀ wa : World, _
                  intro wa
                  have := GU.out (UInt8.ofNat i) 9 wa
                  rw [show ((UInt8.ofNat i).toNat : Int) = (i : Int) by rw [UInt8.toNat_ofNat']; omega] at this
                  exact this
                have OP : Hid (∀ wa : World, Below wc.heap.size wc wa → Calls Try.prog 31 #[.pointer (some ⟨d, 0, none⟩), .int .i64 (m : Int), .string (fullB (UInt8.ofNat i) 9)] wa fun e w' => e = .returned (.int .i64 40) ∧ Hid ((∃ fp, Dk w1.heap.size w' d fp (writeD S (m : Int) (fullB (UInt8.ofNat i) 9))) ∧ Below w.heap.size w w')) := by
                  show ∀ wa : World, _
                  intro wa hb
                  obtain ⟨fp, hd⟩ := HDx.out
                  have := GW.out wa S (m : Int) (fullB (UInt8.ofNat i) 9) ⟨fp, hd.below hb⟩ (bstep HBx.out hb (Nat.le_refl _)) (by rw [fullB_size]; omega) (by rw [HC.out.pe]; omega)
                  rw [o1] at this
                  exact this
                generalize writeD S (m : Int) (fullB (UInt8.ofNat i) 9) = S' at *
                generalize fullB (UInt8.ofNat i) 9 = q at *
                have HC' : Hid (CI K D W F P S') := o2
                have HO' : Hid (S'.off = true) := o3
                have hi8 : IntKind.u8.wrap (i : Int) = (i : Int) := by rw [IntKind.wrap_u8]; omega
                clear o1 o2 o3 hm
                go_wp2_with fail
                refine (CPi.out _).mono ?_
                rintro e x0 ⟨rfl, hw⟩
                rw [hw]; clear hw
                go_wp2_with fail
                refine (CU.out _).mono ?_
                rintro e x0 ⟨rfl, hb0⟩
                go_wp2_with fail
                refine (OP.out _ hb0).mono ?_
                rintro e x1 ⟨rfl, hx1⟩
                clear CPi CU hb0
                have HD1 : Hid (∃ fp, Dk w1.heap.size x1 d fp S') := hx1.out.1
                have HB1 : Hid (Below w.heap.size w x1) := hx1.out.2
                have OF : Hid (Calls Try.prog 26 #[.pointer (some ⟨d, 0, none⟩)] x1 fun e w' => e = .returned (.bool true) ∧ w' = x1) := by
                  have := GO.out x1 S' HD1.out
                  rw [HO'.out] at this
                  exact this
                have hc1 := FC.out x1 HB1.out
                clear hx1 OP HDx HBx HC
                go_wp2_with fail
                refine OF.out.mono ?_
                rintro e x2 ⟨rfl, hw⟩
                rw [hw]; clear hw OF
                have OR : Hid (Calls Try.prog 28 #[.pointer (some ⟨d, 0, none⟩), .int .i64 0] x1 fun e w' => e = .returned (.tuple #[.string ⟨#[]⟩, .int .i64 40]) ∧ Hid ((∃ fp, Dk w1.heap.size w' d fp S') ∧ Below w.heap.size w w')) := by
                  have := GR.out x1 S' HD1.out HB1.out
                  obtain ⟨q1, q2, q3⟩ := HC'.out.read HO'.out
                  rw [q1, q2, q3] at this
                  exact this
                clear HD1 HB1
                go_wp2_with fail
                refine OR.out.mono ?_
                rintro e x3 ⟨rfl, hx3⟩
                clear OR
                go_wp2
                go_roundw
                case rel => exact ⟨i + 1, D, W, F, P, S', by omega, by omega, by omega, by omega, rfl, rfl, rfl, rfl, by go_num, HC'.out, hx3.out.1, hx3.out.2⟩
                case measure => simp [intOf]; omega
              · obtain ⟨o1, o2, o3⟩ := HC.out.flush_no (by omega)
                have OP : Hid (Calls Try.prog 30 #[.pointer (some ⟨d, 0, none⟩)] wc fun e w' => e = .returned (.int .i64 40) ∧ Hid ((∃ fp, Dk w1.heap.size w' d fp (flushD S)) ∧ Below w.heap.size w w')) := by
                  have := GF.out wc S HDx.out HBx.out
                  rw [o1] at this
                  exact this
                generalize flushD S = S' at *
                have HC' : Hid (CI K D W F P S') := o2
                have HO' : Hid (S'.off = true) := o3
                clear o1 o2 o3
                go_wp2_with fail
                refine OP.out.mono ?_
                rintro e x1 ⟨rfl, hx1⟩
                have HD1 : Hid (∃ fp, Dk w1.heap.size x1 d fp S') := hx1.out.1
                have HB1 : Hid (Below w.heap.size w x1) := hx1.out.2
                have OF : Hid (Calls Try.prog 26 #[.pointer (some ⟨d, 0, none⟩)] x1 fun e w' => e = .returned (.bool true) ∧ w' = x1) := by
                  have := GO.out x1 S' HD1.out
                  rw [HO'.out] at this
                  exact this
                have hc1 := FC.out x1 HB1.out
                clear hx1 OP HDx HBx HC
                go_wp2_with fail
                refine OF.out.mono ?_
                rintro e x2 ⟨rfl, hw⟩
                rw [hw]; clear hw OF
                have OR : Hid (Calls Try.prog 28 #[.pointer (some ⟨d, 0, none⟩), .int .i64 0] x1 fun e w' => e = .returned (.tuple #[.string ⟨#[]⟩, .int .i64 40]) ∧ Hid ((∃ fp, Dk w1.heap.size w' d fp S') ∧ Below w.heap.size w w')) := by
                  have := GR.out x1 S' HD1.out HB1.out
                  obtain ⟨q1, q2, q3⟩ := HC'.out.read HO'.out
                  rw [q1, q2, q3] at this
                  exact this
                clear HD1 HB1
                go_wp2_with fail
                refine OR.out.mono ?_
                rintro e x3 ⟨rfl, hx3⟩
                clear OR
                go_wp2
                go_roundw
                case rel => exact ⟨i + 1, D, W, F, P, S', by omega, by omega, by omega, by omega, rfl, rfl, rfl, rfl, by go_num, HC'.out, hx3.out.1, hx3.out.2⟩
                case measure => simp [intOf]; omega
        · go_upto_if 70 with fail
          go_cut [] (fun wc => (∃ fp, Dk w1.heap.size wc d fp S) ∧ Below w.heap.size w wc)
          case first =>
            have GU12 : Hid (∀ (wa : World), Calls Try.prog 27 #[.int .u8 1, .int .u8 2] wa fun r w' => r = .returned (.string (fullB 1 2)) ∧ Below wa.heap.size wa w') := GU.out 1 2
            cases hso : S.off
            · have r3 : writeE S 3 (fullB 1 2) = 41 ∧ writeD S 3 (fullB 1 2) = S := by have := HC.out.refused (fullB 1 2); rw [hso] at this; exact this
              have r0 : writeE S 0 shortB = 42 ∧ writeD S 0 shortB = S := by have := HC.out.short shortB (by decide); rw [hso] at this; exact this
              have W3 : Hid (∀ wa : World, (∃ fp, Dk w1.heap.size wa d fp S) → Below w.heap.size w wa → Calls Try.prog 31 #[.pointer (some ⟨d, 0, none⟩), .int .i64 3, .string (fullB 1 2)] wa fun e w' => e = .returned (.int .i64 41) ∧ Hid ((∃ fp, Dk w1.heap.size w' d fp S) ∧ Below w.heap.size w w')) := by
                show ∀ wa : World, _
                intro wa h1 h2
                have := GW.out wa S 3 (fullB 1 2) h1 h2 (by rw [fullB_size]; omega) (by rw [HC.out.pe]; omega)
                rw [r3.1, r3.2] at this
                exact this
              have W0 : Hid (∀ wa : World, (∃ fp, Dk w1.heap.size wa d fp S) → Below w.heap.size w wa → Calls Try.prog 31 #[.pointer (some ⟨d, 0, none⟩), .int .i64 0, .string ⟨#[115, 104, 111, 114, 116]⟩] wa fun e w' => e = .returned (.int .i64 42) ∧ Hid ((∃ fp, Dk w1.heap.size w' d fp S) ∧ Below w.heap.size w w')) := by
                show ∀ wa : World, _
                intro wa h1 h2
                have := GW.out wa S 0 shortB h1 h2 (by decide) (by rw [HC.out.pe]; omega)
                rw [r0.1, r0.2] at this
                exact this
              have O1 : Hid (∀ wa : World, (∃ fp, Dk w1.heap.size wa d fp S) → Calls Try.prog 26 #[.pointer (some ⟨d, 0, none⟩)] wa fun e w' => e = .returned (.bool false) ∧ w' = wa) := by
                show ∀ wa : World, _
                intro wa h1
                have := GO.out wa S h1
                rw [hso] at this
                exact this
              clear r3 r0
              generalize fullB 1 2 = F12 at *
              go_wp2_with fail
              refine (GU12.out _).mono ?_
              rintro e x1 ⟨rfl, hb⟩
              have HB1 : Hid (Below w.heap.size w x1) := bstep HBi.out hb (Nat.le_refl _)
              have HD1 : Hid (∃ fp, Dk w1.heap.size x1 d fp S) := by obtain ⟨fp, h⟩ := HD.out; exact ⟨fp, h.below hb⟩
              clear hb GU12
              go_wp2_with fail
              refine (W3.out _ HD1.out HB1.out).mono ?_
              rintro e x2 ⟨rfl, hx2⟩
              clear HD1 HB1
              go_wp2_with fail
              refine (W0.out _ hx2.out.1 hx2.out.2).mono ?_
              rintro e x3 ⟨rfl, hx3⟩
              clear hx2
              go_wp2_with fail
              refine (O1.out _ hx3.out.1).mono ?_
              rintro e x4 ⟨rfl, hw⟩
              rw [hw]; clear hw
              go_wp2_with fail
              refine (O1.out _ hx3.out.1).mono ?_
              rintro e x4 ⟨rfl, hw⟩
              rw [hw]; clear hw
              go_wp2
              go_meet
              exact hx3.out
            · have r3 : writeE S 3 (fullB 1 2) = 40 ∧ writeD S 3 (fullB 1 2) = S := by have := HC.out.refused (fullB 1 2); rw [hso] at this; exact this
              have r0 : writeE S 0 shortB = 40 ∧ writeD S 0 shortB = S := by have := HC.out.short shortB (by decide); rw [hso] at this; exact this
              have W3 : Hid (∀ wa : World, (∃ fp, Dk w1.heap.size wa d fp S) → Below w.heap.size w wa → Calls Try.prog 31 #[.pointer (some ⟨d, 0, none⟩), .int .i64 3, .string (fullB 1 2)] wa fun e w' => e = .returned (.int .i64 40) ∧ Hid ((∃ fp, Dk w1.heap.size w' d fp S) ∧ Below w.heap.size w w')) := by
                show ∀ wa : World, _
                intro wa h1 h2
                have := GW.out wa S 3 (fullB 1 2) h1 h2 (by rw [fullB_size]; omega) (by rw [HC.out.pe]; omega)
                rw [r3.1, r3.2] at this
                exact this
              have W0 : Hid (∀ wa : World, (∃ fp, Dk w1.heap.size wa d fp S) → Below w.heap.size w wa → Calls Try.prog 31 #[.pointer (some ⟨d, 0, none⟩), .int .i64 0, .string ⟨#[115, 104, 111, 114, 116]⟩] wa fun e w' => e = .returned (.int .i64 40) ∧ Hid ((∃ fp, Dk w1.heap.size w' d fp S) ∧ Below w.heap.size w w')) := by
                show ∀ wa : World, _
                intro wa h1 h2
                have := GW.out wa S 0 shortB h1 h2 (by decide) (by rw [HC.out.pe]; omega)
                rw [r0.1, r0.2] at this
                exact this
              have O1 : Hid (∀ wa : World, (∃ fp, Dk w1.heap.size wa d fp S) → Calls Try.prog 26 #[.pointer (some ⟨d, 0, none⟩)] wa fun e w' => e = .returned (.bool true) ∧ w' = wa) := by
                show ∀ wa : World, _
                intro wa h1
                have := GO.out wa S h1
                rw [hso] at this
                exact this
              clear r3 r0
              generalize fullB 1 2 = F12 at *
              go_wp2_with fail
              refine (GU12.out _).mono ?_
              rintro e x1 ⟨rfl, hb⟩
              have HB1 : Hid (Below w.heap.size w x1) := bstep HBi.out hb (Nat.le_refl _)
              have HD1 : Hid (∃ fp, Dk w1.heap.size x1 d fp S) := by obtain ⟨fp, h⟩ := HD.out; exact ⟨fp, h.below hb⟩
              clear hb GU12
              go_wp2_with fail
              refine (W3.out _ HD1.out HB1.out).mono ?_
              rintro e x2 ⟨rfl, hx2⟩
              clear HD1 HB1
              go_wp2_with fail
              refine (W0.out _ hx2.out.1 hx2.out.2).mono ?_
              rintro e x3 ⟨rfl, hx3⟩
              clear hx2
              go_wp2_with fail
              refine (O1.out _ hx3.out.1).mono ?_
              rintro e x4 ⟨rfl, hw⟩
              rw [hw]; clear hw
              go_wp2_with fail
              refine (O1.out _ hx3.out.1).mono ?_
              rintro e x4 ⟨rfl, hw⟩
              rw [hw]; clear hw
              go_wp2
              go_meet
              exact hx3.out
          case rest =>
            obtain ⟨hDx, hBx⟩ := hcut
            have HDx : Hid (∃ fp, Dk w1.heap.size wc d fp S) := hDx
            have HBx : Hid (Below w.heap.size w wc) := hBx
            have hc0 := FC.out wc hBx
            clear hDx hBx HD HBi
            by_cases hDD : D + 1 < K
            · have hge : ¬ (K : Int) - 1 ≤ (D : Int) := by omega
              cases bf
              · obtain ⟨m, hm⟩ : ∃ m : Nat, pickI (i : Int) 3 = (m : Int) := ⟨(pickI (i : Int) 3).toNat, by have := pickI_range (i : Int) 3 (by omega); omega⟩
                have hm3 : m < 3 := by have := pickI_range (i : Int) 3 (by omega); omega
                have CPi : Hid (∀ w : World, Calls Try.prog 20 #[.int .i64 (i : Int), .int .i64 3] w fun e w' => e = .returned (.int .i64 (m : Int)) ∧ w' = w) := by
                  show ∀ w : World, _
                  intro w; rw [← hm]; exact pick_any (i : Int) 3 ⟨by omega, by omega⟩ (by omega) (by omega) w
                obtain ⟨o1, o2, o3⟩ := HC.out.write_yes hDD (by omega) m hm3 (fullB (UInt8.ofNat i) 9) (fullB_size _ _)
                have CU : Hid (∀ (wa : World), Calls Try.prog 27 #[.int .u8 (i : Int), .int .u8 9] wa fun r w' => r = .returned (.string (fullB (UInt8.ofNat i) 9)) ∧ Below wa.heap.size wa w') := by
                  show ∀ wa : World, _
                  intro wa
                  have := GU.out (UInt8.ofNat i) 9 wa
                  rw [show ((UInt8.ofNat i).toNat : Int) = (i : Int) by rw [UInt8.toNat_ofNat']; omega] at this
                  exact this
                have OP : Hid (∀ wa : World, Below wc.heap.size wc wa → Calls Try.prog 31 #[.pointer (some ⟨d, 0, none⟩), .int .i64 (m : Int), .string (fullB (UInt8.ofNat i) 9)] wa fun e w' => e = .returned (.int .i64 0) ∧ Hid ((∃ fp, Dk w1.heap.size w' d fp (writeD S (m : Int) (fullB (UInt8.ofNat i) 9))) ∧ Below w.heap.size w w')) := by
                  show ∀ wa : World, _
                  intro wa hb
                  obtain ⟨fp, hd⟩ := HDx.out
                  have := GW.out wa S (m : Int) (fullB (UInt8.ofNat i) 9) ⟨fp, hd.below hb⟩ (bstep HBx.out hb (Nat.le_refl _)) (by rw [fullB_size]; omega) (by rw [HC.out.pe]; omega)
                  rw [o1] at this
                  exact this
                generalize writeD S (m : Int) (fullB (UInt8.ofNat i) 9) = S' at *
                generalize fullB (UInt8.ofNat i) 9 = q at *
                have HC' : Hid (CI K (D + 1) (W + 1) F (P + 1) S') := o2
                have HO' : Hid (S'.off = false) := o3
                have hi8 : IntKind.u8.wrap (i : Int) = (i : Int) := by rw [IntKind.wrap_u8]; omega
                clear o1 o2 o3 hm
                go_wp2_with fail
                refine (CPi.out _).mono ?_
                rintro e x0 ⟨rfl, hw⟩
                rw [hw]; clear hw
                go_wp2_with fail
                refine (CU.out _).mono ?_
                rintro e x0 ⟨rfl, hb0⟩
                go_wp2_with fail
                refine (OP.out _ hb0).mono ?_
                rintro e x1 ⟨rfl, hx1⟩
                clear CPi CU hb0
                have HD1 : Hid (∃ fp, Dk w1.heap.size x1 d fp S') := hx1.out.1
                have HB1 : Hid (Below w.heap.size w x1) := hx1.out.2
                have OF : Hid (Calls Try.prog 26 #[.pointer (some ⟨d, 0, none⟩)] x1 fun e w' => e = .returned (.bool false) ∧ w' = x1) := by
                  have := GO.out x1 S' HD1.out
                  rw [HO'.out] at this
                  exact this
                have hc1 := FC.out x1 HB1.out
                clear hx1 OP HDx HBx HC
                go_wp2_with fail
                refine OF.out.mono ?_
                rintro e x2 ⟨rfl, hw⟩
                rw [hw]; clear hw OF
                go_wp2
                go_roundw
                case rel => exact ⟨i + 1, D + 1, W + 1, F, P + 1, S', by omega, by omega, by omega, by omega, by go_num, by go_num, rfl, by go_num, by go_num, HC'.out, HD1.out, HB1.out⟩
                case measure => simp [intOf]; omega
              · obtain ⟨o1, o2, o3⟩ := HC.out.flush_yes hDD (by omega)
                have OP : Hid (Calls Try.prog 30 #[.pointer (some ⟨d, 0, none⟩)] wc fun e w' => e = .returned (.int .i64 0) ∧ Hid ((∃ fp, Dk w1.heap.size w' d fp (flushD S)) ∧ Below w.heap.size w w')) := by
                  have := GF.out wc S HDx.out HBx.out
                  rw [o1] at this
                  exact this
                generalize flushD S = S' at *
                have HC' : Hid (CI K (D + 1) W (F + 1) 0 S') := o2
                have HO' : Hid (S'.off = false) := o3
                clear o1 o2 o3
                go_wp2_with fail
                refine OP.out.mono ?_
                rintro e x1 ⟨rfl, hx1⟩
                have HD1 : Hid (∃ fp, Dk w1.heap.size x1 d fp S') := hx1.out.1
                have HB1 : Hid (Below w.heap.size w x1) := hx1.out.2
                have OF : Hid (Calls Try.prog 26 #[.pointer (some ⟨d, 0, none⟩)] x1 fun e w' => e = .returned (.bool false) ∧ w' = x1) := by
                  have := GO.out x1 S' HD1.out
                  rw [HO'.out] at this
                  exact this
                have hc1 := FC.out x1 HB1.out
                clear hx1 OP HDx HBx HC
                go_wp2_with fail
                refine OF.out.mono ?_
                rintro e x2 ⟨rfl, hw⟩
                rw [hw]; clear hw OF
                go_wp2
                go_roundw
                case rel => exact ⟨i + 1, D + 1, W, F + 1, 0, S', by omega, by omega, by omega, by omega, by go_num, rfl, by go_num, rfl, by go_num, HC'.out, HD1.out, HB1.out⟩
                case measure => simp [intOf]; omega
            · have hge : (K : Int) - 1 ≤ (D : Int) := by omega
              cases bf
              · obtain ⟨m, hm⟩ : ∃ m : Nat, pickI (i : Int) 3 = (m : Int) := ⟨(pickI (i : Int) 3).toNat, by have := pickI_range (i : Int) 3 (by omega); omega⟩
                have hm3 : m < 3 := by have := pickI_range (i : Int) 3 (by omega); omega
                have CPi : Hid (∀ w : World, Calls Try.prog 20 #[.int .i64 (i : Int), .int .i64 3] w fun e w' => e = .returned (.int .i64 (m : Int)) ∧ w' = w) := by
                  show ∀ w : World, _
                  intro w; rw [← hm]; exact pick_any (i : Int) 3 ⟨by omega, by omega⟩ (by omega) (by omega) w
                obtain ⟨o1, o2, o3⟩ := HC.out.write_no (by omega) m hm3 (fullB (UInt8.ofNat i) 9) (fullB_size _ _)
                have CU : Hid (∀ (wa : World), Calls Try.prog 27 #[.int .u8 (i : Int), .int .u8 9] wa fun r w' => r = .returned (.string (fullB (UInt8.ofNat i) 9)) ∧ Below wa.heap.size wa w') := by
                  show ∀ wa : World, _
                  intro wa
                  have := GU.out (UInt8.ofNat i) 9 wa
                  rw [show ((UInt8.ofNat i).toNat : Int) = (i : Int) by rw [UInt8.toNat_ofNat']; omega] at this
                  exact this
                have OP : Hid (∀ wa : World, Below wc.heap.size wc wa → Calls Try.prog 31 #[.pointer (some ⟨d, 0, none⟩), .int .i64 (m : Int), .string (fullB (UInt8.ofNat i) 9)] wa fun e w' => e = .returned (.int .i64 40) ∧ Hid ((∃ fp, Dk w1.heap.size w' d fp (writeD S (m : Int) (fullB (UInt8.ofNat i) 9))) ∧ Below w.heap.size w w')) := by
                  show ∀ wa : World, _
                  intro wa hb
                  obtain ⟨fp, hd⟩ := HDx.out
                  have := GW.out wa S (m : Int) (fullB (UInt8.ofNat i) 9) ⟨fp, hd.below hb⟩ (bstep HBx.out hb (Nat.le_refl _)) (by rw [fullB_size]; omega) (by rw [HC.out.pe]; omega)
                  rw [o1] at this
                  exact this
                generalize writeD S (m : Int) (fullB (UInt8.ofNat i) 9) = S' at *
                generalize fullB (UInt8.ofNat i) 9 = q at *
                have HC' : Hid (CI K D W F P S') := o2
                have HO' : Hid (S'.off = true) := o3
                have hi8 : IntKind.u8.wrap (i : Int) = (i : Int) := by rw [IntKind.wrap_u8]; omega
                clear o1 o2 o3 hm
                go_wp2_with fail
                refine (CPi.out _).mono ?_
                rintro e x0 ⟨rfl, hw⟩
                rw [hw]; clear hw
                go_wp2_with fail
                refine (CU.out _).mono ?_
                rintro e x0 ⟨rfl, hb0⟩
                go_wp2_with fail
                refine (OP.out _ hb0).mono ?_
                rintro e x1 ⟨rfl, hx1⟩
                clear CPi CU hb0
                have HD1 : Hid (∃ fp, Dk w1.heap.size x1 d fp S') := hx1.out.1
                have HB1 : Hid (Below w.heap.size w x1) := hx1.out.2
                have OF : Hid (Calls Try.prog 26 #[.pointer (some ⟨d, 0, none⟩)] x1 fun e w' => e = .returned (.bool true) ∧ w' = x1) := by
                  have := GO.out x1 S' HD1.out
                  rw [HO'.out] at this
                  exact this
                have hc1 := FC.out x1 HB1.out
                clear hx1 OP HDx HBx HC
                go_wp2_with fail
                refine OF.out.mono ?_
                rintro e x2 ⟨rfl, hw⟩
                rw [hw]; clear hw OF
                have OR : Hid (Calls Try.prog 28 #[.pointer (some ⟨d, 0, none⟩), .int .i64 0] x1 fun e w' => e = .returned (.tuple #[.string ⟨#[]⟩, .int .i64 40]) ∧ Hid ((∃ fp, Dk w1.heap.size w' d fp S') ∧ Below w.heap.size w w')) := by
                  have := GR.out x1 S' HD1.out HB1.out
                  obtain ⟨q1, q2, q3⟩ := HC'.out.read HO'.out
                  rw [q1, q2, q3] at this
                  exact this
                clear HD1 HB1
                go_wp2_with fail
                refine OR.out.mono ?_
                rintro e x3 ⟨rfl, hx3⟩
                clear OR
                go_wp2
                go_roundw
                case rel => exact ⟨i + 1, D, W, F, P, S', by omega, by omega, by omega, by omega, rfl, rfl, rfl, rfl, by go_num, HC'.out, hx3.out.1, hx3.out.2⟩
                case measure => simp [intOf]; omega
              · obtain ⟨o1, o2, o3⟩ := HC.out.flush_no (by omega)
                have OP : Hid (Calls Try.prog 30 #[.pointer (some ⟨d, 0, none⟩)] wc fun e w' => e = .returned (.int .i64 40) ∧ Hid ((∃ fp, Dk w1.heap.size w' d fp (flushD S)) ∧ Below w.heap.size w w')) := by
                  have := GF.out wc S HDx.out HBx.out
                  rw [o1] at this
                  exact this
                generalize flushD S = S' at *
                have HC' : Hid (CI K D W F P S') := o2
                have HO' : Hid (S'.off = true) := o3
                clear o1 o2 o3
                go_wp2_with fail
                refine OP.out.mono ?_
                rintro e x1 ⟨rfl, hx1⟩
                have HD1 : Hid (∃ fp, Dk w1.heap.size x1 d fp S') := hx1.out.1
                have HB1 : Hid (Below w.heap.size w x1) := hx1.out.2
                have OF : Hid (Calls Try.prog 26 #[.pointer (some ⟨d, 0, none⟩)] x1 fun e w' => e = .returned (.bool true) ∧ w' = x1) := by
                  have := GO.out x1 S' HD1.out
                  rw [HO'.out] at this
                  exact this
                have hc1 := FC.out x1 HB1.out
                clear hx1 OP HDx HBx HC
                go_wp2_with fail
                refine OF.out.mono ?_
                rintro e x2 ⟨rfl, hw⟩
                rw [hw]; clear hw OF
                have OR : Hid (Calls Try.prog 28 #[.pointer (some ⟨d, 0, none⟩), .int .i64 0] x1 fun e w' => e = .returned (.tuple #[.string ⟨#[]⟩, .int .i64 40]) ∧ Hid ((∃ fp, Dk w1.heap.size w' d fp S') ∧ Below w.heap.size w w')) := by
                  have := GR.out x1 S' HD1.out HB1.out
                  obtain ⟨q1, q2, q3⟩ := HC'.out.read HO'.out
                  rw [q1, q2, q3] at this
                  exact this
                clear HD1 HB1
                go_wp2_with fail
                refine OR.out.mono ?_
                rintro e x3 ⟨rfl, hx3⟩
                clear OR
                go_wp2
                go_roundw
                case rel => exact ⟨i + 1, D, W, F, P, S', by omega, by omega, by omega, by omega, rfl, rfl, rfl, rfl, by go_num, HC'.out, hx3.out.1, hx3.out.2⟩
                case measure => simp [intOf]; omega
    · have hlt2 : (¬ (i : Int) < (fl.length : Int)) ∨ ((i : Int) < (fl.length : Int) ∧ ¬ (i : Int) < 40) := by omega
      have HC : Hid (CI K D W F P S) := hC
      have HD : Hid (∃ fp, Dk w1.heap.size wr d fp S) := hD
      have HBi : Hid (Below w.heap.size w wr) := hBi
      have ST : Hid (Calls Try.prog 33 #[.pointer (some ⟨d, 0, none⟩)] wr fun e w' => e = .returned (.agg #[.int .i64 0, .int .i64 (W : Int), .int .i64 (F : Int)]) ∧ Below wr.heap.size wr w') := by
        obtain ⟨fp, h⟩ := hD
        have := l_stats (Left.refl h)
        rw [hC.rd, hC.wr, hC.fl] at this
        exact this
      have heq : ∀ w : World, (binOp .neq 67 (.agg #[.int .i64 0, .int .i64 (W : Int), .int .i64 (F : Int)]) (.agg #[.int .i64 0, .int .i64 (W : Int), .int .i64 (F : Int)])).run Try.prog w = .ok (.bool false) w := fun w => by rw [run_neS]; simp
      have PE : Hid (∀ wa : World, Below wr.heap.size wr wa → Calls Try.prog 24 #[.pointer (some ⟨d, 0, none⟩)] wa fun e w' => (∃ z : Nat, e = .returned (.slice (some ⟨z, 0, none⟩) P P)) ∧ Below wa.heap.size wa w') := by
        show ∀ wa : World, _
        intro wa hb
        obtain ⟨fp, h⟩ := hD
        have := l_pending (Left.refl (h.below hb)) (by rw [hC.pe]; omega)
        rw [hC.pe] at this
        exact this.mono (by rintro e w' ⟨rfl, _, h2⟩; exact ⟨⟨_, rfl⟩, h2⟩)
      have CU7 : Hid (∀ (wa : World), Calls Try.prog 27 #[.int .u8 7, .int .u8 7] wa fun r w' => r = .returned (.string (fullB 7 7)) ∧ Below wa.heap.size wa w') := GU.out 7 7
      obtain ⟨q1, q2, q3, q4, q5, q6⟩ := hC.after (fullB 7 7) (fullB_size _ _)
      have HF7 : Hid ((fullB 7 7).size = 512) := fullB_size _ _
      have CR : Hid (∀ wa : World, Below wr.heap.size wr wa → Calls Try.prog 25 #[.pointer (some ⟨d, 0, none⟩), .slice none 0 0] wa fun e w' => e = .returned (.tuple #[]) ∧ Hid ((∃ fp, Dk w1.heap.size w' d fp (crashD S [])) ∧ Below w.heap.size w w')) := by
        show ∀ wa : World, _
        intro wa hb
        obtain ⟨fp, h⟩ := hD
        refine (l_crash_none (Left.refl (h.below hb)) 0).mono ?_
        rintro e w' ⟨rfl, hL⟩
        have hB1 := bstep hBi hb (Nat.le_refl _)
        have hB' : Below w.heap.size w w' := hB1.trans (hL.keeps.below hB1.size (fun k e => by have := ((h.below hb).fp k e).1; have := Z.out; omega))
        obtain ⟨fp', hd', _⟩ := hL
        exact ⟨rfl, ⟨fp', hd'⟩, hB'⟩
      have WW : Hid (∀ wa : World, (∃ fp, Dk w1.heap.size wa d fp (crashD S [])) → Below w.heap.size w wa → Calls Try.prog 31 #[.pointer (some ⟨d, 0, none⟩), .int .i64 0, .string (fullB 7 7)] wa fun e w' => e = .returned (.int .i64 0) ∧ Hid ((∃ fp, Dk w1.heap.size w' d fp (writeD (crashD S []) 0 (fullB 7 7))) ∧ Below w.heap.size w w')) := by
        show ∀ wa : World, _
        intro wa h1 h2
        have := GW.out wa (crashD S []) 0 (fullB 7 7) h1 h2 (by rw [HF7.out]; omega) (by rw [q6]; omega)
        rw [q1] at this
        exact this
      have FF : Hid (∀ wa : World, (∃ fp, Dk w1.heap.size wa d fp (writeD (crashD S []) 0 (fullB 7 7))) → Below w.heap.size w wa → Calls Try.prog 30 #[.pointer (some ⟨d, 0, none⟩)] wa fun e w' => e = .returned (.int .i64 0) ∧ Hid ((∃ fp, Dk w1.heap.size w' d fp (flushD (writeD (crashD S []) 0 (fullB 7 7)))) ∧ Below w.heap.size w w')) := by
        show ∀ wa : World, _
        intro wa h1 h2
        have := GF.out wa _ h1 h2
        rw [q2] at this
        exact this
      have RR : Hid (∀ wa : World, (∃ fp, Dk w1.heap.size wa d fp (flushD (writeD (crashD S []) 0 (fullB 7 7)))) → Below w.heap.size w wa → Calls Try.prog 28 #[.pointer (some ⟨d, 0, none⟩), .int .i64 0] wa fun e w' => e = .returned (.tuple #[.string (fullB 7 7), .int .i64 0]) ∧ Hid ((∃ fp, Dk w1.heap.size w' d fp (readD (flushD (writeD (crashD S []) 0 (fullB 7 7))) 0)) ∧ Below w.heap.size w w')) := by
        show ∀ wa : World, _
        intro wa h1 h2
        have := GR.out wa _ h1 h2
        rw [q3, q4] at this
        exact this
      have OO : Hid (∀ wa : World, (∃ fp, Dk w1.heap.size wa d fp (readD (flushD (writeD (crashD S []) 0 (fullB 7 7))) 0)) → Calls Try.prog 26 #[.pointer (some ⟨d, 0, none⟩)] wa fun e w' => e = .returned (.bool false) ∧ w' = wa) := by
        show ∀ wa : World, _
        intro wa h1
        have := GO.out wa _ h1
        rw [q5] at this
        exact this
      clear q1 q2 q3 q4 q5 q6 hC hD hBi GW GF GR GO GU hlt HC HD
      generalize readD (flushD (writeD (crashD S []) 0 (fullB 7 7))) 0 = T4 at *
      generalize flushD (writeD (crashD S []) 0 (fullB 7 7)) = T3 at *
      generalize writeD (crashD S []) 0 (fullB 7 7) = T2 at *
      generalize crashD S [] = T1 at *
      generalize fullB 7 7 = F7 at *
      rcases hlt2 with h1 | ⟨h1, h2⟩
      all_goals
        go_wp2_with fail
        refine ST.out.mono ?_
        rintro e y1 ⟨rfl, hy1⟩
        go_wp2_with fail
        refine (PE.out _ hy1).mono ?_
        rintro e y2 ⟨⟨z, rfl⟩, hy2⟩
        have hy12 := bstep hy1 hy2 (Nat.le_refl _)
        go_wp2_with fail
        refine (CR.out _ hy12).mono ?_
        rintro e y3 ⟨rfl, hy3⟩
        clear hy1 hy2 hy12 ST PE CR HBi
        go_wp2_with fail
        refine (CU7.out _).mono ?_
        rintro e y4 ⟨rfl, hb4⟩
        have h3 : Hid ((∃ fp, Dk w1.heap.size y4 d fp T1) ∧ Below w.heap.size w y4) := by
          obtain ⟨⟨fp, h⟩, hb⟩ := hy3.out
          exact ⟨⟨fp, h.below hb4⟩, bstep hb hb4 (Nat.le_refl _)⟩
        clear hy3 hb4
        go_wp2_with fail
        refine (WW.out _ h3.out.1 h3.out.2).mono ?_
        rintro e y5 ⟨rfl, hy5⟩
        go_wp2_with fail
        refine (FF.out _ hy5.out.1 hy5.out.2).mono ?_
        rintro e y6 ⟨rfl, hy6⟩
        go_wp2_with fail
        refine (RR.out _ hy6.out.1 hy6.out.2).mono ?_
        rintro e y7 ⟨rfl, hy7⟩
        clear h3 hy5 hy6 WW FF RR
        go_wp2_with fail
        refine (CU7.out _).mono ?_
        rintro e y8 ⟨rfl, hb8⟩
        have h8 : Hid ((∃ fp, Dk w1.heap.size y8 d fp T4) ∧ Below w.heap.size w y8) := by
          obtain ⟨⟨fp, h⟩, hb⟩ := hy7.out
          exact ⟨⟨fp, h.below hb8⟩, bstep hb hb8 (Nat.le_refl _)⟩
        clear hy7 hb8 CU7
        go_wp2_with fail
        refine (OO.out _ h8.out.1).mono ?_
        rintro e y9 ⟨rfl, hw⟩
        rw [hw]; clear hw OO
        go_wp2
        go_ret
        exact ⟨rfl, h8.out.2⟩
end Go.Proofs.Ytbjpphoohoedcaa
