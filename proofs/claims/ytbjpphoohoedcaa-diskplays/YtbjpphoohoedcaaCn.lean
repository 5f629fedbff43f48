/- The statements' helper 'written': a disk over which writes went, the first ones flushed. -/
import Derived.Test.YtbjpphoohoedcaaCm
namespace Go.Proofs.Ytbjpphoohoedcaa
open Go.RowKit
set_option linter.unusedVariables false
set_option linter.unusedSimpArgs false

/-- The disk behind the first k of the first writes, and behind the first k of the others. -/
def wS1 (n : Nat) (ps : List Pu) (k : Nat) : DS := ⟨List.replicate n zero512, (ps.take k).map (lw n), false, 0, 0, (k : Int), 0⟩
def wS2 (n : Nat) (ps qs : List Pu) (k : Nat) : DS := ⟨over (List.replicate n zero512) (ps.map (lw n)), (qs.take k).map (lw n), false, 0, 0, ((ps.length + k : Nat) : Int), 1⟩
theorem wS1_succ {n : Nat} (ps : List Pu) {k m : Nat} {p : Pu} (hp : ps[k]? = some p) (hm : pickI p.n (n : Int) = (m : Int)) (hk : k ≤ 17592186044416) :
    ({ wS1 n ps k with wait := (wS1 n ps k).wait ++ [(m, fullB p.f p.e)], wr := wrap64 ((wS1 n ps k).wr + 1) } : DS) = wS1 n ps (k + 1) := by
  have ht : (ps.take (k + 1)).map (lw n) = (ps.take k).map (lw n) ++ [(m, fullB p.f p.e)] := by
    rw [List.take_add_one, hp]; simp [lw, hm]
  have hw : wrap64 ((k : Int) + 1) = ((k + 1 : Nat) : Int) := by rw [wrap_small (by omega) (by omega)]; omega
  unfold wS1
  simp only [ht, hw]
theorem wS2_succ {n : Nat} (ps qs : List Pu) {k m : Nat} {p : Pu} (hp : qs[k]? = some p) (hm : pickI p.n (n : Int) = (m : Int)) (hk : ps.length + k ≤ 35184372088832) :
    ({ wS2 n ps qs k with wait := (wS2 n ps qs k).wait ++ [(m, fullB p.f p.e)], wr := wrap64 ((wS2 n ps qs k).wr + 1) } : DS) = wS2 n ps qs (k + 1) := by
  have ht : (qs.take (k + 1)).map (lw n) = (qs.take k).map (lw n) ++ [(m, fullB p.f p.e)] := by
    rw [List.take_add_one, hp]; simp [lw, hm]
  have hw : wrap64 (((ps.length + k : Nat) : Int) + 1) = ((ps.length + (k + 1) : Nat) : Int) := by rw [wrap_small (by omega) (by omega)]; omega
  unfold wS2
  simp only [ht, hw]
theorem wS1_flush (n : Nat) (ps qs : List Pu) (hl : ps.length ≤ 17592186044416) : flushE (wS1 n ps ps.length) = 0 ∧ flushD (wS1 n ps ps.length) = wS2 n ps qs 0 := by
  have h := flush_live (S := wS1 n ps ps.length) rfl rfl
  refine ⟨h.1, ?_⟩
  rw [h.2]
  unfold wS2 wS1 DS.shown
  simp [wrap64]

/-- A disk that was written comes out. -/
def Wrote (w : World) (S : DS) (e : Ending) (w' : World) : Prop := ∃ b fp, e = .returned (pt b) ∧ Dk w.heap.size w' b fp S ∧ Below w.heap.size w w'
set_option maxHeartbeats 4000000 in
set_option maxRecDepth 100000 in
theorem written_all (n : Nat) (h1 : 1 ≤ n) (h2 : n ≤ 4096) (ps qs : List Pu) (a1 a2 : Option Addr) (c1 c2 : Nat) (w : World) (hv1 : PtsV w ps a1) (hv2 : PtsV w qs a2) (hl1 : ps.length ≤ 8796093022208) (hl2 : qs.length ≤ 8796093022208) :
    Calls Try.prog 23 #[.int .i64 n, .slice a1 ps.length c1, .slice a2 qs.length c2] w fun e w' => Wrote w (wS2 n ps qs qs.length) e w' := by
  have CN : Hid (Calls Try.prog 12 #[.int .i64 (n : Int)] w fun e w' => Made w.heap.size w (wS1 n ps 0) e w') := by
    have := new_ok n h1 h2 w.heap.size w (Nat.le_refl _)
    rw [show wS1 n ps 0 = freshD (List.replicate n zero512) by unfold wS1 freshD; simp]
    exact this
  have HV1 : Hid (PtsV w ps a1) := hv1
  have HV2 : Hid (PtsV w qs a2) := hv2
  have HFL : Hid (flushE (wS1 n ps ps.length) = 0 ∧ flushD (wS1 n ps ps.length) = wS2 n ps qs 0) := wS1_flush n ps qs (by omega)
  clear hv1 hv2
  go_enter Try.func23, Try.ntmps23
  go_wp2_with fail
  refine CN.out.mono ?_
  rintro e w1 ⟨b, fp0, rfl, hd, hfp, hb1⟩
  have HD1 : Hid (∃ fp, Dk w.heap.size w1 b fp (wS1 n ps 0)) := ⟨fp0, hd⟩
  have HB1 : Hid (Below w.heap.size w w1) := hb1
  unfold pt
  clear CN hd hfp hb1
  go_wp2_with fail
  go_loopw [9] (fun t w4 => ∃ k : Nat, k ≤ ps.length ∧ t = .int .i64 k ∧ (∃ fp, Dk w.heap.size w4 b fp (wS1 n ps k)) ∧ Below w.heap.size w w4) (fun t _ => ps.length - (intOf t).toNat)
  case atStart => exact ⟨0, Nat.zero_le _, rfl, HD1.out, HB1.out⟩
  case round =>
    obtain ⟨k, hk, rfl, ⟨fp, hD⟩, hBk⟩ := hrel
    by_cases hlt : k < ps.length
    · have hk' : (k : Int) < (ps.length : Int) := by omega
      have hp : ps[k]? = some (ps[k]) := List.getElem?_eq_getElem hlt
      have HPM : Hid (ps[k]? = some (ps[k])) := hp
      generalize ps[k] = p at *
      obtain ⟨pb, off, rfl, hpl, hpts⟩ : ∃ pb off, a1 = some ⟨pb, off, none⟩ ∧ pb < w.heap.size ∧ Pts w pb off ps := by
        rcases HV1.out with h | h
        · rw [h] at hlt; simp at hlt
        · exact h
      obtain ⟨p0, p1, p2, hI⟩ := (hpts.below hBk hpl) k p hp
      have hpr := pickI_range p.n (n : Int) (by omega)
      obtain ⟨m, hm⟩ : ∃ m : Nat, pickI p.n (n : Int) = (m : Int) := ⟨(pickI p.n (n : Int)).toNat, by omega⟩
      have CP : Hid (∀ w : World, Calls Try.prog 20 #[.int .i64 p.n, .int .i64 (n : Int)] w fun e w' => e = .returned (.int .i64 (m : Int)) ∧ w' = w) := by
        show ∀ w : World, _
        intro w; rw [← hm]; exact pick_any p.n n hI (by omega) (by omega) w
      have CF : Hid (∀ w : World, Calls Try.prog 27 #[.int .u8 (p.f.toNat : Int), .int .u8 (p.e.toNat : Int)] w fun r w' => r = .returned (.string (fullB p.f p.e)) ∧ Hid (Below w.heap.size w w')) := full_any p.f p.e
      have CW : Hid (∀ w1 : World, Below wr.heap.size wr w1 → Calls Try.prog 31 #[.pointer (some ⟨b, 0, none⟩), .int .i64 (m : Int), .string (fullB p.f p.e)] w1 fun e w' => e = .returned (.int .i64 0) ∧ Hid ((∃ fp, Dk w.heap.size w' b fp (wS1 n ps (k + 1))) ∧ Below w.heap.size w w') ∧ w'.cell? ⟨pb, off + k * 3, none⟩ = some (.int .i64 p.n) ∧ w'.cell? ⟨pb, off + k * 3 + 1, none⟩ = some (.int .u8 (p.f.toNat : Int)) ∧ w'.cell? ⟨pb, off + k * 3 + 2, none⟩ = some (.int .u8 (p.e.toNat : Int))) := by
        show ∀ w1 : World, _
        intro w1 hb
        have hd1 := hD.below hb
        have hB1 := bstep hBk hb (Nat.le_refl _)
        have hmn : m < (wS1 n ps k).safe.length := by show m < (List.replicate n zero512).length; rw [List.length_replicate]; omega
        have hwl := write_live (S := wS1 n ps k) (m := m) (s := fullB p.f p.e) rfl rfl hmn (fullB_size _ _)
        have C := write_any hd1 (m : Int) (fullB p.f p.e) (by rw [fullB_size]; omega) (by show ((ps.take k).map (lw n)).length < _; simp; omega) hB1.size
        rw [hwl.1, hwl.2] at C
        refine C.mono ?_
        rintro e w' ⟨rfl, hL⟩
        obtain ⟨fp', hd', hb', _⟩ := hL.got hd1 hB1.size
        have hB' := hB1.trans hb'
        have hst : ({ wS1 n ps k with wait := (wS1 n ps k).wait ++ [(m, fullB p.f p.e)], wr := wrap64 ((wS1 n ps k).wr + 1) } : DS) = wS1 n ps (k + 1) := wS1_succ ps HPM.out hm (by omega)
        rw [hst] at hd'
        obtain ⟨q0, q1, q2, _⟩ := (hpts.below hB' hpl) k p HPM.out
        exact ⟨rfl, ⟨⟨fp', hd'⟩, hB'⟩, q0, q1, q2⟩
      have KP : Hid (∀ w1 : World, Below wr.heap.size wr w1 → w1.cell? ⟨pb, off + k * 3, none⟩ = some (.int .i64 p.n) ∧ w1.cell? ⟨pb, off + k * 3 + 1, none⟩ = some (.int .u8 (p.f.toNat : Int)) ∧ w1.cell? ⟨pb, off + k * 3 + 2, none⟩ = some (.int .u8 (p.e.toNat : Int))) := by
        show ∀ w1 : World, _
        intro w1 hb
        obtain ⟨q0, q1, q2, _⟩ := (hpts.below (bstep hBk hb (Nat.le_refl _)) hpl) k p HPM.out
        exact ⟨q0, q1, q2⟩
      generalize fullB p.f p.e = q at *
      clear hp hD hBk hpts hI hpr hm HV1 HV2 HPM HD1 HB1
      go_wp2_with fail
      go_region_held3 (fun w' => w'.cell? ⟨pb, off + k * 3, none⟩ = some (.int .i64 p.n) ∧ w'.cell? ⟨pb, off + k * 3 + 1, none⟩ = some (.int .u8 (p.f.toNat : Int)) ∧ w'.cell? ⟨pb, off + k * 3 + 2, none⟩ = some (.int .u8 (p.e.toNat : Int)))
        (first | go_keep | exact c05 | exact KP.out _ ⟨hb4.out.os, hb4.out.tape, hb4.out.output, hb4.out.size, hb4.out.block⟩)
        (first | (go_at_call 20; refine (CP.out _).mono ?_; rintro e w3 ⟨rfl, hw⟩; rw [hw]; clear hw) | (go_at_call 27; refine (CF.out _).mono ?_; rintro e w4 ⟨rfl, hb4⟩) | (go_at_call 31; refine (CW.out _ (by exact ⟨hb4.out.os, hb4.out.tape, hb4.out.output, hb4.out.size, hb4.out.block⟩)).mono ?_; rintro e w5 ⟨rfl, hD5, c05⟩))
      clear CP CF CW KP hb4 c05
      go_wp2
      go_roundw
      case rel => exact ⟨k + 1, by omega, by go_num, hD5.out⟩
      case measure => simp [intOf]; omega
    · have hk' : ¬ (k : Int) < (ps.length : Int) := by omega
      have hke : k = ps.length := by omega
      rw [hke] at hD
      have CFL : Hid (Calls Try.prog 30 #[.pointer (some ⟨b, 0, none⟩)] wr fun e w' => e = .returned (.int .i64 0) ∧ Hid ((∃ fp, Dk w.heap.size w' b fp (wS2 n ps qs 0)) ∧ Below w.heap.size w w')) := by
        have C := flush_any hD
        rw [HFL.out.1, HFL.out.2] at C
        refine C.mono ?_
        rintro e w' ⟨rfl, hL⟩
        obtain ⟨fp', hd', hb', _⟩ := hL.got hD hBk.size
        exact ⟨rfl, ⟨fp', hd'⟩, hBk.trans hb'⟩
      clear hD HD1 HB1 hke hBk HFL
      go_wp2_with fail
      refine CFL.out.mono ?_
      rintro e w6 ⟨rfl, hh⟩
      have HD2 : Hid (∃ fp, Dk w.heap.size w6 b fp (wS2 n ps qs 0)) := hh.out.1
      have HB2 : Hid (Below w.heap.size w w6) := hh.out.2
      clear CFL hh
      go_wp2_with fail
      go_loopw [12] (fun t w4 => ∃ k : Nat, k ≤ qs.length ∧ t = .int .i64 k ∧ (∃ fp, Dk w.heap.size w4 b fp (wS2 n ps qs k)) ∧ Below w.heap.size w w4) (fun t _ => qs.length - (intOf t).toNat)
      case atStart => exact ⟨0, Nat.zero_le _, rfl, HD2.out, HB2.out⟩
      case round =>
        obtain ⟨k, hk, rfl, ⟨fp, hD⟩, hBk⟩ := hrel
        by_cases hlt : k < qs.length
        · have hk' : (k : Int) < (qs.length : Int) := by omega
          have hp : qs[k]? = some (qs[k]) := List.getElem?_eq_getElem hlt
          have HPM : Hid (qs[k]? = some (qs[k])) := hp
          generalize qs[k] = p at *
          obtain ⟨pb, off, rfl, hpl, hpts⟩ : ∃ pb off, a2 = some ⟨pb, off, none⟩ ∧ pb < w.heap.size ∧ Pts w pb off qs := by
            rcases HV2.out with h | h
            · rw [h] at hlt; simp at hlt
            · exact h
          obtain ⟨p0, p1, p2, hI⟩ := (hpts.below hBk hpl) k p hp
          have hpr := pickI_range p.n (n : Int) (by omega)
          obtain ⟨m, hm⟩ : ∃ m : Nat, pickI p.n (n : Int) = (m : Int) := ⟨(pickI p.n (n : Int)).toNat, by omega⟩
          have CP : Hid (∀ w : World, Calls Try.prog 20 #[.int .i64 p.n, .int .i64 (n : Int)] w fun e w' => e = .returned (.int .i64 (m : Int)) ∧ w' = w) := by
            show ∀ w : World, _
            intro w; rw [← hm]; exact pick_any p.n n hI (by omega) (by omega) w
          have CF : Hid (∀ w : World, Calls Try.prog 27 #[.int .u8 (p.f.toNat : Int), .int .u8 (p.e.toNat : Int)] w fun r w' => r = .returned (.string (fullB p.f p.e)) ∧ Hid (Below w.heap.size w w')) := full_any p.f p.e
          have CW : Hid (∀ w1 : World, Below wr.heap.size wr w1 → Calls Try.prog 31 #[.pointer (some ⟨b, 0, none⟩), .int .i64 (m : Int), .string (fullB p.f p.e)] w1 fun e w' => e = .returned (.int .i64 0) ∧ Hid ((∃ fp, Dk w.heap.size w' b fp (wS2 n ps qs (k + 1))) ∧ Below w.heap.size w w') ∧ w'.cell? ⟨pb, off + k * 3, none⟩ = some (.int .i64 p.n) ∧ w'.cell? ⟨pb, off + k * 3 + 1, none⟩ = some (.int .u8 (p.f.toNat : Int)) ∧ w'.cell? ⟨pb, off + k * 3 + 2, none⟩ = some (.int .u8 (p.e.toNat : Int))) := by
            show ∀ w1 : World, _
            intro w1 hb
            have hd1 := hD.below hb
            have hB1 := bstep hBk hb (Nat.le_refl _)
            have hmn : m < (wS2 n ps qs k).safe.length := by show m < (over (List.replicate n zero512) (ps.map (lw n))).length; rw [length_over, List.length_replicate]; omega
            have hwl := write_live (S := wS2 n ps qs k) (m := m) (s := fullB p.f p.e) rfl rfl hmn (fullB_size _ _)
            have C := write_any hd1 (m : Int) (fullB p.f p.e) (by rw [fullB_size]; omega) (by show ((qs.take k).map (lw n)).length < _; simp; omega) hB1.size
            rw [hwl.1, hwl.2] at C
            refine C.mono ?_
            rintro e w' ⟨rfl, hL⟩
            obtain ⟨fp', hd', hb', _⟩ := hL.got hd1 hB1.size
            have hB' := hB1.trans hb'
            have hst : ({ wS2 n ps qs k with wait := (wS2 n ps qs k).wait ++ [(m, fullB p.f p.e)], wr := wrap64 ((wS2 n ps qs k).wr + 1) } : DS) = wS2 n ps qs (k + 1) := wS2_succ ps qs HPM.out hm (by omega)
            rw [hst] at hd'
            obtain ⟨q0, q1, q2, _⟩ := (hpts.below hB' hpl) k p HPM.out
            exact ⟨rfl, ⟨⟨fp', hd'⟩, hB'⟩, q0, q1, q2⟩
          have KP : Hid (∀ w1 : World, Below wr.heap.size wr w1 → w1.cell? ⟨pb, off + k * 3, none⟩ = some (.int .i64 p.n) ∧ w1.cell? ⟨pb, off + k * 3 + 1, none⟩ = some (.int .u8 (p.f.toNat : Int)) ∧ w1.cell? ⟨pb, off + k * 3 + 2, none⟩ = some (.int .u8 (p.e.toNat : Int))) := by
            show ∀ w1 : World, _
            intro w1 hb
            obtain ⟨q0, q1, q2, _⟩ := (hpts.below (bstep hBk hb (Nat.le_refl _)) hpl) k p HPM.out
            exact ⟨q0, q1, q2⟩
          generalize fullB p.f p.e = q at *
          clear hp hD hBk hpts hI hpr hm HV1 HV2 HPM HD2 HB2
          go_wp2_with fail
          go_region_held3 (fun w' => w'.cell? ⟨pb, off + k * 3, none⟩ = some (.int .i64 p.n) ∧ w'.cell? ⟨pb, off + k * 3 + 1, none⟩ = some (.int .u8 (p.f.toNat : Int)) ∧ w'.cell? ⟨pb, off + k * 3 + 2, none⟩ = some (.int .u8 (p.e.toNat : Int)))
            (first | go_keep | exact c05 | exact KP.out _ ⟨hb4.out.os, hb4.out.tape, hb4.out.output, hb4.out.size, hb4.out.block⟩)
            (first | (go_at_call 20; refine (CP.out _).mono ?_; rintro e w3 ⟨rfl, hw⟩; rw [hw]; clear hw) | (go_at_call 27; refine (CF.out _).mono ?_; rintro e w4 ⟨rfl, hb4⟩) | (go_at_call 31; refine (CW.out _ (by exact ⟨hb4.out.os, hb4.out.tape, hb4.out.output, hb4.out.size, hb4.out.block⟩)).mono ?_; rintro e w5 ⟨rfl, hD5, c05⟩))
          clear CP CF CW KP hb4 c05
          go_wp2
          go_roundw
          case rel => exact ⟨k + 1, by omega, by go_num, hD5.out⟩
          case measure => simp [intOf]; omega
        · have hk' : ¬ (k : Int) < (qs.length : Int) := by omega
          have hke : k = qs.length := by omega
          rw [hke] at hD
          have hend : Hid (∃ fp, Dk w.heap.size wr b fp (wS2 n ps qs qs.length)) := ⟨fp, hD⟩
          clear hD HV1 HV2 HD2 HB2 hke
          go_wp2
          go_ret
          obtain ⟨fp, hD⟩ := hend.out
          exact ⟨b, fp, rfl, hD, hBk⟩
end Go.Proofs.Ytbjpphoohoedcaa
