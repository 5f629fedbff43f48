/- The walk of DiskFlushes: true; older memory is as it was. -/
import Derived.Test.YtbjpphoohoedcaaCu
namespace Go.Proofs.Ytbjpphoohoedcaa
open Go.RowKit
set_option linter.unusedVariables false
set_option linter.unusedSimpArgs false

/-- A disk with nothing pending, its power on. -/
def rdS (l : List ByteArray) (r a f : Int) : DS := ⟨l, [], false, 0, r, a, f⟩
theorem rdS_read (l : List ByteArray) (r a f : Int) (i : Nat) (hi : i < l.length) : readS (rdS l r a f) (i : Int) = l.getD i ByteArray.empty ∧ refuseD (rdS l r a f) (i : Int) = 0 ∧ readD (rdS l r a f) (i : Int) = rdS l (wrap64 (r + 1)) a f := by
  have h0 : refuseD (rdS l r a f) (i : Int) = 0 := by unfold refuseD rdS; simp; omega
  refine ⟨?_, h0, ?_⟩
  · unfold readS; rw [if_pos h0, Int.toNat_natCast]; rfl
  · unfold readD; rw [if_pos h0]; rfl
/-- All that was written first. -/
def base (n : Nat) (ps : List Pu) : List ByteArray := over (List.replicate n zero512) (ps.map (lw n))
theorem base_length (n : Nat) (ps : List Pu) : (base n ps).length = n := by unfold base; rw [length_over, List.length_replicate]
theorem base_size (n : Nat) (ps : List Pu) : ∀ s ∈ base n ps, s.size = 512 := by
  refine size_over (fun s hs => ?_) (fun p hp => ?_)
  · rw [List.eq_of_mem_replicate hs]; exact z_size
  · obtain ⟨q, _, rfl⟩ := List.mem_map.1 hp; exact fullB_size _ _
theorem base_want (n : Nat) (ps : List Pu) (i : Nat) : want n ps i ps.length = (base n ps).getD i ByteArray.empty := by
  unfold want base; rw [List.take_length]
theorem wS2_none (n : Nat) (ps : List Pu) : wS2 n ps [] 0 = rdS (base n ps) 0 (ps.length : Int) 1 := by unfold wS2 rdS base; simp
theorem wS2_crash (n : Nat) (ps qs : List Pu) (hok : (wS2 n ps qs qs.length).Ok) : crashD (wS2 n ps qs qs.length) [] = rdS (base n ps) 0 ((ps.length + qs.length : Nat) : Int) 1 := by
  have h := crash_without hok
  unfold crashD at h ⊢
  simp only at h
  simp only [h]
  rfl
set_option maxHeartbeats 4000000 in
set_option maxRecDepth 100000 in
theorem flushes_walk (sectors : Int) (hs1 : I64 sectors) (ps qs : List Pu) (a1 a2 : Option Addr) (c1 c2 : Nat) (w : World) (hv1 : PtsV w ps a1) (hv2 : PtsV w qs a2) (hl1 : ps.length ≤ 8796093021952) (hl2 : qs.length ≤ 8796093021952) :
    Calls Try.prog 5 #[.int .i64 sectors, .slice a1 ps.length c1, .slice a2 qs.length c2] w fun e w' => e = .returned (.bool true) ∧ Below w.heap.size w w' := by
  have hr6 := pickI_range sectors 6 (by omega)
  obtain ⟨N, hN⟩ : ∃ N : Nat, 1 + pickI sectors 6 = (N : Int) := ⟨(1 + pickI sectors 6).toNat, by omega⟩
  have hN1 : 1 ≤ N ∧ N ≤ 6 := by omega
  have hWN : wrap64 (N : Int) = (N : Int) := wrap_small (by omega) (by omega)
  have hNb : (N : Int) ≤ 6 := by omega
  have CP6 : Hid (∀ w : World, Calls Try.prog 20 #[.int .i64 sectors, .int .i64 6] w fun e w' => e = .returned (.int .i64 (pickI sectors 6)) ∧ w' = w) := pick_any sectors 6 hs1 (by omega) (by omega)
  have CW : Hid (∀ w1 : World, Below w.heap.size w w1 → Calls Try.prog 23 #[.int .i64 (N : Int), .slice a1 ps.length c1, .slice a2 qs.length c2] w1 fun e w' => Wrote w1 (wS2 N ps qs qs.length) e w') := by
    show ∀ w1 : World, _
    intro w1 hb
    exact written_all N hN1.1 (by omega) ps qs a1 a2 c1 c2 w1 (hv1.below hb) (hv2.below hb) (by omega) (by omega)
  have CW0 : Hid (∀ w1 : World, Below w.heap.size w w1 → Calls Try.prog 23 #[.int .i64 (N : Int), .slice a1 ps.length c1, .slice none 0 0] w1 fun e w' => Wrote w1 (wS2 N ps [] 0) e w') := by
    show ∀ w1 : World, _
    intro w1 hb
    exact written_all N hN1.1 (by omega) ps [] a1 none c1 0 w1 (hv1.below hb) (.inl rfl) (by omega) (by simp)
  have HV1 : Hid (PtsV w ps a1) := hv1
  have HNN : Hid (1 ≤ N ∧ N ≤ 6) := hN1
  have HL : Hid (qs.length ≤ 8796093021952) := hl2
  have hqb : (qs.length : Int) ≤ 8796093021952 := by omega
  have hpb : (ps.length : Int) ≤ 8796093021952 := by omega
  have hsz := catB_size (base N ps) (base_size N ps)
  rw [base_length] at hsz
  have hszi : ((catB (base N ps)).size : Int) = 512 * (N : Int) := by rw [hsz]; omega
  have HSZ : Hid ((catB (base N ps)).size = N * 512) := hsz
  clear hsz
  generalize pickI sectors 6 = P6 at *
  clear hv1 hv2 hs1 hl1 hl2 hr6 hN1
  obtain ⟨i5, hi5, hz50, hz51, hz53⟩ := info_parts info5
  go_enter Try.func5, Try.ntmps5
  go_wp2_with fail
  refine (awake_any _).mono ?_
  rintro e w1 ⟨rfl, hb1⟩
  go_wp2_with fail
  refine (CP6.out _).mono ?_
  rintro e w1' ⟨rfl, hw⟩
  rw [hw]; clear hw CP6
  go_wp2_with fail
  refine (CW0.out _ hb1).mono ?_
  rintro e w2 ⟨d, fd, rfl, dd, hb2⟩
  have hB2 := bstep hb1 hb2 (Nat.le_refl _)
  unfold pt
  go_wp2_with fail
  refine (CW.out _ hB2).mono ?_
  rintro e w3 ⟨e1, fe, rfl, de, hb3⟩
  have hB3 := bstep hB2 hb3 (Nat.le_refl _)
  unfold pt
  have HEok : Hid ((wS2 N ps qs qs.length).Ok) := de.ok
  have dd3 := dd.below hb3
  have hdis : Hid (∀ k, fd k → ¬ fe k) := fun k h1 h2 => by have := (dd.fp k h1).2; have := (de.fp k h2).1; omega
  have Z : Hid (w.heap.size ≤ w1.heap.size ∧ w1.heap.size ≤ w2.heap.size ∧ w2.heap.size ≤ w3.heap.size) := ⟨hb1.size, hb2.size, hb3.size⟩
  rw [wS2_none] at dd3
  clear dd hb1 hb2 hb3 hB2 CW CW0
  have CI : Hid (Calls Try.prog 18 #[.pointer (some ⟨d, 0, none⟩)] w3 fun e w' => e = .returned (.string (catB (base N ps))) ∧ Below w3.heap.size w3 w') := l_image (Left.refl dd3)
  go_wp2_with fail
  refine CI.out.mono ?_
  rintro e w4 ⟨rfl, hb4⟩
  have dd4 := dd3.below hb4
  have de4 := de.below hb4
  have hB4 := bstep hB3 hb4 (Nat.le_refl _)
  clear CI dd3 de hb4 hB3
  have CI2 : Hid (Calls Try.prog 18 #[.pointer (some ⟨e1, 0, none⟩)] w4 fun e w' => e = .returned (.string (catB (base N ps))) ∧ Below w4.heap.size w4 w') := l_image (Left.refl de4)
  go_wp2_with fail
  refine CI2.out.mono ?_
  rintro e w5 ⟨rfl, hb5⟩
  have dd5 := dd4.below hb5
  have de5 := de4.below hb5
  have hB5 := bstep hB4 hb5 (Nat.le_refl _)
  clear CI2 dd4 de4 hb5 hB4
  have CQ : Hid (Calls Try.prog 24 #[.pointer (some ⟨d, 0, none⟩)] w5 fun e w' => e = .returned (.slice (some ⟨w5.heap.size, 0, none⟩) 0 0) ∧ Below w5.heap.size w5 w') := (l_pending (Left.refl dd5) (by show 0 ≤ _; omega)).mono (by rintro e w' ⟨rfl, _, hb⟩; exact ⟨rfl, hb⟩)
  go_wp2_with fail
  refine CQ.out.mono ?_
  rintro e w6 ⟨rfl, hb6⟩
  have dd6 := dd5.below hb6
  have de6 := de5.below hb6
  have hB6 := bstep hB5 hb6 (Nat.le_refl _)
  clear CQ dd5 de5 hb6 hB5
  have hwl : (wS2 N ps qs qs.length).wait.length = qs.length := by show ((qs.take qs.length).map (lw N)).length = _; simp
  have CQ2 : Hid (Calls Try.prog 24 #[.pointer (some ⟨e1, 0, none⟩)] w6 fun e w' => e = .returned (.slice (some ⟨w6.heap.size, 0, none⟩) qs.length qs.length) ∧ Below w6.heap.size w6 w') := by
    have := (l_pending (Left.refl de6) (by rw [hwl]; have := HL.out; omega))
    rw [hwl] at this
    exact this.mono (by rintro e w' ⟨rfl, _, hb⟩; exact ⟨rfl, hb⟩)
  clear hwl
  go_wp2_with fail
  refine CQ2.out.mono ?_
  rintro e w7 ⟨rfl, hb7⟩
  have dd7 := dd6.below hb7
  have de7 := de6.below hb7
  have hB7 := bstep hB6 hb7 (Nat.le_refl _)
  clear CQ2 dd6 de6 hb7 hB6
  have CC : Hid (Calls Try.prog 25 #[.pointer (some ⟨e1, 0, none⟩), .slice none 0 0] w7 fun e w' => e = .returned (.tuple #[]) ∧ Left w2.heap.size e1 fe w7 (rdS (base N ps) 0 ((ps.length + qs.length : Nat) : Int) 1) w') := by
    have := l_crash_none (Left.refl de7) 0
    rw [wS2_crash N ps qs HEok.out] at this
    exact this
  go_wp2_with fail
  refine CC.out.mono ?_
  rintro e w8 ⟨rfl, L8⟩
  have dd8 := dd7.kept L8.keeps (fun k => hdis.out k)
  have hB8 : Below w.heap.size w w8 := hB7.trans (L8.keeps.below hB7.size (fun k h => by have := (de7.fp k h).1; have := Z.out; omega))
  obtain ⟨fe', de8, ke8, ne8⟩ := L8
  have hdis8 : Hid (∀ k, fd k → ¬ fe' k) := fun k h1 h2 => by
    rcases ne8 k h2 with q | q
    · exact hdis.out k h1 q
    · have := (dd7.fp k h1).2; omega
  clear CC dd7 de7 hB7 ke8 ne8 hdis HEok
  have CL : Hid (Calls Try.prog 14 #[.string (catB (base N ps))] w8 fun e w' => Made w8.heap.size w8 (rdS (base N ps) 0 0 0) e w') := by
    have := load_ok (catB (base N ps)) N HSZ.out HNN.out.1 (by have := HNN.out; omega) w8.heap.size w8 (Nat.le_refl _)
    rw [secs_cat _ (base_size N ps) N (by rw [base_length]; exact Nat.le_refl _), List.take_of_length_le (by rw [base_length]; exact Nat.le_refl _)] at this
    exact this
  go_wp2_with fail
  refine CL.out.mono ?_
  rintro e w9 ⟨x, fx, rfl, dx, hfx, hb9⟩
  unfold pt
  have T9 : D3 w.heap.size w9 d e1 x (rdS (base N ps) 0 (ps.length : Int) 1) (rdS (base N ps) 0 ((ps.length + qs.length : Nat) : Int) 1) (rdS (base N ps) 0 0 0) := by
    have := Z.out
    have := hB8.size
    refine ⟨fd, fe', fx, (dd8.below hb9).lower (by omega), (de8.below hb9).lower (by omega), dx.lower (by omega), hdis8.out, fun k h1 h2 => ?_, fun k h1 h2 => ?_⟩
    · have := (dd8.fp k h1).2; have := hfx k h2; omega
    · have := (de8.fp k h1).2; have := hfx k h2; omega
  have hB9 := bstep hB8 hb9 (Nat.le_refl _)
  clear CL dd8 de8 dx hfx hb9 hdis8 hB8
  have CI3 : Hid (∀ f, Dk w.heap.size w9 e1 f (rdS (base N ps) 0 ((ps.length + qs.length : Nat) : Int) 1) → Calls Try.prog 18 #[.pointer (some ⟨e1, 0, none⟩)] w9 fun e w' => e = .returned (.string (catB (base N ps))) ∧ Below w9.heap.size w9 w') := fun f h => l_image (Left.refl h)
  have CI3' : Hid (Calls Try.prog 18 #[.pointer (some ⟨e1, 0, none⟩)] w9 fun e w' => e = .returned (.string (catB (base N ps))) ∧ Below w9.heap.size w9 w') := by obtain ⟨_, f2, _, _, h2, _⟩ := T9; exact CI3.out f2 h2
  clear CI3
  go_wp2_with fail
  refine CI3'.out.mono ?_
  rintro e w10 ⟨rfl, hb10⟩
  have T10 := T9.below hb10
  have hB10 := bstep hB9 hb10 (Nat.le_refl _)
  clear T9 hB9 hb10 CI3'
  have CQ3 : Hid (Calls Try.prog 24 #[.pointer (some ⟨e1, 0, none⟩)] w10 fun e w' => e = .returned (.slice (some ⟨w10.heap.size, 0, none⟩) 0 0) ∧ Below w10.heap.size w10 w') := by
    obtain ⟨_, f2, _, _, h2, _⟩ := T10
    exact (l_pending (Left.refl h2) (by show 0 ≤ _; omega)).mono (by rintro e w' ⟨rfl, _, hb⟩; exact ⟨rfl, hb⟩)
  go_wp2_with fail
  refine CQ3.out.mono ?_
  rintro e w11 ⟨rfl, hb11⟩
  have T11 := T10.below hb11
  have hB11 := bstep hB10 hb11 (Nat.le_refl _)
  clear T10 hB10 hb11 CQ3
  have CO : Hid (Calls Try.prog 26 #[.pointer (some ⟨e1, 0, none⟩)] w11 fun e w' => e = .returned (.bool false) ∧ w' = w11) := by
    obtain ⟨_, f2, _, _, h2, _⟩ := T11
    exact l_off (Left.refl h2)
  go_wp2_with fail
  refine CO.out.mono ?_
  rintro e w12 ⟨rfl, hw⟩
  rw [hw]; clear hw CO
  have HT : Hid (D3 w.heap.size w11 d e1 x (rdS (base N ps) 0 (ps.length : Int) 1) (rdS (base N ps) 0 ((ps.length + qs.length : Nat) : Int) 1) (rdS (base N ps) 0 0 0)) := T11
  have HB11 : Hid (Below w.heap.size w w11) := hB11
  clear T11 hB11
  have CSC : Hid (∀ (i : Nat) (w : World), i < N → Calls Try.prog 29 #[.string (catB (base N ps)), .int .i64 (i : Int)] w fun e w' => e = .returned (.string ((base N ps).getD i ByteArray.empty)) ∧ w' = w) := by
    show ∀ (i : Nat) (w : World), _
    intro i w hi
    have := sector_any (catB (base N ps)) i N HSZ.out (by have := HNN.out; omega) hi w
    rw [sec_cat _ (base_size N ps) i (by rw [base_length]; exact hi)] at this
    exact this
  have HBL : Hid ((base N ps).length = N) := base_length N ps
  have HBW : Hid (∀ i, want N ps i ps.length = (base N ps).getD i ByteArray.empty) := base_want N ps
  have HRD : Hid (∀ (r a f : Int) (i : Nat), i < (base N ps).length → readS (rdS (base N ps) r a f) (i : Int) = (base N ps).getD i ByteArray.empty ∧ refuseD (rdS (base N ps) r a f) (i : Int) = 0 ∧ readD (rdS (base N ps) r a f) (i : Int) = rdS (base N ps) (wrap64 (r + 1)) a f) := fun r a f i hi => rdS_read (base N ps) r a f i hi
  generalize catB (base N ps) = IM at *
  generalize base N ps = L at *
  clear HSZ
  go_wp2_with fail
  go_loopw [14] (fun t wa => ∃ (i : Nat) (r1 r2 r3 : Int), i ≤ N ∧ t = .int .i64 i ∧ D3 w.heap.size wa d e1 x (rdS L r1 (ps.length : Int) 1) (rdS L r2 ((ps.length + qs.length : Nat) : Int) 1) (rdS L r3 0 0) ∧ Below w.heap.size w wa) (fun t _ => N - (intOf t).toNat)
  case atStart => exact ⟨0, 0, 0, 0, Nat.zero_le _, rfl, HT.out, HB11.out⟩
  case round =>
    obtain ⟨i, r1, r2, r3, hi, rfl, hT, hBi⟩ := hrel
    clear HT HB11
    by_cases hlt : i < N
    · have hi' : (i : Int) < (N : Int) := by omega
      have HTi : Hid (D3 w.heap.size wr d e1 x (rdS L r1 (ps.length : Int) 1) (rdS L r2 ((ps.length + qs.length : Nat) : Int) 1) (rdS L r3 0 0)) := hT
      have HBi : Hid (Below w.heap.size w wr) := hBi
      clear hT hBi
      go_wp2_with (at_make; refine wpList_make_full _ rfl _ _ 50 rfl wr.heap.size 5 i5 (.int .u8 0) 1 Try.underlying50 hi5 hz50 hz51 _ _ _ _ 512 rfl rfl rfl rfl ?c1 ?c2 ?c3 ?_)
      case c1 => rw [hz53]; omega
      case c2 => unfold maxLen; omega
      case c3 => omega
      intro wm hown hgrow
      have hcv := conv_zero (w := wm) (g := wr.heap.size) (by
        have e : (madeCells #[Value.int .u8 0] 512).toList = List.replicate 512 (.int .u8 0) := toList_madeCells_one _ _
        rw [← e]; exact hown)
      have hbm : Below wr.heap.size wr wm := (Below.refl _ _).grown hgrow (Nat.le_refl _) (fun _ h => by cases h)
      have HTm : Hid (D3 w.heap.size wm d e1 x (rdS L r1 (ps.length : Int) 1) (rdS L r2 ((ps.length + qs.length : Nat) : Int) 1) (rdS L r3 0 0)) := HTi.out.below hbm
      have HBm : Hid (Below w.heap.size w wm) := bstep HBi.out hbm (Nat.le_refl _)
      have HW0 : Hid (Value.string zero512 = .string (want N ps i 0)) := by show _ = _; rw [want_zero N ps i hlt]
      clear hown hgrow hbm HTi HBi
      go_wp2_with fail
      go_loopw [15, 16] (fun u t wb => ∃ (k : Nat), k ≤ ps.length ∧ t = .int .i64 k ∧ u = .string (want N ps i k) ∧ D3 w.heap.size wb d e1 x (rdS L r1 (ps.length : Int) 1) (rdS L r2 ((ps.length + qs.length : Nat) : Int) 1) (rdS L r3 0 0) ∧ Below w.heap.size w wb) (fun _ t _ => ps.length - (intOf t).toNat)
      case atStart => exact ⟨0, Nat.zero_le _, rfl, HW0.out, HTm.out, HBm.out⟩
      case round =>
        obtain ⟨k, hk, rfl, rfl, hT, hBk⟩ := hrel
        clear HTm HBm HW0 hcv
        by_cases hlk : k < ps.length
        · have hk' : (k : Int) < (ps.length : Int) := by omega
          have hp : ps[k]? = some (ps[k]) := List.getElem?_eq_getElem hlk
          have HPM : Hid (ps[k]? = some (ps[k])) := hp
          generalize ps[k] = p at *
          obtain ⟨pb, off, rfl, hpl, hpts⟩ : ∃ pb off, a1 = some ⟨pb, off, none⟩ ∧ pb < w.heap.size ∧ Pts w pb off ps := by
            rcases HV1.out with h | h
            · rw [h] at hlk; simp at hlk
            · exact h
          obtain ⟨p0, p1, p2, hI⟩ := (hpts.below hBk hpl) k p hp
          have hpr := pickI_range p.n (N : Int) (by have := HNN.out; omega)
          obtain ⟨m, hm⟩ : ∃ m : Nat, pickI p.n (N : Int) = (m : Int) := ⟨(pickI p.n (N : Int)).toNat, by omega⟩
          have CP : Hid (∀ w : World, Calls Try.prog 20 #[.int .i64 p.n, .int .i64 (N : Int)] w fun e w' => e = .returned (.int .i64 (m : Int)) ∧ w' = w) := by
            show ∀ w : World, _
            intro w; rw [← hm]; exact pick_any p.n N hI (by have := HNN.out; omega) (by omega) w
          have CF : Hid (∀ w : World, Calls Try.prog 27 #[.int .u8 (p.f.toNat : Int), .int .u8 (p.e.toNat : Int)] w fun r w' => r = .returned (.string (fullB p.f p.e)) ∧ Hid (Below w.heap.size w w')) := full_any p.f p.e
          have hws := want_succ N ps i k p HPM.out hlt
          rw [hm, Int.toNat_natCast] at hws
          have HTk : Hid (D3 w.heap.size wr d e1 x (rdS L r1 (ps.length : Int) 1) (rdS L r2 ((ps.length + qs.length : Nat) : Int) 1) (rdS L r3 0 0)) := hT
          have HBk : Hid (Below w.heap.size w wr) := hBk
          have KP : Hid (∀ w1 : World, Below wr.heap.size wr w1 → w1.cell? ⟨pb, off + k * 3 + 1, none⟩ = some (.int .u8 (p.f.toNat : Int)) ∧ w1.cell? ⟨pb, off + k * 3 + 2, none⟩ = some (.int .u8 (p.e.toNat : Int))) := by
            show ∀ w1 : World, _
            intro w1 hb
            obtain ⟨q0, q1, q2, _⟩ := (hpts.below (bstep hBk hb (Nat.le_refl _)) hpl) k p HPM.out
            exact ⟨q1, q2⟩
          by_cases hmi : m = i
          · have he : ((m : Int) == (i : Int)) = true := by simp [hmi]
            have HWS : Hid (want N ps i (k + 1) = fullB p.f p.e) := by show _ = _; rw [hws, if_pos hmi]
            generalize fullB p.f p.e = q at *
            generalize want N ps i k = u0 at *
            clear hp hT hBk hpts hI hpr hm hws HPM hmi HV1
            go_wp2_with fail
            refine (CP.out _).mono ?_
            rintro e wq ⟨rfl, hw⟩
            rw [hw]; clear hw CP
            go_wp2_with fail
            go_region_held3 (fun w' => w'.cell? ⟨pb, off + k * 3 + 1, none⟩ = some (.int .u8 (p.f.toNat : Int)) ∧ w'.cell? ⟨pb, off + k * 3 + 2, none⟩ = some (.int .u8 (p.e.toNat : Int)))
              (first | go_keep | exact KP.out _ ⟨hb4.out.os, hb4.out.tape, hb4.out.output, hb4.out.size, hb4.out.block⟩)
              (first | (go_at_call 27; refine (CF.out _).mono ?_; rintro e w4 ⟨rfl, hb4⟩))
            have hend : Hid (D3 w.heap.size w4 d e1 x (rdS L r1 (ps.length : Int) 1) (rdS L r2 ((ps.length + qs.length : Nat) : Int) 1) (rdS L r3 0 0) ∧ Below w.heap.size w w4) := by
              have hb : Below wr.heap.size wr w4 := ⟨hb4.out.os, hb4.out.tape, hb4.out.output, hb4.out.size, hb4.out.block⟩
              exact ⟨HTk.out.below hb, bstep HBk.out hb (Nat.le_refl _)⟩
            clear hb4 KP CF HTk HBk
            go_wp2
            go_roundw
            case rel => exact ⟨k + 1, by omega, by go_num, by rw [HWS.out], hend.out⟩
            case measure => simp [intOf]; omega
          · have he : ((m : Int) == (i : Int)) = false := by simp; omega
            have HWS : Hid (want N ps i (k + 1) = want N ps i k) := by show _ = _; rw [hws, if_neg hmi]
            clear hp hT hBk hpts hI hpr hm hws HPM hmi HV1 CF KP
            generalize hu0 : want N ps i k = u0 at *
            clear hu0
            go_wp2_with fail
            refine (CP.out _).mono ?_
            rintro e wq ⟨rfl, hw⟩
            rw [hw]; clear hw CP
            go_wp2
            go_roundw
            case rel => exact ⟨k + 1, by omega, by go_num, by rw [HWS.out], HTk.out, HBk.out⟩
            case measure => simp [intOf]; omega
        · have hk' : ¬ (k : Int) < (ps.length : Int) := by omega
          have hke : k = ps.length := by omega
          have hwk : want N ps i k = L.getD i ByteArray.empty := by rw [hke]; exact HBW.out i
          rw [hwk]
          have hiL : i < L.length := by rw [HBL.out]; exact hlt
          have R1 : Hid (Calls Try.prog 28 #[.pointer (some ⟨d, 0, none⟩), .int .i64 (i : Int)] wr fun e w' => e = .returned (.tuple #[.string (L.getD i ByteArray.empty), .int .i64 0]) ∧ D3 w.heap.size w' d e1 x (rdS L (wrap64 (r1 + 1)) (ps.length : Int) 1) (rdS L r2 ((ps.length + qs.length : Nat) : Int) 1) (rdS L r3 0 0) ∧ Below w.heap.size wr w') := by
            have := hT.read1 hBk.size (i : Int)
            obtain ⟨q1, q2, q3⟩ := HRD.out r1 (ps.length : Int) 1 i hiL
            rw [q1, q2, q3] at this
            exact this
          have R2 : Hid (∀ wc : World, w.heap.size ≤ wc.heap.size → D3 w.heap.size wc d e1 x (rdS L (wrap64 (r1 + 1)) (ps.length : Int) 1) (rdS L r2 ((ps.length + qs.length : Nat) : Int) 1) (rdS L r3 0 0) → Calls Try.prog 28 #[.pointer (some ⟨e1, 0, none⟩), .int .i64 (i : Int)] wc fun e w' => e = .returned (.tuple #[.string (L.getD i ByteArray.empty), .int .i64 0]) ∧ D3 w.heap.size w' d e1 x (rdS L (wrap64 (r1 + 1)) (ps.length : Int) 1) (rdS L (wrap64 (r2 + 1)) ((ps.length + qs.length : Nat) : Int) 1) (rdS L r3 0 0) ∧ Below w.heap.size wc w') := by
            show ∀ wc : World, _
            intro wc hz h
            have := h.p12.read1 hz (i : Int)
            obtain ⟨q1, q2, q3⟩ := HRD.out r2 ((ps.length + qs.length : Nat) : Int) 1 i hiL
            rw [q1, q2, q3] at this
            exact this.mono (by rintro e w' ⟨rfl, h1, h2⟩; exact ⟨rfl, h1.p12, h2⟩)
          have R3 : Hid (∀ wc : World, w.heap.size ≤ wc.heap.size → D3 w.heap.size wc d e1 x (rdS L (wrap64 (r1 + 1)) (ps.length : Int) 1) (rdS L (wrap64 (r2 + 1)) ((ps.length + qs.length : Nat) : Int) 1) (rdS L r3 0 0) → Calls Try.prog 28 #[.pointer (some ⟨x, 0, none⟩), .int .i64 (i : Int)] wc fun e w' => e = .returned (.tuple #[.string (L.getD i ByteArray.empty), .int .i64 0]) ∧ D3 w.heap.size w' d e1 x (rdS L (wrap64 (r1 + 1)) (ps.length : Int) 1) (rdS L (wrap64 (r2 + 1)) ((ps.length + qs.length : Nat) : Int) 1) (rdS L (wrap64 (r3 + 1)) 0 0) ∧ Below w.heap.size wc w') := by
            show ∀ wc : World, _
            intro wc hz h
            have := h.p13.read1 hz (i : Int)
            obtain ⟨q1, q2, q3⟩ := HRD.out r3 0 0 i hiL
            rw [q1, q2, q3] at this
            exact this.mono (by rintro e w' ⟨rfl, h1, h2⟩; exact ⟨rfl, h1.p13, h2⟩)
          have CS := CSC.out i
          have HCS : Hid (∀ (w : World), i < N → Calls Try.prog 29 #[.string IM, .int .i64 (i : Int)] w fun e w' => e = .returned (.string (L.getD i ByteArray.empty)) ∧ w' = w) := CS
          have HBk : Hid (Below w.heap.size w wr) := hBk
          clear CS hT hBk hwk hke HRD CSC
          generalize L.getD i ByteArray.empty = q at *
          go_wp2_with fail
          refine R1.out.mono ?_
          rintro e x1 ⟨rfl, T1, hb1⟩
          have HB1 : Hid (Below w.heap.size w x1) := HBk.out.trans hb1
          clear hb1 R1 HBk
          go_wp2_with fail
          refine (R2.out _ HB1.out.size T1).mono ?_
          rintro e x2 ⟨rfl, T2, hb2⟩
          have HB2 : Hid (Below w.heap.size w x2) := HB1.out.trans hb2
          clear hb2 R2 HB1 T1
          go_wp2_with fail
          refine (R3.out _ HB2.out.size T2).mono ?_
          rintro e x3 ⟨rfl, T3, hb3⟩
          have HB3 : Hid (Below w.heap.size w x3) := HB2.out.trans hb3
          have HT3 : Hid (D3 w.heap.size x3 d e1 x (rdS L (wrap64 (r1 + 1)) (ps.length : Int) 1) (rdS L (wrap64 (r2 + 1)) ((ps.length + qs.length : Nat) : Int) 1) (rdS L (wrap64 (r3 + 1)) 0 0)) := T3
          clear hb3 R3 HB2 T2 T3
          go_wp2_with fail
          refine (HCS.out _ hlt).mono ?_
          rintro e x4 ⟨rfl, hw⟩
          rw [hw]; clear hw HCS
          go_wp2
          go_roundw
          case rel => exact ⟨i + 1, _, _, _, by omega, by go_num, HT3.out, HB3.out⟩
          case measure => simp [intOf]; omega
    · have hi' : ¬ (i : Int) < (N : Int) := by omega
      clear hT
      go_wp2
      go_ret
      exact ⟨rfl, hBi⟩
end Go.Proofs.Ytbjpphoohoedcaa
