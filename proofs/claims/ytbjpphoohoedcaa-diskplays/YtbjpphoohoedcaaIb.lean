/- The walk of DiskPlays. -/
import Derived.Test.YtbjpphoohoedcaaIa
import Derived.Test.YtbjpphoohoedcaaHl
namespace Go.Proofs.Ytbjpphoohoedcaa
open Go.RowKit
set_option linter.unusedVariables false
set_option linter.unusedSimpArgs false

theorem info33 : (Try.prog.info? 33).map (fun i => (i.zero, i.size, i.bytes)) = some (some (.agg #[.pointer none, .pointer none]), 2, 16) := by kernel_rfl
set_option maxHeartbeats 4000000 in
set_option maxRecDepth 100000 in
theorem plays_n (n0 : Int) (hn0 : I64 n0) (s : ByteArray) (hs : s.size ≤ 140737488355328) (hm : ¬ (s.size % 512 = 0 ∧ 1 ≤ s.size / 512 ∧ s.size / 512 ≤ 4096)) (l : List Opr) (ad : Option Addr) (c : Nat) (w : World) (hO : OpsV w l ad) (hll : l.length * 72 ≤ 140737488351232) : Calls Try.prog 4 #[.int .i64 n0, .string s, .slice ad l.length c] w fun e w' => e = .returned (.bool true) ∧ Below w.heap.size w w' := by
  obtain ⟨i33, hi33, hz330, hz331, hz333⟩ := info_parts info33
  have HO : Hid (OpsV w l ad) := hO
  have HLL : Hid (l.length * 72 ≤ 140737488351232) := hll
  have CU : Hid (∀ w : World, Calls Try.prog 11 #[] w fun e w' => e = .returned (.bool true) ∧ Below w.heap.size w w') := awake_any
  obtain ⟨PN, hPN⟩ : ∃ PN : Nat, pickI n0 5 = (PN : Int) := ⟨(pickI n0 5).toNat, by have := pickI_range n0 5 (by omega); omega⟩
  have hP5 : (PN : Int) < 5 := by have := pickI_range n0 5 (by omega); omega
  have CP : Hid (∀ w1 : World, Calls Try.prog 20 #[.int .i64 n0, .int .i64 5] w1 fun e w' => e = .returned (.int .i64 (PN : Int)) ∧ w' = w1) := by
    show ∀ w1 : World, _
    intro w1
    have := pick_any n0 5 hn0 (by omega) (by omega) w1
    rw [hPN] at this
    exact this
  have CA : Hid (∀ w1 : World, w.heap.size ≤ w1.heap.size → Calls Try.prog 12 #[.int .i64 (1 + (PN : Int))] w1 fun e w' => ∃ (b : Nat) (fp : Nat → Prop), e = .returned (.tuple #[.pointer (some ⟨b, 0, none⟩), .int .i64 0]) ∧ Hid (Dk w.heap.size w' b fp (freshD (List.replicate (1 + PN) zero512))) ∧ Hid (∀ k, fp k → w1.heap.size ≤ k) ∧ Below w1.heap.size w1 w') := by
    show ∀ w1 : World, _
    intro w1 h
    have := new_ok (1 + PN) (by omega) (by omega) w.heap.size w1 h
    rw [show ((1 + PN : Nat) : Int) = 1 + (PN : Int) by omega] at this
    exact this
  have CB : Hid (∀ w1 : World, w.heap.size ≤ w1.heap.size → Calls Try.prog 13 #[.int .i64 (1 + (PN : Int))] w1 fun e w' => ∃ (b : Nat) (fp : Nat → Prop), e = .returned (.tuple #[.pointer (some ⟨b, 0, none⟩), .int .i64 0]) ∧ Hid (Rk w.heap.size w' b fp (freshD (List.replicate (1 + PN) zero512))) ∧ Hid (∀ k, fp k → w1.heap.size ≤ k) ∧ Below w1.heap.size w1 w') := by
    show ∀ w1 : World, _
    intro w1 h
    have := rnew_ok (1 + PN) (by omega) (by omega) w.heap.size w1 h
    rw [show ((1 + PN : Nat) : Int) = 1 + (PN : Int) by omega] at this
    exact this
  have CC : Hid (∀ w1 : World, Calls Try.prog 14 #[.string s] w1 fun e w' => e = .returned (.tuple #[.pointer none, .int .i64 1]) ∧ w' = w1) := fun w1 => load_no s hs hm w1
  have CD : Hid (∀ w1 : World, Calls Try.prog 15 #[.string s] w1 fun e w' => e = .returned (.tuple #[.pointer none, .int .i64 1]) ∧ w' = w1) := fun w1 => rload_no s hs hm w1
  obtain ⟨SA, hSA⟩ : ∃ SA, SA = freshD (List.replicate (1 + PN) zero512) := ⟨_, rfl⟩
  have HSA : Hid (SA.wait.length = 0) := hSA ▸ rfl
  rw [← hSA] at CA CB
  clear hs hm hn0 hPN hO hll hSA
  go_enter Try.func4, Try.ntmps4
  go_wp2_with fail
  refine (CU.out _).mono ?_
  rintro e w1 ⟨rfl, hb1⟩
  have z1 := hb1.size
  go_wp2_with fail
  refine (CP.out _).mono ?_
  rintro e w1' ⟨rfl, hw⟩
  rw [hw]
  clear hw w1'
  go_wp2_with fail
  refine (CA.out _ z1).mono ?_
  rintro e w2 ⟨a, fa, rfl, dA, hfa, hb2⟩
  have z2 := hb2.size
  go_wp2_with fail
  refine (CB.out _ (by omega)).mono ?_
  rintro e w3 ⟨b, fb, rfl, dB, hfb, hb3⟩
  have z3 := hb3.size
  have hB3 : Below w.heap.size w w3 := bstep (bstep hb1 hb2 (Nat.le_refl _)) hb3 (Nat.le_refl _)
  have TA : Hid (Two w.heap.size w3 a b fa fb SA SA) := ⟨dA.out.below hb3, dB.out, fun k h1 h2 => by have := (dA.out.fp k h1).2; have := hfb.out k h2; omega⟩
  have HB3 : Hid (Below w.heap.size w w3) := hB3
  have hz3 : w.heap.size ≤ w3.heap.size := hB3.size
  clear dA dB hfa hfb hb1 hb2 hb3 CU CP CA CB hB3
  have HR0 : Hid ((w3.alloc (.cells #[.pointer (some ⟨a, 0, none⟩), .pointer (some ⟨b, 0, none⟩)] 33)).ownsRow w.heap.size 33 2 (.slice none 0 0) 0 []) := World.ownsRow_nil _ _ _ _
  have HN0 : Hid (∀ (j : Nat) (u : Value), [Value.pointer (some ⟨a, 0, none⟩), .pointer (some ⟨b, 0, none⟩)][j]? = some u → (w3.alloc (.cells #[.pointer (some ⟨a, 0, none⟩), .pointer (some ⟨b, 0, none⟩)] 33)).cell? ((⟨w3.heap.size, 0, none⟩ : Addr).add j) = some u) := World.news_of_block (Blk.new w3 #[.pointer (some ⟨a, 0, none⟩), .pointer (some ⟨b, 0, none⟩)] 33)
  have HO0 : Hid (∀ u ∈ [Value.pointer (some ⟨a, 0, none⟩), .pointer (some ⟨b, 0, none⟩)], u.oneCell' = true) := fun u hu => by simp at hu; rcases hu with rfl | rfl <;> rfl
  have HZ0 : Hid (0 + 1 ≤ maxLen ∧ w.heap.size ≤ (w3.alloc (.cells #[.pointer (some ⟨a, 0, none⟩), .pointer (some ⟨b, 0, none⟩)] 33)).heap.size) := ⟨by unfold maxLen; omega, by rw [World.size_alloc]; omega⟩
  go_wp2_with (at_builtin; refine wpList_append_lies _ rfl _ _ 38 rfl w.heap.size 33 i33 (.agg #[.pointer none, .pointer none]) 2 16 Try.underlying38 hi33 hz330 hz331 hz333 rfl (by decide) (.slice none 0 0) 0 [] rfl HR0.out ⟨w3.heap.size, 0, none⟩ 1 1 [.pointer (some ⟨a, 0, none⟩), .pointer (some ⟨b, 0, none⟩)] rfl rfl HN0.out HO0.out (by decide) HZ0.out.1 (by decide) HZ0.out.2 _ rfl ?_)
  intro g1 cap1 w4 hown1 hgr1 hwh1 hlt1
  have hg1 : g1 = w3.heap.size + 1 := by
    rcases hwh1 with e | e
    · simp [Value.ownBlock] at e
    · simpa using e
  have hKA : Kept (fun _ => False) w3 w4 := ((Kept.refl _ _).alloc _).grown hgr1 (fun k e => by simp [Value.ownBlock] at e)
  have TA4 : Hid (Two w.heap.size w4 a b fa fb SA SA) := TA.out.kept hKA (fun _ _ => id)
  have hB4 : Below w.heap.size w w4 := HB3.out.trans (hKA.below hz3 (fun _ h => h.elim))
  have z4 := hKA.size
  have HG1 : Hid (g1 = w3.heap.size + 1) := hg1
  have HFL : Hid (∀ k, (fa k ∨ fb k) → k < w3.heap.size) := fun k h => (TA.out.low k h).2
  have HROW : Hid (w4.ownsRow w.heap.size 33 2 (.slice (some ⟨g1, 0, none⟩) 1 cap1) 1 (pcells [(a, b)])) := hown1
  have HB4 : Hid (Below w.heap.size w w4) := hB4
  have hz4 : w.heap.size ≤ w4.heap.size := hB4.size
  clear hown1 hgr1 hwh1 hg1 hKA TA HR0 HN0 HO0 HZ0 hB4 HB3
  go_wp2_with fail
  refine (CC.out _).mono ?_
  rintro e w5 ⟨rfl, hw⟩
  rw [hw]
  clear hw
  go_wp2_with fail
  refine (CD.out _).mono ?_
  rintro e w6 ⟨rfl, hw⟩
  rw [hw]
  clear hw w5 w6 CC CD
  obtain ⟨ps, hps⟩ : ∃ ps : List (Nat × Nat), ps = [(a, b)] := ⟨_, rfl⟩
  have HPL : Hid (ps.length = 1) := hps ▸ rfl
  have HALL : Hid (All w.heap.size w4 (.slice (some ⟨g1, 0, none⟩) 1 cap1) ps 0) := by
    rw [hps]
    refine ⟨fun _ => fa, fun _ => fb, fun _ => SA, ⟨HROW.out, fun i p hp => ?_, fun i j k hi hj hne => ?_, fun i k hi e h => ?_⟩⟩
    · have hi : i = 0 := by have := (List.getElem?_eq_some_iff.1 hp).1; simp at this; omega
      subst hi
      simp at hp
      subst hp
      exact ⟨TA4.out, by rw [HSA.out]; omega⟩
    · simp at hi hj; omega
    · simp [Value.ownBlock] at e
      subst e
      have := HFL.out _ h
      have := HG1.out
      omega
  have HBT := HB4
  generalize w4 = wT at *
  generalize g1 = gT at *
  generalize cap1 = capT at *
  clear hps HROW TA4 HG1 HFL HSA HB4
  have hLi : (l.length : Int) ≤ 1954687338211 := by have := HLL.out; omega
  go_wp2_with fail
  go_loopw [18] (fun t wa => ∃ k : Nat, k ≤ l.length ∧ t = .int .i64 k ∧ All w.heap.size wa (.slice (some ⟨gT, 0, none⟩) 1 capT) ps k ∧ Below w.heap.size w wa) (fun t _ => l.length - (intOf t).toNat)
  case atStart => exact ⟨0, Nat.zero_le _, rfl, HALL.out, HBT.out⟩
  case round =>
    obtain ⟨k, hk, rfl, hA, hB⟩ := hrel
    have hzr := hB.size
    by_cases hlt : k < l.length
    · have hk' : (k : Int) < (l.length : Int) := by omega
      have hol : l[k]? = some (l[k]) := List.getElem?_eq_getElem hlt
      generalize l[k] = o at *
      obtain ⟨ob, off, rfl, hob, hcs, hok⟩ : ∃ ob off, ad = some ⟨ob, off, none⟩ ∧ ob < w.heap.size ∧ OpsAt w ob off l ∧ ∀ (i : Nat) (o : Opr), l[i]? = some o → OpOk w o := by
        rcases HO.out with h | h
        · rw [h] at hol; simp at hol
        · exact h
      have hoo := hok k o hol
      have hco := hcs k o hol
      obtain ⟨kd, on, nn, ss, ff, fs, fad, fc0⟩ := o
      obtain ⟨J, hJ⟩ : ∃ J : Nat, pickI on 1 = (J : Int) := ⟨(pickI on 1).toNat, by have := pickI_range on 1 (by omega); omega⟩
      have hJq : J < 1 := by have := pickI_range on 1 (by omega); omega
      have hJi : (J : Int) < 1 := by omega
      have C20 : Hid (∀ w1 : World, Calls Try.prog 20 #[.int .i64 on, .int .i64 1] w1 fun e w' => e = .returned (.int .i64 (J : Int)) ∧ w' = w1) := by
        show ∀ w1 : World, _
        intro w1
        have := pick_any on 1 hoo.1 (by omega) (by omega) w1
        rw [hJ] at this
        exact this
      obtain ⟨Fs, Gs, Ss, hF⟩ := hA
      have hp : ps[J]? = some (ps[J]'(by have := HPL.out; omega)) := List.getElem?_eq_getElem _
      generalize ps[J]'(by have := HPL.out; omega) = p at *
      obtain ⟨e1, e2⟩ := pcells_at ps J p hp
      have hrow := hF.row
      rw [HPL.out] at hrow
      have r1 := (hrow.cellAt (J * 2) (by omega)).trans e1
      have r2 := (hrow.cellAt (J * 2 + 1) (by omega)).trans e2
      have hgl : gT < wr.heap.size := (hrow.lt _ rfl).2
      have hx : ∀ (w1 : World), Below w.heap.size w w1 → w1.cell? ⟨ob, off + k * 6, none⟩ = some (.int .i64 kd) ∧ w1.cell? ⟨ob, off + k * 6 + 1, none⟩ = some (.int .i64 on) ∧ w1.cell? ⟨ob, off + k * 6 + 2, none⟩ = some (.int .i64 nn) ∧ w1.cell? ⟨ob, off + k * 6 + 3, none⟩ = some (.string ss) ∧ w1.cell? ⟨ob, off + k * 6 + 4, none⟩ = some (.int .u8 (ff.toNat : Int)) ∧ w1.cell? ⟨ob, off + k * 6 + 5, none⟩ = some (.slice fad fs.length fc0) := fun w1 hb => ⟨(hb.cell (p := ⟨ob, off + k * 6, none⟩) hob).trans (hco 0 _ rfl), (hb.cell (p := ⟨ob, off + k * 6 + 1, none⟩) hob).trans (hco 1 _ rfl), (hb.cell (p := ⟨ob, off + k * 6 + 2, none⟩) hob).trans (hco 2 _ rfl), (hb.cell (p := ⟨ob, off + k * 6 + 3, none⟩) hob).trans (hco 3 _ rfl), (hb.cell (p := ⟨ob, off + k * 6 + 4, none⟩) hob).trans (hco 4 _ rfl), (hb.cell (p := ⟨ob, off + k * 6 + 5, none⟩) hob).trans (hco 5 _ rfl)⟩
      have x1 := (hx wr hB).2.1
      obtain ⟨W, hW⟩ : ∃ W, W = wr.alloc (.cells #[.pointer (some ⟨p.1, 0, none⟩), .pointer (some ⟨p.2, 0, none⟩)] 33) := ⟨_, rfl⟩
      have hbW : Below wr.heap.size wr W := hW ▸ Below_new _ _
      have hBW : Below w.heap.size w W := bstep hB hbW (Nat.le_refl _)
      have KW : Blk W wr.heap.size #[.pointer (some ⟨p.1, 0, none⟩), .pointer (some ⟨p.2, 0, none⟩)] 33 := hW ▸ Blk.new _ _ _
      obtain ⟨y0, y1, y2, y3, y4, y5⟩ := hx W hBW
      have y6 := KW.cell 0 (v := .pointer (some ⟨p.1, 0, none⟩)) rfl
      have y7 := KW.cell 1 (v := .pointer (some ⟨p.2, 0, none⟩)) rfl
      have hobW : ob < W.heap.size := Nat.lt_of_lt_of_le hob hBW.size
      have C21 : Hid (∀ w1 : World, Below W.heap.size W w1 → Calls Try.prog 21 #[.agg #[.pointer (some ⟨p.1, 0, none⟩), .pointer (some ⟨p.2, 0, none⟩)], .agg #[.int .i64 kd, .int .i64 on, .int .i64 nn, .string ss, .int .u8 (ff.toNat : Int), .slice fad fs.length fc0]] w1 fun e w' => e = .returned (.bool true) ∧ Hid (All w.heap.size w' (.slice (some ⟨gT, 0, none⟩) 1 capT) ps (k + 1) ∧ Below w.heap.size w w') ∧ Hid (w'.cell? ⟨ob, off + k * 6, none⟩ = some (.int .i64 kd) ∧ w'.cell? ⟨ob, off + k * 6 + 1, none⟩ = some (.int .i64 on) ∧ w'.cell? ⟨ob, off + k * 6 + 2, none⟩ = some (.int .i64 nn) ∧ w'.cell? ⟨ob, off + k * 6 + 3, none⟩ = some (.string ss) ∧ w'.cell? ⟨ob, off + k * 6 + 4, none⟩ = some (.int .u8 (ff.toNat : Int)) ∧ w'.cell? ⟨ob, off + k * 6 + 5, none⟩ = some (.slice fad fs.length fc0) ∧ w'.cell? ⟨wr.heap.size, 0, none⟩ = some (.pointer (some ⟨p.1, 0, none⟩)) ∧ w'.cell? ⟨wr.heap.size, 1, none⟩ = some (.pointer (some ⟨p.2, 0, none⟩)))) := by
        show ∀ w1 : World, _
        intro w1 hb
        have hF1 := (hF.below hbW).below hb
        have hB1 : Below w.heap.size w w1 := bstep hBW hb (Nat.le_refl _)
        obtain ⟨t1, hm1⟩ := hF1.two J p hp
        have hL := HLL.out
        refine (play_any (v := w) t1 ⟨kd, on, nn, ss, ff, fs, fad, fc0⟩ hoo hB1.size hB1 (Nat.le_refl _) (by omega)).mono ?_
        rintro e w' ⟨h1, S', h2, h3⟩
        have hB2 : Below w.heap.size w w' := hB1.trans (TL_low t1 h2 hB1.size)
        refine ⟨h1, ⟨hF1.step J p hp h2 h3, hB2⟩, ?_⟩
        obtain ⟨z0, z1, z2, z3, z4, z5⟩ := hx w' hB2
        obtain ⟨_, _, _, hk2, _⟩ := h2
        have KW2 := (KW.below hb).kept hk2 (fun e => by have := ((hF.two J p hp).1.low _ e).2; omega)
        exact ⟨z0, z1, z2, z3, z4, z5, KW2.cell 0 rfl, KW2.cell 1 rfl⟩
      clear hF hrow e1 e2 hx hbW hBW KW hoo hco hcs hok hol hp hJ hB
      go_wp2_with fail
      refine (C20.out _).mono ?_
      rintro e w4 ⟨rfl, hw⟩
      rw [hw]
      clear hw C20
      go_wp2_with fail
      rw [← hW]
      clear hW
      go_region_held3 (fun w' => w'.cell? ⟨ob, off + k * 6, none⟩ = some (.int .i64 kd) ∧ w'.cell? ⟨ob, off + k * 6 + 1, none⟩ = some (.int .i64 on) ∧ w'.cell? ⟨ob, off + k * 6 + 2, none⟩ = some (.int .i64 nn) ∧ w'.cell? ⟨ob, off + k * 6 + 3, none⟩ = some (.string ss) ∧ w'.cell? ⟨ob, off + k * 6 + 4, none⟩ = some (.int .u8 (ff.toNat : Int)) ∧ w'.cell? ⟨ob, off + k * 6 + 5, none⟩ = some (.slice fad fs.length fc0) ∧ w'.cell? ⟨wr.heap.size, 0, none⟩ = some (.pointer (some ⟨p.1, 0, none⟩)) ∧ w'.cell? ⟨wr.heap.size, 1, none⟩ = some (.pointer (some ⟨p.2, 0, none⟩)))
        (first | exact hcA.out | go_keep)
        (first | (go_at_call 21; refine (C21.out _ (by exact ⟨rfl, rfl, rfl, Nat.le_refl _, fun _ _ => rfl⟩)).mono ?_; rintro e wA ⟨rfl, hTA, hcA⟩))
      clear C21 hcA y0 y1 y2 y3 y4 y5 y6 y7 x1 r1 r2
      go_wp2_with fail
      go_loopw [21] (fun t wa => ∃ j : Nat, j ≤ 1 ∧ t = .int .i64 j ∧ All w.heap.size wa (.slice (some ⟨gT, 0, none⟩) 1 capT) ps (k + 1) ∧ Below w.heap.size w wa) (fun t _ => 1 - (intOf t).toNat)
      case atStart => exact ⟨0, Nat.zero_le _, rfl, hTA.out.1, hTA.out.2⟩
      case round =>
        rename_i wr0 _ _
        obtain ⟨j, hj, rfl, hA, hB⟩ := hrel
        by_cases hlt2 : j < 1
        · have hj' : (j : Int) < 1 := by omega
          obtain ⟨Fs, Gs, Ss, hF⟩ := hA
          have hp : ps[j]? = some (ps[j]'(by have := HPL.out; omega)) := List.getElem?_eq_getElem _
          generalize ps[j]'(by have := HPL.out; omega) = p2 at *
          obtain ⟨e1, e2⟩ := pcells_at ps j p2 hp
          have hrow := hF.row
          rw [HPL.out] at hrow
          have r1 := (hrow.cellAt (j * 2) (by omega)).trans e1
          have r2 := (hrow.cellAt (j * 2 + 1) (by omega)).trans e2
          have hgl := (hrow.lt _ rfl).2
          have C16 : Hid (Calls Try.prog 16 #[.agg #[.pointer (some ⟨p2.1, 0, none⟩), .pointer (some ⟨p2.2, 0, none⟩)]] wr fun e w' => e = .returned (.bool true) ∧ Hid (All w.heap.size w' (.slice (some ⟨gT, 0, none⟩) 1 capT) ps (k + 1) ∧ Below w.heap.size w w')) := (settled_any (hF.two j p2 hp).1).mono (fun e w' ⟨h1, h2⟩ => ⟨h1, ⟨Fs, Gs, Ss, hF.below h2⟩, bstep hB h2 (Nat.le_refl _)⟩)
          clear hF hrow e1 e2 hp hB hTA
          go_wp2_with fail
          refine C16.out.mono ?_
          rintro e w5 ⟨rfl, h5⟩
          clear C16
          go_wp2
          go_roundw
          case rel => exact ⟨j + 1, by omega, by go_num, h5.out⟩
          case measure => simp [intOf]; omega
        · have hj' : ¬ (j : Int) < 1 := by omega
          have HX : Hid (All w.heap.size wr (.slice (some ⟨gT, 0, none⟩) 1 capT) ps (k + 1) ∧ Below w.heap.size w wr) := ⟨hA, hB⟩
          clear hA hB hTA
          go_wp2
          go_roundw
          case rel => exact ⟨k + 1, by omega, by go_num, HX.out⟩
          case measure => simp [intOf]; omega
    · have hk' : ¬ (k : Int) < (l.length : Int) := by omega
      have HA : Hid (All w.heap.size wr (.slice (some ⟨gT, 0, none⟩) 1 capT) ps k) := hA
      have HBB : Hid (Below w.heap.size w wr) := hB
      clear hA hB
      go_wp2_with fail
      go_loopw [23] (fun t wa => ∃ j : Nat, j ≤ 1 ∧ t = .int .i64 j ∧ All w.heap.size wa (.slice (some ⟨gT, 0, none⟩) 1 capT) ps k ∧ Below w.heap.size w wa) (fun t _ => 1 - (intOf t).toNat)
      case atStart => exact ⟨0, Nat.zero_le _, rfl, HA.out, HBB.out⟩
      case round =>
        obtain ⟨j, hj, rfl, hA, hB⟩ := hrel
        by_cases hlt2 : j < 1
        · have hj' : (j : Int) < 1 := by omega
          obtain ⟨Fs, Gs, Ss, hF⟩ := hA
          have hp : ps[j]? = some (ps[j]'(by have := HPL.out; omega)) := List.getElem?_eq_getElem _
          generalize ps[j]'(by have := HPL.out; omega) = p2 at *
          obtain ⟨e1, e2⟩ := pcells_at ps j p2 hp
          have hrow := hF.row
          rw [HPL.out] at hrow
          have r1 := (hrow.cellAt (j * 2) (by omega)).trans e1
          have r2 := (hrow.cellAt (j * 2 + 1) (by omega)).trans e2
          have hgl := (hrow.lt _ rfl).2
          have HF : Hid (Fld w.heap.size wr (.slice (some ⟨gT, 0, none⟩) 1 capT) ps Fs Gs Ss k) := hF
          have HP2 : Hid (ps[j]? = some p2) := hp
          have HBr : Hid (Below w.heap.size w wr) := hB
          have C22 : Hid (Calls Try.prog 22 #[.agg #[.pointer (some ⟨p2.1, 0, none⟩), .pointer (some ⟨p2.2, 0, none⟩)]] wr fun e w' => e = .returned (.bool true) ∧ Hid (Below wr.heap.size wr w')) := ppending_any (hF.two j p2 hp).1 (by have := (hF.two j p2 hp).2; have := HLL.out; omega)
          have KR : Hid (∀ w1 : World, Below wr.heap.size wr w1 → w1.cell? ⟨gT, j * 2, none⟩ = some (.pointer (some ⟨p2.1, 0, none⟩)) ∧ w1.cell? ⟨gT, j * 2 + 1, none⟩ = some (.pointer (some ⟨p2.2, 0, none⟩))) := fun w1 hb => ⟨(hb.cell (p := ⟨gT, j * 2, none⟩) hgl).trans r1, (hb.cell (p := ⟨gT, j * 2 + 1, none⟩) hgl).trans r2⟩
          have C18 : Hid (∀ w1 : World, Below wr.heap.size wr w1 → Calls Try.prog 18 #[.pointer (some ⟨p2.1, 0, none⟩)] w1 fun e w' => e = .returned (.string (catB (Ss j).safe)) ∧ Hid (Below wr.heap.size wr w')) := by
            show ∀ w1 : World, _
            intro w1 hb
            obtain ⟨g1, h1, cg1, ch1, pv1, bx1, _, d1⟩ := ((HF.out.two j p2 HP2.out).1.below hb).da
            exact (image_any d1).mono (fun e w' ⟨h1, h2⟩ => ⟨h1, bstep hb h2 (Nat.le_refl _)⟩)
          have C19 : Hid (∀ w1 : World, Below wr.heap.size wr w1 → Calls Try.prog 19 #[.pointer (some ⟨p2.2, 0, none⟩)] w1 fun e w' => e = .returned (.string (catB (Ss j).safe)) ∧ Hid (Below wr.heap.size wr w')) := by
            show ∀ w1 : World, _
            intro w1 hb
            obtain ⟨g2, cg2, pv2, _, d2⟩ := ((HF.out.two j p2 HP2.out).1.below hb).db
            exact (rimage_any d2).mono (fun e w' ⟨h1, h2⟩ => ⟨h1, bstep hb h2 (Nat.le_refl _)⟩)
          have HEND : Hid (∀ w1 : World, Below wr.heap.size wr w1 → All w.heap.size w1 (.slice (some ⟨gT, 0, none⟩) 1 capT) ps k ∧ Below w.heap.size w w1) := fun w1 hb => ⟨⟨Fs, Gs, Ss, HF.out.below hb⟩, bstep HBr.out hb (Nat.le_refl _)⟩
          clear hF hrow e1 e2 hp hB HA HBB HF HBr HP2
          generalize catB (Ss j).safe = IM at *
          go_wp2_with fail
          refine C22.out.mono ?_
          rintro e w5 ⟨rfl, h5⟩
          obtain ⟨q1, q2⟩ := KR.out w5 h5.out
          have hgl5 : gT < w5.heap.size := Nat.lt_of_lt_of_le hgl h5.out.size
          clear C22 r1 r2
          go_wp2_with fail
          go_region_held3 (fun w' => w'.cell? ⟨gT, j * 2, none⟩ = some (.pointer (some ⟨p2.1, 0, none⟩)) ∧ w'.cell? ⟨gT, j * 2 + 1, none⟩ = some (.pointer (some ⟨p2.2, 0, none⟩)))
            (first | go_keep | exact KR.out _ h7.out | exact KR.out _ h6.out)
            (first | (go_at_call 18; refine (C18.out _ (by exact ⟨h5.out.os, h5.out.tape, h5.out.output, h5.out.size, h5.out.block⟩)).mono ?_; rintro e w6 ⟨rfl, h6⟩) | (go_at_call 19; refine (C19.out _ (by exact h6.out)).mono ?_; rintro e w7 ⟨rfl, h7⟩))
          have HX : Hid (All w.heap.size w7 (.slice (some ⟨gT, 0, none⟩) 1 capT) ps k ∧ Below w.heap.size w w7) := HEND.out w7 h7.out
          clear C18 C19 KR HEND h5 h6 h7 q1 q2
          go_wp2
          go_roundw
          case rel => exact ⟨j + 1, by omega, by go_num, HX.out⟩
          case measure => simp [intOf]; omega
        · have hj' : ¬ (j : Int) < 1 := by omega
          have HX : Hid (Below w.heap.size w wr) := hB
          clear hA hB HA HBB
          go_wp2
          go_ret
          exact ⟨rfl, HX.out⟩
end Go.Proofs.Ytbjpphoohoedcaa
