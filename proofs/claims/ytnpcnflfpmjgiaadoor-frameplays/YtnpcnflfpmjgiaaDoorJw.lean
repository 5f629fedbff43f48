/- Two disks beside one another: pair.writes. -/
import Derived.Test.YtnpcnflfpmjgiaaDoorJq
import Derived.Test.YtnpcnflfpmjgiaaDoorTw
import Derived.Test.YtnpcnflfpmjgiaaDoorCi
namespace Go.Proofs.YtnpcnflfpmjgiaaDoor
open Go.RowKit
set_option linter.unusedVariables false
set_option linter.unusedSimpArgs false

set_option maxHeartbeats 4000000 in
set_option maxRecDepth 100000 in
theorem pwrites_any {B : Nat} {w : World} {a b : Nat} {fa fb : Nat → Prop} {S : DS} (t : Two B w a b fa fb S S) (kd on n gk : Int) (gn : Nat) (gi : Int) (gb : ByteArray) (f : UInt8) (ad : Option Addr) (fl c : Nat) (hn : I64 n) (hg : gn < 18446744073709551616) (hBw : B ≤ w.heap.size) (hfew : S.wait.length < 5864062014000) : Calls Tryd.prog 54 #[.agg #[.pointer (some ⟨a, 0, none⟩), .pointer (some ⟨b, 0, none⟩)], .agg #[.int .i64 kd, .int .i64 on, .int .i64 n, .int .i64 gk, .int .u64 (gn : Int), .int .i64 gi, .string gb, .int .u8 (f.toNat : Int), .slice ad fl c]] w fun e w' => e = .returned (.bool true) ∧ ∃ sB : ByteArray, TL B a b fa fb w (writeD S (pickI n (S.safe.length : Int)) sB) (writeD S (pickI n (S.safe.length : Int)) sB) w' := by
  obtain ⟨i0, hi, hz0, hz1, hz2⟩ := info_parts info5
  obtain ⟨W, hW⟩ : ∃ W, W = (w.alloc (.cells #[.pointer (some ⟨a, 0, none⟩), .pointer (some ⟨b, 0, none⟩)] 43)).alloc (.cells #[.int .i64 kd, .int .i64 on, .int .i64 n, .int .i64 gk, .int .u64 (gn : Int), .int .i64 gi, .string gb, .int .u8 (f.toNat : Int), .slice ad fl c] 46) := ⟨_, rfl⟩
  have hbW : Below w.heap.size w W := hW ▸ (Below_new _ _).alloc (by rw [World.size_alloc]; omega) _
  have KP : Blk W w.heap.size #[.pointer (some ⟨a, 0, none⟩), .pointer (some ⟨b, 0, none⟩)] 43 := hW ▸ (Blk.new _ _ _).below (Below_new _ _)
  have KQ : Blk W (w.heap.size + 1) #[.int .i64 kd, .int .i64 on, .int .i64 n, .int .i64 gk, .int .u64 (gn : Int), .int .i64 gi, .string gb, .int .u8 (f.toNat : Int), .slice ad fl c] 46 := by
    have := Blk.new (w.alloc (.cells #[.pointer (some ⟨a, 0, none⟩), .pointer (some ⟨b, 0, none⟩)] 43)) #[.int .i64 kd, .int .i64 on, .int .i64 n, .int .i64 gk, .int .u64 (gn : Int), .int .i64 gi, .string gb, .int .u8 (f.toNat : Int), .slice ad fl c] 46
    rw [World.size_alloc] at this
    rw [hW]; exact this
  have T1 := t.below hbW
  have hBW : B ≤ W.heap.size := Nat.le_trans hBw hbW.size
  have hlow : ∀ k, (fa k ∨ fb k) → k < w.heap.size := fun k h => (t.low k h).2
  have hPl : w.heap.size + 1 < W.heap.size := KQ.lt
  have HKW : Hid (∀ w1 : World, Below W.heap.size W w1 → w1.cell? ⟨w.heap.size, 0, none⟩ = some (.pointer (some ⟨a, 0, none⟩)) ∧ w1.cell? ⟨w.heap.size, 1, none⟩ = some (.pointer (some ⟨b, 0, none⟩)) ∧ w1.cell? ⟨w.heap.size + 1, 0, none⟩ = some (.int .i64 kd) ∧ w1.cell? ⟨w.heap.size + 1, 2, none⟩ = some (.int .i64 n) ∧ w1.cell? ⟨w.heap.size + 1, 3, none⟩ = some (.int .i64 gk) ∧ w1.cell? ⟨w.heap.size + 1, 4, none⟩ = some (.int .u64 (gn : Int)) ∧ w1.cell? ⟨w.heap.size + 1, 5, none⟩ = some (.int .i64 gi) ∧ w1.cell? ⟨w.heap.size + 1, 6, none⟩ = some (.string gb) ∧ w1.cell? ⟨w.heap.size + 1, 7, none⟩ = some (.int .u8 (f.toNat : Int))) := by
    show ∀ w1 : World, _
    intro w1 hb
    have q1 := KP.below hb
    have q2 := KQ.below hb
    exact ⟨q1.cell 0 rfl, q1.cell 1 rfl, q2.cell 0 rfl, q2.cell 2 rfl, q2.cell 3 rfl, q2.cell 4 rfl, q2.cell 5 rfl, q2.cell 6 rfl, q2.cell 7 rfl⟩
  have HW : Hid (∀ (w' : World) (S1 : DS), TL B a b fa fb W S1 S1 w' → TL B a b fa fb w S1 S1 w') := fun w' S1 h => TL.start T1 hbW hlow h
  have HTB : Hid (∀ w1 : World, Below W.heap.size W w1 → TL B a b fa fb W S S w1) := fun w1 hb => (TL.refl T1).then hb
  have C48 : Hid (∀ w1 : World, Below W.heap.size W w1 → Calls Tryd.prog 48 #[.pointer (some ⟨b, 0, none⟩)] w1 fun e w' => e = .returned (.int .i64 (S.safe.length : Int)) ∧ w' = w1) := by
    show ∀ w1 : World, _
    intro w1 hb
    obtain ⟨g, cg, pv, _, db⟩ := (T1.below hb).db
    exact rsize_any db
  have hok := T1.da.ok
  have C17 : Hid (∀ w1 : World, Calls Tryd.prog 17 #[.int .i64 n, .int .i64 (S.safe.length : Int)] w1 fun e w' => e = .returned (.int .i64 (pickI n (S.safe.length : Int))) ∧ w' = w1) := fun w1 => pk_any n (S.safe.length : Int) hn (by have := hok.one; omega) (by have := hok.most; omega) w1
  obtain ⟨q, hq⟩ : ∃ q : Nat, pickI n 512 = (q : Int) := ⟨(pickI n 512).toNat, by have := pickI_range n 512 (by omega); omega⟩
  have hq5 : q < 512 := by have := pickI_range n 512 (by omega); omega
  have CQ : Hid (∀ w1 : World, Calls Tryd.prog 17 #[.int .i64 n, .int .i64 512] w1 fun e w' => e = .returned (.int .i64 (q : Int)) ∧ w' = w1) := by
    show ∀ w1 : World, _
    intro w1
    have := pk_any n 512 hn (by omega) (by omega) w1
    rw [hq] at this
    exact this
  have CS : Hid (∀ w1 : World, Calls Tryd.prog 14 #[.agg #[.int .i64 gk, .int .u64 (gn : Int), .int .i64 gi, .string gb], .int .i64 (f.toNat : Int)] w1 fun e w' => e = .returned (.tuple #[.string (sealR ⟨gk, gn, gi, gb⟩ (f.toNat : Int)), .int .i64 (sealE ⟨gk, gn, gi, gb⟩ (f.toNat : Int))]) ∧ Below w1.heap.size w1 w') := fun w1 => rseal_any ⟨gk, gn, gi, gb⟩ (f.toNat : Int) hg w1
  have HSZ : Hid (sealE ⟨gk, gn, gi, gb⟩ (f.toNat : Int) = 0 → (sealR ⟨gk, gn, gi, gb⟩ (f.toNat : Int)).size = 512) := fun h => by
    have hw : wrong ⟨gk, gn, gi, gb⟩ = 0 := by
      unfold sealE at h
      by_cases h1 : (f.toNat : Int) < 0 ∨ 255 < (f.toNat : Int)
      · rw [if_pos h1] at h; omega
      · rw [if_neg h1] at h; exact h
    obtain ⟨k, i, hk, hi, k1, k2, i1, hz⟩ := right_of hw
    unfold sealR; rw [if_pos h]; exact sealB_size _ _ _ _ _ hz
  have hf8 := f.toNat_lt
  have V0 : IntKind.i64.wrap (f.toNat : Int) = (f.toNat : Int) := by rw [IntKind.wrap_i64]; omega
  have CA : Hid (∀ (M : Int) (sB : ByteArray), sB.size = 512 → ∀ w0 : World, B ≤ w0.heap.size → ∀ w1 : World, TL B a b fa fb w0 S S w1 → Calls Tryd.prog 61 #[.pointer (some ⟨a, 0, none⟩), .int .i64 M, .string sB] w1 fun e w' => e = .returned (.int .i64 (writeE S M sB)) ∧ TL B a b fa fb w0 (writeD S M sB) S w') := by
    show ∀ (M : Int) (sB : ByteArray), _
    intro M sB hs w0 h0 w1 hT
    obtain ⟨fa1, fb1, t1, hk1, hn1⟩ := hT
    have hz1 := hk1.size
    refine (write_any t1.da M sB (by omega) (by omega) (by omega)).mono ?_
    rintro e w' ⟨h1, h2⟩
    exact ⟨h1, TL.trans hk1 hn1 (t1.stepA h2)⟩
  have CB : Hid (∀ (M : Int) (sB : ByteArray), ∀ w0 : World, B ≤ w0.heap.size → ∀ w1 : World, TL B a b fa fb w0 (writeD S M sB) S w1 → Calls Tryd.prog 79 #[.pointer (some ⟨b, 0, none⟩), .int .i64 M, .string sB] w1 fun e w' => e = .returned (.int .i64 (writeE S M sB)) ∧ TL B a b fa fb w0 (writeD S M sB) (writeD S M sB) w') := by
    show ∀ (M : Int) (sB : ByteArray), _
    intro M sB w0 h0 w1 hT
    obtain ⟨fa1, fb1, t1, hk1, hn1⟩ := hT
    have hz1 := hk1.size
    refine (rwrite_any t1.db M sB hfew (by omega)).mono ?_
    rintro e w' ⟨h1, h2⟩
    exact ⟨h1, TL.trans hk1 hn1 (t1.stepB h2)⟩
  have HLOW : Hid (∀ (S1 T1 : DS) (w1 w2 : World) (g : Nat) (l : List UInt8), Below W.heap.size W w1 → W.heap.size ≤ g → g < w1.heap.size → Row8 w1 g l → ∀ fa1 fb1 : Nat → Prop, True → TL B a b fa fb w1 S1 T1 w2 → Row8 w2 g l ∧ w2.cell? ⟨w.heap.size, 0, none⟩ = some (.pointer (some ⟨a, 0, none⟩)) ∧ w2.cell? ⟨w.heap.size, 1, none⟩ = some (.pointer (some ⟨b, 0, none⟩))) := by
    show ∀ (S1 T1 : DS) (w1 w2 : World) (g : Nat) (l : List UInt8), _
    rintro S1 T1 w1 w2 g l hb hg1 hg2 hR _ _ _ ⟨_, _, _, hk, _⟩
    have hz := hbW.size
    refine ⟨fun j hj => ?_, ?_⟩
    · have hnot : ¬ (fa g ∨ fb g) := fun e => by have := hlow _ e; omega
      exact ⟨hk.cell (hR j hj).1 hnot, (hk.frozen (p := ⟨g, j, none⟩) hg2 hnot).trans (hR j hj).2⟩
    · have q1 := (KP.below hb).kept hk (fun e => by have := hlow _ e; omega)
      exact ⟨q1.cell 0 rfl, q1.cell 1 rfl⟩
  have HTW : Hid (∀ w1 : World, Below W.heap.size W w1 → Two B w1 a b fa fb S S) := fun w1 hb => T1.below hb
  obtain ⟨p0, p1, o0, o2, o3, o4, o5, o6, o7⟩ := HKW.out W (Below.refl _ _)
  clear t T1 KP KQ hbW hlow hok hq
  generalize pickI n (S.safe.length : Int) = M at *
  generalize (S.safe.length : Int) = LN at *
  generalize sealE ⟨gk, gn, gi, gb⟩ (f.toNat : Int) = SE at *
  generalize sealR ⟨gk, gn, gi, gb⟩ (f.toNat : Int) = SR at *
  go_enter Tryd.func54, Tryd.ntmps54
  go_wp2_with fail
  rw [← hW]
  clear hW
  go_region_held3 (fun w' => w'.cell? ⟨w.heap.size, 0, none⟩ = some (.pointer (some ⟨a, 0, none⟩)) ∧ w'.cell? ⟨w.heap.size, 1, none⟩ = some (.pointer (some ⟨b, 0, none⟩)) ∧ w'.cell? ⟨w.heap.size + 1, 2, none⟩ = some (.int .i64 n))
    (first | go_keep)
    (first | (go_at_call 48; refine (C48.out _ (by exact ⟨rfl, rfl, rfl, Nat.le_refl _, fun _ _ => rfl⟩)).mono ?_; rintro e w4 ⟨rfl, hw⟩; rw [hw]; clear hw) | (go_at_call 17; refine (C17.out _).mono ?_; rintro e w5 ⟨rfl, hw⟩; rw [hw]; clear hw))
  go_wp2_with (at_make; refine wpList_make_full _ rfl _ _ 58 rfl W.heap.size 5 i0 (.int .u8 0) 1 Tryd.underlying58 hi hz0 hz1 _ _ _ _ 512 rfl rfl rfl rfl ?c1 ?c2 ?c3 ?_)
  case c1 => rw [hz2]; omega
  case c2 => unfold maxLen; omega
  case c3 => exact Nat.le_refl _
  intro w2 hown hgrow
  have HR : Hid (w2.ownsRow W.heap.size 5 1 (.slice (some ⟨W.heap.size, 0, none⟩) 512 512) 512 (fill f 0)) := by
    have e : (madeCells #[Value.int .u8 0] 512).toList = fill f 0 := by rw [toList_madeCells_one]; unfold fill; rw [List.replicate_zero, List.nil_append]
    show w2.ownsRow _ _ _ _ _ _
    rw [← e]; exact hown
  have HB : Hid (Below W.heap.size W w2) := ((Below.refl W.heap.size W).drew).grown hgrow (Nat.le_refl _) (fun _ h => by cases h)
  clear hown hgrow p0 p1 o0 o2 o3 o4 o5 o6 o7 C17 C48
  go_wp2_with fail
  go_loopw [7] (fun t wr => ∃ k : Nat, k ≤ 512 ∧ t = .int .i64 k ∧ wr.ownsRow W.heap.size 5 1 (.slice (some ⟨W.heap.size, 0, none⟩) 512 512) 512 (fill f k) ∧ Below W.heap.size W wr) (fun t _ => 512 - (intOf t).toNat)
  case atStart => exact ⟨0, by omega, rfl, HR.out, HB.out⟩
  case round =>
    obtain ⟨k, hk, rfl, hR, hBk⟩ := hrel
    obtain ⟨p0, p1, o0, o2, o3, o4, o5, o6, o7⟩ := HKW.out wr hBk
    by_cases hlt : k < 512
    · have hk' : (k : Int) < 512 := by omega
      have hend : Hid ((wr.setCell ⟨W.heap.size, k, none⟩ (.int .u8 (f.toNat : Int))).ownsRow W.heap.size 5 1 (.slice (some ⟨W.heap.size, 0, none⟩) 512 512) 512 (fill f (k + 1)) ∧ Below W.heap.size W (wr.setCell ⟨W.heap.size, k, none⟩ (.int .u8 (f.toNat : Int)))) := by
        have := (hR.stored k (by8 f)).1
        rw [fill_set f k hlt] at this
        exact ⟨this, hBk.setCell (Nat.le_refl _) _⟩
      have hl : k < (fill f k).length := by have := hR.1; omega
      obtain ⟨v, hc⟩ : ∃ v, wr.cell? ⟨W.heap.size, k, none⟩ = some v := ⟨_, (hR.cellAt k (by omega)).trans (List.getElem?_eq_getElem hl)⟩
      have hf := hR.frozenAt k
      clear hR hBk HR HB hl
      go_wp2_with fail
      exact ⟨⟨k + 1, by omega, by go_num, hend.out⟩, by simp [intOf]; omega⟩
    · have hk' : ¬ (k : Int) < 512 := by omega
      have hke : k = 512 := by omega
      subst hke
      have HR8 : Hid (Row8 wr W.heap.size (List.replicate 512 f)) := by
        show Row8 _ _ _
        intro j hj
        have hj' : j < 512 := by simpa using hj
        refine ⟨?_, hR.frozenAt j⟩
        rw [hR.cellAt j (by omega), fill_full, List.getElem?_replicate, if_pos hj', List.getElem_replicate]; rfl
      have hgl : W.heap.size < wr.heap.size := (hR.lt _ rfl).2
      have HBk : Hid (Below W.heap.size W wr) := hBk
      clear hR hBk HR HB hk hlt
      go_upto_if 30 with fail
      go_cut [6] (fun t wx => ∃ (w9 : World) (g cap : Nat) (l : List UInt8), w9 = wx ∧ t = .slice (some ⟨g, 0, none⟩) 512 cap ∧ l.length = 512 ∧ Row8 w9 g l ∧ Below W.heap.size W w9 ∧ W.heap.size ≤ g ∧ g < w9.heap.size)
      case first =>
        by_cases h9 : kd = 9
        · subst h9
          by_cases hz : SE = 0
          · subst hz
            have hs5 := HSZ.out rfl
            go_wp2_with fail
            refine (CS.out _).mono ?_
            rintro e w3 ⟨rfl, hb3⟩
            obtain ⟨c9, W9, hrun9, hrow9, hb9, hz9⟩ := row8_made w3 SR
            have hB3 : Below W.heap.size W w3 := bstep HBk.out hb3 (Nat.le_refl _)
            have hB9 : Below W.heap.size W W9 := bstep hB3 hb9 (Nat.le_refl _)
            rw [hs5] at hrun9
            have hlen : SR.data.toList.length = 512 := hs5
            have hql : q < SR.data.toList.length := by omega
            obtain ⟨xb, hxb⟩ : ∃ xb, xb = SR.data.toList[q] := ⟨_, rfl⟩
            obtain ⟨r8, f8⟩ := hrow9 q hql
            rw [← hxb] at r8
            have hq6 : (q : Int) < 512 := by omega
            obtain ⟨xx, hxx⟩ : ∃ xx : UInt8, xx = UInt8.ofNat ((xb.toNat + 1) % 256) := ⟨_, rfl⟩
            have hxn : xx.toNat = (xb.toNat + 1) % 256 := by rw [hxx]; exact ofNat_byte _
            have V3 : IntKind.u8.wrap ((xb.toNat : Int) + 1) = (xx.toNat : Int) := by rw [IntKind.wrap_u8]; omega
            have HE : Hid (Row8 (W9.setCell ⟨w3.heap.size, q, none⟩ (.int .u8 (xx.toNat : Int))) w3.heap.size (SR.data.toList.set q xx) ∧ Below W.heap.size W (W9.setCell ⟨w3.heap.size, q, none⟩ (.int .u8 (xx.toNat : Int))) ∧ W.heap.size ≤ w3.heap.size ∧ w3.heap.size < (W9.setCell ⟨w3.heap.size, q, none⟩ (.int .u8 (xx.toNat : Int))).heap.size ∧ (SR.data.toList.set q xx).length = 512) := by
              refine ⟨hrow9.set q hql xx, hB9.setCell (p := ⟨w3.heap.size, q, none⟩) hB3.size _, hB3.size, by simpa using hz9, by rw [List.length_set, hlen]⟩
            obtain ⟨_, _, _, n2, _, _, _, _, _⟩ := HKW.out W9 hB9
            clear hrow9 hb9 hb3 hB3 hB9 hxb hxx hxn hlen hql
            go_wp2_with fail
            refine (CQ.out _).mono ?_
            rintro e wx ⟨rfl, hwx⟩
            rw [hwx]
            clear hwx hrun9
            go_wp2
            all_goals go_meet
            all_goals exact ⟨_, _, _, _, rfl, rfl, HE.out.2.2.2.2, HE.out.1, HE.out.2.1, HE.out.2.2.1, HE.out.2.2.2.1⟩
          · have hz' : (SE == 0) = false := by simpa using hz
            go_wp2_with fail
            refine (CS.out _).mono ?_
            rintro e w3 ⟨rfl, hb3⟩
            have HE : Hid (Row8 w3 W.heap.size (List.replicate 512 f) ∧ Below W.heap.size W w3 ∧ W.heap.size < w3.heap.size) := ⟨HR8.out.below hb3 hgl, bstep HBk.out hb3 (Nat.le_refl _), Nat.lt_of_lt_of_le hgl hb3.size⟩
            clear hb3
            go_wp2
            all_goals go_meet
            all_goals exact ⟨_, _, _, _, rfl, rfl, by simp, HE.out.1, HE.out.2.1, Nat.le_refl _, HE.out.2.2⟩
        · have h9' : (kd == 9) = false := by simpa using h9
          go_wp2
          all_goals go_meet
          all_goals exact ⟨_, _, _, _, rfl, rfl, by simp, HR8.out, HBk.out, Nat.le_refl _, hgl⟩
      case rest =>
      obtain ⟨w9, g, cap, l, hw9, rfl, hl, hR, hB, hg1, hg2⟩ := hcut
      subst hw9
      have hsz : (⟨l.toArray⟩ : ByteArray).size = 512 := by show (List.toArray l).size = 512; rw [List.size_toArray]; exact hl
      have HK9 : Hid (∀ (w1 : World), Row8 w1 g l → (convert 58 9 (.slice (some ⟨g, 0, none⟩) 512 cap)).run Tryd.prog w1 = .ok (.string ⟨l.toArray⟩) w1) := fun w1 h => h.back 512 hl.symm
      have hz9 : B ≤ w9.heap.size := Nat.le_trans hBW hB.size
      have HX : Hid (∀ (S1 T1 : DS) (w' : World), TL B a b fa fb w9 S1 T1 w' → w'.cell? ⟨w.heap.size, 0, none⟩ = some (.pointer (some ⟨a, 0, none⟩)) ∧ w'.cell? ⟨w.heap.size, 1, none⟩ = some (.pointer (some ⟨b, 0, none⟩)) ∧ (convert 58 9 (.slice (some ⟨g, 0, none⟩) 512 cap)).run Tryd.prog w' = .ok (.string ⟨l.toArray⟩) w') := by
        show ∀ (S1 T1 : DS) (w' : World), _
        intro S1 T1 w' h
        have := HLOW.out S1 T1 w9 w' g l hB hg1 hg2 hR fa fb trivial h
        exact ⟨this.2.1, this.2.2, HK9.out w' this.1⟩
      have H9 : Hid (∀ w1 : World, Below w9.heap.size w9 w1 → TL B a b fa fb w9 S S w1) := fun w1 hb => (TL.refl (HTW.out w9 hB)).then hb
      have DA : Hid (∀ w1 : World, TL B a b fa fb w9 S S w1 → Calls Tryd.prog 61 #[.pointer (some ⟨a, 0, none⟩), .int .i64 M, .string ⟨l.toArray⟩] w1 fun e w' => e = .returned (.int .i64 (writeE S M ⟨l.toArray⟩)) ∧ Hid (TL B a b fa fb w9 (writeD S M ⟨l.toArray⟩) S w') ∧ Hid (w'.cell? ⟨w.heap.size, 0, none⟩ = some (.pointer (some ⟨a, 0, none⟩)) ∧ w'.cell? ⟨w.heap.size, 1, none⟩ = some (.pointer (some ⟨b, 0, none⟩)) ∧ (convert 58 9 (.slice (some ⟨g, 0, none⟩) 512 cap)).run Tryd.prog w' = .ok (.string ⟨l.toArray⟩) w')) := fun w1 h => (CA.out M _ hsz w9 hz9 w1 h).mono (fun e w' ⟨h1, h2⟩ => ⟨h1, h2, HX.out _ _ _ h2⟩)
      have DB : Hid (∀ w1 : World, TL B a b fa fb w9 (writeD S M ⟨l.toArray⟩) S w1 → Calls Tryd.prog 79 #[.pointer (some ⟨b, 0, none⟩), .int .i64 M, .string ⟨l.toArray⟩] w1 fun e w' => e = .returned (.int .i64 (writeE S M ⟨l.toArray⟩)) ∧ Hid (TL B a b fa fb w9 (writeD S M ⟨l.toArray⟩) (writeD S M ⟨l.toArray⟩) w') ∧ Hid (w'.cell? ⟨w.heap.size, 0, none⟩ = some (.pointer (some ⟨a, 0, none⟩)) ∧ w'.cell? ⟨w.heap.size, 1, none⟩ = some (.pointer (some ⟨b, 0, none⟩)) ∧ (convert 58 9 (.slice (some ⟨g, 0, none⟩) 512 cap)).run Tryd.prog w' = .ok (.string ⟨l.toArray⟩) w')) := fun w1 h => (CB.out M _ w9 hz9 w1 h).mono (fun e w' ⟨h1, h2⟩ => ⟨h1, h2, HX.out _ _ _ h2⟩)
      have HEND : Hid (∀ w' : World, TL B a b fa fb w9 (writeD S M ⟨l.toArray⟩) (writeD S M ⟨l.toArray⟩) w' → ∃ sB : ByteArray, TL B a b fa fb w (writeD S M sB) (writeD S M sB) w') := fun w' h => ⟨_, HW.out _ _ (TL.trans (Kept.of_below hB) (fun k h => .inl h) h)⟩
      obtain ⟨x0, x1, hcv⟩ := HX.out _ _ _ (H9.out w9 (Below.refl _ _))
      have hcv' : (convert 58 9 (.slice (some ⟨g, 0, none⟩) 512 cap)).run Tryd.prog w9.drew = .ok (.string ⟨l.toArray⟩) w9.drew := (HX.out _ _ _ (H9.out w9.drew ⟨rfl, rfl, rfl, Nat.le_refl _, fun _ _ => rfl⟩)).2.2
      generalize hSB : (⟨l.toArray⟩ : ByteArray) = SB at *
      clear hR hB hg1 hg2 HK9 CA CB HLOW HTW HW HTB HKW CQ CS HSZ HR8 HBk p0 p1 o0 o2 o3 o4 o5 o6 o7 hgl hSB
      generalize writeE S M SB = E at *
      generalize hSD : writeD S M SB = SD at *
      clear hSD
      go_wp2_with fail
      go_region_held3 (fun w' => w'.cell? ⟨w.heap.size, 0, none⟩ = some (.pointer (some ⟨a, 0, none⟩)) ∧ w'.cell? ⟨w.heap.size, 1, none⟩ = some (.pointer (some ⟨b, 0, none⟩)) ∧ (convert 58 9 (.slice (some ⟨g, 0, none⟩) 512 cap)).run Tryd.prog w' = .ok (.string SB) w')
        (first | exact hcB.out | exact hcA.out | exact HX.out _ _ _ (H9.out _ ⟨rfl, rfl, rfl, Nat.le_refl _, fun _ _ => rfl⟩) | go_keep)
        (first | (go_at_call 61; refine (DA.out _ (by exact H9.out _ ⟨rfl, rfl, rfl, Nat.le_refl _, fun _ _ => rfl⟩)).mono ?_; rintro e wA ⟨rfl, hTA, hcA⟩) | (go_at_call 79; refine (DB.out _ (by exact hTA.out)).mono ?_; rintro e wB ⟨rfl, hTB, hcB⟩))
      have HE : Hid (∃ sB : ByteArray, TL B a b fa fb w (writeD S M sB) (writeD S M sB) wB) := HEND.out _ hTB.out
      clear DA DB hTA hcA hTB hcB HX H9 HEND x0 x1 hcv hcv'
      go_wp2
      go_ret
      exact ⟨rfl, HE.out⟩
end Go.Proofs.YtnpcnflfpmjgiaaDoor
