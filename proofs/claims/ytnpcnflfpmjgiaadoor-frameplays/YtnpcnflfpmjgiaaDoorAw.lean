/- The head of all statements, awake: true; older memory is as it was. Calls of package frame over a disk, one behind the other. -/
import Derived.Test.YtnpcnflfpmjgiaaDoorFy
namespace Go.Proofs.YtnpcnflfpmjgiaaDoor
open Go.RowKit
set_option linter.unusedVariables false
set_option linter.unusedSimpArgs false

section
variable {B : Nat} {w0 w : World} {b : Nat} {f0 : Nat → Prop} {S : DS}
theorem l_put (h : Left B b f0 w0 S w) (hT : Tab w) (hB : 1 < B) (hBw : B ≤ w0.heap.size) (n : Int) (f : Fr) (hn : f.num < 18446744073709551616) (hf : S.wait.length < 17592186044416) : Calls Tryd.prog 32 #[.pointer (some ⟨b, 0, none⟩), .int .i64 n, frV f] w fun e w' => e = .returned (.int .i64 (putE S n f)) ∧ Left B b f0 w0 (putD S n f) w' := by
  have hz := h.size
  obtain ⟨fp, d, hk, hnn⟩ := h
  refine (put_any d n f hn hT hB (by omega) hf).mono ?_
  rintro e w' ⟨rfl, hL⟩
  exact ⟨rfl, Left.trans hk hnn hL⟩
theorem l_get (h : Left B b f0 w0 S w) (hT : Tab w) (hB : 1 < B) (n : Int) : Calls Tryd.prog 35 #[.pointer (some ⟨b, 0, none⟩), .int .i64 n] w fun e w' => e = .returned (.tuple #[frV (getF S n), .int .i64 (getE S n)]) ∧ Left B b f0 w0 (readD S n) w' := by
  obtain ⟨fp, d, hk, hnn⟩ := h
  refine (get_any d n hT hB).mono ?_
  rintro e w' ⟨rfl, hL⟩
  exact ⟨rfl, Left.trans hk hnn hL⟩
theorem Left.tab (h : Left B b f0 w0 S w) (hT : Tab w0) (hn : ¬ f0 1) : Tab w := hT.kept h.keeps hn
end
theorem awSeal : sealR awF1 7 = sealB 1 2 3 ⟨#[97, 98]⟩ 7 ∧ sealE awF1 7 = 0 := by
  have h : sealE awF1 7 = 0 := rfl
  refine ⟨?_, h⟩
  unfold sealR
  rw [if_pos h]
  rfl
theorem aw_head : (sealB 1 2 3 ⟨#[97, 98]⟩ 7).extract 0 18 = ⟨#[7, 1, 0, 0, 0, 0, 0, 0, 0, 2, 0, 0, 0, 3, 0, 2, 97, 98]⟩ := by
  apply list_ext
  rw [ext_list, sealB_list]
  rfl
set_option maxHeartbeats 4000000 in
set_option maxRecDepth 100000 in
theorem awake_any (w : World) (hT : Tab w) : Calls Tryd.prog 12 #[] w fun e w' => e = .returned (.bool true) ∧ Below w.heap.size w w' := by
  have hB1 := hT.pos
  obtain ⟨e1, e2⟩ := awSeal
  obtain ⟨o1, o2, o3, o4⟩ := open_sealR (f := awF1) rfl (by decide) 7 (by decide)
  have eB : sealB awF1.kind.toNat awF1.num awF1.idx.toNat awF1.body 7 = sealB 1 2 3 ⟨#[97, 98]⟩ 7 := rfl
  rw [eB] at o1 o2 o3 o4
  have hz : (sealB 1 2 3 ⟨#[97, 98]⟩ 7).size = 512 := sealB_size _ _ _ _ _ (by decide)
  have hd : ((sealB 1 2 3 ⟨#[97, 98]⟩ 7).extract 0 18).toList = (⟨#[7, 1, 0, 0, 0, 0, 0, 0, 0, 2, 0, 0, 0, 3, 0, 2, 97, 98]⟩ : ByteArray).toList := by rw [aw_head]
  have CS : Hid (Calls Tryd.prog 13 #[.agg #[.int .i64 1, .int .u64 2, .int .i64 3, .string ⟨#[97, 98]⟩], .int .i64 7] w fun e w' => e = .returned (.tuple #[.string (sealB 1 2 3 ⟨#[97, 98]⟩ 7), .int .i64 0]) ∧ Below w.heap.size w w') := by
    have := seal_any awF1 7 (by decide) w hT
    rw [e1, e2] at this
    exact this
  have CO : Hid (∀ w : World, Tab w → Calls Tryd.prog 15 #[.string (sealB 1 2 3 ⟨#[97, 98]⟩ 7)] w fun e w' => e = .returned (.tuple #[.agg #[.int .i64 1, .int .u64 2, .int .i64 3, .string ⟨#[97, 98]⟩], .int .i64 7, .int .i64 0]) ∧ Below w.heap.size w w') := by
    intro w hT
    have := open_any (sealB 1 2 3 ⟨#[97, 98]⟩ 7) (by omega) w hT
    rw [o1, o2, o3] at this
    exact this
  generalize sealB 1 2 3 ⟨#[97, 98]⟩ 7 = SB at *
  have a1 : SB[511]'(by omega) = at8 SB 511 := at8_of _
  have a2 : ((at8 SB 511).toNat : Int) = 7 := by omega
  obtain ⟨m1, m2, m3, m4, m5⟩ := aw_all
  have CN : Hid (∀ w1 : World, w.heap.size ≤ w1.heap.size → Calls Tryd.prog 18 #[.int .i64 1] w1 fun e w' => Made w.heap.size w1 awS0 e w') := fun w1 h => new_ok 1 (by decide) (by decide) w.heap.size w1 h
  have CP1 : Hid (∀ (b : Nat) (f0 : Nat → Prop) (w0 w1 : World), Left w.heap.size b f0 w0 awS0 w1 → Tab w1 → w.heap.size ≤ w0.heap.size → Calls Tryd.prog 32 #[.pointer (some ⟨b, 0, none⟩), .int .i64 0, .agg #[.int .i64 1, .int .u64 2, .int .i64 3, .string ⟨#[97, 98]⟩]] w1 fun e w' => e = .returned (.int .i64 0) ∧ Left w.heap.size b f0 w0 awS1 w') := by
    intro b f0 w0 w1 h hT hw
    have := l_put h hT hB1 hw 0 awF1 (by decide) (by rw [m4]; decide)
    rw [m1] at this
    exact this
  have CP2 : Hid (∀ (b : Nat) (f0 : Nat → Prop) (w0 w1 : World), Left w.heap.size b f0 w0 awS1 w1 → Tab w1 → w.heap.size ≤ w0.heap.size → Calls Tryd.prog 32 #[.pointer (some ⟨b, 0, none⟩), .int .i64 0, .agg #[.int .i64 9, .int .u64 0, .int .i64 0, .string ⟨#[]⟩]] w1 fun e w' => e = .returned (.int .i64 0) ∧ Left w.heap.size b f0 w0 awS2 w') := by
    intro b f0 w0 w1 h hT hw
    have := l_put h hT hB1 hw 0 awF2 (by decide) (by rw [m5]; decide)
    rw [m2] at this
    exact this
  have CC : Hid (∀ (b : Nat) (f0 : Nat → Prop) (w0 w1 : World), Left w.heap.size b f0 w0 awS2 w1 → Calls Tryd.prog 34 #[.pointer (some ⟨b, 0, none⟩), .slice (some ⟨w1.heap.size, 0, none⟩) 2 2] (w1.alloc (.cells #[.int .i64 1, .int .i64 0, .int .i64 2, .int .i64 100] 72)) fun e w' => e = .returned (.tuple #[]) ∧ Left w.heap.size b f0 w0 awS3 w') := by
    intro b f0 w0 w1 h
    exact l_crash_new h [(1, 0), (2, 100)] #[.int .i64 1, .int .i64 0, .int .i64 2, .int .i64 100] 2 (fun i kd t hi => by
      match i, hi with
      | 0, hi => obtain ⟨rfl, rfl⟩ := Prod.mk.inj (Option.some.inj hi); exact ⟨rfl, rfl⟩
      | 1, hi => obtain ⟨rfl, rfl⟩ := Prod.mk.inj (Option.some.inj hi); exact ⟨rfl, rfl⟩
      | n + 2, hi => simp at hi)
  have CG : Hid (∀ (b : Nat) (f0 : Nat → Prop) (w0 w1 : World), Left w.heap.size b f0 w0 awS3 w1 → Tab w1 → Calls Tryd.prog 35 #[.pointer (some ⟨b, 0, none⟩), .int .i64 0] w1 fun e w' => ∃ g, e = .returned (.tuple #[frV g, .int .i64 50]) ∧ Left w.heap.size b f0 w0 (readD awS3 0) w') := by
    intro b f0 w0 w1 h hT
    have := l_get h hT hB1 0
    rw [m3] at this
    exact this.mono (fun e w' ⟨he, hL⟩ => ⟨_, he, hL⟩)
  clear e1 e2 o1 o2 o3 o4 eB m1 m2 m3 m4 m5
  generalize readD awS3 0 = awS4 at *
  generalize awS3 = S3 at *
  generalize awS2 = S2 at *
  generalize awS1 = S1 at *
  generalize awS0 = S0 at *
  go_enter Tryd.func12, Tryd.ntmps12
  go_wp2_with fail
  refine CS.out.mono ?_
  rintro e w1 ⟨rfl, hb1⟩
  have T1 : Tab w1 := hT.below hb1
  clear CS
  go_wp2_with fail
  refine (CO.out _ T1).mono ?_
  rintro e w2 ⟨rfl, hb2⟩
  have T2 : Tab w2 := T1.below hb2
  have hB2 : Below w.heap.size w w2 := hb1.trans (hb2.mono hb1.size)
  have hb3 : Below w2.heap.size w2 (w2.alloc (.cells #[.int .i64 1, .int .u64 2, .int .i64 3, .string ⟨#[97, 98]⟩] 24)) := (Below.refl _ _).alloc (Nat.le_refl _) _
  have hblk := Blk.new w2 #[.int .i64 1, .int .u64 2, .int .i64 3, .string ⟨#[97, 98]⟩] 24
  have T3 := T2.below hb3
  have hB3 : Below w.heap.size w (w2.alloc (.cells #[.int .i64 1, .int .u64 2, .int .i64 3, .string ⟨#[97, 98]⟩] 24)) := hB2.trans (hb3.mono hB2.size)
  have hsz := hB3.size
  clear CO hb1 hb2 T1 hd a1 a2 hz hB2 T2 hb3
  go_wp2_with fail
  generalize w2.alloc (.cells #[.int .i64 1, .int .u64 2, .int .i64 3, .string ⟨#[97, 98]⟩] 24) = W3 at *
  generalize w2.heap.size = g at *
  refine (CN.out _ hsz).mono ?_
  rintro e w4 ⟨b, fp, rfl, hd4, hfp, hb4⟩
  have hblk4 := hblk.below hb4
  have T4 := T3.below hb4
  have hB4 : Below w.heap.size w w4 := hB3.trans (hb4.mono hB3.size)
  have hng : ¬ fp g := fun e => by have := hfp g e; have := hblk.lt; omega
  have hn1 : ¬ fp 1 := fun e => by have := (hd4.fp 1 e).1; omega
  have hw4 : w.heap.size ≤ w4.heap.size := hB4.size
  have L4 : Hid (Left w.heap.size b fp w4 S0 w4) := Left.refl hd4
  have HT : Hid (∀ (S : DS) (w' : World), Left w.heap.size b fp w4 S w' → Tab w' ∧ Blk w' g #[.int .i64 1, .int .u64 2, .int .i64 3, .string ⟨#[97, 98]⟩] 24) := fun S w' h => ⟨h.tab T4 hn1, hblk4.kept h.keeps hng⟩
  have HE : Hid (∀ (S : DS) (w' : World), Left w.heap.size b fp w4 S w' → Below w.heap.size w w') := fun S w' h => hB4.trans (h.keeps.below hw4 (fun k e => (hd4.fp k e).1))
  have c0 := hblk4.cell 0 rfl
  have c1 := hblk4.cell 1 rfl
  have c2 := hblk4.cell 2 rfl
  have c3 := hblk4.cell 3 rfl
  clear CN hblk T3 hB3 hsz hfp hb4 hblk4 hd4 hng hn1 hB4 hT
  unfold pt
  go_wp2_with fail
  refine (CP1.out b fp w4 w4 L4.out T4 hw4).mono ?_
  rintro e w5 ⟨rfl, L5⟩
  have T5 := (HT.out _ _ L5).1
  have L5' : Hid (Left w.heap.size b fp w4 S1 w5) := L5
  clear CP1 L4 T4 c0 c1 c2 c3 L5
  go_wp2_with fail
  refine (CP2.out b fp w4 w5 L5'.out T5 hw4).mono ?_
  rintro e w6 ⟨rfl, L6⟩
  have L6' : Hid (Left w.heap.size b fp w4 S2 w6) := L6
  clear CP2 L5' T5 L6
  go_wp2_with fail
  refine (CC.out b fp w4 w6 L6'.out).mono ?_
  rintro e w7 ⟨rfl, L7⟩
  have T7 := (HT.out _ _ L7).1
  have L7' : Hid (Left w.heap.size b fp w4 S3 w7) := L7
  clear CC L6' L7
  go_wp2_with fail
  refine (CG.out b fp w4 w7 L7'.out T7).mono ?_
  rintro e w8 ⟨gf, rfl, L8⟩
  have hblk8 := (HT.out _ _ L8).2
  have d2 := hblk8.cell 2 rfl
  have d3 := hblk8.cell 3 rfl
  have hB8 := HE.out _ _ L8
  have hend := hB8.alloc hB8.size (.cells #[.int .i64 gf.kind, .int .u64 gf.num, .int .i64 gf.idx, .string gf.body] 24)
  have hlt := hblk8.lt
  obtain ⟨gk, gn, gi, gb⟩ := gf
  unfold frV
  simp only at hend ⊢
  clear CG L7' T7 L8 hblk8 HT HE hB8
  go_wp2
  go_ret
  exact ⟨rfl, hend⟩
end Go.Proofs.YtnpcnflfpmjgiaaDoor
