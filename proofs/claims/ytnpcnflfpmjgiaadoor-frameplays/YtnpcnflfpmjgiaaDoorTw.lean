/- The walk of FrameTurned. -/
import Derived.Test.YtnpcnflfpmjgiaaDoorTu
import Derived.Test.YtnpcnflfpmjgiaaDoorWb
namespace Go.Proofs.YtnpcnflfpmjgiaaDoor
open Go.RowKit
set_option linter.unusedVariables false
set_option linter.unusedSimpArgs false

/-- A row of bytes lies in memory, and may be written. -/
def Row8 (w : World) (g : Nat) (l : List UInt8) : Prop := ∀ j (h : j < l.length), w.cell? ⟨g, j, none⟩ = some (.int .u8 (l[j].toNat : Int)) ∧ w.frozen? ⟨g, j, none⟩ = false
theorem row8_made (w : World) (s : ByteArray) : ∃ k W, (convert 9 58 (.string s)).run Tryd.prog w = .ok (.slice (some ⟨w.heap.size, 0, none⟩) s.size k) W ∧ Row8 W w.heap.size s.data.toList ∧ Below w.heap.size w W ∧ w.heap.size < W.heap.size := by
  refine ⟨_, _, run_bytes_of_string (P := Tryd.prog) w 9 58 5 s Tryd.underlying9 Tryd.underlying58 Tryd.underlying5, ?_, ?_, ?_⟩
  · intro j h
    have hj : j < s.data.size := by simpa using h
    have e1 := World.cell?_alloc_mark w.drew (bytesRow s (grownCap w s.size 0 5)) 5 ((bytesRow s (grownCap w s.size 0 5)).size, (bytesRow s (grownCap w s.size 0 5)).size + 1) j
    have e2 := World.frozen?_alloc_mark w.drew (bytesRow s (grownCap w s.size 0 5)) 5 (bytesRow s (grownCap w s.size 0 5)).size ((bytesRow s (grownCap w s.size 0 5)).size + 1) j
    rw [bytesRow_at s _ j hj] at e1
    refine ⟨e1, ?_⟩
    have hsz : j < (bytesRow s (grownCap w s.size 0 5)).size := by
      have := bytesRow_at s (grownCap w s.size 0 5) j hj
      exact (Array.getElem?_eq_some_iff.1 this).1
    refine e2.trans ?_
    rw [show decide ((bytesRow s (grownCap w s.size 0 5)).size ≤ j) = false by simp; omega, Bool.false_and]
  · exact ((Below.refl w.heap.size w).drew).alloc (Nat.le_refl _) _
  · show w.heap.size < (w.drew.alloc _).heap.size
    rw [World.size_alloc]; exact Nat.lt_succ_self _
theorem Row8.set {w : World} {g : Nat} {l : List UInt8} (h : Row8 w g l) (j : Nat) (hj : j < l.length) (x : UInt8) : Row8 (w.setCell ⟨g, j, none⟩ (.int .u8 (x.toNat : Int))) g (l.set j x) := by
  intro i hi
  have hi' : i < l.length := by simpa using hi
  obtain ⟨c, f⟩ := h i hi'
  by_cases e : i = j
  · subst e
    refine ⟨?_, by simpa using f⟩
    rw [World.cell?_setCell_same _ _ _ c]; simp
  · refine ⟨?_, by simpa using f⟩
    rw [World.cell?_setCell_other _ _ _ _ (by intro q; injection q with _ q _; omega), List.getElem_set_ne (by omega)]; exact c
theorem Row8.back {w : World} {g cap : Nat} {l : List UInt8} (h : Row8 w g l) (n : Nat) (hn : n = l.length) : (convert 58 9 (.slice (some ⟨g, 0, none⟩) n cap)).run Tryd.prog w = .ok (.string ⟨l.toArray⟩) w := by
  subst hn
  refine run_convert_bytes_back (P := Tryd.prog) w 58 9 5 ⟨g, 0, none⟩ cap l Tryd.underlying58 Tryd.underlying5 Tryd.underlying9 (fun j hj => ?_)
  rw [show (⟨g, 0, none⟩ : Addr).add j = ⟨g, j, none⟩ by unfold Addr.add; split <;> simp_all]
  exact (h j hj).1
theorem xor_byte (a b : UInt8) (y : Nat) (hy : y < 256) (hb : b = UInt8.ofNat y) : bits .xor .u8 (a.toNat : Int) (y : Int) = ((a ^^^ b).toNat : Int) := by
  subst hb
  rw [u8_xor_nat a.toNat y a.toNat_lt hy, UInt8.toNat_xor]
  simp [UInt8.toNat_ofNat', Nat.mod_eq_of_lt hy]
theorem Row8.below {w w' : World} {g : Nat} {l : List UInt8} (h : Row8 w g l) (hb : Below w.heap.size w w') (hg : g < w.heap.size) : Row8 w' g l := fun j hj => by
  rw [hb.cell (p := ⟨g, j, none⟩) hg, hb.frozen (p := ⟨g, j, none⟩) hg]; exact h j hj
/-- Another mark at one end is told as torn. -/
theorem torn_first {s : ByteArray} (h : openE s = 0) (x : UInt8) (hx : x ≠ at8 s 0) : openE ⟨(s.data.toList.set 0 x).toArray⟩ = 50 := by
  obtain ⟨hs, h1, _⟩ := opened_facts h
  have hl : s.data.toList.length = 512 := hs
  unfold openE
  have e0 : at8 ⟨(s.data.toList.set 0 x).toArray⟩ 0 = x := by
    unfold at8
    rw [List.toList_toArray, List.getD_eq_getElem?_getD, List.getElem?_set_self (by omega)]; rfl
  have e1 : at8 ⟨(s.data.toList.set 0 x).toArray⟩ 511 = at8 s 511 := by
    unfold at8
    rw [List.toList_toArray, List.getD_eq_getElem?_getD, List.getD_eq_getElem?_getD, List.getElem?_set_ne (by decide)]
  rw [if_neg (by show ¬ (List.toArray _).size ≠ 512; rw [List.size_toArray, List.length_set, hl]; simp), if_pos]
  rw [e0, e1, ← h1]; exact hx
theorem torn_end {s : ByteArray} (h : openE s = 0) (x : UInt8) (hx : x ≠ at8 s 511) : openE ⟨(s.data.toList.set 511 x).toArray⟩ = 50 := by
  obtain ⟨hs, h1, _⟩ := opened_facts h
  have hl : s.data.toList.length = 512 := hs
  unfold openE
  have e0 : at8 ⟨(s.data.toList.set 511 x).toArray⟩ 511 = x := by
    unfold at8
    rw [List.toList_toArray, List.getD_eq_getElem?_getD, List.getElem?_set_self (by omega)]; rfl
  have e1 : at8 ⟨(s.data.toList.set 511 x).toArray⟩ 0 = at8 s 0 := by
    unfold at8
    rw [List.toList_toArray, List.getD_eq_getElem?_getD, List.getD_eq_getElem?_getD, List.getElem?_set_ne (by decide)]
  rw [if_neg (by show ¬ (List.toArray _).size ≠ 512; rw [List.size_toArray, List.length_set, hl]; simp), if_pos]
  rw [e0, e1, h1]; exact fun e => hx e.symm
set_option maxHeartbeats 8000000 in
set_option maxRecDepth 100000 in
theorem turned_walk (f : Fr) (x y : Int) (bits : Nat) (h1 : I64 f.kind) (h2 : I64 f.idx) (hn : f.num < 18446744073709551616) (hx : I64 x) (hy : I64 y) (hbits : bits < 4294967296) (w : World) (hT : Tab w) : Calls Tryd.prog 8 #[frV f, .int .i64 x, .int .i64 y, .int .u32 (bits : Int)] w fun e w' => e = .returned (.bool true) ∧ Below w.heap.size w w' := by
  obtain ⟨W, hW⟩ : ∃ W, W = w.alloc (.cells #[.int .i64 f.kind, .int .u64 f.num, .int .i64 f.idx, .string f.body] 24) := ⟨_, rfl⟩
  have hb0 : Below w.heap.size w W := by rw [hW]; exact (Below.refl _ _).alloc (Nat.le_refl _) _
  have hblk : Blk W w.heap.size #[.int .i64 f.kind, .int .u64 f.num, .int .i64 f.idx, .string f.body] 24 := by rw [hW]; exact Blk.new _ _ _
  have CA : Hid (∀ w : World, Tab w → Calls Tryd.prog 12 #[] w fun e w' => e = .returned (.bool true) ∧ Below w.heap.size w w') := awake_any
  have hwr := rightF_wrong f
  have hnr : (rightF f).num < 18446744073709551616 := hn
  have CR : Hid (∀ w : World, Calls Tryd.prog 29 #[.agg #[.int .i64 f.kind, .int .u64 f.num, .int .i64 f.idx, .string f.body]] w fun e w' => e = .returned (.agg #[.int .i64 (rightF f).kind, .int .u64 (rightF f).num, .int .i64 (rightF f).idx, .string (rightF f).body]) ∧ Below w.heap.size w w') := right_any f h1 h2
  obtain ⟨m, hm, hm2⟩ : ∃ m : Nat, pickI x 256 = m ∧ m < 256 := ⟨(pickI x 256).toNat, by have := pickI_range x 256 (by decide); omega, by have := pickI_range x 256 (by decide); omega⟩
  obtain ⟨c, hc, hc2⟩ : ∃ c : Nat, pickI y 255 = c ∧ c < 255 := ⟨(pickI y 255).toNat, by have := pickI_range y 255 (by decide); omega, by have := pickI_range y 255 (by decide); omega⟩
  obtain ⟨d, hd, hd2⟩ : ∃ d : Nat, pickI y 4049 = d ∧ d < 4049 := ⟨(pickI y 4049).toNat, by have := pickI_range y 4049 (by decide); omega, by have := pickI_range y 4049 (by decide); omega⟩
  have CX : Hid (∀ w : World, Calls Tryd.prog 17 #[.int .i64 x, .int .i64 256] w fun e w' => e = .returned (.int .i64 (m : Int)) ∧ w' = w) := by rw [← hm]; exact pk_any x 256 hx (by decide) (by decide)
  have CY : Hid (∀ w : World, Calls Tryd.prog 17 #[.int .i64 y, .int .i64 255] w fun e w' => e = .returned (.int .i64 (c : Int)) ∧ w' = w) := by rw [← hc]; exact pk_any y 255 hy (by decide) (by decide)
  have CZ : Hid (∀ w : World, Calls Tryd.prog 17 #[.int .i64 y, .int .i64 4049] w fun e w' => e = .returned (.int .i64 (d : Int)) ∧ w' = w) := by rw [← hd]; exact pk_any y 4049 hy (by decide) (by decide)
  clear hm hc hd hn h1 h2 hx hy
  generalize rightF f = g at *
  obtain ⟨s1, s2⟩ := seal_right hwr m hm2
  obtain ⟨o1, o2, o3, o4⟩ := open_sealR hwr hnr m hm2
  have hz := right_size hwr
  have z1 : (sealB g.kind.toNat g.num g.idx.toNat g.body m).size = 512 := sealB_size _ _ _ _ _ hz
  have C1 : Hid (∀ w : World, Tab w → Calls Tryd.prog 13 #[.agg #[.int .i64 g.kind, .int .u64 g.num, .int .i64 g.idx, .string g.body], .int .i64 (m : Int)] w fun e w' => e = .returned (.tuple #[.string (sealB g.kind.toNat g.num g.idx.toNat g.body m), .int .i64 0]) ∧ Below w.heap.size w w') := by
    intro w hT
    have := seal_any g (m : Int) hnr w hT
    rw [s1, s2] at this
    exact this
  generalize sealB g.kind.toNat g.num g.idx.toNat g.body m = S at *
  have CO : Hid (∀ (t : ByteArray) (w : World), t.size ≤ 9223372036854775807 → Tab w → Calls Tryd.prog 15 #[.string t] w fun e w' => e = .returned (.tuple #[.agg #[.int .i64 (openR t).kind, .int .u64 (openR t).num, .int .i64 (openR t).idx, .string (openR t).body], .int .i64 (openM t), .int .i64 (openE t)]) ∧ Below w.heap.size w w') := fun t w h hT => open_any t h w hT
  have CM : Hid (∀ w : World, ∃ k W, (convert 9 58 (.string S)).run Tryd.prog w = .ok (.slice (some ⟨w.heap.size, 0, none⟩) S.size k) W ∧ Row8 W w.heap.size S.data.toList ∧ Below w.heap.size w W ∧ w.heap.size < W.heap.size) := fun w => row8_made w S
  have HO : Hid (openE S = 0) := o1
  have hlen : S.data.toList.length = 512 := z1
  clear s1 s2 o1 o2 o3 o4 hz hwr hnr
  obtain ⟨gk, gn, gi, gb⟩ := g
  obtain ⟨k0, n0, i0, bb⟩ := f
  unfold frV
  simp only at *
  have hTW := hT.below hb0
  have hpos0 := hT.pos
  clear hT
  go_enter Tryd.func8, Tryd.ntmps8
  go_wp2_with fail
  rw [← hW]
  clear hW
  refine (CA.out _ hTW).mono ?_
  rintro e w1 ⟨rfl, hb1⟩
  have hblk1 := hblk.below hb1
  have hB1 := hb0.trans (hb1.mono hb0.size)
  have hT1 := hTW.below hb1
  have c0 := hblk1.cell 0 rfl
  have c1 := hblk1.cell 1 rfl
  have c2 := hblk1.cell 2 rfl
  have c3 := hblk1.cell 3 rfl
  clear hblk hb0 hb1 hTW CA
  go_wp2_with fail
  refine (CR.out _).mono ?_
  rintro e w2 ⟨rfl, hb2⟩
  have hb3 : Below w2.heap.size w2 (w2.alloc (.cells #[.int .i64 gk, .int .u64 gn, .int .i64 gi, .string gb] 24)) := (Below.refl _ _).alloc (Nat.le_refl _) _
  have hblk3 := Blk.new w2 #[.int .i64 gk, .int .u64 gn, .int .i64 gi, .string gb] 24
  have hB2 := hB1.trans (hb2.mono hB1.size)
  have hB3 := hB2.trans (hb3.mono hB2.size)
  have hT3 := (hT1.below hb2).below hb3
  clear CR c0 c1 c2 c3 hb2 hb3 hB1 hB2 hblk1 hT1
  go_wp2_with fail
  generalize w2.alloc (.cells #[.int .i64 gk, .int .u64 gn, .int .i64 gi, .string gb] 24) = W3 at *
  generalize w2.heap.size = p3 at *
  have c0 := hblk3.cell 0 rfl
  have c1 := hblk3.cell 1 rfl
  have c2 := hblk3.cell 2 rfl
  have c3 := hblk3.cell 3 rfl
  have C1W : Hid (Calls Tryd.prog 13 #[.agg #[.int .i64 gk, .int .u64 gn, .int .i64 gi, .string gb], .int .i64 (m : Int)] W3.drew fun e w' => e = .returned (.tuple #[.string S, .int .i64 0]) ∧ Hid (Below W3.heap.size W3 w') ∧ (w'.cell? ⟨p3, 0, none⟩ = some (.int .i64 gk) ∧ w'.cell? ⟨p3, 1, none⟩ = some (.int .u64 gn) ∧ w'.cell? ⟨p3, 2, none⟩ = some (.int .i64 gi) ∧ w'.cell? ⟨p3, 3, none⟩ = some (.string gb))) := by
    refine (C1.out W3.drew hT3).mono ?_
    rintro e w' ⟨rfl, h⟩
    have h' : Below W3.heap.size W3 w' := ⟨h.os, h.tape, h.output, h.size, h.block⟩
    have hk := hblk3.below h'
    exact ⟨rfl, h', hk.cell 0 rfl, hk.cell 1 rfl, hk.cell 2 rfl, hk.cell 3 rfl⟩
  clear C1
  go_region_held3 (fun w' => w'.cell? ⟨p3, 0, none⟩ = some (.int .i64 gk) ∧ w'.cell? ⟨p3, 1, none⟩ = some (.int .u64 gn) ∧ w'.cell? ⟨p3, 2, none⟩ = some (.int .i64 gi) ∧ w'.cell? ⟨p3, 3, none⟩ = some (.string gb))
    (first | exact q4 | exact ⟨c0, c1, c2, c3⟩)
    (first
      | (go_at_call 17; refine (CX.out _).mono ?_; rintro e wx ⟨rfl, hwx⟩; rw [hwx]; clear hwx)
      | (go_at_call 13; refine C1W.out.mono ?_; rintro e w4 ⟨rfl, b4, q4⟩))
  have hT4 := hT3.below b4.out
  have hB4 := hB3.trans (b4.out.mono hB3.size)
  clear C1W CX hT3 hB3 b4 q4 c0 c1 c2 c3 hblk3
  obtain ⟨k5, W5, hrun5, hrow5, hb5, hz5⟩ := CM.out w4
  have hB5 := hB4.trans (hb5.mono hB4.size)
  have hT5 := hT4.below hb5
  have e8 : S.data.toList[0]'(by rw [hlen]; decide) = at8 S 0 := by unfold at8; rw [List.getD_eq_getElem?_getD, List.getElem?_eq_getElem (by rw [hlen]; decide)]; rfl
  obtain ⟨r8, f8⟩ := hrow5 0 (by rw [hlen]; decide)
  rw [e8] at r8
  have hwl := (at8 S 0).toNat_lt
  obtain ⟨xx, hxx⟩ : ∃ xx : UInt8, xx = UInt8.ofNat (((at8 S 0).toNat + (1 + c)) % 256) := ⟨_, rfl⟩
  have hxn : xx.toNat = ((at8 S 0).toNat + (1 + c)) % 256 := by rw [hxx]; exact ofNat_byte _
  have hxne : xx ≠ at8 S 0 := fun e => by have := congrArg UInt8.toNat e; omega
  have V1 : IntKind.i64.wrap (1 + (c : Int)) = 1 + (c : Int) := by rw [IntKind.wrap_i64]; omega
  have V2 : IntKind.u8.wrap (1 + (c : Int)) = 1 + (c : Int) := by rw [IntKind.wrap_u8]; omega
  have V3 : IntKind.u8.wrap (((at8 S 0).toNat : Int) + (1 + (c : Int))) = (xx.toNat : Int) := by rw [IntKind.wrap_u8]; omega
  have HT1 : Hid (openE ⟨(S.data.toList.set 0 xx).toArray⟩ = 50) := torn_first HO.out xx hxne
  have HR6 : Hid (Row8 (W5.setCell ⟨w4.heap.size, 0, none⟩ (.int .u8 (xx.toNat : Int))) w4.heap.size (S.data.toList.set 0 xx)) := hrow5.set 0 (by rw [hlen]; decide) xx
  have hB6 : Below w.heap.size w (W5.setCell ⟨w4.heap.size, 0, none⟩ (.int .u8 (xx.toNat : Int))).drew := (hB5.setCell (p := ⟨w4.heap.size, 0, none⟩) hB4.size _).drew
  have hT6 : Tab (W5.setCell ⟨w4.heap.size, 0, none⟩ (.int .u8 (xx.toNat : Int))).drew := fun d hd => by
    have hz4 := hB4.size
    show (W5.setCell _ _).cell? _ = _
    rw [World.cell?_setCell_other _ _ _ _ (by intro e; injection e with e _ _; omega)]; exact hT5 d hd
  have hcv : (convert 58 9 (.slice (some ⟨w4.heap.size, 0, none⟩) 512 k5)).run Tryd.prog (W5.setCell ⟨w4.heap.size, 0, none⟩ (.int .u8 (xx.toNat : Int))).drew = .ok (.string ⟨(S.data.toList.set 0 xx).toArray⟩) (W5.setCell ⟨w4.heap.size, 0, none⟩ (.int .u8 (xx.toNat : Int))).drew :=
    Row8.back (w := (W5.setCell ⟨w4.heap.size, 0, none⟩ (.int .u8 (xx.toNat : Int))).drew) (fun j hj => HR6.out j hj) 512 (by rw [List.length_set, hlen])
  have CO6 : Hid (∀ w : World, Tab w → Calls Tryd.prog 15 #[.string ⟨(S.data.toList.set 0 xx).toArray⟩] w fun e w' => ∃ (r : Fr) (mm : Int), e = .returned (.tuple #[.agg #[.int .i64 r.kind, .int .u64 r.num, .int .i64 r.idx, .string r.body], .int .i64 mm, .int .i64 50]) ∧ Below w.heap.size w w') := by
    intro w hT
    have := CO.out ⟨(S.data.toList.set 0 xx).toArray⟩ w (by show (List.toArray _).size ≤ _; rw [List.size_toArray, List.length_set, hlen]; decide) hT
    rw [HT1.out] at this
    exact this.mono (fun e w' ⟨he, hb⟩ => ⟨_, _, he, hb⟩)
  clear hrow5 hb5 hB5 hT5 hxx hxn hxne e8 HR6 hwl HT1 hB4 hT4
  generalize (⟨(S.data.toList.set 0 xx).toArray⟩ : ByteArray) = TA at *
  go_wp2_with fail
  clear hrun5
  go_cut [] (fun wx => wx = (W5.setCell ⟨w4.heap.size, 0, none⟩ (.int .u8 (xx.toNat : Int))).drew)
  case first =>
    go_region_with (go_at_call 17; refine (CY.out _).mono ?_; rintro e wx ⟨rfl, hwx⟩; rw [hwx]; clear hwx)
    all_goals (go_wp2_with fail; go_meet; exact rfl)
  case rest =>
  subst hcut
  clear r8 f8 V1 V2 V3
  generalize (W5.setCell ⟨w4.heap.size, 0, none⟩ (.int .u8 (xx.toNat : Int))).drew = W6 at *
  go_wp2_with fail
  refine (CO6.out _ hT6).mono ?_
  rintro e w7 ⟨⟨rk, rn, ri, rb⟩, mm, rfl, hb7⟩
  simp only
  have hb8 : Below w7.heap.size w7 (w7.alloc (.cells #[.int .i64 rk, .int .u64 rn, .int .i64 ri, .string rb] 24)) := (Below.refl _ _).alloc (Nat.le_refl _) _
  have hB7 := hB6.trans (hb7.mono hB6.size)
  have hB8 := hB7.trans (hb8.mono hB7.size)
  have hT8 := (hT6.below hb7).below hb8
  clear CO6 hb7 hb8 hB7 hB6 hT6 hcv
  go_upto_region 9 with fail
  generalize w7.alloc (.cells #[.int .i64 rk, .int .u64 rn, .int .i64 ri, .string rb] 24) = w8 at *
  obtain ⟨k9, W9, hrun9, hrow9, hb9, hz9⟩ := CM.out w8
  have hB9 := hB8.trans (hb9.mono hB8.size)
  have hT9 := hT8.below hb9
  have e8 : S.data.toList[511]'(by rw [hlen]; decide) = at8 S 511 := by unfold at8; rw [List.getD_eq_getElem?_getD, List.getElem?_eq_getElem (by rw [hlen]; decide)]; rfl
  obtain ⟨r8, f8⟩ := hrow9 511 (by rw [hlen]; decide)
  rw [e8] at r8
  have hwl := (at8 S 511).toNat_lt
  obtain ⟨xx, hxx⟩ : ∃ xx : UInt8, xx = UInt8.ofNat (((at8 S 511).toNat + (1 + c)) % 256) := ⟨_, rfl⟩
  have hxn : xx.toNat = ((at8 S 511).toNat + (1 + c)) % 256 := by rw [hxx]; exact ofNat_byte _
  have hxne : xx ≠ at8 S 511 := fun e => by have := congrArg UInt8.toNat e; omega
  have V1 : IntKind.i64.wrap (1 + (c : Int)) = 1 + (c : Int) := by rw [IntKind.wrap_i64]; omega
  have V2 : IntKind.u8.wrap (1 + (c : Int)) = 1 + (c : Int) := by rw [IntKind.wrap_u8]; omega
  have V3 : IntKind.u8.wrap (((at8 S 511).toNat : Int) + (1 + (c : Int))) = (xx.toNat : Int) := by rw [IntKind.wrap_u8]; omega
  have HT1 : Hid (openE ⟨(S.data.toList.set 511 xx).toArray⟩ = 50) := torn_end HO.out xx hxne
  have HR6 : Hid (Row8 (W9.setCell ⟨w8.heap.size, 511, none⟩ (.int .u8 (xx.toNat : Int))) w8.heap.size (S.data.toList.set 511 xx)) := hrow9.set 511 (by rw [hlen]; decide) xx
  have hB6 : Below w.heap.size w (W9.setCell ⟨w8.heap.size, 511, none⟩ (.int .u8 (xx.toNat : Int))).drew := (hB9.setCell (p := ⟨w8.heap.size, 511, none⟩) hB8.size _).drew
  have hT6 : Tab (W9.setCell ⟨w8.heap.size, 511, none⟩ (.int .u8 (xx.toNat : Int))).drew := fun d hd => by
    have hz4 := hB8.size
    show (W9.setCell _ _).cell? _ = _
    rw [World.cell?_setCell_other _ _ _ _ (by intro e; injection e with e _ _; omega)]; exact hT9 d hd
  have hcv : (convert 58 9 (.slice (some ⟨w8.heap.size, 0, none⟩) 512 k9)).run Tryd.prog (W9.setCell ⟨w8.heap.size, 511, none⟩ (.int .u8 (xx.toNat : Int))).drew = .ok (.string ⟨(S.data.toList.set 511 xx).toArray⟩) (W9.setCell ⟨w8.heap.size, 511, none⟩ (.int .u8 (xx.toNat : Int))).drew :=
    Row8.back (w := (W9.setCell ⟨w8.heap.size, 511, none⟩ (.int .u8 (xx.toNat : Int))).drew) (fun j hj => HR6.out j hj) 512 (by rw [List.length_set, hlen])
  have CO6 : Hid (∀ w : World, Tab w → Calls Tryd.prog 15 #[.string ⟨(S.data.toList.set 511 xx).toArray⟩] w fun e w' => ∃ (r : Fr) (mm : Int), e = .returned (.tuple #[.agg #[.int .i64 r.kind, .int .u64 r.num, .int .i64 r.idx, .string r.body], .int .i64 mm, .int .i64 50]) ∧ Below w.heap.size w w') := by
    intro w hT
    have := CO.out ⟨(S.data.toList.set 511 xx).toArray⟩ w (by show (List.toArray _).size ≤ _; rw [List.size_toArray, List.length_set, hlen]; decide) hT
    rw [HT1.out] at this
    exact this.mono (fun e w' ⟨he, hb⟩ => ⟨_, _, he, hb⟩)
  clear hrow9 hb9 hB9 hT9 hxx hxn hxne e8 HR6 hwl HT1 hB8 hT8
  generalize (⟨(S.data.toList.set 511 xx).toArray⟩ : ByteArray) = TB at *
  go_wp2_with fail
  clear hrun9
  go_cut [] (fun wx => wx = (W9.setCell ⟨w8.heap.size, 511, none⟩ (.int .u8 (xx.toNat : Int))).drew)
  case first =>
    go_region_with (go_at_call 17; refine (CY.out _).mono ?_; rintro e wx ⟨rfl, hwx⟩; rw [hwx]; clear hwx)
    all_goals (go_wp2_with fail; go_meet; exact rfl)
  case rest =>
  subst hcut
  clear r8 f8 V1 V2 V3
  generalize (W9.setCell ⟨w8.heap.size, 511, none⟩ (.int .u8 (xx.toNat : Int))).drew = W6 at *
  go_wp2_with fail
  refine (CO6.out _ hT6).mono ?_
  rintro e v7 ⟨⟨rk, rn, ri, rb⟩, mm, rfl, hb7⟩
  simp only
  have hb8 : Below v7.heap.size v7 (v7.alloc (.cells #[.int .i64 rk, .int .u64 rn, .int .i64 ri, .string rb] 24)) := (Below.refl _ _).alloc (Nat.le_refl _) _
  have hB7 := hB6.trans (hb7.mono hB6.size)
  have hC8 := hB7.trans (hb8.mono hB7.size)
  have hU8 := (hT6.below hb7).below hb8
  clear CO6 hb7 hb8 hB7 hB6 hT6 hcv
  go_upto_if 91 with fail
  generalize v7.alloc (.cells #[.int .i64 rk, .int .u64 rn, .int .i64 ri, .string rb] 24) = v8 at *
  go_cut [3] (fun t wx => v8 = wx ∧ ∃ bt : Nat, t = .int .u32 (bt : Int) ∧ bt ≠ 0 ∧ bt < 4294967296)
  case first =>
    by_cases hz0 : bits = 0
    · subst hz0
      go_wp2
      all_goals go_meet
      all_goals exact ⟨rfl, 1, rfl, by decide, by decide⟩
    · have hz1 : ((bits : Int) == 0) = false := by simp; omega
      go_wp2
      all_goals go_meet
      all_goals exact ⟨rfl, bits, rfl, hz0, hbits⟩
  case rest =>
  obtain ⟨rfl, bt, rfl, hbt0, hbt1⟩ := hcut
  obtain ⟨kc, Wc, hrunc, hrowc, hbc, hzc⟩ := CM.out v8
  have hBc := hC8.trans (hbc.mono hC8.size)
  have hTc := hU8.below hbc
  have HR0 : Hid (Row8 Wc v8.heap.size S.data.toList) := hrowc
  have hgl : w.heap.size ≤ v8.heap.size := hC8.size
  clear hrowc hbc hC8 hU8 CM
  go_wp2_with fail
  clear hrunc
  generalize v8.heap.size = gc at *
  refine (CZ.out _).mono ?_
  rintro e wx ⟨rfl, hwx⟩
  rw [hwx]
  clear hwx CZ CY
  go_wp2_with fail
  have hd8 : (8 : Int) + (d : Int) = ((8 + d : Nat) : Int) := by omega
  obtain ⟨pp, hpp⟩ : ∃ pp : Nat, pp = 8 + d := ⟨_, rfl⟩
  rw [hd8, ← hpp]
  have hp1 : 8 ≤ pp := by omega
  have hp2 : pp ≤ 4056 := by omega
  clear hd8 hpp
  go_loopw [21] (fun t wx => ∃ i : Nat, i ≤ 32 ∧ t = .int .i64 (i : Int) ∧ Row8 wx gc (turnL S.data.toList pp bt i) ∧ Below w.heap.size w wx ∧ Tab wx ∧ (turnL S.data.toList pp bt i)[0]? = S.data.toList[0]? ∧ (turnL S.data.toList pp bt i)[511]? = S.data.toList[511]?) (fun t _ => 32 - (intOf t).toNat)
  case atStart => exact ⟨0, Nat.zero_le _, rfl, by rw [turnL_zero]; exact HR0.out, hBc, hTc, by rw [turnL_zero], by rw [turnL_zero]⟩
  case round =>
    obtain ⟨i, hi, rfl, hR, hB, hTb, hA0, hA5⟩ := hrel
    by_cases hlt : i < 32
    · have hlt' : (i : Int) < 32 := by omega
      have sh : (31 : Int) - (i : Int) = ((31 - i : Nat) : Int) := by omega
      have hcast : ((bt : Int) / 2 ^ (31 - i)).tmod 2 = ((bt / 2 ^ (31 - i) % 2 : Nat) : Int) := by
        have e : (bt : Int) / 2 ^ (31 - i) = ((bt / 2 ^ (31 - i) : Nat) : Int) := by push_cast; rfl
        rw [e]
        generalize bt / 2 ^ (31 - i) = zq
        rw [Int.tmod_eq_emod_of_nonneg (by omega)]; omega
      by_cases hbit : bt / 2 ^ (31 - i) % 2 = 1
      · rw [hbit] at hcast
        rw [show ((1 : Nat) : Int) = 1 from rfl] at hcast
        have hcst : ((bt : Int) / 2 ^ (31 - i)).tmod 2 = 1 := hcast
        have hix : (pp + i) / 8 < (turnL S.data.toList pp bt i).length := by rw [turnL_length, hlen]; omega
        obtain ⟨xb, hxb⟩ : ∃ xb, (turnL S.data.toList pp bt i)[(pp + i) / 8]? = some xb := ⟨_, List.getElem?_eq_getElem hix⟩
        obtain ⟨r8, f8⟩ := hR _ hix
        have hxe : (turnL S.data.toList pp bt i)[(pp + i) / 8] = xb := by rw [List.getElem?_eq_getElem hix] at hxb; exact Option.some.inj hxb
        rw [hxe] at r8
        have hlen8 : (pp + i) / 8 < 512 := by omega
        have hpI : (pp : Int) ≤ 4056 := by omega
        have hrl : (pp + i) % 8 < 8 := by omega
        have VX : Hid (Go.bits .xor .u8 (xb.toNat : Int) (2 ^ ((pp + i) % 8) % 256) = ((xb ^^^ UInt8.ofNat (2 ^ ((pp + i) % 8))).toNat : Int)) := by
          have hp8 : 2 ^ ((pp + i) % 8) < 256 := by rw [show (256 : Nat) = 2 ^ 8 from rfl]; exact Nat.pow_lt_pow_right (by decide) hrl
          have := xor_byte xb (UInt8.ofNat (2 ^ ((pp + i) % 8))) (2 ^ ((pp + i) % 8)) hp8 rfl
          have e : (2 : Int) ^ ((pp + i) % 8) % 256 = ((2 ^ ((pp + i) % 8) : Nat) : Int) := by
            rw [show (2 : Int) ^ ((pp + i) % 8) = ((2 ^ ((pp + i) % 8) : Nat) : Int) by push_cast; rfl]
            generalize 2 ^ ((pp + i) % 8) = z at hp8 ⊢
            omega
          show _ = _
          rw [e]; exact this
        have hnx := turnL_next S.data.toList pp bt i hlt hbit xb hxb (by rw [hlen]; omega)
        have HE : Hid (∀ q : Int, q = ((xb ^^^ UInt8.ofNat (2 ^ ((pp + i) % 8))).toNat : Int) → Row8 (wr.setCell ⟨gc, (pp + i) / 8, none⟩ (.int .u8 q)).drew gc (turnL S.data.toList pp bt (i + 1)) ∧ Below w.heap.size w (wr.setCell ⟨gc, (pp + i) / 8, none⟩ (.int .u8 q)).drew ∧ Tab (wr.setCell ⟨gc, (pp + i) / 8, none⟩ (.int .u8 q)).drew ∧ (turnL S.data.toList pp bt (i + 1))[0]? = S.data.toList[0]? ∧ (turnL S.data.toList pp bt (i + 1))[511]? = S.data.toList[511]?) := by
          show ∀ q : Int, _
          rintro q rfl
          refine ⟨?_, (hB.setCell (p := ⟨gc, (pp + i) / 8, none⟩) hgl _).drew, fun d hd => ?_, ?_, ?_⟩
          · rw [hnx]; exact fun j hj => (hR.set _ hix _) j hj
          · show (wr.setCell _ _).cell? _ = _
            rw [World.cell?_setCell_other _ _ _ _ (by intro e; injection e with e _ _; omega)]; exact hTb d hd
          · rw [hnx, List.getElem?_set_ne (by omega)]; exact hA0
          · rw [hnx, List.getElem?_set_ne (by omega)]; exact hA5
        clear hcast hbit hix hxb hxe hA0 hA5 hR hB hTb HR0 hBc hTc hnx CO HO
        have hcast2 : ((bt : Int) / 2 ^ (31 - i)).tmod 2 = 1 := hcst
        clear hcst
        go_wp2_with fail
        go_region
        go_wp2_with fail
        exact ⟨⟨i + 1, by omega, by go_num, HE.out _ VX.out⟩, by simp [intOf]; omega⟩
      · have hb0 : bt / 2 ^ (31 - i) % 2 = 0 := by omega
        rw [hb0] at hcast
        rw [show ((0 : Nat) : Int) = 0 from rfl] at hcast
        have hsm := turnL_same S.data.toList pp bt i hbit
        have HE : Hid (Row8 wr gc (turnL S.data.toList pp bt (i + 1)) ∧ Below w.heap.size w wr ∧ Tab wr ∧ (turnL S.data.toList pp bt (i + 1))[0]? = S.data.toList[0]? ∧ (turnL S.data.toList pp bt (i + 1))[511]? = S.data.toList[511]?) := by
          show _ ∧ _
          rw [hsm]; exact ⟨hR, hB, hTb, hA0, hA5⟩
        clear hbit hb0 hsm hA0 hA5 hR hB hTb HR0 hBc hTc CO HO
        go_wp2_with fail
        exact ⟨⟨i + 1, by omega, by go_num, HE.out⟩, by simp [intOf]; omega⟩
    · obtain rfl : i = 32 := by omega
      have hl5 : (turnL S.data.toList pp bt 32).length = 512 := by rw [turnL_length, hlen]
      have hcv := hR.back (cap := kc) 512 hl5.symm
      have hT51 : openE ⟨(turnL S.data.toList pp bt 32).toArray⟩ = 51 := by
        refine turned_told HO.out pp bt hp1 hp2 hbt0 hbt1 (by rw [List.toList_toArray]) ?_ ?_
        · unfold at8; rw [List.toList_toArray, List.getD_eq_getElem?_getD, List.getD_eq_getElem?_getD, hA0]
        · unfold at8; rw [List.toList_toArray, List.getD_eq_getElem?_getD, List.getD_eq_getElem?_getD, hA5]
      have CO9 : Hid (∀ w : World, Tab w → Calls Tryd.prog 15 #[.string ⟨(turnL S.data.toList pp bt 32).toArray⟩] w fun e w' => e = .returned (.tuple #[.agg #[.int .i64 0, .int .u64 0, .int .i64 0, .string ⟨#[]⟩], .int .i64 0, .int .i64 51]) ∧ Below w.heap.size w w') := by
        intro w hT
        have := CO.out ⟨(turnL S.data.toList pp bt 32).toArray⟩ w (by show (List.toArray _).size ≤ _; rw [List.size_toArray, hl5]; decide) hT
        have r0 : openR ⟨(turnL S.data.toList pp bt 32).toArray⟩ = zeroF := by unfold openR; rw [hT51, if_neg (by decide)]
        have r1 : openM ⟨(turnL S.data.toList pp bt 32).toArray⟩ = 0 := by unfold openM; rw [hT51, if_neg (by decide)]
        rw [hT51, r0, r1] at this
        exact this
      generalize (⟨(turnL S.data.toList pp bt 32).toArray⟩ : ByteArray) = TC at *
      have heq : ∀ w : World, (binOp .eql 24 (.agg #[.int .i64 0, .int .u64 0, .int .i64 0, .string ⟨#[]⟩]) (.agg #[.int .i64 0, .int .u64 0, .int .i64 0, .string ⟨#[]⟩])).run Tryd.prog w = .ok (.bool true) w := by
        intro w
        have := run_eqF 0 0 0 0 ⟨#[]⟩ ⟨#[]⟩ 0 0 w
        simpa using this
      clear hT51 hl5 hA0 hA5 hR CO HO HR0 hBc hTc
      go_wp2_with fail
      refine (CO9.out _ hTb).mono ?_
      rintro e y7 ⟨rfl, hb7⟩
      have hB7 := hB.trans (hb7.mono hB.size)
      have hB9 := hB7.alloc hB7.size (.cells #[.int .i64 0, .int .u64 0, .int .i64 0, .string ⟨#[]⟩] 24)
      clear CO9 hb7 hB7 hB hTb hcv
      go_wp2
      go_ret
      exact ⟨rfl, hB9⟩
end Go.Proofs.YtnpcnflfpmjgiaaDoor
