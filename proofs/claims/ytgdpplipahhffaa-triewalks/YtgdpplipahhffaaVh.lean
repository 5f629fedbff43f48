/- play: Find, All, Under; and in all kinds. -/
import Derived.Test.YtgdpplipahhffaaGk
import Derived.Test.YtgdpplipahhffaaVd
namespace Go.Proofs.Ytgdpplipahhffaa
open Go.RowKit
set_option linter.unusedVariables false
set_option linter.unusedSimpArgs false

section
variable {w0 w : World} {q r W most : Nat} {L : List (List Bool × Int)} {ro : Option Nat}
set_option maxHeartbeats 4000000 in
set_option maxRecDepth 100000 in
theorem play_find (hD : Duo w0 w q r W most L ro) (h1 : 1 ≤ W) (hW : W ≤ 128) (k l u : Int) (a : Nat) (ha : Is128 a) (hk : k % 12 = 4) :
    Calls Try.prog 13 #[.pointer (some ⟨q, 0, none⟩), .pointer (some ⟨r, 0, none⟩), .agg #[.int .i64 k, .int .u64 (hiOf a), .int .u64 (loOf a), .int .i64 l, .int .i64 u]] w fun e w' => e = .returned (.bool true) ∧ ∃ L' ro', Hid (Duo w0 w' q r W most L' ro' ∧ Kept (Tch q r ro) w w' ∧ NewRow w ro ro') := by
  have hm := hD.own.room
  have HD : Hid (Duo w0 w q r W most L ro) := hD
  have HO : Hid (∀ y, (hitsL W a L).getLast? = some y → y.1.length ≤ W) := fun y hy => hD.own.lens y (hits_mem (List.mem_of_getLast? hy))
  have CF : Hid (∀ V, Below w.heap.size w V → Calls Try.prog 26 #[.pointer (some ⟨q, 0, none⟩), B a] V fun e w' => e = .returned (findV W (hitsL W a L).getLast?) ∧ Below V.heap.size V w') := fun V hV => (find_both h1 hW hD.ref.few a ha).1 _ V q (hD.own.below hV)
  have CG : Hid (∀ V, Below w.heap.size w V → Calls Try.prog 45 #[.pointer (some ⟨r, 0, none⟩), B a] V fun e w' => e = .returned (lastV (hitsL W a L).getLast?) ∧ Below V.heap.size V w') := fun V hV => (find_both h1 hW hD.ref.few a ha).2 V _ r (hD.ref.below hV).at
  obtain ⟨⟨bx, cx, g1, g2, g3⟩, g4, g5, g6⟩ := id hD.ref
  have HX : Hid (Blk w r #[.int .i64 W, .int .i64 most, .slice bx L.length cx] 40) := g2
  clear g1 g2 g3 g4 g5 g6
  have HF : Hid (∀ w', Below w.heap.size w w' → Duo w0 w' q r W most L ro ∧ Kept (Tch q r ro) w w' ∧ NewRow w ro ro) := fun w' hb => ⟨HD.out.below hb, Kept.of_below hb, .inl rfl⟩
  generalize (hitsL W a L).getLast? = o at *
  generalize L.length = n at HX
  have HQ : Hid (q < w.heap.size ∧ r < w.heap.size) := ⟨hD.tch q (.inl rfl), hD.tch r (.inr (.inl rfl))⟩
  have HB := one_new w #[.int .i64 k, .int .u64 (hiOf a), .int .u64 (loOf a), .int .i64 l, .int .i64 u] 35
  have C12 : Hid (∀ V, Calls Try.prog 12 #[.int .i64 k] V fun e w' => e = .returned (.int .i64 4) ∧ w' = V) := fun V => by
    have := rest_any k V
    rw [hk] at this
    exact this
  clear hD hm hk
  go_enter Try.func13, Try.ntmps13
  go_upto_region 1 with fail
  generalize (w.alloc _) = w1 at HB ⊢
  have c0 := HB.1.cell 0 (v := .int .i64 k) rfl
  have c1 := HB.1.cell 1 (v := .int .u64 (hiOf a)) rfl
  have c2 := HB.1.cell 2 (v := .int .u64 (loOf a)) rfl
  have c3 := HB.1.cell 3 (v := .int .i64 l) rfl
  have HB2 := one_new w1 #[.int .u64 (hiOf a), .int .u64 (loOf a), .int .i64 l] 51
  go_upto_region 2 with fail
  have HA : Hid (Blk (w1.alloc (.cells #[.int .u64 (hiOf a), .int .u64 (loOf a), .int .i64 l] 51)) w.heap.size #[.int .i64 k, .int .u64 (hiOf a), .int .u64 (loOf a), .int .i64 l, .int .i64 u] 35 ∧ Blk (w1.alloc (.cells #[.int .u64 (hiOf a), .int .u64 (loOf a), .int .i64 l] 51)) w1.heap.size #[.int .u64 (hiOf a), .int .u64 (loOf a), .int .i64 l] 51 ∧ Below w.heap.size w (w1.alloc (.cells #[.int .u64 (hiOf a), .int .u64 (loOf a), .int .i64 l] 51)) ∧ w.heap.size < w1.heap.size) :=
    ⟨HB.1.below HB2.2.1, HB2.1, bst HB.2.1 HB2.2.1, HB.2.2⟩
  clear c0 c1 c2 c3 HB HB2
  generalize (w1.alloc _) = w2 at HA ⊢
  generalize w1.heap.size = A1 at HA ⊢
  have c0 := HA.out.1.cell 0 (v := .int .i64 k) rfl
  have c1 := HA.out.1.cell 1 (v := .int .u64 (hiOf a)) rfl
  have c2 := HA.out.1.cell 2 (v := .int .u64 (loOf a)) rfl
  have c3 := HA.out.1.cell 3 (v := .int .i64 l) rfl
  have c4 := HA.out.1.cell 4 (v := .int .i64 u) rfl
  have d0 := HA.out.2.1.cell 0 (v := .int .u64 (hiOf a)) rfl
  have d1 := HA.out.2.1.cell 1 (v := .int .u64 (loOf a)) rfl
  have d2 := HA.out.2.1.cell 2 (v := .int .i64 l) rfl
  go_wp2_with fail
  refine (C12.out _).mono ?_
  rintro e w3 ⟨rfl, rfl⟩
  clear C12
  cases o with
  | none =>
    go_wp2_with fail
    refine (CF.out _ HA.out.2.2.1).mono ?_
    rintro e w4 ⟨rfl, H4⟩
    have HN4 := one_new w4 #[.int .u64 0, .int .u64 0, .int .i64 0] 51
    have h00 : (Pf 0 0 : Value) = .agg #[.int .u64 0, .int .u64 0, .int .i64 0] := rfl
    have HE : Hid (Blk (w4.alloc (.cells #[.int .u64 0, .int .u64 0, .int .i64 0] 51)) w.heap.size #[.int .i64 k, .int .u64 (hiOf a), .int .u64 (loOf a), .int .i64 l, .int .i64 u] 35 ∧ Blk (w4.alloc (.cells #[.int .u64 0, .int .u64 0, .int .i64 0] 51)) w4.heap.size #[.int .u64 0, .int .u64 0, .int .i64 0] 51 ∧ Below w.heap.size w (w4.alloc (.cells #[.int .u64 0, .int .u64 0, .int .i64 0] 51))) :=
      ⟨(HA.out.1.below H4).below HN4.2.1, HN4.1, bst (bst HA.out.2.2.1 H4) HN4.2.1⟩
    clear c0 c1 c2 c3 c4 d0 d1 d2 H4 HN4 CF
    unfold findV
    go_upto_region 21 with fail
    generalize (w4.alloc _) = w5 at HE ⊢
    generalize w4.heap.size = A4 at HE ⊢
    have c1 := HE.out.1.cell 1 (v := .int .u64 (hiOf a)) rfl
    have c2 := HE.out.1.cell 2 (v := .int .u64 (loOf a)) rfl
    go_wp2_with fail
    refine (CG.out _ HE.out.2.2).mono ?_
    rintro e w6 ⟨rfl, H6⟩
    have HN6 := one_new w6 #[.string ⟨#[]⟩, .int .i64 0] 57
    have HI : Hid (Blk (w6.alloc (.cells #[.string ⟨#[]⟩, .int .i64 0] 57)) A4 #[.int .u64 0, .int .u64 0, .int .i64 0] 51 ∧ Below w.heap.size w (w6.alloc (.cells #[.string ⟨#[]⟩, .int .i64 0] 57))) :=
      ⟨(HE.out.2.1.below H6).below HN6.2.1, bst (bst HE.out.2.2 H6) HN6.2.1⟩
    clear c1 c2 H6 HN6 CG HE
    unfold lastV
    go_upto_region 22 with fail
    generalize (w6.alloc _) = w7 at HI ⊢
    have e0 := HI.out.1.cell 0 (v := .int .u64 0) rfl
    have e1 := HI.out.1.cell 1 (v := .int .u64 0) rfl
    have e2 := HI.out.1.cell 2 (v := .int .i64 0) rfl
    have EQ : ∀ V, (binOp .eql 51 (.agg #[.int .u64 0, .int .u64 0, .int .i64 0]) (.agg #[.int .u64 0, .int .u64 0, .int .i64 0])).run Try.prog V = .ok (.bool true) V := fun V => eq51 0 0 0 0 V
    have HG : Hid _ := HF.out w7 HI.out.2
    go_wp2_with fail
    go_ret
    exact ⟨rfl, L, ro, HG⟩
  | some y =>
    have hy := HO.out y rfl
    have C22 : Hid (∀ w1, Calls Try.prog 22 #[Pf (valOf W y.1) y.1.length, .agg #[.string (tx y.1), .int .i64 y.2], .int .i64 W] w1 fun e w' => e = .returned (.bool true) ∧ Below w1.heap.size w1 w') := fun w1 => same_yes w1 hW hy y.2
    have CF' : Hid (∀ V, Below w.heap.size w V → Calls Try.prog 26 #[.pointer (some ⟨q, 0, none⟩), B a] V fun e w' => e = .returned (.tuple #[Pf (valOf W y.1) y.1.length, .int .i64 y.2, .bool true]) ∧ Below V.heap.size V w') := CF
    have CG' : Hid (∀ V, Below w.heap.size w V → Calls Try.prog 45 #[.pointer (some ⟨r, 0, none⟩), B a] V fun e w' => e = .returned (.tuple #[.agg #[.string (tx y.1), .int .i64 y.2], .bool true]) ∧ Below V.heap.size V w') := CG
    clear CF CG HO
    generalize valOf W y.1 = vy at *
    generalize tx y.1 = ty at *
    generalize y.1.length = ly at *
    go_wp2_with fail
    refine (CF'.out _ HA.out.2.2.1).mono ?_
    rintro e w4 ⟨rfl, H4⟩
    have HN4 := one_new w4 #[.int .u64 (hiOf vy), .int .u64 (loOf vy), .int .i64 ly] 51
    have HE : Hid (Blk (w4.alloc (.cells #[.int .u64 (hiOf vy), .int .u64 (loOf vy), .int .i64 ly] 51)) w.heap.size #[.int .i64 k, .int .u64 (hiOf a), .int .u64 (loOf a), .int .i64 l, .int .i64 u] 35 ∧ Blk (w4.alloc (.cells #[.int .u64 (hiOf vy), .int .u64 (loOf vy), .int .i64 ly] 51)) w4.heap.size #[.int .u64 (hiOf vy), .int .u64 (loOf vy), .int .i64 ly] 51 ∧ Below w.heap.size w (w4.alloc (.cells #[.int .u64 (hiOf vy), .int .u64 (loOf vy), .int .i64 ly] 51))) :=
      ⟨(HA.out.1.below H4).below HN4.2.1, HN4.1, bst (bst HA.out.2.2.1 H4) HN4.2.1⟩
    clear c0 c1 c2 c3 c4 d0 d1 d2 H4 HN4 CF' hy
    go_upto_region 21 with fail
    generalize (w4.alloc _) = w5 at HE ⊢
    generalize w4.heap.size = A4 at HE ⊢
    have c1 := HE.out.1.cell 1 (v := .int .u64 (hiOf a)) rfl
    have c2 := HE.out.1.cell 2 (v := .int .u64 (loOf a)) rfl
    go_wp2_with fail
    refine (CG'.out _ HE.out.2.2).mono ?_
    rintro e w6 ⟨rfl, H6⟩
    have HN6 := one_new w6 #[.string ty, .int .i64 y.2] 57
    have HI : Hid (Blk (w6.alloc (.cells #[.string ty, .int .i64 y.2] 57)) A4 #[.int .u64 (hiOf vy), .int .u64 (loOf vy), .int .i64 ly] 51 ∧ Blk (w6.alloc (.cells #[.string ty, .int .i64 y.2] 57)) w6.heap.size #[.string ty, .int .i64 y.2] 57 ∧ Below w.heap.size w (w6.alloc (.cells #[.string ty, .int .i64 y.2] 57))) :=
      ⟨(HE.out.2.1.below H6).below HN6.2.1, HN6.1, bst (bst HE.out.2.2 H6) HN6.2.1⟩
    clear c1 c2 H6 HN6 CG' HE
    go_upto_region 22 with fail
    generalize (w6.alloc _) = w7 at HI ⊢
    generalize w6.heap.size = A6 at HI ⊢
    go_upto_region 24 with fail
    have e0 := gw_cell (HI.out.1.cell 0 (v := .int .u64 (hiOf vy)) rfl)
    have e1 := gw_cell (HI.out.1.cell 1 (v := .int .u64 (loOf vy)) rfl)
    have e2 := gw_cell (HI.out.1.cell 2 (v := .int .i64 ly) rfl)
    have s0 := gw_cell (HI.out.2.1.cell 0 (v := .string ty) rfl)
    have s1 := gw_cell (HI.out.2.1.cell 1 (v := .int .i64 y.2) rfl)
    have x0 := gw_cell ((HX.out.below HI.out.2.2).cell 0 (v := .int .i64 W) rfl)
    refine region_grows (by kernel_rfl) (by kernel_rfl) ?_
    repeat (go_big_quiet_step ((go_at_call 22; exact calls_gw (C22.out _))))
    refine wpQuiet_nil ?_
    intro wq hwq
    obtain ⟨zq, rfl⟩ := hwq
    have s1' := s1 zq
    have HG : Hid _ := HF.out (gw zq) (bst HI.out.2.2 (gw_below zq))
    clear e0 e1 e2 s0 s1 x0 C22 HI HX
    generalize gw zq = w8 at *
    go_wp2_with fail
    go_ret
    exact ⟨rfl, L, ro, HG⟩
set_option maxHeartbeats 4000000 in
set_option maxRecDepth 100000 in
theorem play_all (hD : Duo w0 w q r W most L ro) (h1 : 1 ≤ W) (hW : W ≤ 128) (k l u : Int) (a : Nat) (ha : Is128 a) (hk : k % 12 = 7) :
    Calls Try.prog 13 #[.pointer (some ⟨q, 0, none⟩), .pointer (some ⟨r, 0, none⟩), .agg #[.int .i64 k, .int .u64 (hiOf a), .int .u64 (loOf a), .int .i64 l, .int .i64 u]] w fun e w' => e = .returned (.bool true) ∧ ∃ L' ro', Hid (Duo w0 w' q r W most L' ro' ∧ Kept (Tch q r ro) w w' ∧ NewRow w ro ro') := by
  have hm := hD.own.room
  have HD : Hid (Duo w0 w q r W most L ro) := hD
  obtain ⟨⟨ba, bc, g1, g2, g3⟩, g4, g5, g6⟩ := id hD.ref
  have HX : Hid (Blk w r #[.int .i64 W, .int .i64 most, .slice ba L.length bc] 40) := g2
  have CA : Hid (∀ V, Below w.heap.size w V → Calls Try.prog 18 #[.pointer (some ⟨q, 0, none⟩)] V fun e w' => ∃ D, e = .returned (.func (.func 48) #[] #[.pointer (some ⟨D, 0, none⟩), .pointer (some ⟨D + 1, 0, none⟩)]) ∧ w'.cell? ⟨r, 0, none⟩ = some (.int .i64 W) ∧ w'.cell? ⟨r, 2, none⟩ = some (.slice ba L.length bc) ∧ Hid (Below w.heap.size w w' ∧ ∀ V2, Below w'.heap.size w' V2 → Calls Try.prog 20 #[.func (.func 48) #[] #[.pointer (some ⟨D, 0, none⟩), .pointer (some ⟨D + 1, 0, none⟩)], .slice ba L.length bc, .int .i64 W] V2 fun e w' => e = .returned (.bool true) ∧ Hid (Below w.heap.size w w'))) := fun V hV => (all_told hD hW ba bc g3 V hV).mono (by
    rintro e w' ⟨D, rfl, H⟩
    have h := HX.out.below H.out.1
    exact ⟨D, rfl, h.cell 0 rfl, h.cell 2 rfl, H⟩)
  clear g1 g2 g3 g4 g5 g6
  have HF : Hid (∀ w', Below w.heap.size w w' → Duo w0 w' q r W most L ro ∧ Kept (Tch q r ro) w w' ∧ NewRow w ro ro) := fun w' hb => ⟨HD.out.below hb, Kept.of_below hb, .inl rfl⟩
  generalize L.length = n at HX CA
  have HQ : Hid (q < w.heap.size ∧ r < w.heap.size) := ⟨hD.tch q (.inl rfl), hD.tch r (.inr (.inl rfl))⟩
  have HB := one_new w #[.int .i64 k, .int .u64 (hiOf a), .int .u64 (loOf a), .int .i64 l, .int .i64 u] 35
  have C12 : Hid (∀ V, Calls Try.prog 12 #[.int .i64 k] V fun e w' => e = .returned (.int .i64 7) ∧ w' = V) := fun V => by
    have := rest_any k V
    rw [hk] at this
    exact this
  clear hD hm hk
  go_enter Try.func13, Try.ntmps13
  go_upto_region 1 with fail
  generalize (w.alloc _) = w1 at HB ⊢
  have c0 := HB.1.cell 0 (v := .int .i64 k) rfl
  have c1 := HB.1.cell 1 (v := .int .u64 (hiOf a)) rfl
  have c2 := HB.1.cell 2 (v := .int .u64 (loOf a)) rfl
  have c3 := HB.1.cell 3 (v := .int .i64 l) rfl
  have HB2 := one_new w1 #[.int .u64 (hiOf a), .int .u64 (loOf a), .int .i64 l] 51
  go_upto_region 2 with fail
  have HA : Hid (Blk (w1.alloc (.cells #[.int .u64 (hiOf a), .int .u64 (loOf a), .int .i64 l] 51)) w.heap.size #[.int .i64 k, .int .u64 (hiOf a), .int .u64 (loOf a), .int .i64 l, .int .i64 u] 35 ∧ Blk (w1.alloc (.cells #[.int .u64 (hiOf a), .int .u64 (loOf a), .int .i64 l] 51)) w1.heap.size #[.int .u64 (hiOf a), .int .u64 (loOf a), .int .i64 l] 51 ∧ Below w.heap.size w (w1.alloc (.cells #[.int .u64 (hiOf a), .int .u64 (loOf a), .int .i64 l] 51)) ∧ w.heap.size < w1.heap.size) :=
    ⟨HB.1.below HB2.2.1, HB2.1, bst HB.2.1 HB2.2.1, HB.2.2⟩
  clear c0 c1 c2 c3 HB HB2
  generalize (w1.alloc _) = w2 at HA ⊢
  generalize w1.heap.size = A1 at HA ⊢
  have c0 := HA.out.1.cell 0 (v := .int .i64 k) rfl
  have c1 := HA.out.1.cell 1 (v := .int .u64 (hiOf a)) rfl
  have c2 := HA.out.1.cell 2 (v := .int .u64 (loOf a)) rfl
  have c3 := HA.out.1.cell 3 (v := .int .i64 l) rfl
  have c4 := HA.out.1.cell 4 (v := .int .i64 u) rfl
  have d0 := HA.out.2.1.cell 0 (v := .int .u64 (hiOf a)) rfl
  have d1 := HA.out.2.1.cell 1 (v := .int .u64 (loOf a)) rfl
  have d2 := HA.out.2.1.cell 2 (v := .int .i64 l) rfl
  go_wp2_with fail
  refine (C12.out _).mono ?_
  rintro e w3 ⟨rfl, rfl⟩
  clear C12
  have CA' : Hid (∀ V, Below w3.heap.size w3 V → Calls Try.prog 18 #[.pointer (some ⟨q, 0, none⟩)] V fun e w' => ∃ D, e = .returned (.func (.func 48) #[] #[.pointer (some ⟨D, 0, none⟩), .pointer (some ⟨D + 1, 0, none⟩)]) ∧ w'.cell? ⟨r, 0, none⟩ = some (.int .i64 W) ∧ w'.cell? ⟨r, 2, none⟩ = some (.slice ba n bc) ∧ Hid (Below w.heap.size w w' ∧ ∀ V2, Below w'.heap.size w' V2 → Calls Try.prog 20 #[.func (.func 48) #[] #[.pointer (some ⟨D, 0, none⟩), .pointer (some ⟨D + 1, 0, none⟩)], .slice ba n bc, .int .i64 W] V2 fun e w' => e = .returned (.bool true) ∧ Hid (Below w.heap.size w w'))) := fun V hV => CA.out V (bst HA.out.2.2.1 hV)
  go_upto_region 31 with fail
  have x0 := (HX.out.below HA.out.2.2.1).cell 0 (v := .int .i64 W) rfl
  have x2 := (HX.out.below HA.out.2.2.1).cell 2 (v := .slice ba n bc) rfl
  clear CA HX HA c0 c1 c2 c3 c4 d0 d1 d2
  go_region_with (first | (go_at_call 18; refine (CA'.out _ (by exact ⟨rfl, rfl, rfl, Nat.le_refl _, fun _ _ => rfl⟩)).mono ?_; rintro e w5 ⟨D, rfl, d0, d2, H5⟩) | (go_at_call 20; refine (H5.out.2 _ (by exact ⟨rfl, rfl, rfl, Nat.le_refl _, fun _ _ => rfl⟩)).mono ?_; rintro e w6 ⟨rfl, H6⟩))
  all_goals (
    have HG : Hid _ := HF.out w6 H6.out
    clear H6 H5 CA' HF x0 x2 d0 d2
    go_wp2
    go_ret
    exact ⟨rfl, L, ro, HG⟩)
end
end Go.Proofs.Ytgdpplipahhffaa
