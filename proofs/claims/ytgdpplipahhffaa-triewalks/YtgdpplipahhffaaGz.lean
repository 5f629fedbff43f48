/- play, X staying outside: most kinds. play, X staying outside: Find, All. play, X staying outside: Under. -/
import Derived.Test.YtgdpplipahhffaaGx
import Derived.Test.YtgdpplipahhffaaVd
import Derived.Test.YtgdpplipahhffaaGj
namespace Go.Proofs.Ytgdpplipahhffaa
open Go.RowKit
set_option linter.unusedVariables false
set_option linter.unusedSimpArgs false

section
variable {w0 w : World} {q r W most : Nat} {L : List (List Bool × Int)} {ro : Option Nat}
set_option maxHeartbeats 4000000 in
set_option maxRecDepth 100000 in
theorem playX_put (X : Nat → Prop) (hOX : OX X w q W most L) (hXw : ∀ k, X k → k < w.heap.size) (hD : Duo w0 w q r W most L ro) (h1 : 1 ≤ W) (hW : W ≤ 128) (k l u : Int) (a : Nat) (ha : Is128 a) (hk : k % 12 = 0) :
    Calls Try.prog 13 #[.pointer (some ⟨q, 0, none⟩), .pointer (some ⟨r, 0, none⟩), .agg #[.int .i64 k, .int .u64 (hiOf a), .int .u64 (loOf a), .int .i64 l, .int .i64 u]] w fun e w' => e = .returned (.bool true) ∧ ∃ L' ro', Hid (Duo w0 w' q r W most L' ro' ∧ Kept (Tch q r ro) w w' ∧ NewRow w ro ro' ∧ OX X w' q W most L') := by
  have HOX : Hid (OX X w q W most L ∧ ∀ k, X k → k < w.heap.size) := ⟨hOX, hXw⟩
  clear hOX hXw
  have hm := hD.own.room
  have HD : Hid (Duo w0 w q r W most L ro) := hD
  obtain ⟨c, L', hB1, hB2⟩ := put_bothX (X := X) (W := W) (most := most) (L := L) h1 hW hD.own.srt hD.own.cap.1 hm.2 a ha l u
  have CT : Hid (∀ V, Below w.heap.size w V → Calls Try.prog 24 #[.pointer (some ⟨q, 0, none⟩), Pf a l, .int .i64 u] V fun e w' => e = .returned (.int .i64 c) ∧ Hid (Own w0 w' q W most L' ∧ Kept (fun k => k = q) V w' ∧ OX X w' q W most L')) := fun V hV => hB1 _ V q (hD.own.below hV) (HOX.out.1.below hV) (fun k e => Nat.lt_of_lt_of_le (HOX.out.2 k e) hV.size)
  have CR : Hid (∀ V, RefI w0 V r W most L ro → w0.heap.size ≤ V.heap.size → Calls Try.prog 41 #[.pointer (some ⟨r, 0, none⟩), B a, .int .i64 l, .int .i64 u] V fun e w' => e = .returned (.int .i64 c) ∧ ∃ ro', Hid (RefI w0 w' r W most L' ro' ∧ Kept (fun k => k = r ∨ ro = some k) V w' ∧ NewRow V ro ro')) := fun V h h' => hB2 _ V r ro h h'
  clear hB1 hB2
  have HQ : Hid (q < w.heap.size ∧ r < w.heap.size) := ⟨hD.tch q (.inl rfl), hD.tch r (.inr (.inl rfl))⟩
  have HB := one_new w #[.int .i64 k, .int .u64 (hiOf a), .int .u64 (loOf a), .int .i64 l, .int .i64 u] 35
  have C12 : Hid (∀ V, Calls Try.prog 12 #[.int .i64 k] V fun e w' => e = .returned (.int .i64 0) ∧ w' = V) := fun V => by
    have := rest_any k V
    rw [hk] at this
    exact this
  clear hD hm hk
  go_enter Try.func13, Try.ntmps13
  go_upto_region 1 with fail
  generalize (w.alloc _) = w1 at HB ⊢
  have c0 := HB.1.cell 0 (v := .int .i64 k) rfl
  have c1 := HB.1.cell 1 (v := .int .u64 (hiOf a)) rfl
  have c2 := HB.1.cell 2 (v := .int .u64 (loOf a)) rfl
  have c3 := HB.1.cell 3 (v := .int .i64 l) rfl
  have HB2 := one_new w1 #[.int .u64 (hiOf a), .int .u64 (loOf a), .int .i64 l] 51
  go_upto_region 2 with fail
  have HA : Hid (Blk (w1.alloc (.cells #[.int .u64 (hiOf a), .int .u64 (loOf a), .int .i64 l] 51)) w.heap.size #[.int .i64 k, .int .u64 (hiOf a), .int .u64 (loOf a), .int .i64 l, .int .i64 u] 35 ∧ Blk (w1.alloc (.cells #[.int .u64 (hiOf a), .int .u64 (loOf a), .int .i64 l] 51)) w1.heap.size #[.int .u64 (hiOf a), .int .u64 (loOf a), .int .i64 l] 51 ∧ Below w.heap.size w (w1.alloc (.cells #[.int .u64 (hiOf a), .int .u64 (loOf a), .int .i64 l] 51)) ∧ w.heap.size < w1.heap.size) :=
    ⟨HB.1.below HB2.2.1, HB2.1, bst HB.2.1 HB2.2.1, HB.2.2⟩
  clear c0 c1 c2 c3 HB HB2
  generalize (w1.alloc _) = w2 at HA ⊢
  generalize w1.heap.size = A1 at HA ⊢
  have c0 := HA.out.1.cell 0 (v := .int .i64 k) rfl
  have c1 := HA.out.1.cell 1 (v := .int .u64 (hiOf a)) rfl
  have c2 := HA.out.1.cell 2 (v := .int .u64 (loOf a)) rfl
  have c3 := HA.out.1.cell 3 (v := .int .i64 l) rfl
  have c4 := HA.out.1.cell 4 (v := .int .i64 u) rfl
  have d0 := HA.out.2.1.cell 0 (v := .int .u64 (hiOf a)) rfl
  have d1 := HA.out.2.1.cell 1 (v := .int .u64 (loOf a)) rfl
  have d2 := HA.out.2.1.cell 2 (v := .int .i64 l) rfl
  go_wp2_with fail
  refine (C12.out _).mono ?_
  rintro e w3 ⟨rfl, rfl⟩
  clear C12
  go_wp2_with fail
  refine (CT.out _ HA.out.2.2.1).mono ?_
  rintro e w4 ⟨rfl, H4⟩
  have HM := both_mid HD.out HA.out.2.2.1 ⟨H4.out.1, H4.out.2.1⟩
  have hbx : Blk w4 w.heap.size #[.int .i64 k, .int .u64 (hiOf a), .int .u64 (loOf a), .int .i64 l, .int .i64 u] 35 := HA.out.1.kept H4.out.2.1 (by have := HQ.out.1; show ¬ _ = _; omega)
  clear c0 c1 c2 c3 c4 d0 d1 d2 CT
  have c1 := hbx.cell 1 (v := .int .u64 (hiOf a)) rfl
  have c2 := hbx.cell 2 (v := .int .u64 (loOf a)) rfl
  have c3 := hbx.cell 3 (v := .int .i64 l) rfl
  have c4 := hbx.cell 4 (v := .int .i64 u) rfl
  clear hbx
  go_wp2_with fail
  refine (CR.out _ HM.1 HM.2).mono ?_
  rintro e w5 ⟨rfl, ro', H5⟩
  have HF : Hid (Duo w0 w5 q r W most L' ro' ∧ Kept (Tch q r ro) w w5 ∧ NewRow w ro ro' ∧ OX X w5 q W most L') := (let k := both_fin HD.out HA.out.2.2.1 ⟨H4.out.1, H4.out.2.1⟩ H5.out; ⟨k.1, k.2.1, k.2.2, HM.1.stepX H4.out.1 H4.out.2.2 H5.out.2.1⟩)
  clear c1 c2 c3 c4 CR HM H4 H5
  go_wp2
  go_ret
  exact ⟨rfl, L', ro', HF⟩
set_option maxHeartbeats 4000000 in
set_option maxRecDepth 100000 in
theorem playX_set (X : Nat → Prop) (hOX : OX X w q W most L) (hXw : ∀ k, X k → k < w.heap.size) (hD : Duo w0 w q r W most L ro) (h1 : 1 ≤ W) (hW : W ≤ 128) (k l u : Int) (a : Nat) (ha : Is128 a) (hk : k % 12 = 1) :
    Calls Try.prog 13 #[.pointer (some ⟨q, 0, none⟩), .pointer (some ⟨r, 0, none⟩), .agg #[.int .i64 k, .int .u64 (hiOf a), .int .u64 (loOf a), .int .i64 l, .int .i64 u]] w fun e w' => e = .returned (.bool true) ∧ ∃ L' ro', Hid (Duo w0 w' q r W most L' ro' ∧ Kept (Tch q r ro) w w' ∧ NewRow w ro ro' ∧ OX X w' q W most L') := by
  have HOX : Hid (OX X w q W most L ∧ ∀ k, X k → k < w.heap.size) := ⟨hOX, hXw⟩
  clear hOX hXw
  have hm := hD.own.room
  have HD : Hid (Duo w0 w q r W most L ro) := hD
  obtain ⟨c, L', hB1, hB2⟩ := set_bothX (X := X) (W := W) (most := most) (L := L) h1 hW hD.own.srt a ha l u
  have CT : Hid (∀ V, Below w.heap.size w V → Calls Try.prog 38 #[.pointer (some ⟨q, 0, none⟩), Pf a l, .int .i64 u] V fun e w' => e = .returned (.int .i64 c) ∧ Hid (Own w0 w' q W most L' ∧ Kept (fun k => k = q) V w' ∧ OX X w' q W most L')) := fun V hV => hB1 _ V q (hD.own.below hV) (HOX.out.1.below hV) (fun k e => Nat.lt_of_lt_of_le (HOX.out.2 k e) hV.size)
  have CR : Hid (∀ V, RefI w0 V r W most L ro → w0.heap.size ≤ V.heap.size → Calls Try.prog 42 #[.pointer (some ⟨r, 0, none⟩), B a, .int .i64 l, .int .i64 u] V fun e w' => e = .returned (.int .i64 c) ∧ ∃ ro', Hid (RefI w0 w' r W most L' ro' ∧ Kept (fun k => k = r ∨ ro = some k) V w' ∧ NewRow V ro ro')) := fun V h h' => hB2 _ V r ro h h'
  clear hB1 hB2
  have HQ : Hid (q < w.heap.size ∧ r < w.heap.size) := ⟨hD.tch q (.inl rfl), hD.tch r (.inr (.inl rfl))⟩
  have HB := one_new w #[.int .i64 k, .int .u64 (hiOf a), .int .u64 (loOf a), .int .i64 l, .int .i64 u] 35
  have C12 : Hid (∀ V, Calls Try.prog 12 #[.int .i64 k] V fun e w' => e = .returned (.int .i64 1) ∧ w' = V) := fun V => by
    have := rest_any k V
    rw [hk] at this
    exact this
  clear hD hm hk
  go_enter Try.func13, Try.ntmps13
  go_upto_region 1 with fail
  generalize (w.alloc _) = w1 at HB ⊢
  have c0 := HB.1.cell 0 (v := .int .i64 k) rfl
  have c1 := HB.1.cell 1 (v := .int .u64 (hiOf a)) rfl
  have c2 := HB.1.cell 2 (v := .int .u64 (loOf a)) rfl
  have c3 := HB.1.cell 3 (v := .int .i64 l) rfl
  have HB2 := one_new w1 #[.int .u64 (hiOf a), .int .u64 (loOf a), .int .i64 l] 51
  go_upto_region 2 with fail
  have HA : Hid (Blk (w1.alloc (.cells #[.int .u64 (hiOf a), .int .u64 (loOf a), .int .i64 l] 51)) w.heap.size #[.int .i64 k, .int .u64 (hiOf a), .int .u64 (loOf a), .int .i64 l, .int .i64 u] 35 ∧ Blk (w1.alloc (.cells #[.int .u64 (hiOf a), .int .u64 (loOf a), .int .i64 l] 51)) w1.heap.size #[.int .u64 (hiOf a), .int .u64 (loOf a), .int .i64 l] 51 ∧ Below w.heap.size w (w1.alloc (.cells #[.int .u64 (hiOf a), .int .u64 (loOf a), .int .i64 l] 51)) ∧ w.heap.size < w1.heap.size) :=
    ⟨HB.1.below HB2.2.1, HB2.1, bst HB.2.1 HB2.2.1, HB.2.2⟩
  clear c0 c1 c2 c3 HB HB2
  generalize (w1.alloc _) = w2 at HA ⊢
  generalize w1.heap.size = A1 at HA ⊢
  have c0 := HA.out.1.cell 0 (v := .int .i64 k) rfl
  have c1 := HA.out.1.cell 1 (v := .int .u64 (hiOf a)) rfl
  have c2 := HA.out.1.cell 2 (v := .int .u64 (loOf a)) rfl
  have c3 := HA.out.1.cell 3 (v := .int .i64 l) rfl
  have c4 := HA.out.1.cell 4 (v := .int .i64 u) rfl
  have d0 := HA.out.2.1.cell 0 (v := .int .u64 (hiOf a)) rfl
  have d1 := HA.out.2.1.cell 1 (v := .int .u64 (loOf a)) rfl
  have d2 := HA.out.2.1.cell 2 (v := .int .i64 l) rfl
  go_wp2_with fail
  refine (C12.out _).mono ?_
  rintro e w3 ⟨rfl, rfl⟩
  clear C12
  go_wp2_with fail
  refine (CT.out _ HA.out.2.2.1).mono ?_
  rintro e w4 ⟨rfl, H4⟩
  have HM := both_mid HD.out HA.out.2.2.1 ⟨H4.out.1, H4.out.2.1⟩
  have hbx : Blk w4 w.heap.size #[.int .i64 k, .int .u64 (hiOf a), .int .u64 (loOf a), .int .i64 l, .int .i64 u] 35 := HA.out.1.kept H4.out.2.1 (by have := HQ.out.1; show ¬ _ = _; omega)
  clear c0 c1 c2 c3 c4 d0 d1 d2 CT
  have c1 := hbx.cell 1 (v := .int .u64 (hiOf a)) rfl
  have c2 := hbx.cell 2 (v := .int .u64 (loOf a)) rfl
  have c3 := hbx.cell 3 (v := .int .i64 l) rfl
  have c4 := hbx.cell 4 (v := .int .i64 u) rfl
  clear hbx
  go_wp2_with fail
  refine (CR.out _ HM.1 HM.2).mono ?_
  rintro e w5 ⟨rfl, ro', H5⟩
  have HF : Hid (Duo w0 w5 q r W most L' ro' ∧ Kept (Tch q r ro) w w5 ∧ NewRow w ro ro' ∧ OX X w5 q W most L') := (let k := both_fin HD.out HA.out.2.2.1 ⟨H4.out.1, H4.out.2.1⟩ H5.out; ⟨k.1, k.2.1, k.2.2, HM.1.stepX H4.out.1 H4.out.2.2 H5.out.2.1⟩)
  clear c1 c2 c3 c4 CR HM H4 H5
  go_wp2
  go_ret
  exact ⟨rfl, L', ro', HF⟩
set_option maxHeartbeats 4000000 in
set_option maxRecDepth 100000 in
theorem playX_drop (X : Nat → Prop) (hOX : OX X w q W most L) (hXw : ∀ k, X k → k < w.heap.size) (hD : Duo w0 w q r W most L ro) (h1 : 1 ≤ W) (hW : W ≤ 128) (k l u : Int) (a : Nat) (ha : Is128 a) (hk : k % 12 = 2) :
    Calls Try.prog 13 #[.pointer (some ⟨q, 0, none⟩), .pointer (some ⟨r, 0, none⟩), .agg #[.int .i64 k, .int .u64 (hiOf a), .int .u64 (loOf a), .int .i64 l, .int .i64 u]] w fun e w' => e = .returned (.bool true) ∧ ∃ L' ro', Hid (Duo w0 w' q r W most L' ro' ∧ Kept (Tch q r ro) w w' ∧ NewRow w ro ro' ∧ OX X w' q W most L') := by
  have HOX : Hid (OX X w q W most L ∧ ∀ k, X k → k < w.heap.size) := ⟨hOX, hXw⟩
  clear hOX hXw
  have hm := hD.own.room
  have HD : Hid (Duo w0 w q r W most L ro) := hD
  obtain ⟨o, L', hB1, hB2⟩ := drop_bothX (X := X) (W := W) (most := most) (L := L) h1 hW hD.own.srt hD.ref.few a ha l
  have CT : Hid (∀ V, Below w.heap.size w V → Calls Try.prog 39 #[.pointer (some ⟨q, 0, none⟩), Pf a l] V fun e w' => e = .returned (.tuple #[.int .i64 (o.getD 0), .bool o.isSome]) ∧ Hid (Own w0 w' q W most L' ∧ Kept (fun k => k = q) V w' ∧ OX X w' q W most L')) := fun V hV => hB1 _ V q (hD.own.below hV) (HOX.out.1.below hV) (fun k e => Nat.lt_of_lt_of_le (HOX.out.2 k e) hV.size)
  have CR : Hid (∀ V, RefI w0 V r W most L ro → w0.heap.size ≤ V.heap.size → Calls Try.prog 43 #[.pointer (some ⟨r, 0, none⟩), B a, .int .i64 l] V fun e w' => e = .returned (.tuple #[.int .i64 (o.getD 0), .bool o.isSome]) ∧ ∃ ro', Hid (RefI w0 w' r W most L' ro' ∧ Kept (fun k => k = r ∨ ro = some k) V w' ∧ NewRow V ro ro')) := fun V h h' => hB2 _ V r ro h h'
  clear hB1 hB2
  have HQ : Hid (q < w.heap.size ∧ r < w.heap.size) := ⟨hD.tch q (.inl rfl), hD.tch r (.inr (.inl rfl))⟩
  have HB := one_new w #[.int .i64 k, .int .u64 (hiOf a), .int .u64 (loOf a), .int .i64 l, .int .i64 u] 35
  have C12 : Hid (∀ V, Calls Try.prog 12 #[.int .i64 k] V fun e w' => e = .returned (.int .i64 2) ∧ w' = V) := fun V => by
    have := rest_any k V
    rw [hk] at this
    exact this
  clear hD hm hk
  go_enter Try.func13, Try.ntmps13
  go_upto_region 1 with fail
  generalize (w.alloc _) = w1 at HB ⊢
  have c0 := HB.1.cell 0 (v := .int .i64 k) rfl
  have c1 := HB.1.cell 1 (v := .int .u64 (hiOf a)) rfl
  have c2 := HB.1.cell 2 (v := .int .u64 (loOf a)) rfl
  have c3 := HB.1.cell 3 (v := .int .i64 l) rfl
  have HB2 := one_new w1 #[.int .u64 (hiOf a), .int .u64 (loOf a), .int .i64 l] 51
  go_upto_region 2 with fail
  have HA : Hid (Blk (w1.alloc (.cells #[.int .u64 (hiOf a), .int .u64 (loOf a), .int .i64 l] 51)) w.heap.size #[.int .i64 k, .int .u64 (hiOf a), .int .u64 (loOf a), .int .i64 l, .int .i64 u] 35 ∧ Blk (w1.alloc (.cells #[.int .u64 (hiOf a), .int .u64 (loOf a), .int .i64 l] 51)) w1.heap.size #[.int .u64 (hiOf a), .int .u64 (loOf a), .int .i64 l] 51 ∧ Below w.heap.size w (w1.alloc (.cells #[.int .u64 (hiOf a), .int .u64 (loOf a), .int .i64 l] 51)) ∧ w.heap.size < w1.heap.size) :=
    ⟨HB.1.below HB2.2.1, HB2.1, bst HB.2.1 HB2.2.1, HB.2.2⟩
  clear c0 c1 c2 c3 HB HB2
  generalize (w1.alloc _) = w2 at HA ⊢
  generalize w1.heap.size = A1 at HA ⊢
  have c0 := HA.out.1.cell 0 (v := .int .i64 k) rfl
  have c1 := HA.out.1.cell 1 (v := .int .u64 (hiOf a)) rfl
  have c2 := HA.out.1.cell 2 (v := .int .u64 (loOf a)) rfl
  have c3 := HA.out.1.cell 3 (v := .int .i64 l) rfl
  have c4 := HA.out.1.cell 4 (v := .int .i64 u) rfl
  have d0 := HA.out.2.1.cell 0 (v := .int .u64 (hiOf a)) rfl
  have d1 := HA.out.2.1.cell 1 (v := .int .u64 (loOf a)) rfl
  have d2 := HA.out.2.1.cell 2 (v := .int .i64 l) rfl
  go_wp2_with fail
  refine (C12.out _).mono ?_
  rintro e w3 ⟨rfl, rfl⟩
  clear C12
  go_wp2_with fail
  refine (CT.out _ HA.out.2.2.1).mono ?_
  rintro e w4 ⟨rfl, H4⟩
  have HM := both_mid HD.out HA.out.2.2.1 ⟨H4.out.1, H4.out.2.1⟩
  have hbx : Blk w4 w.heap.size #[.int .i64 k, .int .u64 (hiOf a), .int .u64 (loOf a), .int .i64 l, .int .i64 u] 35 := HA.out.1.kept H4.out.2.1 (by have := HQ.out.1; show ¬ _ = _; omega)
  clear c0 c1 c2 c3 c4 d0 d1 d2 CT
  have c1 := hbx.cell 1 (v := .int .u64 (hiOf a)) rfl
  have c2 := hbx.cell 2 (v := .int .u64 (loOf a)) rfl
  have c3 := hbx.cell 3 (v := .int .i64 l) rfl
  have c4 := hbx.cell 4 (v := .int .i64 u) rfl
  clear hbx
  go_wp2_with fail
  refine (CR.out _ HM.1 HM.2).mono ?_
  rintro e w5 ⟨rfl, ro', H5⟩
  have HF : Hid (Duo w0 w5 q r W most L' ro' ∧ Kept (Tch q r ro) w w5 ∧ NewRow w ro ro' ∧ OX X w5 q W most L') := (let k := both_fin HD.out HA.out.2.2.1 ⟨H4.out.1, H4.out.2.1⟩ H5.out; ⟨k.1, k.2.1, k.2.2, HM.1.stepX H4.out.1 H4.out.2.2 H5.out.2.1⟩)
  clear c1 c2 c3 c4 CR HM H4 H5
  generalize o.getD 0 = x at *
  cases o.isSome <;> (go_wp2; go_ret; exact ⟨rfl, L', ro', HF⟩)
set_option maxHeartbeats 4000000 in
set_option maxRecDepth 100000 in
theorem playX_get (X : Nat → Prop) (hOX : OX X w q W most L) (hXw : ∀ k, X k → k < w.heap.size) (hD : Duo w0 w q r W most L ro) (h1 : 1 ≤ W) (hW : W ≤ 128) (k l u : Int) (a : Nat) (ha : Is128 a) (hk : k % 12 = 3) :
    Calls Try.prog 13 #[.pointer (some ⟨q, 0, none⟩), .pointer (some ⟨r, 0, none⟩), .agg #[.int .i64 k, .int .u64 (hiOf a), .int .u64 (loOf a), .int .i64 l, .int .i64 u]] w fun e w' => e = .returned (.bool true) ∧ ∃ L' ro', Hid (Duo w0 w' q r W most L' ro' ∧ Kept (Tch q r ro) w w' ∧ NewRow w ro ro' ∧ OX X w' q W most L') := by
  have HOX : Hid (OX X w q W most L ∧ ∀ k, X k → k < w.heap.size) := ⟨hOX, hXw⟩
  clear hOX hXw
  have hm := hD.own.room
  have HD : Hid (Duo w0 w q r W most L ro) := hD
  obtain ⟨o, hB1, hB2⟩ := get_bothX (X := X) (W := W) (most := most) (L := L) h1 hW a ha l
  have CT : Hid (∀ V, Below w.heap.size w V → Calls Try.prog 28 #[.pointer (some ⟨q, 0, none⟩), Pf a l] V fun e w' => e = .returned (.tuple #[.int .i64 (o.getD 0), .bool o.isSome]) ∧ Hid (Own w0 w' q W most L ∧ Kept (fun k => k = q) V w' ∧ OX X w' q W most L)) := fun V hV => hB1 _ V q (hD.own.below hV) (HOX.out.1.below hV) (fun k e => Nat.lt_of_lt_of_le (HOX.out.2 k e) hV.size)
  have CR : Hid (∀ V, RefI w0 V r W most L ro → w0.heap.size ≤ V.heap.size → Calls Try.prog 44 #[.pointer (some ⟨r, 0, none⟩), B a, .int .i64 l] V fun e w' => e = .returned (.tuple #[.int .i64 (o.getD 0), .bool o.isSome]) ∧ ∃ ro', Hid (RefI w0 w' r W most L ro' ∧ Kept (fun k => k = r ∨ ro = some k) V w' ∧ NewRow V ro ro')) := fun V h h' => hB2 _ V r ro h h'
  clear hB1 hB2
  have HQ : Hid (q < w.heap.size ∧ r < w.heap.size) := ⟨hD.tch q (.inl rfl), hD.tch r (.inr (.inl rfl))⟩
  have HB := one_new w #[.int .i64 k, .int .u64 (hiOf a), .int .u64 (loOf a), .int .i64 l, .int .i64 u] 35
  have C12 : Hid (∀ V, Calls Try.prog 12 #[.int .i64 k] V fun e w' => e = .returned (.int .i64 3) ∧ w' = V) := fun V => by
    have := rest_any k V
    rw [hk] at this
    exact this
  clear hD hm hk
  go_enter Try.func13, Try.ntmps13
  go_upto_region 1 with fail
  generalize (w.alloc _) = w1 at HB ⊢
  have c0 := HB.1.cell 0 (v := .int .i64 k) rfl
  have c1 := HB.1.cell 1 (v := .int .u64 (hiOf a)) rfl
  have c2 := HB.1.cell 2 (v := .int .u64 (loOf a)) rfl
  have c3 := HB.1.cell 3 (v := .int .i64 l) rfl
  have HB2 := one_new w1 #[.int .u64 (hiOf a), .int .u64 (loOf a), .int .i64 l] 51
  go_upto_region 2 with fail
  have HA : Hid (Blk (w1.alloc (.cells #[.int .u64 (hiOf a), .int .u64 (loOf a), .int .i64 l] 51)) w.heap.size #[.int .i64 k, .int .u64 (hiOf a), .int .u64 (loOf a), .int .i64 l, .int .i64 u] 35 ∧ Blk (w1.alloc (.cells #[.int .u64 (hiOf a), .int .u64 (loOf a), .int .i64 l] 51)) w1.heap.size #[.int .u64 (hiOf a), .int .u64 (loOf a), .int .i64 l] 51 ∧ Below w.heap.size w (w1.alloc (.cells #[.int .u64 (hiOf a), .int .u64 (loOf a), .int .i64 l] 51)) ∧ w.heap.size < w1.heap.size) :=
    ⟨HB.1.below HB2.2.1, HB2.1, bst HB.2.1 HB2.2.1, HB.2.2⟩
  clear c0 c1 c2 c3 HB HB2
  generalize (w1.alloc _) = w2 at HA ⊢
  generalize w1.heap.size = A1 at HA ⊢
  have c0 := HA.out.1.cell 0 (v := .int .i64 k) rfl
  have c1 := HA.out.1.cell 1 (v := .int .u64 (hiOf a)) rfl
  have c2 := HA.out.1.cell 2 (v := .int .u64 (loOf a)) rfl
  have c3 := HA.out.1.cell 3 (v := .int .i64 l) rfl
  have c4 := HA.out.1.cell 4 (v := .int .i64 u) rfl
  have d0 := HA.out.2.1.cell 0 (v := .int .u64 (hiOf a)) rfl
  have d1 := HA.out.2.1.cell 1 (v := .int .u64 (loOf a)) rfl
  have d2 := HA.out.2.1.cell 2 (v := .int .i64 l) rfl
  go_wp2_with fail
  refine (C12.out _).mono ?_
  rintro e w3 ⟨rfl, rfl⟩
  clear C12
  go_wp2_with fail
  refine (CT.out _ HA.out.2.2.1).mono ?_
  rintro e w4 ⟨rfl, H4⟩
  have HM := both_mid HD.out HA.out.2.2.1 ⟨H4.out.1, H4.out.2.1⟩
  have hbx : Blk w4 w.heap.size #[.int .i64 k, .int .u64 (hiOf a), .int .u64 (loOf a), .int .i64 l, .int .i64 u] 35 := HA.out.1.kept H4.out.2.1 (by have := HQ.out.1; show ¬ _ = _; omega)
  clear c0 c1 c2 c3 c4 d0 d1 d2 CT
  have c1 := hbx.cell 1 (v := .int .u64 (hiOf a)) rfl
  have c2 := hbx.cell 2 (v := .int .u64 (loOf a)) rfl
  have c3 := hbx.cell 3 (v := .int .i64 l) rfl
  have c4 := hbx.cell 4 (v := .int .i64 u) rfl
  clear hbx
  go_wp2_with fail
  refine (CR.out _ HM.1 HM.2).mono ?_
  rintro e w5 ⟨rfl, ro', H5⟩
  have HF : Hid (Duo w0 w5 q r W most L ro' ∧ Kept (Tch q r ro) w w5 ∧ NewRow w ro ro' ∧ OX X w5 q W most L) := (let k := both_fin HD.out HA.out.2.2.1 ⟨H4.out.1, H4.out.2.1⟩ H5.out; ⟨k.1, k.2.1, k.2.2, HM.1.stepX H4.out.1 H4.out.2.2 H5.out.2.1⟩)
  clear c1 c2 c3 c4 CR HM H4 H5
  generalize o.getD 0 = x at *
  cases o.isSome <;> (go_wp2; go_ret; exact ⟨rfl, L, ro', HF⟩)
set_option maxHeartbeats 4000000 in
set_option maxRecDepth 100000 in
theorem playX_every (X : Nat → Prop) (hOX : OX X w q W most L) (hXw : ∀ k, X k → k < w.heap.size) (hD : Duo w0 w q r W most L ro) (h1 : 1 ≤ W) (hW : W ≤ 128) (k l u : Int) (a : Nat) (ha : Is128 a) (hk : k % 12 = 5) :
    Calls Try.prog 13 #[.pointer (some ⟨q, 0, none⟩), .pointer (some ⟨r, 0, none⟩), .agg #[.int .i64 k, .int .u64 (hiOf a), .int .u64 (loOf a), .int .i64 l, .int .i64 u]] w fun e w' => e = .returned (.bool true) ∧ ∃ L' ro', Hid (Duo w0 w' q r W most L' ro' ∧ Kept (Tch q r ro) w w' ∧ NewRow w ro ro' ∧ OX X w' q W most L') := by
  have HOX : Hid (OX X w q W most L ∧ ∀ k, X k → k < w.heap.size) := ⟨hOX, hXw⟩
  clear hOX hXw
  have hm := hD.own.room
  have HD : Hid (Duo w0 w q r W most L ro) := hD
  have CE : Hid (∀ V, Below w.heap.size w V → Calls Try.prog 46 #[.pointer (some ⟨q, 0, none⟩), .pointer (some ⟨r, 0, none⟩), B a] V fun e w' => e = .returned (.bool true) ∧ Below V.heap.size V w') := fun V hV => every46 (hD.below hV) h1 hW a ha
  have HF : Hid (∀ w', Below w.heap.size w w' → Duo w0 w' q r W most L ro ∧ Kept (Tch q r ro) w w' ∧ NewRow w ro ro ∧ OX X w' q W most L) := fun w' hb => ⟨HD.out.below hb, Kept.of_below hb, .inl rfl, HOX.out.1.below hb⟩
  have HQ : Hid (q < w.heap.size ∧ r < w.heap.size) := ⟨hD.tch q (.inl rfl), hD.tch r (.inr (.inl rfl))⟩
  have HB := one_new w #[.int .i64 k, .int .u64 (hiOf a), .int .u64 (loOf a), .int .i64 l, .int .i64 u] 35
  have C12 : Hid (∀ V, Calls Try.prog 12 #[.int .i64 k] V fun e w' => e = .returned (.int .i64 5) ∧ w' = V) := fun V => by
    have := rest_any k V
    rw [hk] at this
    exact this
  clear hD hm hk
  go_enter Try.func13, Try.ntmps13
  go_upto_region 1 with fail
  generalize (w.alloc _) = w1 at HB ⊢
  have c0 := HB.1.cell 0 (v := .int .i64 k) rfl
  have c1 := HB.1.cell 1 (v := .int .u64 (hiOf a)) rfl
  have c2 := HB.1.cell 2 (v := .int .u64 (loOf a)) rfl
  have c3 := HB.1.cell 3 (v := .int .i64 l) rfl
  have HB2 := one_new w1 #[.int .u64 (hiOf a), .int .u64 (loOf a), .int .i64 l] 51
  go_upto_region 2 with fail
  have HA : Hid (Blk (w1.alloc (.cells #[.int .u64 (hiOf a), .int .u64 (loOf a), .int .i64 l] 51)) w.heap.size #[.int .i64 k, .int .u64 (hiOf a), .int .u64 (loOf a), .int .i64 l, .int .i64 u] 35 ∧ Blk (w1.alloc (.cells #[.int .u64 (hiOf a), .int .u64 (loOf a), .int .i64 l] 51)) w1.heap.size #[.int .u64 (hiOf a), .int .u64 (loOf a), .int .i64 l] 51 ∧ Below w.heap.size w (w1.alloc (.cells #[.int .u64 (hiOf a), .int .u64 (loOf a), .int .i64 l] 51)) ∧ w.heap.size < w1.heap.size) :=
    ⟨HB.1.below HB2.2.1, HB2.1, bst HB.2.1 HB2.2.1, HB.2.2⟩
  clear c0 c1 c2 c3 HB HB2
  generalize (w1.alloc _) = w2 at HA ⊢
  generalize w1.heap.size = A1 at HA ⊢
  have c0 := HA.out.1.cell 0 (v := .int .i64 k) rfl
  have c1 := HA.out.1.cell 1 (v := .int .u64 (hiOf a)) rfl
  have c2 := HA.out.1.cell 2 (v := .int .u64 (loOf a)) rfl
  have c3 := HA.out.1.cell 3 (v := .int .i64 l) rfl
  have c4 := HA.out.1.cell 4 (v := .int .i64 u) rfl
  have d0 := HA.out.2.1.cell 0 (v := .int .u64 (hiOf a)) rfl
  have d1 := HA.out.2.1.cell 1 (v := .int .u64 (loOf a)) rfl
  have d2 := HA.out.2.1.cell 2 (v := .int .i64 l) rfl
  go_wp2_with fail
  refine (C12.out _).mono ?_
  rintro e w3 ⟨rfl, rfl⟩
  clear C12
  go_wp2_with fail
  refine (CE.out _ HA.out.2.2.1).mono ?_
  rintro e w4 ⟨rfl, H4⟩
  have HG : Hid _ := HF.out w4 (bst HA.out.2.2.1 H4)
  clear H4
  go_wp2
  go_ret
  exact ⟨rfl, L, ro, HG⟩
set_option maxHeartbeats 4000000 in
set_option maxRecDepth 100000 in
theorem playX_nodes (X : Nat → Prop) (hOX : OX X w q W most L) (hXw : ∀ k, X k → k < w.heap.size) (hD : Duo w0 w q r W most L ro) (h1 : 1 ≤ W) (hW : W ≤ 128) (k l u : Int) (a : Nat) (ha : Is128 a) (hk : k % 12 = 6) :
    Calls Try.prog 13 #[.pointer (some ⟨q, 0, none⟩), .pointer (some ⟨r, 0, none⟩), .agg #[.int .i64 k, .int .u64 (hiOf a), .int .u64 (loOf a), .int .i64 l, .int .i64 u]] w fun e w' => e = .returned (.bool true) ∧ ∃ L' ro', Hid (Duo w0 w' q r W most L' ro' ∧ Kept (Tch q r ro) w w' ∧ NewRow w ro ro' ∧ OX X w' q W most L') := by
  have HOX : Hid (OX X w q W most L ∧ ∀ k, X k → k < w.heap.size) := ⟨hOX, hXw⟩
  clear hOX hXw
  have hm := hD.own.room
  have HD : Hid (Duo w0 w q r W most L ro) := hD
  obtain ⟨⟨bx, cx, g1, g2, g3⟩, g4, g5, g6⟩ := id hD.ref
  have HX : Hid (Blk w r #[.int .i64 W, .int .i64 most, .slice bx L.length cx] 40) := g2
  have CN : Hid (∀ V, Below w.heap.size w V → Calls Try.prog 40 #[.pointer (some ⟨q, 0, none⟩)] V fun e w' => e = .returned (.int .i64 (nodesR L)) ∧ Below V.heap.size V w') := fun V hV => nodes_both (HD.out.own.below hV) HD.out.ref.few
  have CM : Hid (∀ V, Below w.heap.size w V → Calls Try.prog 47 #[.pointer (some ⟨r, 0, none⟩)] V fun e w' => e = .returned (.int .i64 (nodesR L)) ∧ Below V.heap.size V w') := fun V hV => rnodes_any (HD.out.ref.below hV).at (fun y hy => Nat.le_trans (HD.out.own.lens y hy) hW)
  have CL : Hid (∀ V, Below w.heap.size w V → Calls Try.prog 37 #[.pointer (some ⟨q, 0, none⟩)] V fun e w' => e = .returned (.int .i64 L.length) ∧ w' = V) := fun V hV => len_both (HD.out.own.below hV)
  clear g1 g2 g3 g4 g5 g6
  have HF : Hid (∀ w', Below w.heap.size w w' → Duo w0 w' q r W most L ro ∧ Kept (Tch q r ro) w w' ∧ NewRow w ro ro ∧ OX X w' q W most L) := fun w' hb => ⟨HD.out.below hb, Kept.of_below hb, .inl rfl, HOX.out.1.below hb⟩
  generalize L.length = n at HX CL
  generalize nodesR L = nn at CN CM
  have HQ : Hid (q < w.heap.size ∧ r < w.heap.size) := ⟨hD.tch q (.inl rfl), hD.tch r (.inr (.inl rfl))⟩
  have HB := one_new w #[.int .i64 k, .int .u64 (hiOf a), .int .u64 (loOf a), .int .i64 l, .int .i64 u] 35
  have C12 : Hid (∀ V, Calls Try.prog 12 #[.int .i64 k] V fun e w' => e = .returned (.int .i64 6) ∧ w' = V) := fun V => by
    have := rest_any k V
    rw [hk] at this
    exact this
  clear hD hm hk
  go_enter Try.func13, Try.ntmps13
  go_upto_region 1 with fail
  generalize (w.alloc _) = w1 at HB ⊢
  have c0 := HB.1.cell 0 (v := .int .i64 k) rfl
  have c1 := HB.1.cell 1 (v := .int .u64 (hiOf a)) rfl
  have c2 := HB.1.cell 2 (v := .int .u64 (loOf a)) rfl
  have c3 := HB.1.cell 3 (v := .int .i64 l) rfl
  have HB2 := one_new w1 #[.int .u64 (hiOf a), .int .u64 (loOf a), .int .i64 l] 51
  go_upto_region 2 with fail
  have HA : Hid (Blk (w1.alloc (.cells #[.int .u64 (hiOf a), .int .u64 (loOf a), .int .i64 l] 51)) w.heap.size #[.int .i64 k, .int .u64 (hiOf a), .int .u64 (loOf a), .int .i64 l, .int .i64 u] 35 ∧ Blk (w1.alloc (.cells #[.int .u64 (hiOf a), .int .u64 (loOf a), .int .i64 l] 51)) w1.heap.size #[.int .u64 (hiOf a), .int .u64 (loOf a), .int .i64 l] 51 ∧ Below w.heap.size w (w1.alloc (.cells #[.int .u64 (hiOf a), .int .u64 (loOf a), .int .i64 l] 51)) ∧ w.heap.size < w1.heap.size) :=
    ⟨HB.1.below HB2.2.1, HB2.1, bst HB.2.1 HB2.2.1, HB.2.2⟩
  clear c0 c1 c2 c3 HB HB2
  generalize (w1.alloc _) = w2 at HA ⊢
  generalize w1.heap.size = A1 at HA ⊢
  have c0 := HA.out.1.cell 0 (v := .int .i64 k) rfl
  have c1 := HA.out.1.cell 1 (v := .int .u64 (hiOf a)) rfl
  have c2 := HA.out.1.cell 2 (v := .int .u64 (loOf a)) rfl
  have c3 := HA.out.1.cell 3 (v := .int .i64 l) rfl
  have c4 := HA.out.1.cell 4 (v := .int .i64 u) rfl
  have d0 := HA.out.2.1.cell 0 (v := .int .u64 (hiOf a)) rfl
  have d1 := HA.out.2.1.cell 1 (v := .int .u64 (loOf a)) rfl
  have d2 := HA.out.2.1.cell 2 (v := .int .i64 l) rfl
  go_wp2_with fail
  refine (C12.out _).mono ?_
  rintro e w3 ⟨rfl, rfl⟩
  clear C12
  have CN' : Hid (∀ z : Grown w3, Calls Try.prog 40 #[.pointer (some ⟨q, 0, none⟩)] (gw z) fun e w' => e = .returned (.int .i64 nn) ∧ Below (gw z).heap.size (gw z) w') := fun z => CN.out _ (bst HA.out.2.2.1 (gw_below z))
  have CM' : Hid (∀ z : Grown w3, Calls Try.prog 47 #[.pointer (some ⟨r, 0, none⟩)] (gw z) fun e w' => e = .returned (.int .i64 nn) ∧ Below (gw z).heap.size (gw z) w') := fun z => CM.out _ (bst HA.out.2.2.1 (gw_below z))
  have CL' : Hid (∀ z : Grown w3, Calls Try.prog 37 #[.pointer (some ⟨q, 0, none⟩)] (gw z) fun e w' => e = .returned (.int .i64 n) ∧ w' = gw z) := fun z => CL.out _ (bst HA.out.2.2.1 (gw_below z))
  go_upto_region 29 with fail
  have y2 := gw_cell ((HX.out.below HA.out.2.2.1).cell 2 (v := .slice bx n cx) rfl)
  clear CN CM CL HX c0 c1 c2 c3 c4 d0 d1 d2
  refine region_grows (by kernel_rfl) (by kernel_rfl) ?_
  repeat (go_big_quiet_step (first | (go_at_call 37; exact calls_gw_same (CL'.out _)) | (go_at_call 40; exact calls_gw (CN'.out _)) | (go_at_call 47; exact calls_gw (CM'.out _))))
  refine wpQuiet_nil ?_
  intro wq hwq
  obtain ⟨zq, rfl⟩ := hwq
  have HG : Hid _ := HF.out (gw zq) (bst HA.out.2.2.1 (gw_below zq))
  go_wp2
  go_ret
  exact ⟨rfl, L, ro, HG⟩
set_option maxHeartbeats 4000000 in
set_option maxRecDepth 100000 in
theorem playX_9 (X : Nat → Prop) (hOX : OX X w q W most L) (hXw : ∀ k, X k → k < w.heap.size) (hD : Duo w0 w q r W most L ro) (h1 : 1 ≤ W) (hW : W ≤ 128) (k l u : Int) (a : Nat) (ha : Is128 a) (hk : k % 12 = 9) :
    Calls Try.prog 13 #[.pointer (some ⟨q, 0, none⟩), .pointer (some ⟨r, 0, none⟩), .agg #[.int .i64 k, .int .u64 (hiOf a), .int .u64 (loOf a), .int .i64 l, .int .i64 u]] w fun e w' => e = .returned (.bool true) ∧ ∃ L' ro', Hid (Duo w0 w' q r W most L' ro' ∧ Kept (Tch q r ro) w w' ∧ NewRow w ro ro' ∧ OX X w' q W most L') := by
  have HOX : Hid (OX X w q W most L ∧ ∀ k, X k → k < w.heap.size) := ⟨hOX, hXw⟩
  clear hOX hXw
  have hm := hD.own.room
  have HD : Hid (Duo w0 w q r W most L ro) := hD
  have HF : Hid (∀ w', Below w.heap.size w w' → Duo w0 w' q r W most L ro ∧ Kept (Tch q r ro) w w' ∧ NewRow w ro ro ∧ OX X w' q W most L) := fun w' hb => ⟨HD.out.below hb, Kept.of_below hb, .inl rfl, HOX.out.1.below hb⟩
  have HQ : Hid (q < w.heap.size ∧ r < w.heap.size) := ⟨hD.tch q (.inl rfl), hD.tch r (.inr (.inl rfl))⟩
  have HB := one_new w #[.int .i64 k, .int .u64 (hiOf a), .int .u64 (loOf a), .int .i64 l, .int .i64 u] 35
  have C12 : Hid (∀ V, Calls Try.prog 12 #[.int .i64 k] V fun e w' => e = .returned (.int .i64 9) ∧ w' = V) := fun V => by
    have := rest_any k V
    rw [hk] at this
    exact this
  clear hD hm hk
  go_enter Try.func13, Try.ntmps13
  go_upto_region 1 with fail
  generalize (w.alloc _) = w1 at HB ⊢
  have c0 := HB.1.cell 0 (v := .int .i64 k) rfl
  have c1 := HB.1.cell 1 (v := .int .u64 (hiOf a)) rfl
  have c2 := HB.1.cell 2 (v := .int .u64 (loOf a)) rfl
  have c3 := HB.1.cell 3 (v := .int .i64 l) rfl
  have HB2 := one_new w1 #[.int .u64 (hiOf a), .int .u64 (loOf a), .int .i64 l] 51
  go_upto_region 2 with fail
  have HA : Hid (Blk (w1.alloc (.cells #[.int .u64 (hiOf a), .int .u64 (loOf a), .int .i64 l] 51)) w.heap.size #[.int .i64 k, .int .u64 (hiOf a), .int .u64 (loOf a), .int .i64 l, .int .i64 u] 35 ∧ Blk (w1.alloc (.cells #[.int .u64 (hiOf a), .int .u64 (loOf a), .int .i64 l] 51)) w1.heap.size #[.int .u64 (hiOf a), .int .u64 (loOf a), .int .i64 l] 51 ∧ Below w.heap.size w (w1.alloc (.cells #[.int .u64 (hiOf a), .int .u64 (loOf a), .int .i64 l] 51)) ∧ w.heap.size < w1.heap.size) :=
    ⟨HB.1.below HB2.2.1, HB2.1, bst HB.2.1 HB2.2.1, HB.2.2⟩
  clear c0 c1 c2 c3 HB HB2
  generalize (w1.alloc _) = w2 at HA ⊢
  generalize w1.heap.size = A1 at HA ⊢
  have c0 := HA.out.1.cell 0 (v := .int .i64 k) rfl
  have c1 := HA.out.1.cell 1 (v := .int .u64 (hiOf a)) rfl
  have c2 := HA.out.1.cell 2 (v := .int .u64 (loOf a)) rfl
  have c3 := HA.out.1.cell 3 (v := .int .i64 l) rfl
  have c4 := HA.out.1.cell 4 (v := .int .i64 u) rfl
  have d0 := HA.out.2.1.cell 0 (v := .int .u64 (hiOf a)) rfl
  have d1 := HA.out.2.1.cell 1 (v := .int .u64 (loOf a)) rfl
  have d2 := HA.out.2.1.cell 2 (v := .int .i64 l) rfl
  go_wp2_with fail
  refine (C12.out _).mono ?_
  rintro e w3 ⟨rfl, rfl⟩
  clear C12
  have HG : Hid _ := HF.out w3 HA.out.2.2.1
  go_wp2
  go_ret
  exact ⟨rfl, L, ro, HG⟩
set_option maxHeartbeats 4000000 in
set_option maxRecDepth 100000 in
theorem playX_10 (X : Nat → Prop) (hOX : OX X w q W most L) (hXw : ∀ k, X k → k < w.heap.size) (hD : Duo w0 w q r W most L ro) (h1 : 1 ≤ W) (hW : W ≤ 128) (k l u : Int) (a : Nat) (ha : Is128 a) (hk : k % 12 = 10) :
    Calls Try.prog 13 #[.pointer (some ⟨q, 0, none⟩), .pointer (some ⟨r, 0, none⟩), .agg #[.int .i64 k, .int .u64 (hiOf a), .int .u64 (loOf a), .int .i64 l, .int .i64 u]] w fun e w' => e = .returned (.bool true) ∧ ∃ L' ro', Hid (Duo w0 w' q r W most L' ro' ∧ Kept (Tch q r ro) w w' ∧ NewRow w ro ro' ∧ OX X w' q W most L') := by
  have HOX : Hid (OX X w q W most L ∧ ∀ k, X k → k < w.heap.size) := ⟨hOX, hXw⟩
  clear hOX hXw
  have hm := hD.own.room
  have HD : Hid (Duo w0 w q r W most L ro) := hD
  have HF : Hid (∀ w', Below w.heap.size w w' → Duo w0 w' q r W most L ro ∧ Kept (Tch q r ro) w w' ∧ NewRow w ro ro ∧ OX X w' q W most L) := fun w' hb => ⟨HD.out.below hb, Kept.of_below hb, .inl rfl, HOX.out.1.below hb⟩
  have HQ : Hid (q < w.heap.size ∧ r < w.heap.size) := ⟨hD.tch q (.inl rfl), hD.tch r (.inr (.inl rfl))⟩
  have HB := one_new w #[.int .i64 k, .int .u64 (hiOf a), .int .u64 (loOf a), .int .i64 l, .int .i64 u] 35
  have C12 : Hid (∀ V, Calls Try.prog 12 #[.int .i64 k] V fun e w' => e = .returned (.int .i64 10) ∧ w' = V) := fun V => by
    have := rest_any k V
    rw [hk] at this
    exact this
  clear hD hm hk
  go_enter Try.func13, Try.ntmps13
  go_upto_region 1 with fail
  generalize (w.alloc _) = w1 at HB ⊢
  have c0 := HB.1.cell 0 (v := .int .i64 k) rfl
  have c1 := HB.1.cell 1 (v := .int .u64 (hiOf a)) rfl
  have c2 := HB.1.cell 2 (v := .int .u64 (loOf a)) rfl
  have c3 := HB.1.cell 3 (v := .int .i64 l) rfl
  have HB2 := one_new w1 #[.int .u64 (hiOf a), .int .u64 (loOf a), .int .i64 l] 51
  go_upto_region 2 with fail
  have HA : Hid (Blk (w1.alloc (.cells #[.int .u64 (hiOf a), .int .u64 (loOf a), .int .i64 l] 51)) w.heap.size #[.int .i64 k, .int .u64 (hiOf a), .int .u64 (loOf a), .int .i64 l, .int .i64 u] 35 ∧ Blk (w1.alloc (.cells #[.int .u64 (hiOf a), .int .u64 (loOf a), .int .i64 l] 51)) w1.heap.size #[.int .u64 (hiOf a), .int .u64 (loOf a), .int .i64 l] 51 ∧ Below w.heap.size w (w1.alloc (.cells #[.int .u64 (hiOf a), .int .u64 (loOf a), .int .i64 l] 51)) ∧ w.heap.size < w1.heap.size) :=
    ⟨HB.1.below HB2.2.1, HB2.1, bst HB.2.1 HB2.2.1, HB.2.2⟩
  clear c0 c1 c2 c3 HB HB2
  generalize (w1.alloc _) = w2 at HA ⊢
  generalize w1.heap.size = A1 at HA ⊢
  have c0 := HA.out.1.cell 0 (v := .int .i64 k) rfl
  have c1 := HA.out.1.cell 1 (v := .int .u64 (hiOf a)) rfl
  have c2 := HA.out.1.cell 2 (v := .int .u64 (loOf a)) rfl
  have c3 := HA.out.1.cell 3 (v := .int .i64 l) rfl
  have c4 := HA.out.1.cell 4 (v := .int .i64 u) rfl
  have d0 := HA.out.2.1.cell 0 (v := .int .u64 (hiOf a)) rfl
  have d1 := HA.out.2.1.cell 1 (v := .int .u64 (loOf a)) rfl
  have d2 := HA.out.2.1.cell 2 (v := .int .i64 l) rfl
  go_wp2_with fail
  refine (C12.out _).mono ?_
  rintro e w3 ⟨rfl, rfl⟩
  clear C12
  have HG : Hid _ := HF.out w3 HA.out.2.2.1
  go_wp2
  go_ret
  exact ⟨rfl, L, ro, HG⟩
set_option maxHeartbeats 4000000 in
set_option maxRecDepth 100000 in
theorem playX_11 (X : Nat → Prop) (hOX : OX X w q W most L) (hXw : ∀ k, X k → k < w.heap.size) (hD : Duo w0 w q r W most L ro) (h1 : 1 ≤ W) (hW : W ≤ 128) (k l u : Int) (a : Nat) (ha : Is128 a) (hk : k % 12 = 11) :
    Calls Try.prog 13 #[.pointer (some ⟨q, 0, none⟩), .pointer (some ⟨r, 0, none⟩), .agg #[.int .i64 k, .int .u64 (hiOf a), .int .u64 (loOf a), .int .i64 l, .int .i64 u]] w fun e w' => e = .returned (.bool true) ∧ ∃ L' ro', Hid (Duo w0 w' q r W most L' ro' ∧ Kept (Tch q r ro) w w' ∧ NewRow w ro ro' ∧ OX X w' q W most L') := by
  have HOX : Hid (OX X w q W most L ∧ ∀ k, X k → k < w.heap.size) := ⟨hOX, hXw⟩
  clear hOX hXw
  have hm := hD.own.room
  have HD : Hid (Duo w0 w q r W most L ro) := hD
  have HF : Hid (∀ w', Below w.heap.size w w' → Duo w0 w' q r W most L ro ∧ Kept (Tch q r ro) w w' ∧ NewRow w ro ro ∧ OX X w' q W most L) := fun w' hb => ⟨HD.out.below hb, Kept.of_below hb, .inl rfl, HOX.out.1.below hb⟩
  have HQ : Hid (q < w.heap.size ∧ r < w.heap.size) := ⟨hD.tch q (.inl rfl), hD.tch r (.inr (.inl rfl))⟩
  have HB := one_new w #[.int .i64 k, .int .u64 (hiOf a), .int .u64 (loOf a), .int .i64 l, .int .i64 u] 35
  have C12 : Hid (∀ V, Calls Try.prog 12 #[.int .i64 k] V fun e w' => e = .returned (.int .i64 11) ∧ w' = V) := fun V => by
    have := rest_any k V
    rw [hk] at this
    exact this
  clear hD hm hk
  go_enter Try.func13, Try.ntmps13
  go_upto_region 1 with fail
  generalize (w.alloc _) = w1 at HB ⊢
  have c0 := HB.1.cell 0 (v := .int .i64 k) rfl
  have c1 := HB.1.cell 1 (v := .int .u64 (hiOf a)) rfl
  have c2 := HB.1.cell 2 (v := .int .u64 (loOf a)) rfl
  have c3 := HB.1.cell 3 (v := .int .i64 l) rfl
  have HB2 := one_new w1 #[.int .u64 (hiOf a), .int .u64 (loOf a), .int .i64 l] 51
  go_upto_region 2 with fail
  have HA : Hid (Blk (w1.alloc (.cells #[.int .u64 (hiOf a), .int .u64 (loOf a), .int .i64 l] 51)) w.heap.size #[.int .i64 k, .int .u64 (hiOf a), .int .u64 (loOf a), .int .i64 l, .int .i64 u] 35 ∧ Blk (w1.alloc (.cells #[.int .u64 (hiOf a), .int .u64 (loOf a), .int .i64 l] 51)) w1.heap.size #[.int .u64 (hiOf a), .int .u64 (loOf a), .int .i64 l] 51 ∧ Below w.heap.size w (w1.alloc (.cells #[.int .u64 (hiOf a), .int .u64 (loOf a), .int .i64 l] 51)) ∧ w.heap.size < w1.heap.size) :=
    ⟨HB.1.below HB2.2.1, HB2.1, bst HB.2.1 HB2.2.1, HB.2.2⟩
  clear c0 c1 c2 c3 HB HB2
  generalize (w1.alloc _) = w2 at HA ⊢
  generalize w1.heap.size = A1 at HA ⊢
  have c0 := HA.out.1.cell 0 (v := .int .i64 k) rfl
  have c1 := HA.out.1.cell 1 (v := .int .u64 (hiOf a)) rfl
  have c2 := HA.out.1.cell 2 (v := .int .u64 (loOf a)) rfl
  have c3 := HA.out.1.cell 3 (v := .int .i64 l) rfl
  have c4 := HA.out.1.cell 4 (v := .int .i64 u) rfl
  have d0 := HA.out.2.1.cell 0 (v := .int .u64 (hiOf a)) rfl
  have d1 := HA.out.2.1.cell 1 (v := .int .u64 (loOf a)) rfl
  have d2 := HA.out.2.1.cell 2 (v := .int .i64 l) rfl
  go_wp2_with fail
  refine (C12.out _).mono ?_
  rintro e w3 ⟨rfl, rfl⟩
  clear C12
  have HG : Hid _ := HF.out w3 HA.out.2.2.1
  go_wp2
  go_ret
  exact ⟨rfl, L, ro, HG⟩
end
end Go.Proofs.Ytgdpplipahhffaa
namespace Go.Proofs.Ytgdpplipahhffaa
open Go.RowKit
set_option linter.unusedVariables false
set_option linter.unusedSimpArgs false

section
variable {w0 w : World} {q r W most : Nat} {L : List (List Bool × Int)} {ro : Option Nat}
set_option maxHeartbeats 4000000 in
set_option maxRecDepth 100000 in
theorem playX_find (X : Nat → Prop) (hOX : OX X w q W most L) (hXw : ∀ k, X k → k < w.heap.size) (hD : Duo w0 w q r W most L ro) (h1 : 1 ≤ W) (hW : W ≤ 128) (k l u : Int) (a : Nat) (ha : Is128 a) (hk : k % 12 = 4) :
    Calls Try.prog 13 #[.pointer (some ⟨q, 0, none⟩), .pointer (some ⟨r, 0, none⟩), .agg #[.int .i64 k, .int .u64 (hiOf a), .int .u64 (loOf a), .int .i64 l, .int .i64 u]] w fun e w' => e = .returned (.bool true) ∧ ∃ L' ro', Hid (Duo w0 w' q r W most L' ro' ∧ Kept (Tch q r ro) w w' ∧ NewRow w ro ro' ∧ OX X w' q W most L') := by
  have HOX : Hid (OX X w q W most L ∧ ∀ k, X k → k < w.heap.size) := ⟨hOX, hXw⟩
  clear hOX hXw
  have hm := hD.own.room
  have HD : Hid (Duo w0 w q r W most L ro) := hD
  have HO : Hid (∀ y, (hitsL W a L).getLast? = some y → y.1.length ≤ W) := fun y hy => hD.own.lens y (hits_mem (List.mem_of_getLast? hy))
  have CF : Hid (∀ V, Below w.heap.size w V → Calls Try.prog 26 #[.pointer (some ⟨q, 0, none⟩), B a] V fun e w' => e = .returned (findV W (hitsL W a L).getLast?) ∧ Below V.heap.size V w') := fun V hV => (find_both h1 hW hD.ref.few a ha).1 _ V q (hD.own.below hV)
  have CG : Hid (∀ V, Below w.heap.size w V → Calls Try.prog 45 #[.pointer (some ⟨r, 0, none⟩), B a] V fun e w' => e = .returned (lastV (hitsL W a L).getLast?) ∧ Below V.heap.size V w') := fun V hV => (find_both h1 hW hD.ref.few a ha).2 V _ r (hD.ref.below hV).at
  obtain ⟨⟨bx, cx, g1, g2, g3⟩, g4, g5, g6⟩ := id hD.ref
  have HX : Hid (Blk w r #[.int .i64 W, .int .i64 most, .slice bx L.length cx] 40) := g2
  clear g1 g2 g3 g4 g5 g6
  have HF : Hid (∀ w', Below w.heap.size w w' → Duo w0 w' q r W most L ro ∧ Kept (Tch q r ro) w w' ∧ NewRow w ro ro ∧ OX X w' q W most L) := fun w' hb => ⟨HD.out.below hb, Kept.of_below hb, .inl rfl, HOX.out.1.below hb⟩
  generalize (hitsL W a L).getLast? = o at *
  generalize L.length = n at HX
  have HQ : Hid (q < w.heap.size ∧ r < w.heap.size) := ⟨hD.tch q (.inl rfl), hD.tch r (.inr (.inl rfl))⟩
  have HB := one_new w #[.int .i64 k, .int .u64 (hiOf a), .int .u64 (loOf a), .int .i64 l, .int .i64 u] 35
  have C12 : Hid (∀ V, Calls Try.prog 12 #[.int .i64 k] V fun e w' => e = .returned (.int .i64 4) ∧ w' = V) := fun V => by
    have := rest_any k V
    rw [hk] at this
    exact this
  clear hD hm hk
  go_enter Try.func13, Try.ntmps13
  go_upto_region 1 with fail
  generalize (w.alloc _) = w1 at HB ⊢
  have c0 := HB.1.cell 0 (v := .int .i64 k) rfl
  have c1 := HB.1.cell 1 (v := .int .u64 (hiOf a)) rfl
  have c2 := HB.1.cell 2 (v := .int .u64 (loOf a)) rfl
  have c3 := HB.1.cell 3 (v := .int .i64 l) rfl
  have HB2 := one_new w1 #[.int .u64 (hiOf a), .int .u64 (loOf a), .int .i64 l] 51
  go_upto_region 2 with fail
  have HA : Hid (Blk (w1.alloc (.cells #[.int .u64 (hiOf a), .int .u64 (loOf a), .int .i64 l] 51)) w.heap.size #[.int .i64 k, .int .u64 (hiOf a), .int .u64 (loOf a), .int .i64 l, .int .i64 u] 35 ∧ Blk (w1.alloc (.cells #[.int .u64 (hiOf a), .int .u64 (loOf a), .int .i64 l] 51)) w1.heap.size #[.int .u64 (hiOf a), .int .u64 (loOf a), .int .i64 l] 51 ∧ Below w.heap.size w (w1.alloc (.cells #[.int .u64 (hiOf a), .int .u64 (loOf a), .int .i64 l] 51)) ∧ w.heap.size < w1.heap.size) :=
    ⟨HB.1.below HB2.2.1, HB2.1, bst HB.2.1 HB2.2.1, HB.2.2⟩
  clear c0 c1 c2 c3 HB HB2
  generalize (w1.alloc _) = w2 at HA ⊢
  generalize w1.heap.size = A1 at HA ⊢
  have c0 := HA.out.1.cell 0 (v := .int .i64 k) rfl
  have c1 := HA.out.1.cell 1 (v := .int .u64 (hiOf a)) rfl
  have c2 := HA.out.1.cell 2 (v := .int .u64 (loOf a)) rfl
  have c3 := HA.out.1.cell 3 (v := .int .i64 l) rfl
  have c4 := HA.out.1.cell 4 (v := .int .i64 u) rfl
  have d0 := HA.out.2.1.cell 0 (v := .int .u64 (hiOf a)) rfl
  have d1 := HA.out.2.1.cell 1 (v := .int .u64 (loOf a)) rfl
  have d2 := HA.out.2.1.cell 2 (v := .int .i64 l) rfl
  go_wp2_with fail
  refine (C12.out _).mono ?_
  rintro e w3 ⟨rfl, rfl⟩
  clear C12
  cases o with
  | none =>
    go_wp2_with fail
    refine (CF.out _ HA.out.2.2.1).mono ?_
    rintro e w4 ⟨rfl, H4⟩
    have HN4 := one_new w4 #[.int .u64 0, .int .u64 0, .int .i64 0] 51
    have h00 : (Pf 0 0 : Value) = .agg #[.int .u64 0, .int .u64 0, .int .i64 0] := rfl
    have HE : Hid (Blk (w4.alloc (.cells #[.int .u64 0, .int .u64 0, .int .i64 0] 51)) w.heap.size #[.int .i64 k, .int .u64 (hiOf a), .int .u64 (loOf a), .int .i64 l, .int .i64 u] 35 ∧ Blk (w4.alloc (.cells #[.int .u64 0, .int .u64 0, .int .i64 0] 51)) w4.heap.size #[.int .u64 0, .int .u64 0, .int .i64 0] 51 ∧ Below w.heap.size w (w4.alloc (.cells #[.int .u64 0, .int .u64 0, .int .i64 0] 51))) :=
      ⟨(HA.out.1.below H4).below HN4.2.1, HN4.1, bst (bst HA.out.2.2.1 H4) HN4.2.1⟩
    clear c0 c1 c2 c3 c4 d0 d1 d2 H4 HN4 CF
    unfold findV
    go_upto_region 21 with fail
    generalize (w4.alloc _) = w5 at HE ⊢
    generalize w4.heap.size = A4 at HE ⊢
    have c1 := HE.out.1.cell 1 (v := .int .u64 (hiOf a)) rfl
    have c2 := HE.out.1.cell 2 (v := .int .u64 (loOf a)) rfl
    go_wp2_with fail
    refine (CG.out _ HE.out.2.2).mono ?_
    rintro e w6 ⟨rfl, H6⟩
    have HN6 := one_new w6 #[.string ⟨#[]⟩, .int .i64 0] 57
    have HI : Hid (Blk (w6.alloc (.cells #[.string ⟨#[]⟩, .int .i64 0] 57)) A4 #[.int .u64 0, .int .u64 0, .int .i64 0] 51 ∧ Below w.heap.size w (w6.alloc (.cells #[.string ⟨#[]⟩, .int .i64 0] 57))) :=
      ⟨(HE.out.2.1.below H6).below HN6.2.1, bst (bst HE.out.2.2 H6) HN6.2.1⟩
    clear c1 c2 H6 HN6 CG HE
    unfold lastV
    go_upto_region 22 with fail
    generalize (w6.alloc _) = w7 at HI ⊢
    have e0 := HI.out.1.cell 0 (v := .int .u64 0) rfl
    have e1 := HI.out.1.cell 1 (v := .int .u64 0) rfl
    have e2 := HI.out.1.cell 2 (v := .int .i64 0) rfl
    have EQ : ∀ V, (binOp .eql 51 (.agg #[.int .u64 0, .int .u64 0, .int .i64 0]) (.agg #[.int .u64 0, .int .u64 0, .int .i64 0])).run Try.prog V = .ok (.bool true) V := fun V => eq51 0 0 0 0 V
    have HG : Hid _ := HF.out w7 HI.out.2
    go_wp2_with fail
    go_ret
    exact ⟨rfl, L, ro, HG⟩
  | some y =>
    have hy := HO.out y rfl
    have C22 : Hid (∀ w1, Calls Try.prog 22 #[Pf (valOf W y.1) y.1.length, .agg #[.string (tx y.1), .int .i64 y.2], .int .i64 W] w1 fun e w' => e = .returned (.bool true) ∧ Below w1.heap.size w1 w') := fun w1 => same_yes w1 hW hy y.2
    have CF' : Hid (∀ V, Below w.heap.size w V → Calls Try.prog 26 #[.pointer (some ⟨q, 0, none⟩), B a] V fun e w' => e = .returned (.tuple #[Pf (valOf W y.1) y.1.length, .int .i64 y.2, .bool true]) ∧ Below V.heap.size V w') := CF
    have CG' : Hid (∀ V, Below w.heap.size w V → Calls Try.prog 45 #[.pointer (some ⟨r, 0, none⟩), B a] V fun e w' => e = .returned (.tuple #[.agg #[.string (tx y.1), .int .i64 y.2], .bool true]) ∧ Below V.heap.size V w') := CG
    clear CF CG HO
    generalize valOf W y.1 = vy at *
    generalize tx y.1 = ty at *
    generalize y.1.length = ly at *
    go_wp2_with fail
    refine (CF'.out _ HA.out.2.2.1).mono ?_
    rintro e w4 ⟨rfl, H4⟩
    have HN4 := one_new w4 #[.int .u64 (hiOf vy), .int .u64 (loOf vy), .int .i64 ly] 51
    have HE : Hid (Blk (w4.alloc (.cells #[.int .u64 (hiOf vy), .int .u64 (loOf vy), .int .i64 ly] 51)) w.heap.size #[.int .i64 k, .int .u64 (hiOf a), .int .u64 (loOf a), .int .i64 l, .int .i64 u] 35 ∧ Blk (w4.alloc (.cells #[.int .u64 (hiOf vy), .int .u64 (loOf vy), .int .i64 ly] 51)) w4.heap.size #[.int .u64 (hiOf vy), .int .u64 (loOf vy), .int .i64 ly] 51 ∧ Below w.heap.size w (w4.alloc (.cells #[.int .u64 (hiOf vy), .int .u64 (loOf vy), .int .i64 ly] 51))) :=
      ⟨(HA.out.1.below H4).below HN4.2.1, HN4.1, bst (bst HA.out.2.2.1 H4) HN4.2.1⟩
    clear c0 c1 c2 c3 c4 d0 d1 d2 H4 HN4 CF' hy
    go_upto_region 21 with fail
    generalize (w4.alloc _) = w5 at HE ⊢
    generalize w4.heap.size = A4 at HE ⊢
    have c1 := HE.out.1.cell 1 (v := .int .u64 (hiOf a)) rfl
    have c2 := HE.out.1.cell 2 (v := .int .u64 (loOf a)) rfl
    go_wp2_with fail
    refine (CG'.out _ HE.out.2.2).mono ?_
    rintro e w6 ⟨rfl, H6⟩
    have HN6 := one_new w6 #[.string ty, .int .i64 y.2] 57
    have HI : Hid (Blk (w6.alloc (.cells #[.string ty, .int .i64 y.2] 57)) A4 #[.int .u64 (hiOf vy), .int .u64 (loOf vy), .int .i64 ly] 51 ∧ Blk (w6.alloc (.cells #[.string ty, .int .i64 y.2] 57)) w6.heap.size #[.string ty, .int .i64 y.2] 57 ∧ Below w.heap.size w (w6.alloc (.cells #[.string ty, .int .i64 y.2] 57))) :=
      ⟨(HE.out.2.1.below H6).below HN6.2.1, HN6.1, bst (bst HE.out.2.2 H6) HN6.2.1⟩
    clear c1 c2 H6 HN6 CG' HE
    go_upto_region 22 with fail
    generalize (w6.alloc _) = w7 at HI ⊢
    generalize w6.heap.size = A6 at HI ⊢
    go_upto_region 24 with fail
    have e0 := gw_cell (HI.out.1.cell 0 (v := .int .u64 (hiOf vy)) rfl)
    have e1 := gw_cell (HI.out.1.cell 1 (v := .int .u64 (loOf vy)) rfl)
    have e2 := gw_cell (HI.out.1.cell 2 (v := .int .i64 ly) rfl)
    have s0 := gw_cell (HI.out.2.1.cell 0 (v := .string ty) rfl)
    have s1 := gw_cell (HI.out.2.1.cell 1 (v := .int .i64 y.2) rfl)
    have x0 := gw_cell ((HX.out.below HI.out.2.2).cell 0 (v := .int .i64 W) rfl)
    refine region_grows (by kernel_rfl) (by kernel_rfl) ?_
    repeat (go_big_quiet_step ((go_at_call 22; exact calls_gw (C22.out _))))
    refine wpQuiet_nil ?_
    intro wq hwq
    obtain ⟨zq, rfl⟩ := hwq
    have s1' := s1 zq
    have HG : Hid _ := HF.out (gw zq) (bst HI.out.2.2 (gw_below zq))
    clear e0 e1 e2 s0 s1 x0 C22 HI HX
    generalize gw zq = w8 at *
    go_wp2_with fail
    go_ret
    exact ⟨rfl, L, ro, HG⟩
set_option maxHeartbeats 4000000 in
set_option maxRecDepth 100000 in
theorem playX_all (X : Nat → Prop) (hOX : OX X w q W most L) (hXw : ∀ k, X k → k < w.heap.size) (hD : Duo w0 w q r W most L ro) (h1 : 1 ≤ W) (hW : W ≤ 128) (k l u : Int) (a : Nat) (ha : Is128 a) (hk : k % 12 = 7) :
    Calls Try.prog 13 #[.pointer (some ⟨q, 0, none⟩), .pointer (some ⟨r, 0, none⟩), .agg #[.int .i64 k, .int .u64 (hiOf a), .int .u64 (loOf a), .int .i64 l, .int .i64 u]] w fun e w' => e = .returned (.bool true) ∧ ∃ L' ro', Hid (Duo w0 w' q r W most L' ro' ∧ Kept (Tch q r ro) w w' ∧ NewRow w ro ro' ∧ OX X w' q W most L') := by
  have HOX : Hid (OX X w q W most L ∧ ∀ k, X k → k < w.heap.size) := ⟨hOX, hXw⟩
  clear hOX hXw
  have hm := hD.own.room
  have HD : Hid (Duo w0 w q r W most L ro) := hD
  obtain ⟨⟨ba, bc, g1, g2, g3⟩, g4, g5, g6⟩ := id hD.ref
  have HX : Hid (Blk w r #[.int .i64 W, .int .i64 most, .slice ba L.length bc] 40) := g2
  have CA : Hid (∀ V, Below w.heap.size w V → Calls Try.prog 18 #[.pointer (some ⟨q, 0, none⟩)] V fun e w' => ∃ D, e = .returned (.func (.func 48) #[] #[.pointer (some ⟨D, 0, none⟩), .pointer (some ⟨D + 1, 0, none⟩)]) ∧ w'.cell? ⟨r, 0, none⟩ = some (.int .i64 W) ∧ w'.cell? ⟨r, 2, none⟩ = some (.slice ba L.length bc) ∧ Hid (Below w.heap.size w w' ∧ ∀ V2, Below w'.heap.size w' V2 → Calls Try.prog 20 #[.func (.func 48) #[] #[.pointer (some ⟨D, 0, none⟩), .pointer (some ⟨D + 1, 0, none⟩)], .slice ba L.length bc, .int .i64 W] V2 fun e w' => e = .returned (.bool true) ∧ Hid (Below w.heap.size w w'))) := fun V hV => (all_told hD hW ba bc g3 V hV).mono (by
    rintro e w' ⟨D, rfl, H⟩
    have h := HX.out.below H.out.1
    exact ⟨D, rfl, h.cell 0 rfl, h.cell 2 rfl, H⟩)
  clear g1 g2 g3 g4 g5 g6
  have HF : Hid (∀ w', Below w.heap.size w w' → Duo w0 w' q r W most L ro ∧ Kept (Tch q r ro) w w' ∧ NewRow w ro ro ∧ OX X w' q W most L) := fun w' hb => ⟨HD.out.below hb, Kept.of_below hb, .inl rfl, HOX.out.1.below hb⟩
  generalize L.length = n at HX CA
  have HQ : Hid (q < w.heap.size ∧ r < w.heap.size) := ⟨hD.tch q (.inl rfl), hD.tch r (.inr (.inl rfl))⟩
  have HB := one_new w #[.int .i64 k, .int .u64 (hiOf a), .int .u64 (loOf a), .int .i64 l, .int .i64 u] 35
  have C12 : Hid (∀ V, Calls Try.prog 12 #[.int .i64 k] V fun e w' => e = .returned (.int .i64 7) ∧ w' = V) := fun V => by
    have := rest_any k V
    rw [hk] at this
    exact this
  clear hD hm hk
  go_enter Try.func13, Try.ntmps13
  go_upto_region 1 with fail
  generalize (w.alloc _) = w1 at HB ⊢
  have c0 := HB.1.cell 0 (v := .int .i64 k) rfl
  have c1 := HB.1.cell 1 (v := .int .u64 (hiOf a)) rfl
  have c2 := HB.1.cell 2 (v := .int .u64 (loOf a)) rfl
  have c3 := HB.1.cell 3 (v := .int .i64 l) rfl
  have HB2 := one_new w1 #[.int .u64 (hiOf a), .int .u64 (loOf a), .int .i64 l] 51
  go_upto_region 2 with fail
  have HA : Hid (Blk (w1.alloc (.cells #[.int .u64 (hiOf a), .int .u64 (loOf a), .int .i64 l] 51)) w.heap.size #[.int .i64 k, .int .u64 (hiOf a), .int .u64 (loOf a), .int .i64 l, .int .i64 u] 35 ∧ Blk (w1.alloc (.cells #[.int .u64 (hiOf a), .int .u64 (loOf a), .int .i64 l] 51)) w1.heap.size #[.int .u64 (hiOf a), .int .u64 (loOf a), .int .i64 l] 51 ∧ Below w.heap.size w (w1.alloc (.cells #[.int .u64 (hiOf a), .int .u64 (loOf a), .int .i64 l] 51)) ∧ w.heap.size < w1.heap.size) :=
    ⟨HB.1.below HB2.2.1, HB2.1, bst HB.2.1 HB2.2.1, HB.2.2⟩
  clear c0 c1 c2 c3 HB HB2
  generalize (w1.alloc _) = w2 at HA ⊢
  generalize w1.heap.size = A1 at HA ⊢
  have c0 := HA.out.1.cell 0 (v := .int .i64 k) rfl
  have c1 := HA.out.1.cell 1 (v := .int .u64 (hiOf a)) rfl
  have c2 := HA.out.1.cell 2 (v := .int .u64 (loOf a)) rfl
  have c3 := HA.out.1.cell 3 (v := .int .i64 l) rfl
  have c4 := HA.out.1.cell 4 (v := .int .i64 u) rfl
  have d0 := HA.out.2.1.cell 0 (v := .int .u64 (hiOf a)) rfl
  have d1 := HA.out.2.1.cell 1 (v := .int .u64 (loOf a)) rfl
  have d2 := HA.out.2.1.cell 2 (v := .int .i64 l) rfl
  go_wp2_with fail
  refine (C12.out _).mono ?_
  rintro e w3 ⟨rfl, rfl⟩
  clear C12
  have CA' : Hid (∀ V, Below w3.heap.size w3 V → Calls Try.prog 18 #[.pointer (some ⟨q, 0, none⟩)] V fun e w' => ∃ D, e = .returned (.func (.func 48) #[] #[.pointer (some ⟨D, 0, none⟩), .pointer (some ⟨D + 1, 0, none⟩)]) ∧ w'.cell? ⟨r, 0, none⟩ = some (.int .i64 W) ∧ w'.cell? ⟨r, 2, none⟩ = some (.slice ba n bc) ∧ Hid (Below w.heap.size w w' ∧ ∀ V2, Below w'.heap.size w' V2 → Calls Try.prog 20 #[.func (.func 48) #[] #[.pointer (some ⟨D, 0, none⟩), .pointer (some ⟨D + 1, 0, none⟩)], .slice ba n bc, .int .i64 W] V2 fun e w' => e = .returned (.bool true) ∧ Hid (Below w.heap.size w w'))) := fun V hV => CA.out V (bst HA.out.2.2.1 hV)
  go_upto_region 31 with fail
  have x0 := (HX.out.below HA.out.2.2.1).cell 0 (v := .int .i64 W) rfl
  have x2 := (HX.out.below HA.out.2.2.1).cell 2 (v := .slice ba n bc) rfl
  clear CA HX HA c0 c1 c2 c3 c4 d0 d1 d2
  go_region_with (first | (go_at_call 18; refine (CA'.out _ (by exact ⟨rfl, rfl, rfl, Nat.le_refl _, fun _ _ => rfl⟩)).mono ?_; rintro e w5 ⟨D, rfl, d0, d2, H5⟩) | (go_at_call 20; refine (H5.out.2 _ (by exact ⟨rfl, rfl, rfl, Nat.le_refl _, fun _ _ => rfl⟩)).mono ?_; rintro e w6 ⟨rfl, H6⟩))
  all_goals (
    have HG : Hid _ := HF.out w6 H6.out
    clear H6 H5 CA' HF x0 x2 d0 d2
    go_wp2
    go_ret
    exact ⟨rfl, L, ro, HG⟩)
end
end Go.Proofs.Ytgdpplipahhffaa
namespace Go.Proofs.Ytgdpplipahhffaa
open Go.RowKit
set_option linter.unusedVariables false
set_option linter.unusedSimpArgs false

section
variable {w0 w : World} {q r W most : Nat} {L : List (List Bool × Int)} {ro : Option Nat}
set_option maxHeartbeats 8000000 in
set_option maxRecDepth 100000 in
theorem playX_under (X : Nat → Prop) (hOX : OX X w q W most L) (hXw : ∀ k, X k → k < w.heap.size) (hD : Duo w0 w q r W most L ro) (h1 : 1 ≤ W) (hW : W ≤ 128) (k l u : Int) (a : Nat) (ha : Is128 a) (hk : k % 12 = 8) :
    Calls Try.prog 13 #[.pointer (some ⟨q, 0, none⟩), .pointer (some ⟨r, 0, none⟩), .agg #[.int .i64 k, .int .u64 (hiOf a), .int .u64 (loOf a), .int .i64 l, .int .i64 u]] w fun e w' => e = .returned (.bool true) ∧ ∃ L' ro', Hid (Duo w0 w' q r W most L' ro' ∧ Kept (Tch q r ro) w w' ∧ NewRow w ro ro' ∧ OX X w' q W most L') := by
  have HOX : Hid (OX X w q W most L ∧ ∀ k, X k → k < w.heap.size) := ⟨hOX, hXw⟩
  clear hOX hXw
  have hm := hD.own.room
  have HD : Hid (Duo w0 w q r W most L ro) := hD
  obtain ⟨⟨ba0, bc0, g1, g2, g3⟩, g4, g5, g6⟩ := id hD.ref
  have HX : Hid (Blk w r #[.int .i64 W, .int .i64 most, .slice ba0 L.length bc0] 40) := g2
  obtain ⟨K, k1, k2, k3, k4⟩ := under_both (most := most) (L := L) h1 hW a ha l
  obtain ⟨n, hn⟩ : ∃ n, K.length = n := ⟨_, rfl⟩
  have CU : Hid (∀ V, Below w.heap.size w V → Calls Try.prog 19 #[.pointer (some ⟨q, 0, none⟩), Pf a l] V fun e w' => ∃ D, e = .returned (.func (.func 48) #[] #[.pointer (some ⟨D, 0, none⟩), .pointer (some ⟨D + 1, 0, none⟩)]) ∧ Hid (Below V.heap.size V w' ∧ ∀ V2, Below w'.heap.size w' V2 → Tells51 V2 W D (D + 1) K)) := fun V hV => (under_any _ a l V).mono (by
    rintro e w' ⟨rfl, b1, b2, b3⟩
    exact ⟨_, rfl, b3, fun V2 h => k3 w0 V2 q _ _ (hD.own.below (bst (bst hV b3) h)) (b1.below h) (b2.below h)⟩)
  have CR : Hid (∀ V, Below w.heap.size w V → Calls Try.prog 21 #[.pointer (some ⟨r, 0, none⟩), B a, .int .i64 l] V fun e w' => ∃ ba bc, e = .returned (.slice ba n bc) ∧ Hid (Below V.heap.size V w' ∧ ∀ V2, Below w'.heap.size w' V2 → V2.ownsRow V.heap.size 57 2 (.slice ba n bc) n (rowR K))) := fun V hV => (k4 V _ r (hD.ref.below hV).at).mono (by
    rintro e w' ⟨ba, bc, rfl, H⟩
    rw [hn] at H ⊢
    exact ⟨ba, bc, rfl, H.out.2, fun V2 h => ownsRow_kept H.out.1 (Kept.of_below (S := fun _ => False) h) (fun _ _ => id)⟩)
  have C20 : Hid (∀ V2 D Bq ba bc, Tells51 V2 W D (D + 1) K → V2.ownsRow Bq 57 2 (.slice ba n bc) n (rowR K) → Calls Try.prog 20 #[.func (.func 48) #[] #[.pointer (some ⟨D, 0, none⟩), .pointer (some ⟨D + 1, 0, none⟩)], .slice ba n bc, .int .i64 W] V2 fun e w' => e = .returned (.bool true) ∧ Hid (Below V2.heap.size V2 w')) := fun V2 D Bq ba bc ht ho => by
    have := told_yes V2 hW K (fun y hy => hD.own.lens y (k1 y hy)) (Nat.le_trans k2 g5) Bq ba bc (by rw [hn]; exact ho) D (D + 1) ht
    rw [hn] at this
    exact this.mono fun e w' h => ⟨h.1, h.2⟩
  clear g1 g2 g3 g4 g5 g6 k1 k2 k3 k4 hn
  have HF : Hid (∀ w', Below w.heap.size w w' → Duo w0 w' q r W most L ro ∧ Kept (Tch q r ro) w w' ∧ NewRow w ro ro ∧ OX X w' q W most L) := fun w' hb => ⟨HD.out.below hb, Kept.of_below hb, .inl rfl, HOX.out.1.below hb⟩
  generalize L.length = m at HX
  have HQ : Hid (q < w.heap.size ∧ r < w.heap.size) := ⟨hD.tch q (.inl rfl), hD.tch r (.inr (.inl rfl))⟩
  have HB := one_new w #[.int .i64 k, .int .u64 (hiOf a), .int .u64 (loOf a), .int .i64 l, .int .i64 u] 35
  have C12 : Hid (∀ V, Calls Try.prog 12 #[.int .i64 k] V fun e w' => e = .returned (.int .i64 8) ∧ w' = V) := fun V => by
    have := rest_any k V
    rw [hk] at this
    exact this
  clear hD hm hk
  go_enter Try.func13, Try.ntmps13
  go_upto_region 1 with fail
  generalize (w.alloc _) = w1 at HB ⊢
  have c0 := HB.1.cell 0 (v := .int .i64 k) rfl
  have c1 := HB.1.cell 1 (v := .int .u64 (hiOf a)) rfl
  have c2 := HB.1.cell 2 (v := .int .u64 (loOf a)) rfl
  have c3 := HB.1.cell 3 (v := .int .i64 l) rfl
  have HB2 := one_new w1 #[.int .u64 (hiOf a), .int .u64 (loOf a), .int .i64 l] 51
  go_upto_region 2 with fail
  have HA : Hid (Blk (w1.alloc (.cells #[.int .u64 (hiOf a), .int .u64 (loOf a), .int .i64 l] 51)) w.heap.size #[.int .i64 k, .int .u64 (hiOf a), .int .u64 (loOf a), .int .i64 l, .int .i64 u] 35 ∧ Blk (w1.alloc (.cells #[.int .u64 (hiOf a), .int .u64 (loOf a), .int .i64 l] 51)) w1.heap.size #[.int .u64 (hiOf a), .int .u64 (loOf a), .int .i64 l] 51 ∧ Below w.heap.size w (w1.alloc (.cells #[.int .u64 (hiOf a), .int .u64 (loOf a), .int .i64 l] 51)) ∧ w.heap.size < w1.heap.size) :=
    ⟨HB.1.below HB2.2.1, HB2.1, bst HB.2.1 HB2.2.1, HB.2.2⟩
  clear c0 c1 c2 c3 HB HB2
  generalize (w1.alloc _) = w2 at HA ⊢
  generalize w1.heap.size = A1 at HA ⊢
  have c0 := HA.out.1.cell 0 (v := .int .i64 k) rfl
  have c1 := HA.out.1.cell 1 (v := .int .u64 (hiOf a)) rfl
  have c2 := HA.out.1.cell 2 (v := .int .u64 (loOf a)) rfl
  have c3 := HA.out.1.cell 3 (v := .int .i64 l) rfl
  have c4 := HA.out.1.cell 4 (v := .int .i64 u) rfl
  have d0 := HA.out.2.1.cell 0 (v := .int .u64 (hiOf a)) rfl
  have d1 := HA.out.2.1.cell 1 (v := .int .u64 (loOf a)) rfl
  have d2 := HA.out.2.1.cell 2 (v := .int .i64 l) rfl
  go_wp2_with fail
  refine (C12.out _).mono ?_
  rintro e w3 ⟨rfl, rfl⟩
  clear C12
  have HC : Hid (∀ V, Below w3.heap.size w3 V → V.cell? ⟨w.heap.size, 1, none⟩ = some (.int .u64 (hiOf a)) ∧ V.cell? ⟨w.heap.size, 2, none⟩ = some (.int .u64 (loOf a)) ∧ V.cell? ⟨w.heap.size, 3, none⟩ = some (.int .i64 l) ∧ V.cell? ⟨A1, 0, none⟩ = some (.int .u64 (hiOf a)) ∧ V.cell? ⟨A1, 1, none⟩ = some (.int .u64 (loOf a)) ∧ V.cell? ⟨A1, 2, none⟩ = some (.int .i64 l) ∧ V.cell? ⟨r, 0, none⟩ = some (.int .i64 W)) := fun V hV =>
    ⟨(HA.out.1.below hV).cell 1 rfl, (HA.out.1.below hV).cell 2 rfl, (HA.out.1.below hV).cell 3 rfl, (HA.out.2.1.below hV).cell 0 rfl, (HA.out.2.1.below hV).cell 1 rfl, (HA.out.2.1.below hV).cell 2 rfl, ((HX.out.below HA.out.2.2.1).below hV).cell 0 rfl⟩
  go_upto_region 33 with fail
  refine region_free1 (by kernel_rfl) (by kernel_rfl) (by kernel_rfl) (V33 W q r w.heap.size a l n K w3.heap.size) V33_below ?hop ?hend
  case hop =>
    intro A U w4 hb hD hE
    obtain ⟨e1, e2, e3, f0, f1, f2, g0⟩ := HC.out w4 hb
    have E0 : A.eval (.tmp 0) = .pointer (some ⟨q, 0, none⟩) := hE 0 (by kernel_rfl)
    have E1 : A.eval (.tmp 1) = .pointer (some ⟨r, 0, none⟩) := hE 1 (by kernel_rfl)
    have E5 : A.eval (.tmp 5) = .pointer (some ⟨w.heap.size, 0, none⟩) := hE 5 (by kernel_rfl)
    have E7 : A.eval (.tmp 7) = .pointer (some ⟨A1, 0, none⟩) := hE 7 (by kernel_rfl)
    have D0 := hD 206 0 (by kernel_rfl) (by kernel_rfl)
    have D1 := hD 207 1 (by kernel_rfl) (by kernel_rfl)
    have D2 := hD 208 2 (by kernel_rfl) (by kernel_rfl)
    have D3 := hD 209 3 (by kernel_rfl) (by kernel_rfl)
    have D4 := hD 210 4 (by kernel_rfl) (by kernel_rfl)
    have D5 := hD 211 5 (by kernel_rfl) (by kernel_rfl)
    have D6 := hD 212 6 (by kernel_rfl) (by kernel_rfl)
    have D7 := hD 213 7 (by kernel_rfl) (by kernel_rfl)
    have D8 := hD 214 8 (by kernel_rfl) (by kernel_rfl)
    have D9 := hD 215 9 (by kernel_rfl) (by kernel_rfl)
    have D10 := hD 216 10 (by kernel_rfl) (by kernel_rfl)
    have D11 := hD 217 11 (by kernel_rfl) (by kernel_rfl)
    have D12 := hD 218 12 (by kernel_rfl) (by kernel_rfl)
    have D13 := hD 219 13 (by kernel_rfl) (by kernel_rfl)
    clear hD hE c0 c1 c2 c3 c4 d0 d1 d2
    intro i o ho hv
    match i, ho with
    | 0, ho =>
      obtain rfl := Option.some.inj ho
      simp only [Oper.wp, execOp, E0]
      go_simp
      exact ⟨_, rfl, Below.refl _ _, rfl⟩
    | 1, ho =>
      obtain rfl := Option.some.inj ho
      simp only [Oper.wp, execOp, E7]
      go_simp
      exact ⟨_, rfl, Below.refl _ _, rfl⟩
    | 2, ho =>
      obtain rfl := Option.some.inj ho
      have h0 : U 0 = .pointer (some ⟨q, 0, none⟩) := hv 0 (by kernel_rfl)
      rw [h0] at D0
      have h1 : U 1 = .agg #[.int .u64 (hiOf a), .int .u64 (loOf a), .int .i64 l] := hv 1 (by kernel_rfl)
      rw [h1] at D1
      have G0 : A.tmps[206]?.getD undef = _ := Array.getD_eq_getD_getElem?.symm.trans D0
      have G1 : A.tmps[207]?.getD undef = _ := Array.getD_eq_getD_getElem?.symm.trans D1
      simp only [Oper.wp, execOp]
      go_simp
      refine (CU.out w4 (bst HA.out.2.2.1 hb)).mono ?_
      rintro e w5 ⟨D, rfl, H⟩
      exact ⟨_, rfl, H.out.1, D, rfl, H.out.2⟩
    | 3, ho =>
      obtain rfl := Option.some.inj ho
      simp only [Oper.wp, execOp, E1]
      go_simp
      exact ⟨_, rfl, Below.refl _ _, rfl⟩
    | 4, ho =>
      obtain rfl := Option.some.inj ho
      simp only [Oper.wp, execOp, E5]
      go_simp
      exact ⟨_, rfl, Below.refl _ _, rfl⟩
    | 5, ho =>
      obtain rfl := Option.some.inj ho
      have h4 : U 4 = .pointer (some ⟨w.heap.size, 1, none⟩) := hv 4 (by kernel_rfl)
      rw [h4] at D4
      simp only [Oper.wp, execOp, D4]
      go_simp
      exact ⟨_, rfl, Below.refl _ _, rfl⟩
    | 6, ho =>
      obtain rfl := Option.some.inj ho
      simp only [Oper.wp, execOp, E5]
      go_simp
      exact ⟨_, rfl, Below.refl _ _, rfl⟩
    | 7, ho =>
      obtain rfl := Option.some.inj ho
      have h6 : U 6 = .pointer (some ⟨w.heap.size, 3, none⟩) := hv 6 (by kernel_rfl)
      rw [h6] at D6
      simp only [Oper.wp, execOp, D6]
      go_simp
      exact ⟨_, rfl, Below.refl _ _, rfl⟩
    | 8, ho =>
      obtain rfl := Option.some.inj ho
      have h3 : U 3 = .pointer (some ⟨r, 0, none⟩) := hv 3 (by kernel_rfl)
      rw [h3] at D3
      have h5 : U 5 = .agg #[.int .u64 (hiOf a), .int .u64 (loOf a)] := hv 5 (by kernel_rfl)
      rw [h5] at D5
      have h7 : U 7 = .int .i64 l := hv 7 (by kernel_rfl)
      rw [h7] at D7
      have G3 : A.tmps[209]?.getD undef = _ := Array.getD_eq_getD_getElem?.symm.trans D3
      have G5 : A.tmps[211]?.getD undef = _ := Array.getD_eq_getD_getElem?.symm.trans D5
      have G7 : A.tmps[213]?.getD undef = _ := Array.getD_eq_getD_getElem?.symm.trans D7
      simp only [Oper.wp, execOp]
      go_simp
      refine (CR.out w4 (bst HA.out.2.2.1 hb)).mono ?_
      rintro e w5 ⟨ba, bc, rfl, H⟩
      exact ⟨_, rfl, H.out.1, ba, bc, rfl, fun V2 h => own_mono (H.out.2 V2 h) hb.size⟩
    | 9, ho =>
      obtain rfl := Option.some.inj ho
      simp only [Oper.wp, execOp, E1]
      go_simp
      exact ⟨_, rfl, Below.refl _ _, rfl⟩
    | 10, ho =>
      obtain rfl := Option.some.inj ho
      have h9 : U 9 = .pointer (some ⟨r, 0, none⟩) := hv 9 (by kernel_rfl)
      rw [h9] at D9
      simp only [Oper.wp, execOp, D9]
      go_simp
      exact ⟨_, rfl, Below.refl _ _, rfl⟩
    | 11, ho =>
      obtain rfl := Option.some.inj ho
      have h10 : U 10 = .pointer (some ⟨r, 0, none⟩) := hv 10 (by kernel_rfl)
      rw [h10] at D10
      simp only [Oper.wp, execOp, D10]
      go_simp
      exact ⟨_, rfl, Below.refl _ _, rfl⟩
    | 12, ho =>
      obtain rfl := Option.some.inj ho
      have h11 : U 11 = .pointer (some ⟨r, 0, none⟩) := hv 11 (by kernel_rfl)
      rw [h11] at D11
      simp only [Oper.wp, execOp, D11]
      go_simp
      exact ⟨_, rfl, Below.refl _ _, rfl⟩
    | 13, ho =>
      obtain rfl := Option.some.inj ho
      have h2 : V33 W q r w.heap.size a l n K w3.heap.size 2 (U 2) w4 := hv 2 (by kernel_rfl)
      have h8 : V33 W q r w.heap.size a l n K w3.heap.size 8 (U 8) w4 := hv 8 (by kernel_rfl)
      have h12 : U 12 = .int .i64 W := hv 12 (by kernel_rfl)
      obtain ⟨D, k2, T2⟩ := h2
      obtain ⟨ba, bc, k8, T8⟩ := h8
      rw [k2] at D2
      rw [k8] at D8
      rw [h12] at D12
      have HT : Hid ((∀ V2, Below w4.heap.size w4 V2 → Tells51 V2 W D (D + 1) K) ∧ ∀ V2, Below w4.heap.size w4 V2 → V2.ownsRow w3.heap.size 57 2 (.slice ba n bc) n (rowR K)) := ⟨T2, T8⟩
      clear T2 T8
      have G2 : A.tmps[208]?.getD undef = _ := Array.getD_eq_getD_getElem?.symm.trans D2
      have G8 : A.tmps[214]?.getD undef = _ := Array.getD_eq_getD_getElem?.symm.trans D8
      have G12 : A.tmps[218]?.getD undef = _ := Array.getD_eq_getD_getElem?.symm.trans D12
      simp only [Oper.wp, execOp]
      go_simp
      refine (C20.out w4 D w3.heap.size ba bc (HT.out.1 w4 (Below.refl _ _)) (HT.out.2 w4 (Below.refl _ _))).mono ?_
      rintro e w5 ⟨rfl, H⟩
      exact ⟨_, rfl, H.out, rfl⟩
    | 14, ho =>
      obtain rfl := Option.some.inj ho
      have h13 : U 13 = .bool true := hv 13 (by kernel_rfl)
      rw [h13] at D13
      simp only [Oper.wp, execOp, D13]
      go_simp
      exact ⟨_, rfl, Below.refl _ _, rfl⟩
    | i + 15, ho => cases ho
  case hend =>
    intro A U w4 hb hD hE hdf hsz hv
    have h14 : U 14 = .bool true := hv 14 (by decide)
    have D14 : A.eval (.tmp 6) = U 14 := hD 6 14 (by kernel_rfl) (by kernel_rfl)
    rw [h14] at D14
    have HG : Hid _ := HF.out w4 (bst HA.out.2.2.1 hb)
    obtain ⟨T, df⟩ := A
    have hdf : df = [] := hdf
    subst hdf
    have D14 : T.getD 6 undef = .bool true := D14
    clear hD hE hv hsz
    go_wp2
    refine bodyPost_ret (by
      have G : T[6]?.getD undef = .bool true := Array.getD_eq_getD_getElem?.symm.trans D14
      simp [results, Try.results13, go_sem, G]; try rfl) rfl ?_
    exact ⟨rfl, L, ro, HG⟩
end
end Go.Proofs.Ytgdpplipahhffaa
