/- play: Under. -/
import Derived.Test.YtgdpplipahhffaaGk
import Derived.Test.YtgdpplipahhffaaVd
import Derived.Test.YtgdpplipahhffaaGj
namespace Go.Proofs.Ytgdpplipahhffaa
open Go.RowKit
set_option linter.unusedVariables false
set_option linter.unusedSimpArgs false

section
variable {w0 w : World} {q r W most : Nat} {L : List (List Bool × Int)} {ro : Option Nat}
/-- What region 33 of play leaves, operation by operation. -/
def V33 (W q r bx : Nat) (a : Nat) (l : Int) (n : Nat) (K : List (List Bool × Int)) (B : Nat) : Nat → Value → World → Prop
  | 0, v, _ => v = .pointer (some ⟨q, 0, none⟩)
  | 1, v, _ => v = .agg #[.int .u64 (hiOf a), .int .u64 (loOf a), .int .i64 l]
  | 2, v, w => ∃ D, v = .func (.func 48) #[] #[.pointer (some ⟨D, 0, none⟩), .pointer (some ⟨D + 1, 0, none⟩)] ∧ ∀ V2, Below w.heap.size w V2 → Tells51 V2 W D (D + 1) K
  | 3, v, _ => v = .pointer (some ⟨r, 0, none⟩)
  | 4, v, _ => v = .pointer (some ⟨bx, 1, none⟩)
  | 5, v, _ => v = .agg #[.int .u64 (hiOf a), .int .u64 (loOf a)]
  | 6, v, _ => v = .pointer (some ⟨bx, 3, none⟩)
  | 7, v, _ => v = .int .i64 l
  | 8, v, w => ∃ ba bc, v = .slice ba n bc ∧ ∀ V2, Below w.heap.size w V2 → V2.ownsRow B 57 2 (.slice ba n bc) n (rowR K)
  | 9, v, _ => v = .pointer (some ⟨r, 0, none⟩)
  | 10, v, _ => v = .pointer (some ⟨r, 0, none⟩)
  | 11, v, _ => v = .pointer (some ⟨r, 0, none⟩)
  | 12, v, _ => v = .int .i64 W
  | 13, v, _ => v = .bool true
  | 14, v, _ => v = .bool true
  | _, _, _ => True
theorem V33_below {W q r bx a : Nat} {l : Int} {n : Nat} {K : List (List Bool × Int)} {B : Nat} (i : Nat) (v : Value) (w w' : World) (h : V33 W q r bx a l n K B i v w) (hb : Below w.heap.size w w') : V33 W q r bx a l n K B i v w' := by
  match i, h with
  | 0, h => exact h
  | 1, h => exact h
  | 2, h => obtain ⟨D, h1, h2⟩ := h; exact ⟨D, h1, fun V2 hV => h2 V2 (bst hb hV (Nat.le_refl _))⟩
  | 3, h => exact h
  | 4, h => exact h
  | 5, h => exact h
  | 6, h => exact h
  | 7, h => exact h
  | 8, h => obtain ⟨ba, bc, h1, h2⟩ := h; exact ⟨ba, bc, h1, fun V2 hV => h2 V2 (bst hb hV (Nat.le_refl _))⟩
  | 9, h => exact h
  | 10, h => exact h
  | 11, h => exact h
  | 12, h => exact h
  | 13, h => exact h
  | 14, h => exact h
  | _ + 15, h => exact h
set_option maxHeartbeats 8000000 in
set_option maxRecDepth 100000 in
theorem play_under (hD : Duo w0 w q r W most L ro) (h1 : 1 ≤ W) (hW : W ≤ 128) (k l u : Int) (a : Nat) (ha : Is128 a) (hk : k % 12 = 8) :
    Calls Try.prog 13 #[.pointer (some ⟨q, 0, none⟩), .pointer (some ⟨r, 0, none⟩), .agg #[.int .i64 k, .int .u64 (hiOf a), .int .u64 (loOf a), .int .i64 l, .int .i64 u]] w fun e w' => e = .returned (.bool true) ∧ ∃ L' ro', Hid (Duo w0 w' q r W most L' ro' ∧ Kept (Tch q r ro) w w' ∧ NewRow w ro ro') := by
  have hm := hD.own.room
  have HD : Hid (Duo w0 w q r W most L ro) := hD
  obtain ⟨⟨ba0, bc0, g1, g2, g3⟩, g4, g5, g6⟩ := id hD.ref
  have HX : Hid (Blk w r #[.int .i64 W, .int .i64 most, .slice ba0 L.length bc0] 40) := g2
  obtain ⟨K, k1, k2, k3, k4⟩ := under_both (most := most) (L := L) h1 hW a ha l
  obtain ⟨n, hn⟩ : ∃ n, K.length = n := ⟨_, rfl⟩
  have CU : Hid (∀ V, Below w.heap.size w V → Calls Try.prog 19 #[.pointer (some ⟨q, 0, none⟩), Pf a l] V fun e w' => ∃ D, e = .returned (.func (.func 48) #[] #[.pointer (some ⟨D, 0, none⟩), .pointer (some ⟨D + 1, 0, none⟩)]) ∧ Hid (Below V.heap.size V w' ∧ ∀ V2, Below w'.heap.size w' V2 → Tells51 V2 W D (D + 1) K)) := fun V hV => (under_any _ a l V).mono (by
    rintro e w' ⟨rfl, b1, b2, b3⟩
    exact ⟨_, rfl, b3, fun V2 h => k3 w0 V2 q _ _ (hD.own.below (bst (bst hV b3) h)) (b1.below h) (b2.below h)⟩)
  have CR : Hid (∀ V, Below w.heap.size w V → Calls Try.prog 21 #[.pointer (some ⟨r, 0, none⟩), B a, .int .i64 l] V fun e w' => ∃ ba bc, e = .returned (.slice ba n bc) ∧ Hid (Below V.heap.size V w' ∧ ∀ V2, Below w'.heap.size w' V2 → V2.ownsRow V.heap.size 57 2 (.slice ba n bc) n (rowR K))) := fun V hV => (k4 V _ r (hD.ref.below hV).at).mono (by
    rintro e w' ⟨ba, bc, rfl, H⟩
    rw [hn] at H ⊢
    exact ⟨ba, bc, rfl, H.out.2, fun V2 h => ownsRow_kept H.out.1 (Kept.of_below (S := fun _ => False) h) (fun _ _ => id)⟩)
  have C20 : Hid (∀ V2 D Bq ba bc, Tells51 V2 W D (D + 1) K → V2.ownsRow Bq 57 2 (.slice ba n bc) n (rowR K) → Calls Try.prog 20 #[.func (.func 48) #[] #[.pointer (some ⟨D, 0, none⟩), .pointer (some ⟨D + 1, 0, none⟩)], .slice ba n bc, .int .i64 W] V2 fun e w' => e = .returned (.bool true) ∧ Hid (Below V2.heap.size V2 w')) := fun V2 D Bq ba bc ht ho => by
    have := told_yes V2 hW K (fun y hy => hD.own.lens y (k1 y hy)) (Nat.le_trans k2 g5) Bq ba bc (by rw [hn]; exact ho) D (D + 1) ht
    rw [hn] at this
    exact this.mono fun e w' h => ⟨h.1, h.2⟩
  clear g1 g2 g3 g4 g5 g6 k1 k2 k3 k4 hn
  have HF : Hid (∀ w', Below w.heap.size w w' → Duo w0 w' q r W most L ro ∧ Kept (Tch q r ro) w w' ∧ NewRow w ro ro) := fun w' hb => ⟨HD.out.below hb, Kept.of_below hb, .inl rfl⟩
  generalize L.length = m at HX
  have HQ : Hid (q < w.heap.size ∧ r < w.heap.size) := ⟨hD.tch q (.inl rfl), hD.tch r (.inr (.inl rfl))⟩
  have HB := one_new w #[.int .i64 k, .int .u64 (hiOf a), .int .u64 (loOf a), .int .i64 l, .int .i64 u] 35
  have C12 : Hid (∀ V, Calls Try.prog 12 #[.int .i64 k] V fun e w' => e = .returned (.int .i64 8) ∧ w' = V) := fun V => by
    have := rest_any k V
    rw [hk] at this
    exact this
  clear hD hm hk
  go_enter Try.func13, Try.ntmps13
  go_upto_region 1 with fail
  generalize (w.alloc _) = w1 at HB ⊢
  have c0 := HB.1.cell 0 (v := .int .i64 k) rfl
  have c1 := HB.1.cell 1 (v := .int .u64 (hiOf a)) rfl
  have c2 := HB.1.cell 2 (v := .int .u64 (loOf a)) rfl
  have c3 := HB.1.cell 3 (v := .int .i64 l) rfl
  have HB2 := one_new w1 #[.int .u64 (hiOf a), .int .u64 (loOf a), .int .i64 l] 51
  go_upto_region 2 with fail
  have HA : Hid (Blk (w1.alloc (.cells #[.int .u64 (hiOf a), .int .u64 (loOf a), .int .i64 l] 51)) w.heap.size #[.int .i64 k, .int .u64 (hiOf a), .int .u64 (loOf a), .int .i64 l, .int .i64 u] 35 ∧ Blk (w1.alloc (.cells #[.int .u64 (hiOf a), .int .u64 (loOf a), .int .i64 l] 51)) w1.heap.size #[.int .u64 (hiOf a), .int .u64 (loOf a), .int .i64 l] 51 ∧ Below w.heap.size w (w1.alloc (.cells #[.int .u64 (hiOf a), .int .u64 (loOf a), .int .i64 l] 51)) ∧ w.heap.size < w1.heap.size) :=
    ⟨HB.1.below HB2.2.1, HB2.1, bst HB.2.1 HB2.2.1, HB.2.2⟩
  clear c0 c1 c2 c3 HB HB2
  generalize (w1.alloc _) = w2 at HA ⊢
  generalize w1.heap.size = A1 at HA ⊢
  have c0 := HA.out.1.cell 0 (v := .int .i64 k) rfl
  have c1 := HA.out.1.cell 1 (v := .int .u64 (hiOf a)) rfl
  have c2 := HA.out.1.cell 2 (v := .int .u64 (loOf a)) rfl
  have c3 := HA.out.1.cell 3 (v := .int .i64 l) rfl
  have c4 := HA.out.1.cell 4 (v := .int .i64 u) rfl
  have d0 := HA.out.2.1.cell 0 (v := .int .u64 (hiOf a)) rfl
  have d1 := HA.out.2.1.cell 1 (v := .int .u64 (loOf a)) rfl
  have d2 := HA.out.2.1.cell 2 (v := .int .i64 l) rfl
  go_wp2_with fail
  refine (C12.out _).mono ?_
  rintro e w3 ⟨rfl, rfl⟩
  clear C12
  have HC : Hid (∀ V, Below w3.heap.size w3 V → V.cell? ⟨w.heap.size, 1, none⟩ = some (.int .u64 (hiOf a)) ∧ V.cell? ⟨w.heap.size, 2, none⟩ = some (.int .u64 (loOf a)) ∧ V.cell? ⟨w.heap.size, 3, none⟩ = some (.int .i64 l) ∧ V.cell? ⟨A1, 0, none⟩ = some (.int .u64 (hiOf a)) ∧ V.cell? ⟨A1, 1, none⟩ = some (.int .u64 (loOf a)) ∧ V.cell? ⟨A1, 2, none⟩ = some (.int .i64 l) ∧ V.cell? ⟨r, 0, none⟩ = some (.int .i64 W)) := fun V hV =>
    ⟨(HA.out.1.below hV).cell 1 rfl, (HA.out.1.below hV).cell 2 rfl, (HA.out.1.below hV).cell 3 rfl, (HA.out.2.1.below hV).cell 0 rfl, (HA.out.2.1.below hV).cell 1 rfl, (HA.out.2.1.below hV).cell 2 rfl, ((HX.out.below HA.out.2.2.1).below hV).cell 0 rfl⟩
  go_upto_region 33 with fail
  refine region_free1 (by kernel_rfl) (by kernel_rfl) (by kernel_rfl) (V33 W q r w.heap.size a l n K w3.heap.size) V33_below ?hop ?hend
  case hop =>
    intro A U w4 hb hD hE
    obtain ⟨e1, e2, e3, f0, f1, f2, g0⟩ := HC.out w4 hb
    have E0 : A.eval (.tmp 0) = .pointer (some ⟨q, 0, none⟩) := hE 0 (by kernel_rfl)
    have E1 : A.eval (.tmp 1) = .pointer (some ⟨r, 0, none⟩) := hE 1 (by kernel_rfl)
    have E5 : A.eval (.tmp 5) = .pointer (some ⟨w.heap.size, 0, none⟩) := hE 5 (by kernel_rfl)
    have E7 : A.eval (.tmp 7) = .pointer (some ⟨A1, 0, none⟩) := hE 7 (by kernel_rfl)
    have D0 := hD 206 0 (by kernel_rfl) (by kernel_rfl)
    have D1 := hD 207 1 (by kernel_rfl) (by kernel_rfl)
    have D2 := hD 208 2 (by kernel_rfl) (by kernel_rfl)
    have D3 := hD 209 3 (by kernel_rfl) (by kernel_rfl)
    have D4 := hD 210 4 (by kernel_rfl) (by kernel_rfl)
    have D5 := hD 211 5 (by kernel_rfl) (by kernel_rfl)
    have D6 := hD 212 6 (by kernel_rfl) (by kernel_rfl)
    have D7 := hD 213 7 (by kernel_rfl) (by kernel_rfl)
    have D8 := hD 214 8 (by kernel_rfl) (by kernel_rfl)
    have D9 := hD 215 9 (by kernel_rfl) (by kernel_rfl)
    have D10 := hD 216 10 (by kernel_rfl) (by kernel_rfl)
    have D11 := hD 217 11 (by kernel_rfl) (by kernel_rfl)
    have D12 := hD 218 12 (by kernel_rfl) (by kernel_rfl)
    have D13 := hD 219 13 (by kernel_rfl) (by kernel_rfl)
    clear hD hE c0 c1 c2 c3 c4 d0 d1 d2
    intro i o ho hv
    match i, ho with
    | 0, ho =>
      obtain rfl := Option.some.inj ho
      simp only [Oper.wp, execOp, E0]
      go_simp
      exact ⟨_, rfl, Below.refl _ _, rfl⟩
    | 1, ho =>
      obtain rfl := Option.some.inj ho
      simp only [Oper.wp, execOp, E7]
      go_simp
      exact ⟨_, rfl, Below.refl _ _, rfl⟩
    | 2, ho =>
      obtain rfl := Option.some.inj ho
      have h0 : U 0 = .pointer (some ⟨q, 0, none⟩) := hv 0 (by kernel_rfl)
      rw [h0] at D0
      have h1 : U 1 = .agg #[.int .u64 (hiOf a), .int .u64 (loOf a), .int .i64 l] := hv 1 (by kernel_rfl)
      rw [h1] at D1
      have G0 : A.tmps[206]?.getD undef = _ := Array.getD_eq_getD_getElem?.symm.trans D0
      have G1 : A.tmps[207]?.getD undef = _ := Array.getD_eq_getD_getElem?.symm.trans D1
      simp only [Oper.wp, execOp]
      go_simp
      refine (CU.out w4 (bst HA.out.2.2.1 hb)).mono ?_
      rintro e w5 ⟨D, rfl, H⟩
      exact ⟨_, rfl, H.out.1, D, rfl, H.out.2⟩
    | 3, ho =>
      obtain rfl := Option.some.inj ho
      simp only [Oper.wp, execOp, E1]
      go_simp
      exact ⟨_, rfl, Below.refl _ _, rfl⟩
    | 4, ho =>
      obtain rfl := Option.some.inj ho
      simp only [Oper.wp, execOp, E5]
      go_simp
      exact ⟨_, rfl, Below.refl _ _, rfl⟩
    | 5, ho =>
      obtain rfl := Option.some.inj ho
      have h4 : U 4 = .pointer (some ⟨w.heap.size, 1, none⟩) := hv 4 (by kernel_rfl)
      rw [h4] at D4
      simp only [Oper.wp, execOp, D4]
      go_simp
      exact ⟨_, rfl, Below.refl _ _, rfl⟩
    | 6, ho =>
      obtain rfl := Option.some.inj ho
      simp only [Oper.wp, execOp, E5]
      go_simp
      exact ⟨_, rfl, Below.refl _ _, rfl⟩
    | 7, ho =>
      obtain rfl := Option.some.inj ho
      have h6 : U 6 = .pointer (some ⟨w.heap.size, 3, none⟩) := hv 6 (by kernel_rfl)
      rw [h6] at D6
      simp only [Oper.wp, execOp, D6]
      go_simp
      exact ⟨_, rfl, Below.refl _ _, rfl⟩
    | 8, ho =>
      obtain rfl := Option.some.inj ho
      have h3 : U 3 = .pointer (some ⟨r, 0, none⟩) := hv 3 (by kernel_rfl)
      rw [h3] at D3
      have h5 : U 5 = .agg #[.int .u64 (hiOf a), .int .u64 (loOf a)] := hv 5 (by kernel_rfl)
      rw [h5] at D5
      have h7 : U 7 = .int .i64 l := hv 7 (by kernel_rfl)
      rw [h7] at D7
      have G3 : A.tmps[209]?.getD undef = _ := Array.getD_eq_getD_getElem?.symm.trans D3
      have G5 : A.tmps[211]?.getD undef = _ := Array.getD_eq_getD_getElem?.symm.trans D5
      have G7 : A.tmps[213]?.getD undef = _ := Array.getD_eq_getD_getElem?.symm.trans D7
      simp only [Oper.wp, execOp]
      go_simp
      refine (CR.out w4 (bst HA.out.2.2.1 hb)).mono ?_
      rintro e w5 ⟨ba, bc, rfl, H⟩
      exact ⟨_, rfl, H.out.1, ba, bc, rfl, fun V2 h => own_mono (H.out.2 V2 h) hb.size⟩
    | 9, ho =>
      obtain rfl := Option.some.inj ho
      simp only [Oper.wp, execOp, E1]
      go_simp
      exact ⟨_, rfl, Below.refl _ _, rfl⟩
    | 10, ho =>
      obtain rfl := Option.some.inj ho
      have h9 : U 9 = .pointer (some ⟨r, 0, none⟩) := hv 9 (by kernel_rfl)
      rw [h9] at D9
      simp only [Oper.wp, execOp, D9]
      go_simp
      exact ⟨_, rfl, Below.refl _ _, rfl⟩
    | 11, ho =>
      obtain rfl := Option.some.inj ho
      have h10 : U 10 = .pointer (some ⟨r, 0, none⟩) := hv 10 (by kernel_rfl)
      rw [h10] at D10
      simp only [Oper.wp, execOp, D10]
      go_simp
      exact ⟨_, rfl, Below.refl _ _, rfl⟩
    | 12, ho =>
      obtain rfl := Option.some.inj ho
      have h11 : U 11 = .pointer (some ⟨r, 0, none⟩) := hv 11 (by kernel_rfl)
      rw [h11] at D11
      simp only [Oper.wp, execOp, D11]
      go_simp
      exact ⟨_, rfl, Below.refl _ _, rfl⟩
    | 13, ho =>
      obtain rfl := Option.some.inj ho
      have h2 : V33 W q r w.heap.size a l n K w3.heap.size 2 (U 2) w4 := hv 2 (by kernel_rfl)
      have h8 : V33 W q r w.heap.size a l n K w3.heap.size 8 (U 8) w4 := hv 8 (by kernel_rfl)
      have h12 : U 12 = .int .i64 W := hv 12 (by kernel_rfl)
      obtain ⟨D, k2, T2⟩ := h2
      obtain ⟨ba, bc, k8, T8⟩ := h8
      rw [k2] at D2
      rw [k8] at D8
      rw [h12] at D12
      have HT : Hid ((∀ V2, Below w4.heap.size w4 V2 → Tells51 V2 W D (D + 1) K) ∧ ∀ V2, Below w4.heap.size w4 V2 → V2.ownsRow w3.heap.size 57 2 (.slice ba n bc) n (rowR K)) := ⟨T2, T8⟩
      clear T2 T8
      have G2 : A.tmps[208]?.getD undef = _ := Array.getD_eq_getD_getElem?.symm.trans D2
      have G8 : A.tmps[214]?.getD undef = _ := Array.getD_eq_getD_getElem?.symm.trans D8
      have G12 : A.tmps[218]?.getD undef = _ := Array.getD_eq_getD_getElem?.symm.trans D12
      simp only [Oper.wp, execOp]
      go_simp
      refine (C20.out w4 D w3.heap.size ba bc (HT.out.1 w4 (Below.refl _ _)) (HT.out.2 w4 (Below.refl _ _))).mono ?_
      rintro e w5 ⟨rfl, H⟩
      exact ⟨_, rfl, H.out, rfl⟩
    | 14, ho =>
      obtain rfl := Option.some.inj ho
      have h13 : U 13 = .bool true := hv 13 (by kernel_rfl)
      rw [h13] at D13
      simp only [Oper.wp, execOp, D13]
      go_simp
      exact ⟨_, rfl, Below.refl _ _, rfl⟩
    | i + 15, ho => cases ho
  case hend =>
    intro A U w4 hb hD hE hdf hsz hv
    have h14 : U 14 = .bool true := hv 14 (by decide)
    have D14 : A.eval (.tmp 6) = U 14 := hD 6 14 (by kernel_rfl) (by kernel_rfl)
    rw [h14] at D14
    have HG : Hid _ := HF.out w4 (bst HA.out.2.2.1 hb)
    obtain ⟨T, df⟩ := A
    have hdf : df = [] := hdf
    subst hdf
    have D14 : T.getD 6 undef = .bool true := D14
    clear hD hE hv hsz
    go_wp2
    refine bodyPost_ret (by
      have G : T[6]?.getD undef = .bool true := Array.getD_eq_getD_getElem?.symm.trans D14
      simp [results, Try.results13, go_sem, G]; try rfl) rfl ?_
    exact ⟨rfl, L, ro, HG⟩
end
end Go.Proofs.Ytgdpplipahhffaa
