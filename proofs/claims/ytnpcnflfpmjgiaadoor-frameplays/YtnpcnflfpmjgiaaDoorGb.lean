/- The document's Seal: it answers as package frame's. -/
import Derived.Test.YtnpcnflfpmjgiaaDoorGa
namespace Go.Proofs.YtnpcnflfpmjgiaaDoor
open Go.RowKit
set_option linter.unusedVariables false
set_option linter.unusedSimpArgs false

theorem rnb_any (x c : Int) (A : ByteArray) (h : Nb x c A) (w : World) : Calls Tryd.prog 39 #[.int .u64 x, .int .i64 c] w fun e w' => e = .returned (.string A) ∧ Below w.heap.size w w' := by
  obtain ⟨n, k, rfl, rfl, h1, h2, h3, rfl⟩ := h
  exact rbytes_any n k h1 h3 w
theorem conv_zeros {w : World} {B g c n : Nat} (h : w.ownsRow B 5 1 (.slice (some ⟨g, 0, none⟩) n c) n (u8s (List.replicate n 0))) : (convert 58 9 (.slice (some ⟨g, 0, none⟩) n c)).run Tryd.prog w = .ok (.string (zerosB n)) w := by
  have := conv_row (w := w) (B := B) (g := g) (c := c) (l := List.replicate n 0) (by rw [List.length_replicate]; exact h)
  rw [List.length_replicate] at this
  exact this
theorem beB_one (m : Nat) (h : m < 256) : beB m 1 = markB m := by
  unfold beB markB
  rw [show beL m 1 = [UInt8.ofNat (m / 256 ^ 0 % 256)] from rfl, Nat.pow_zero, Nat.div_one, Nat.mod_eq_of_lt h]
set_option maxHeartbeats 2000000 in
set_option maxRecDepth 100000 in
theorem rseal_yes (k n i : Nat) (b : ByteArray) (m : Nat) (hk1 : 1 ≤ k) (hk : k < 256) (hn : n < 18446744073709551616) (hi : i ≤ 2147483647) (hb : b.size ≤ 491) (hm : m < 256) (w : World) :
    Calls Tryd.prog 14 #[.agg #[.int .i64 k, .int .u64 n, .int .i64 i, .string b], .int .i64 m] w fun e w' => e = .returned (.tuple #[.string (sealB k n i b m), .int .i64 0]) ∧ Below w.heap.size w w' := by
  obtain ⟨i5, hi5, hz50, hz51, hz53⟩ := info_parts info5f
  have CW : Hid (∀ w : World, Calls Tryd.prog 38 #[.agg #[.int .i64 (k : Int), .int .u64 (n : Int), .int .i64 (i : Int), .string b]] w fun e w' => e = .returned (.int .i64 0) ∧ Below w.heap.size w w') := by
    intro w
    have := rwrong_any ⟨k, n, i, b⟩ w
    rw [show wrong ⟨k, n, i, b⟩ = 0 by unfold wrong; rw [if_neg (by simp only; omega), if_neg (by simp only; omega)]] at this
    exact this
  obtain ⟨W0, hW⟩ : ∃ W, W = w.alloc (.cells #[.int .i64 k, .int .u64 n, .int .i64 i, .string b] 24) := ⟨_, rfl⟩
  have hb0 : Below w.heap.size w W0 := by rw [hW]; exact (Below.refl _ _).alloc (Nat.le_refl _) _
  have hc0 : Fcl W0 w.heap.size k n i b := by rw [hW]; exact ⟨by simp, by simp, by simp, by simp⟩
  have hzz : w.heap.size < W0.heap.size := by rw [hW]; simp
  have fin : Hid (∀ w' : World, Below W0.heap.size W0 w' → (w'.cell? ⟨w.heap.size, 0, none⟩ = some (.int .i64 k) ∧ w'.cell? ⟨w.heap.size, 1, none⟩ = some (.int .u64 n) ∧ w'.cell? ⟨w.heap.size, 2, none⟩ = some (.int .i64 i) ∧ w'.cell? ⟨w.heap.size, 3, none⟩ = some (.string b))) := fun w' h => by
    obtain ⟨c0, c1, c2, c3⟩ := hc0
    exact ⟨(h.cell (p := ⟨w.heap.size, 0, none⟩) hzz).trans c0, (h.cell (p := ⟨w.heap.size, 1, none⟩) hzz).trans c1, (h.cell (p := ⟨w.heap.size, 2, none⟩) hzz).trans c2, (h.cell (p := ⟨w.heap.size, 3, none⟩) hzz).trans c3⟩
  have W1 : IntKind.u64.wrap (k : Int) = (k : Int) := by rw [IntKind.wrap_u64]; omega
  have W2 : IntKind.u64.wrap (i : Int) = (i : Int) := by rw [IntKind.wrap_u64]; omega
  have W3 : IntKind.u64.wrap (b.size : Int) = (b.size : Int) := by rw [IntKind.wrap_u64]; omega
  have W6 : IntKind.u64.wrap (m : Int) = (m : Int) := by rw [IntKind.wrap_u64]; omega
  have W4 : (491 : Int) - (b.size : Int) = ((491 - b.size : Nat) : Int) := by omega
  have HG : Hid (∀ (x c : Int) (A : ByteArray) (w1 : World), Nb x c A → Below W0.heap.size W0 w1 → Calls Tryd.prog 39 #[.int .u64 x, .int .i64 c] w1 fun e w' => e = .returned (.string A) ∧ Hid (Below W0.heap.size W0 w') ∧ (w'.cell? ⟨w.heap.size, 0, none⟩ = some (.int .i64 k) ∧ w'.cell? ⟨w.heap.size, 1, none⟩ = some (.int .u64 n) ∧ w'.cell? ⟨w.heap.size, 2, none⟩ = some (.int .i64 i) ∧ w'.cell? ⟨w.heap.size, 3, none⟩ = some (.string b))) := fun x c A w1 h h1 => (rnb_any x c A h w1).mono (fun e w' ⟨he, h2⟩ => by
    have h3 : Below W0.heap.size W0 w' := h1.trans (h2.mono h1.size)
    exact ⟨he, h3, fin.out w' h3⟩)
  have N1 : Nb (k : Int) 1 (beB k 1) := ⟨k, 1, rfl, rfl, by omega, by omega, by omega, rfl⟩
  have N2 : Nb (n : Int) 8 (beB n 8) := ⟨n, 8, rfl, rfl, hn, by omega, by omega, rfl⟩
  have N3 : Nb (i : Int) 4 (beB i 4) := ⟨i, 4, rfl, rfl, by omega, by omega, by omega, rfl⟩
  have N4 : Nb (b.size : Int) 2 (beB b.size 2) := ⟨b.size, 2, rfl, rfl, by omega, by omega, by omega, rfl⟩
  have CM : Hid (∀ w : World, Calls Tryd.prog 39 #[.int .u64 (m : Int), .int .i64 1] w fun e w' => e = .returned (.string (markB m)) ∧ Below w.heap.size w w') := by
    intro w
    have := rbytes_any m 1 (by omega) (by omega) w
    rw [beB_one m hm] at this
    exact this
  have z1 := beB_size k 1
  have z2 := beB_size n 8
  have z3 := beB_size i 4
  have z4 := beB_size b.size 2
  have z5 := zerosB_size (491 - b.size)
  have HM : Hid (midB k n i b = beB k 1 ++ beB n 8 ++ beB i 4 ++ beB b.size 2 ++ b ++ zerosB (491 - b.size)) := by show _ = _; rfl
  have HS : Hid (sealB k n i b m = markB m ++ midB k n i b ++ sumB (midB k n i b) ++ markB m) := by show _ = _; rfl
  have z6 : (midB k n i b).size = 506 := midB_size _ _ _ _ hb
  have CU : Hid (∀ w : World, Calls Tryd.prog 40 #[.string (midB k n i b)] w fun e w' => e = .returned (.string (sumB (midB k n i b))) ∧ Below w.heap.size w w') := fun w => rsum_any _ (by omega) w
  have z7 := sumB_size (midB k n i b)
  have z8 : (markB m).size = 1 := rfl
  have CVZ : Hid (∀ (w : World) (B g : Nat), w.ownsRow B 5 1 (.slice (some ⟨g, 0, none⟩) (491 - b.size) (491 - b.size)) (491 - b.size) (u8s (List.replicate (491 - b.size) 0)) → (convert 58 9 (.slice (some ⟨g, 0, none⟩) (491 - b.size) (491 - b.size))).run Tryd.prog w = .ok (.string (zerosB (491 - b.size))) w) := fun w B g h => conv_zeros h
  generalize beB k 1 = A1 at *
  generalize beB n 8 = A2 at *
  generalize beB i 4 = A3 at *
  generalize beB b.size 2 = A4 at *
  generalize zerosB (491 - b.size) = A5 at *
  generalize hzq : 491 - b.size = zz at *
  have hz9 : zz ≤ 491 := by omega
  have hz10 : ¬ 9223372036854775807 < 15 + b.size + zz := by omega
  have hz11 : ¬ 9223372036854775807 < 15 + b.size := by omega
  have W5 : IntKind.i64.wrap (zz : Int) = (zz : Int) := by rw [IntKind.wrap_i64]; omega
  clear hzq
  generalize sumB (midB k n i b) = A6 at *
  generalize midB k n i b = A7 at *
  generalize markB m = A8 at *
  generalize sealB k n i b m = A9 at *
  have hm0 : ¬ (m : Int) < 0 := by omega
  have hm1 : ¬ (255 : Int) < (m : Int) := by omega
  obtain ⟨c0, c1, c2, c3⟩ := id hc0
  clear hc0 hn hk hk1 hi hm
  go_enter Tryd.func14, Tryd.ntmps14
  go_wp2_with fail
  rw [← hW]
  clear hW
  refine (CW.out _).mono ?_
  rintro e wv ⟨rfl, hbv⟩
  obtain ⟨e0, e1, e2, e3⟩ := fin.out wv hbv
  clear CW
  go_wp2_with fail
  go_region_held3 (fun w' => w'.cell? ⟨w.heap.size, 0, none⟩ = some (.int .i64 k) ∧ w'.cell? ⟨w.heap.size, 1, none⟩ = some (.int .u64 n) ∧ w'.cell? ⟨w.heap.size, 2, none⟩ = some (.int .i64 i) ∧ w'.cell? ⟨w.heap.size, 3, none⟩ = some (.string b))
    (first | exact k1 | exact ⟨e0, e1, e2, e3⟩)
    (first
      | (go_at_call 39; refine (HG.out _ _ _ _ (by first | exact N1 | exact N2 | exact N3 | exact N4) (by first | exact b1.out | exact ⟨hbv.os, hbv.tape, hbv.output, hbv.size, hbv.block⟩)).mono ?_; rintro e w1 ⟨rfl, b1, k1⟩))
  obtain ⟨p0, p1, p2, p3⟩ := k1
  have hB1 : Below w.heap.size w w1 := hb0.trans (b1.out.mono hb0.size)
  clear HG N1 N2 N3 N4 b1 fin c0 c1 c2 c3 e0 e1 e2 e3 hbv hb0 hzz
  go_wp2_with (at_make; refine wpList_make_full _ rfl _ _ 58 rfl w1.heap.size 5 i5 (.int .u8 0) 1 Tryd.underlying58 hi5 hz50 hz51 _ _ _ _ zz rfl rfl rfl rfl ?c1 ?c2 ?c3 ?_)
  case c1 => rw [hz53]; omega
  case c2 => unfold maxLen; omega
  case c3 => omega
  intro wm hown hgrow
  have hCZ := CVZ.out wm w1.heap.size w1.heap.size (by rw [← made0]; exact hown)
  have hBm : Below w.heap.size w wm := hB1.grown hgrow hB1.size (fun _ h => by cases h)
  clear hown hgrow CVZ hB1 p0 p1 p2 p3
  go_wp2_with fail
  rw [← HM.out]
  refine (CM.out _).mono ?_
  rintro e w2 ⟨rfl, hb2⟩
  have hB2 : Below w.heap.size w w2 := hBm.trans (hb2.mono hBm.size)
  clear hb2 hBm CM hCZ HM
  go_wp2_with fail
  refine (CU.out _).mono ?_
  rintro e w3 ⟨rfl, hb3⟩
  have hB3 : Below w.heap.size w w3 := hB2.trans (hb3.mono hB2.size)
  clear hb3 hB2 CU
  go_wp2
  go_ret2
  exact ⟨by rw [HS.out]; rfl, hB3⟩
set_option maxHeartbeats 1000000 in
theorem rseal_any (f : Fr) (m : Int) (hn : f.num < 18446744073709551616) (w : World) : Calls Tryd.prog 14 #[frV f, .int .i64 m] w fun e w' => e = .returned (.tuple #[.string (sealR f m), .int .i64 (sealE f m)]) ∧ Below w.heap.size w w' := by
  by_cases h1 : m < 0 ∨ 255 < m
  · have e1 : sealE f m = 1 := by unfold sealE; rw [if_pos h1]
    have e2 : sealR f m = ⟨#[]⟩ := by unfold sealR; rw [e1, if_neg (by decide)]
    rw [e1, e2]
    unfold frV
    have hb : Below w.heap.size w (w.alloc (.cells #[.int .i64 f.kind, .int .u64 f.num, .int .i64 f.idx, .string f.body] 24)) := (Below.refl _ _).alloc (Nat.le_refl _) _
    rcases h1 with h1 | h1
    · go_enter Tryd.func14, Tryd.ntmps14
      go_wp2
      go_ret2
      exact ⟨rfl, hb⟩
    · have h2 : ¬ m < 0 := by omega
      go_enter Tryd.func14, Tryd.ntmps14
      go_wp2
      go_ret2
      exact ⟨rfl, hb⟩
  · have h2 : ¬ m < 0 := by omega
    have h3 : ¬ 255 < m := by omega
    have e1 : sealE f m = wrong f := by unfold sealE; rw [if_neg h1]
    by_cases hw : wrong f = 0
    · have e2 : sealR f m = sealB f.kind.toNat f.num f.idx.toNat f.body m.toNat := by unfold sealR; rw [e1, hw, if_pos rfl]
      rw [e1, e2, hw]
      obtain ⟨k, i, hk, hi, k1, k2, i1, hz⟩ := right_of hw
      obtain ⟨fk, fn, fi, fb⟩ := f
      simp only at hk hi hz hn ⊢
      subst hk hi
      obtain ⟨mm, rfl⟩ : ∃ mm : Nat, m = mm := ⟨m.toNat, by omega⟩
      rw [Int.toNat_natCast, Int.toNat_natCast, Int.toNat_natCast]
      exact rseal_yes k fn i fb mm k1 k2 hn i1 hz (by omega) w
    · have e2 : sealR f m = ⟨#[]⟩ := by unfold sealR; rw [e1, if_neg hw]
      have C1 : Hid (∀ w : World, Calls Tryd.prog 38 #[.agg #[.int .i64 f.kind, .int .u64 f.num, .int .i64 f.idx, .string f.body]] w fun e w' => e = .returned (.int .i64 (wrong f)) ∧ Below w.heap.size w w') := rwrong_any f
      rw [e1, e2]
      have hw' : (wrong f == 0) = false := by simpa using hw
      generalize wrong f = E at *
      unfold frV
      have hb0 : Below w.heap.size w (w.alloc (.cells #[.int .i64 f.kind, .int .u64 f.num, .int .i64 f.idx, .string f.body] 24)) := (Below.refl _ _).alloc (Nat.le_refl _) _
      clear e1 e2 hw hn
      go_enter Tryd.func14, Tryd.ntmps14
      go_wp2_with fail
      refine (C1.out _).mono ?_
      rintro e w1 ⟨rfl, hb1⟩
      have hB1 : Below w.heap.size w w1 := hb0.trans (hb1.mono hb0.size)
      clear hb1 hb0
      go_wp2
      go_ret2
      exact ⟨rfl, hB1⟩
end Go.Proofs.YtnpcnflfpmjgiaaDoor
