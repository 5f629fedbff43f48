/- Package frame's noughts, sealed and Seal: a frame's bytes. -/
import Derived.Test.YtnpcnflfpmjgiaaDoorFn
import Derived.Test.YtnpcnflfpmjgiaaDoorCh
namespace Go.Proofs.YtnpcnflfpmjgiaaDoor
open Go.RowKit
set_option linter.unusedVariables false
set_option linter.unusedSimpArgs false

theorem bcell {W w1 : World} (hb : Below W.heap.size W w1) : (∀ b o, b < W.heap.size → w1.cell? ⟨b, o, none⟩ = W.cell? ⟨b, o, none⟩) ∧ (∀ b o, b < W.heap.size → w1.frozen? ⟨b, o, none⟩ = W.frozen? ⟨b, o, none⟩) :=
  ⟨fun b o h => hb.cell (p := ⟨b, o, none⟩) h, fun b o h => hb.frozen (p := ⟨b, o, none⟩) h⟩
def zerosB (n : Nat) : ByteArray := ⟨(List.replicate n (0 : UInt8)).toArray⟩
theorem zerosB_size (n : Nat) : (zerosB n).size = n := by simp [zerosB, ByteArray.size]
theorem noughts68 (n : Nat) (hn : n ≤ 4096) (w : World) : Calls Tryd.prog 68 #[.int .i64 n] w fun e w' => e = .returned (.string (zerosB n)) ∧ Below w.heap.size w w' := by
  have CR : Hid (Calls Tryd.prog 45 #[.string ⟨#[0]⟩, .int .i64 (n : Int)] w fun e w' => e = .returned (.string (zerosB n)) ∧ Below w.heap.size w w') := by
    have := Tryd.strings_Repeat ⟨#[0]⟩ n w (by omega) (by show 1 * n ≤ _; omega)
    rw [show (⟨#[0]⟩ : ByteArray).data.toList = [0] from rfl, repeat_zero] at this
    exact this
  generalize zerosB n = z at *
  go_enter Tryd.func68, Tryd.ntmps68
  go_wp2_with fail
  refine CR.out.mono ?_
  rintro e w1 ⟨rfl, hb⟩
  go_wp2
  go_ret
  exact ⟨rfl, hb⟩
/-- The bytes of a frame that the sum is of. -/
def midB (k n i : Nat) (b : ByteArray) : ByteArray := beB k 1 ++ beB n 8 ++ beB i 4 ++ beB b.size 2 ++ b ++ zerosB (491 - b.size)
def markB (m : Nat) : ByteArray := ⟨#[UInt8.ofNat m]⟩
/-- A frame's bytes. -/
def sealB (k n i : Nat) (b : ByteArray) (m : Nat) : ByteArray := markB m ++ midB k n i b ++ sumB (midB k n i b) ++ markB m
theorem midB_size (k n i : Nat) (b : ByteArray) (hb : b.size ≤ 491) : (midB k n i b).size = 506 := by
  unfold midB
  simp only [ByteArray.size_append, beB_size, zerosB_size]; omega
theorem sealB_size (k n i : Nat) (b : ByteArray) (m : Nat) (hb : b.size ≤ 491) : (sealB k n i b m).size = 512 := by
  unfold sealB
  simp only [ByteArray.size_append, midB_size _ _ _ _ hb, sumB_size]; rfl
def Fcl (w : World) (g : Nat) (k n i : Nat) (b : ByteArray) : Prop := w.cell? ⟨g, 0, none⟩ = some (.int .i64 k) ∧ w.cell? ⟨g, 1, none⟩ = some (.int .u64 n) ∧ w.cell? ⟨g, 2, none⟩ = some (.int .i64 i) ∧ w.cell? ⟨g, 3, none⟩ = some (.string b)
theorem conv_mark (w : World) (m : Nat) (hm : m < 256) : (convert 58 9 (.slice (some ⟨w.heap.size, 0, none⟩) 1 1)).run Tryd.prog (w.alloc (.cells #[.int .u8 m] 5)) = .ok (.string (markB m)) (w.alloc (.cells #[.int .u8 m] 5)) := by
  have := run_convert_bytes_back (P := Tryd.prog) (w.alloc (.cells #[.int .u8 m] 5)) 58 9 5 ⟨w.heap.size, 0, none⟩ 1 [UInt8.ofNat m] Tryd.underlying58 Tryd.underlying5 Tryd.underlying9 (fun t ht => by
    have : t = 0 := by simpa using ht
    subst this
    rw [addr_at]
    simp
    omega)
  exact this
/-- A number, how many bytes, and these bytes. -/
def Nb (x c : Int) (A : ByteArray) : Prop := ∃ n k : Nat, x = n ∧ c = k ∧ n < 18446744073709551616 ∧ 1 ≤ k ∧ k ≤ 8 ∧ A = beB n k
theorem nb_any (x c : Int) (A : ByteArray) (h : Nb x c A) (w : World) : Calls Tryd.prog 67 #[.int .u64 x, .int .i64 c] w fun e w' => e = .returned (.string A) ∧ Below w.heap.size w w' := by
  obtain ⟨n, k, rfl, rfl, h1, h2, h3, rfl⟩ := h
  exact numb_any n k h1 h2 h3 w
set_option maxHeartbeats 2000000 in
set_option maxRecDepth 100000 in
theorem sealed_any (k n i : Nat) (b : ByteArray) (m : Nat) (hk : k < 256) (hn : n < 18446744073709551616) (hi : i ≤ 2147483647) (hb : b.size ≤ 491) (hm : m < 256) (w : World) (hT : Tab w) :
    Calls Tryd.prog 37 #[.agg #[.int .i64 k, .int .u64 n, .int .i64 i, .string b], .int .u8 m] w fun e w' => e = .returned (.string (sealB k n i b m)) ∧ Below w.heap.size w w' := by
  obtain ⟨W, hW⟩ : ∃ W, W = w.alloc (.cells #[.int .i64 k, .int .u64 n, .int .i64 i, .string b] 24) := ⟨_, rfl⟩
  have hb0 : Below w.heap.size w W := by rw [hW]; exact (Below.refl _ _).alloc (Nat.le_refl _) _
  have hc0 : Fcl W w.heap.size k n i b := by rw [hW]; exact ⟨by simp, by simp, by simp, by simp⟩
  have hzz : w.heap.size < W.heap.size := by rw [hW]; simp
  have hT0 : Hid (Tab W) := hT.below hb0
  have fin : ∀ w1 : World, Below W.heap.size W w1 → ∀ (s : ByteArray) e w', (e = Ending.returned (.string s) ∧ Below w1.heap.size w1 w') → (e = Ending.returned (.string s) ∧ Hid (Below W.heap.size W w') ∧ (w'.cell? ⟨w.heap.size, 0, none⟩ = some (.int .i64 k) ∧ w'.cell? ⟨w.heap.size, 1, none⟩ = some (.int .u64 n) ∧ w'.cell? ⟨w.heap.size, 2, none⟩ = some (.int .i64 i) ∧ w'.cell? ⟨w.heap.size, 3, none⟩ = some (.string b))) := fun w1 h1 s e w' ⟨he, h2⟩ => by
    have h : Below W.heap.size W w' := h1.trans (h2.mono h1.size)
    obtain ⟨c0, c1, c2, c3⟩ := hc0
    exact ⟨he, h, (h.cell (p := ⟨w.heap.size, 0, none⟩) hzz).trans c0, (h.cell (p := ⟨w.heap.size, 1, none⟩) hzz).trans c1, (h.cell (p := ⟨w.heap.size, 2, none⟩) hzz).trans c2, (h.cell (p := ⟨w.heap.size, 3, none⟩) hzz).trans c3⟩
  have W1 : IntKind.u64.wrap (k : Int) = (k : Int) := by rw [IntKind.wrap_u64]; omega
  have W2 : IntKind.u64.wrap (i : Int) = (i : Int) := by rw [IntKind.wrap_u64]; omega
  have W3 : IntKind.u64.wrap (b.size : Int) = (b.size : Int) := by rw [IntKind.wrap_u64]; omega
  have W4 : (491 : Int) - (b.size : Int) = ((491 - b.size : Nat) : Int) := by omega
  have HG : Hid (∀ (x c : Int) (A : ByteArray) (w1 : World), Nb x c A → Below W.heap.size W w1 → Calls Tryd.prog 67 #[.int .u64 x, .int .i64 c] w1 fun e w' => e = .returned (.string A) ∧ Hid (Below W.heap.size W w') ∧ (w'.cell? ⟨w.heap.size, 0, none⟩ = some (.int .i64 k) ∧ w'.cell? ⟨w.heap.size, 1, none⟩ = some (.int .u64 n) ∧ w'.cell? ⟨w.heap.size, 2, none⟩ = some (.int .i64 i) ∧ w'.cell? ⟨w.heap.size, 3, none⟩ = some (.string b))) := fun x c A w1 h h1 => (nb_any x c A h w1).mono (fin w1 h1 _)
  have N1 : Nb (k : Int) 1 (beB k 1) := ⟨k, 1, rfl, rfl, by omega, by omega, by omega, rfl⟩
  have N2 : Nb (n : Int) 8 (beB n 8) := ⟨n, 8, rfl, rfl, hn, by omega, by omega, rfl⟩
  have N3 : Nb (i : Int) 4 (beB i 4) := ⟨i, 4, rfl, rfl, by omega, by omega, by omega, rfl⟩
  have N4 : Nb (b.size : Int) 2 (beB b.size 2) := ⟨b.size, 2, rfl, rfl, by omega, by omega, by omega, rfl⟩
  have H5 : Hid (∀ w1 : World, Below W.heap.size W w1 → Calls Tryd.prog 68 #[.int .i64 ((491 - b.size : Nat) : Int)] w1 fun e w' => e = .returned (.string (zerosB (491 - b.size))) ∧ Hid (Below W.heap.size W w') ∧ (w'.cell? ⟨w.heap.size, 0, none⟩ = some (.int .i64 k) ∧ w'.cell? ⟨w.heap.size, 1, none⟩ = some (.int .u64 n) ∧ w'.cell? ⟨w.heap.size, 2, none⟩ = some (.int .i64 i) ∧ w'.cell? ⟨w.heap.size, 3, none⟩ = some (.string b))) := fun w1 h1 => (noughts68 _ (by omega) w1).mono (fin w1 h1 _)
  have z1 := beB_size k 1
  have z2 := beB_size n 8
  have z3 := beB_size i 4
  have z4 := beB_size b.size 2
  have z5 := zerosB_size (491 - b.size)
  have HM : Hid (midB k n i b = beB k 1 ++ beB n 8 ++ beB i 4 ++ beB b.size 2 ++ b ++ zerosB (491 - b.size)) := by show _ = _; rfl
  have HS : Hid (sealB k n i b m = markB m ++ midB k n i b ++ sumB (midB k n i b) ++ markB m) := by show _ = _; rfl
  have CV : Hid (∀ w : World, (convert 58 9 (.slice (some ⟨w.heap.size, 0, none⟩) 1 1)).run Tryd.prog (w.alloc (.cells #[.int .u8 m] 5)) = .ok (.string (markB m)) (w.alloc (.cells #[.int .u8 m] 5))) := fun w => conv_mark w m hm
  have z6 : (midB k n i b).size = 506 := midB_size _ _ _ _ hb
  have CU : Hid (∀ w : World, Tab w → Calls Tryd.prog 69 #[.string (midB k n i b)] w fun e w' => e = .returned (.string (sumB (midB k n i b))) ∧ Below w.heap.size w w') := fun w h => sumof_any _ (by omega) w h
  have z7 := sumB_size (midB k n i b)
  have z8 : (markB m).size = 1 := rfl
  generalize beB k 1 = A1 at *
  generalize beB n 8 = A2 at *
  generalize beB i 4 = A3 at *
  generalize beB b.size 2 = A4 at *
  generalize zerosB (491 - b.size) = A5 at *
  generalize hzq : 491 - b.size = zz at *
  have hz9 : zz ≤ 491 := by omega
  have hz10 : ¬ 9223372036854775807 < 15 + b.size + zz := by omega
  have hz11 : ¬ 9223372036854775807 < 15 + b.size := by omega
  have W5 : IntKind.i64.wrap (zz : Int) = (zz : Int) := by rw [IntKind.wrap_i64]; omega
  clear hzq
  generalize sumB (midB k n i b) = A6 at *
  generalize midB k n i b = A7 at *
  generalize markB m = A8 at *
  generalize sealB k n i b m = A9 at *
  obtain ⟨c0, c1, c2, c3⟩ := id hc0
  clear fin hc0 hn hk hi hm
  go_enter Tryd.func37, Tryd.ntmps37
  go_wp2_with fail
  rw [← hW]
  clear hW
  go_region_held3 (fun w' => w'.cell? ⟨w.heap.size, 0, none⟩ = some (.int .i64 k) ∧ w'.cell? ⟨w.heap.size, 1, none⟩ = some (.int .u64 n) ∧ w'.cell? ⟨w.heap.size, 2, none⟩ = some (.int .i64 i) ∧ w'.cell? ⟨w.heap.size, 3, none⟩ = some (.string b))
    (first | exact k1 | exact ⟨c0, c1, c2, c3⟩)
    (first
      | (go_at_call 67; refine (HG.out _ _ _ _ (by first | exact N1 | exact N2 | exact N3 | exact N4) (by first | exact b1.out | exact ⟨rfl, rfl, rfl, Nat.le_refl _, fun _ _ => rfl⟩)).mono ?_; rintro e w1 ⟨rfl, b1, k1⟩)
      | (go_at_call 68; refine (H5.out _ (by exact b1.out)).mono ?_; rintro e w1 ⟨rfl, b1, k1⟩))
  have hCV := CV.out w1
  rw [← HM.out]
  have hB1 : Below w.heap.size w w1 := hb0.trans (b1.out.mono hb0.size)
  have hT1 : Tab w1 := hT0.out.below b1.out
  clear HG H5 N1 N2 N3 N4 k1 b1 c0 c1 c2 c3 CV hT0 hb0 hzz HM z1 z2 z3 z4 z5 W1 W2 W3 W4 W5 hT
  have hb2 : Below w1.heap.size w1 (w1.alloc (.cells #[.int .u8 m] 5)) := (Below.refl _ _).alloc (Nat.le_refl _) _
  have hT2 : Tab (w1.alloc (.cells #[.int .u8 m] 5)) := hT1.below hb2
  have hB2 : Below w.heap.size w (w1.alloc (.cells #[.int .u8 m] 5)) := hB1.trans (hb2.mono hB1.size)
  clear hB1 hT1 hb2
  go_wp2_with fail
  refine (CU.out _ hT2).mono ?_
  rintro e w3 ⟨rfl, hb3⟩
  have hB3 : Below w.heap.size w w3 := hB2.trans (hb3.mono hB2.size)
  clear CU hT2 hb3 hB2
  go_wp2
  go_ret
  exact ⟨by rw [HS.out]; rfl, hB3⟩
/-- What Seal answers. -/
def sealE (f : Fr) (m : Int) : Int := if m < 0 ∨ 255 < m then 1 else wrong f
def sealR (f : Fr) (m : Int) : ByteArray := if sealE f m = 0 then sealB f.kind.toNat f.num f.idx.toNat f.body m.toNat else ⟨#[]⟩
theorem right_of {f : Fr} (h : wrong f = 0) : ∃ k i : Nat, f.kind = k ∧ f.idx = i ∧ 1 ≤ k ∧ k < 256 ∧ i ≤ 2147483647 ∧ f.body.size ≤ 491 := by
  unfold wrong at h
  split at h
  · cases h
  · split at h
    · cases h
    · exact ⟨f.kind.toNat, f.idx.toNat, by omega, by omega, by omega, by omega, by omega, by omega⟩
set_option maxHeartbeats 1000000 in
theorem seal_any (f : Fr) (m : Int) (hn : f.num < 18446744073709551616) (w : World) (hT : Tab w) : Calls Tryd.prog 13 #[frV f, .int .i64 m] w fun e w' => e = .returned (.tuple #[.string (sealR f m), .int .i64 (sealE f m)]) ∧ Below w.heap.size w w' := by
  by_cases h1 : m < 0 ∨ 255 < m
  · have e1 : sealE f m = 1 := by unfold sealE; rw [if_pos h1]
    have e2 : sealR f m = ⟨#[]⟩ := by unfold sealR; rw [e1, if_neg (by decide)]
    rw [e1, e2]
    unfold frV
    have hb : Below w.heap.size w (w.alloc (.cells #[.int .i64 f.kind, .int .u64 f.num, .int .i64 f.idx, .string f.body] 24)) := (Below.refl _ _).alloc (Nat.le_refl _) _
    rcases h1 with h1 | h1
    · go_enter Tryd.func13, Tryd.ntmps13
      go_wp2
      go_ret2
      exact ⟨rfl, hb⟩
    · have h2 : ¬ m < 0 := by omega
      go_enter Tryd.func13, Tryd.ntmps13
      go_wp2
      go_ret2
      exact ⟨rfl, hb⟩
  · have h2 : ¬ m < 0 := by omega
    have h3 : ¬ 255 < m := by omega
    have e1 : sealE f m = wrong f := by unfold sealE; rw [if_neg h1]
    have C1 : Hid (∀ w : World, Calls Tryd.prog 36 #[.agg #[.int .i64 f.kind, .int .u64 f.num, .int .i64 f.idx, .string f.body]] w fun e w' => e = .returned (.int .i64 (wrong f)) ∧ Below w.heap.size w w') := refusal_any f
    by_cases hw : wrong f = 0
    · have e2 : sealR f m = sealB f.kind.toNat f.num f.idx.toNat f.body m.toNat := by unfold sealR; rw [e1, hw, if_pos rfl]
      rw [e1, e2, hw]
      rw [hw] at C1
      obtain ⟨k, i, hk, hi, k1, k2, i1, hz⟩ := right_of hw
      obtain ⟨fk, fn, fi, fb⟩ := f
      simp only at hk hi hz hn C1 ⊢
      subst hk hi
      obtain ⟨mm, rfl⟩ : ∃ mm : Nat, m = mm := ⟨m.toNat, by omega⟩
      have C2 : Hid (∀ w : World, Tab w → Calls Tryd.prog 37 #[.agg #[.int .i64 k, .int .u64 fn, .int .i64 i, .string fb], .int .u8 mm] w fun e w' => e = .returned (.string (sealB k fn i fb mm)) ∧ Below w.heap.size w w') := fun w hT => sealed_any k fn i fb mm k2 hn i1 hz (by omega) w hT
      have W1 : IntKind.u8.wrap (mm : Int) = (mm : Int) := by rw [IntKind.wrap_u8]; omega
      rw [Int.toNat_natCast, Int.toNat_natCast, Int.toNat_natCast]
      generalize sealB k fn i fb mm = S at *
      unfold frV
      clear e1 e2 hw hn
      have hb0 : Below w.heap.size w (w.alloc (.cells #[.int .i64 k, .int .u64 fn, .int .i64 i, .string fb] 24)) := (Below.refl _ _).alloc (Nat.le_refl _) _
      have hz0 : w.heap.size < (w.alloc (.cells #[.int .i64 k, .int .u64 fn, .int .i64 i, .string fb] 24)).heap.size := by simp
      go_enter Tryd.func13, Tryd.ntmps13
      go_wp2_with fail
      refine (C1.out _).mono ?_
      rintro e w1 ⟨rfl, hb1⟩
      obtain ⟨hc, hf⟩ := bcell hb1
      have hB1 : Below w.heap.size w w1 := hb0.trans (hb1.mono hb0.size)
      have hT1 : Tab w1 := hT.below hB1
      clear hb1 hb0 hT
      go_wp2_with fail
      refine (C2.out _ hT1).mono ?_
      rintro e w2 ⟨rfl, hb2⟩
      have hB2 : Below w.heap.size w w2 := hB1.trans (hb2.mono hB1.size)
      clear hb2 hB1 hc hf hT1
      go_wp2
      go_ret2
      exact ⟨rfl, hB2⟩
    · have e2 : sealR f m = ⟨#[]⟩ := by unfold sealR; rw [e1, if_neg hw]
      rw [e1, e2]
      have hw' : (wrong f == 0) = false := by simpa using hw
      generalize wrong f = E at *
      unfold frV
      have hb0 : Below w.heap.size w (w.alloc (.cells #[.int .i64 f.kind, .int .u64 f.num, .int .i64 f.idx, .string f.body] 24)) := (Below.refl _ _).alloc (Nat.le_refl _) _
      clear e1 e2 hw hn
      go_enter Tryd.func13, Tryd.ntmps13
      go_wp2_with fail
      refine (C1.out _).mono ?_
      rintro e w1 ⟨rfl, hb1⟩
      have hB1 : Below w.heap.size w w1 := hb0.trans (hb1.mono hb0.size)
      clear hb1 hb0 hT
      go_wp2
      go_ret2
      exact ⟨rfl, hB1⟩
end Go.Proofs.YtnpcnflfpmjgiaaDoor
