/- Package sums' back and Four: what each answers. -/
import Derived.Test.YtabipemlemppjaaDoorFu
namespace Go.Proofs.YtabipemlemppjaaDoor
open Go.RowKit
set_option linter.unusedVariables false
set_option linter.unusedSimpArgs false

theorem undos_step {j : Nat} (h : j < 8) (q : Nat) : undosN (8 - j) q = undosN (8 - (j + 1)) (undoN q) := by
  rw [show 8 - j = (8 - (j + 1)) + 1 by omega, undosN]
set_option maxHeartbeats 2000000 in
theorem back_any (r0 : Nat) (hr0 : r0 < 4294967296) (w : World) : Calls Tryd.prog 35 #[.int .u32 r0] w fun e w' => e = .returned (.int .u32 (undosN 8 r0)) ∧ w' = w := by
  generalize hT : undosN 8 r0 = T
  have HT : Hid (undosN 8 r0 = T) := hT
  clear hT
  go_enter Tryd.func35, Tryd.ntmps35
  go_wp2
  go_loopw [0, 4] (fun a k wr => ∃ j q : Nat, a = .int .u32 q ∧ k = .int .i64 j ∧ j ≤ 8 ∧ q < 4294967296 ∧ undosN (8 - j) q = T ∧ wr = w) (fun _ k _ => (8 - intOf k).toNat)
  case atStart => exact ⟨0, r0, rfl, rfl, by omega, hr0, HT.out, rfl⟩
  case round =>
    obtain ⟨j, q, rfl, rfl, hj, hq, ht, rfl⟩ := hrel
    by_cases h8 : j < 8
    · have HQ : Hid (undosN (8 - j) q = T) := ht
      clear ht
      by_cases hh : 2147483648 ≤ q
      · have e1 : (q : Int) / 2147483648 = 1 := by omega
        have e2 := undo_hi q hq hh
        have hx := low31 q hq hh
        have e3 := or_one _ hx
        have HU : Hid (undoN q = 2 * (q ^^^ 3988292384) + 1) := by show _ = _; rw [undoN, if_pos hh]
        have hl : 2 * (q ^^^ 3988292384) + 1 < 4294967296 := by omega
        generalize q ^^^ 3988292384 = x at *
        generalize 2 * x + 1 = y at *
        go_wp2
        refine ⟨⟨j + 1, y, rfl, rfl, by omega, hl, ?_, trivial⟩, by simp only [intOf]; omega⟩
        rw [← HQ.out, undos_step h8, HU.out]
      · have e1 : (q : Int) / 2147483648 = 0 := by omega
        have hx : q < 2147483648 := by omega
        have e2 := xor_none q hq
        have e3 := or_none q hx
        have HU : Hid (undoN q = 2 * q) := by show _ = _; rw [undoN, if_neg hh]
        have hl : 2 * q < 4294967296 := by omega
        generalize hy : 2 * q = y at *
        have HY : Hid (2 * q = y) := hy
        clear hy
        go_wp2
        refine ⟨⟨j + 1, y, ?_, rfl, by omega, hl, ?_, trivial⟩, by simp only [intOf]; omega⟩
        · first | rfl | (congr 1; have := HY.out; omega)
        · rw [← HQ.out, undos_step h8, HU.out]
    · obtain rfl : j = 8 := by omega
      have ht' : q = T := ht
      subst ht'
      clear ht
      go_wp2
      go_ret
      exact ⟨rfl, rfl⟩

theorem conv_four (w : World) (a b c d : UInt8) : (convert 48 9 (.slice (some ⟨w.heap.size, 0, none⟩) 4 4)).run Tryd.prog (w.alloc (.cells #[.int .u8 (a.toNat : Int), .int .u8 (b.toNat : Int), .int .u8 (c.toNat : Int), .int .u8 (d.toNat : Int)] 5)) = .ok (.string ⟨#[a, b, c, d]⟩) (w.alloc (.cells #[.int .u8 (a.toNat : Int), .int .u8 (b.toNat : Int), .int .u8 (c.toNat : Int), .int .u8 (d.toNat : Int)] 5)) := by
  refine run_convert_bytes_back (P := Tryd.prog) _ 48 9 5 ⟨w.heap.size, 0, none⟩ 4 [a, b, c, d] Tryd.underlying48 Tryd.underlying5 Tryd.underlying9 (fun j hj => ?_)
  match j, hj with
  | 0, _ => simp [Addr.add]
  | 1, _ => simp [Addr.add]
  | 2, _ => simp [Addr.add]
  | 3, _ => simp [Addr.add]
set_option maxHeartbeats 2000000 in
theorem four_any (s t : Nat) (hs : s < 4294967296) (ht : t < 4294967296) (w : World) : Calls Tryd.prog 19 #[.int .u32 s, .int .u32 t] w fun e w' => e = .returned (.string ⟨(le4 (fourW s t)).toArray⟩) ∧ Below w.heap.size w w' := by
  have E := not32 t ht
  have E2 := not32 s hs
  have hr0 : 4294967295 - t < 4294967296 := by omega
  have hs0 : 4294967295 - s < 4294967296 := by omega
  have HW : Hid (fourW s t = undosN 32 (4294967295 - t) ^^^ (4294967295 - s)) := by show _ = _; rfl
  have hl := fourW_lt s t
  generalize fourW s t = Y at *
  generalize 4294967295 - s = s' at *
  generalize 4294967295 - t = t' at *
  go_enter Tryd.func19, Tryd.ntmps19
  go_wp2
  go_loopw [5, 9] (fun a k wr => ∃ j q : Nat, a = .int .u32 q ∧ k = .int .i64 j ∧ j ≤ 4 ∧ q < 4294967296 ∧ undosN (8 * (4 - j)) q = undosN 32 t' ∧ wr = w) (fun _ k _ => (4 - intOf k).toNat)
  case atStart => exact ⟨0, t', rfl, rfl, by omega, hr0, rfl, rfl⟩
  case round =>
    obtain ⟨j, q, rfl, rfl, hj, hq, hx, rfl⟩ := hrel
    by_cases h4 : j < 4
    · have HX : Hid (undosN (8 * (4 - j)) q = undosN 32 t') := hx
      have C : Hid (∀ w : World, Calls Tryd.prog 35 #[.int .u32 (q : Int)] w fun e w' => e = .returned (.int .u32 (undosN 8 q)) ∧ w' = w) := back_any q hq
      have hl' := undos_lt 8 q hq
      have HS : Hid (undosN (8 * (4 - j)) q = undosN (8 * (4 - (j + 1))) (undosN 8 q)) := by show _ = _; rw [← undos_add]; congr 1; omega
      clear hx
      generalize undosN 8 q = q' at *
      go_wp2_with fail
      refine (C.out _).mono ?_
      rintro e w1 ⟨rfl, rfl⟩
      go_wp2
      refine ⟨⟨j + 1, q', rfl, rfl, by omega, hl', ?_, trivial⟩, by simp only [intOf]; omega⟩
      rw [← HX.out, HS.out]
    · obtain rfl : j = 4 := by omega
      have hx' : q = undosN 32 t' := hx
      have EX := u32_xor_nat q s' hq hs0
      have HY : Hid (Y = q ^^^ s') := by show _ = _; rw [hx']; exact HW.out
      rw [← HY.out] at EX
      clear hx hx' HW E
      have y1 : ((UInt8.ofNat (Y % 256)).toNat : Int) = (Y : Int) % 256 := by rw [ofNat_byte]; omega
      have y2 : ((UInt8.ofNat (Y / 256 % 256)).toNat : Int) = (Y : Int) / 256 % 256 := by rw [ofNat_byte]; omega
      have y3 : ((UInt8.ofNat (Y / 65536 % 256)).toNat : Int) = (Y : Int) / 65536 % 256 := by rw [ofNat_byte]; omega
      have y4 : ((UInt8.ofNat (Y / 16777216 % 256)).toNat : Int) = (Y : Int) / 16777216 % 256 := by rw [ofNat_byte]; omega
      have y5 : (Y : Int) / 16777216 % 256 = (Y : Int) / 16777216 := by omega
      have HV := conv_four wr (UInt8.ofNat (Y % 256)) (UInt8.ofNat (Y / 256 % 256)) (UInt8.ofNat (Y / 65536 % 256)) (UInt8.ofNat (Y / 16777216 % 256))
      rw [y1, y2, y3, y4, y5] at HV
      clear y1 y2 y3 y4
      go_wp2
      go_ret
      exact ⟨rfl, (Below.refl _ _).alloc (Nat.le_refl _) _⟩
end Go.Proofs.YtabipemlemppjaaDoor
