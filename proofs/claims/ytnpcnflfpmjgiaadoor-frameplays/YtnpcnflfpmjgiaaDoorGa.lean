/- The document's bytes, Sum, Wrong, number: what each answers. -/
import Derived.Test.YtnpcnflfpmjgiaaDoorFs
namespace Go.Proofs.YtnpcnflfpmjgiaaDoor
open Go.RowKit
set_option linter.unusedVariables false
set_option linter.unusedSimpArgs false

theorem rwrong_any (f : Fr) (w : World) : Calls Tryd.prog 38 #[frV f] w fun e w' => e = .returned (.int .i64 (wrong f)) ∧ Below w.heap.size w w' := by
  obtain ⟨k, n, i, b⟩ := f
  unfold frV
  have hb : Below w.heap.size w (w.alloc (.cells #[.int .i64 k, .int .u64 n, .int .i64 i, .string b] 24)) := (Below.refl _ _).alloc (Nat.le_refl _) _
  by_cases h1 : k < 1
  · rw [show wrong ⟨k, n, i, b⟩ = 1 by unfold wrong; rw [if_pos (.inl h1)]]
    go_enter Tryd.func38, Tryd.ntmps38
    go_wp2
    go_ret
    exact ⟨rfl, hb⟩
  · by_cases h2 : 255 < k
    · rw [show wrong ⟨k, n, i, b⟩ = 1 by unfold wrong; rw [if_pos (.inr (.inl h2))]]
      go_enter Tryd.func38, Tryd.ntmps38
      go_wp2
      go_ret
      exact ⟨rfl, hb⟩
    · by_cases h3 : i < 0
      · rw [show wrong ⟨k, n, i, b⟩ = 1 by unfold wrong; rw [if_pos (.inr (.inr (.inl h3)))]]
        go_enter Tryd.func38, Tryd.ntmps38
        go_wp2
        go_ret
        exact ⟨rfl, hb⟩
      · by_cases h4 : 2147483647 < i
        · rw [show wrong ⟨k, n, i, b⟩ = 1 by unfold wrong; rw [if_pos (.inr (.inr (.inr h4)))]]
          go_enter Tryd.func38, Tryd.ntmps38
          go_wp2
          go_ret
          exact ⟨rfl, hb⟩
        · have hn : ¬ (k < 1 ∨ 255 < k ∨ i < 0 ∨ 2147483647 < i) := by omega
          by_cases h5 : 491 < b.size
          · rw [show wrong ⟨k, n, i, b⟩ = 2 by unfold wrong; rw [if_neg hn, if_pos h5]]
            have h5' : (491 : Int) < (b.size : Int) := by omega
            go_enter Tryd.func38, Tryd.ntmps38
            go_wp2
            go_ret
            exact ⟨rfl, hb⟩
          · rw [show wrong ⟨k, n, i, b⟩ = 0 by unfold wrong; rw [if_neg hn, if_neg h5]]
            have h5' : ¬ (491 : Int) < (b.size : Int) := by omega
            go_enter Tryd.func38, Tryd.ntmps38
            go_wp2
            go_ret
            exact ⟨rfl, hb⟩
theorem beB_succ (n i : Nat) : markB (n / 256 ^ i % 256) ++ beB n i = beB n (i + 1) := by
  apply ByteArray.ext
  unfold markB beB
  rw [ByteArray.data_append]
  apply Array.ext'
  simp [beL]
set_option maxHeartbeats 1000000 in
set_option maxRecDepth 100000 in
theorem rbytes_any (n k : Nat) (hn : n < 18446744073709551616) (hk8 : k ≤ 8) (w : World) : Calls Tryd.prog 39 #[.int .u64 n, .int .i64 k] w fun e w' => e = .returned (.string (beB n k)) ∧ Below w.heap.size w w' := by
  go_enter Tryd.func39, Tryd.ntmps39
  go_wp2
  go_loopw [0, 5, 6] (fun a t u w4 => ∃ i q : Nat, i ≤ k ∧ a = .int .u64 q ∧ q = n / 256 ^ i ∧ t = .string (beB n i) ∧ u = .int .i64 i ∧ Below w.heap.size w w4) (fun _ _ u _ => k - (intOf u).toNat)
  case atStart => exact ⟨0, n, Nat.zero_le _, rfl, by simp, rfl, rfl, Below.refl _ _⟩
  case round =>
    obtain ⟨i, q, hi, rfl, hq, rfl, rfl, hB⟩ := hrel
    by_cases hlt : i < k
    · have hlt' : (i : Int) < (k : Int) := by omega
      have CV : (convert 58 9 (.slice (some ⟨wr.heap.size, 0, none⟩) 1 1)).run Tryd.prog (wr.alloc (.cells #[.int .u8 ((q : Int) % 256)] 5)) = .ok (.string (markB (q % 256))) (wr.alloc (.cells #[.int .u8 ((q : Int) % 256)] 5)) := by
        have := conv_mark wr (q % 256) (by omega)
        rw [show ((q % 256 : Nat) : Int) = (q : Int) % 256 by omega] at this
        exact this
      have HQ : Hid (q / 256 = n / 256 ^ (i + 1)) := by show _ = _; rw [hq, Nat.div_div_eq_div_mul, Nat.pow_succ]
      have HS : Hid (markB (q % 256) ++ beB n i = beB n (i + 1)) := by show _ = _; rw [hq]; exact beB_succ n i
      have z1 : (markB (q % 256)).size = 1 := rfl
      have z2 := beB_size n i
      have z3 : i ≤ 8 := by omega
      have W1 : IntKind.u8.wrap ((q : Int) % 256) = (q : Int) % 256 := by rw [IntKind.wrap_u8]; omega
      have hqn : q ≤ n := by rw [hq]; exact Nat.div_le_self _ _
      have W2 : IntKind.u64.wrap ((q : Int) / 256) = (q : Int) / 256 := by rw [IntKind.wrap_u64]; omega
      generalize markB (q % 256) = M at *
      generalize hBi : beB n i = Bi at *
      clear hBi hq hn hqn
      have hb1 : Below w.heap.size w (wr.alloc (.cells #[.int .u8 ((q : Int) % 256)] 5)) := hB.alloc hB.size _
      go_wp2_with fail
      refine ⟨⟨i + 1, q / 256, by omega, by go_num, HQ.out, by rw [← HS.out], by go_num, hb1⟩, by simp [intOf]; omega⟩
    · obtain rfl : i = k := by omega
      have hlt' : ¬ (i : Int) < (i : Int) := by omega
      clear hq hn
      go_wp2
      go_ret
      exact ⟨rfl, hB⟩
theorem le4_be (n : Nat) (h : n < 4294967296) : (beB n 4).extract 3 4 ++ (beB n 4).extract 2 3 ++ (beB n 4).extract 1 2 ++ (beB n 4).extract 0 1 = ⟨(le4 n).toArray⟩ := by
  apply ByteArray.ext
  rw [ByteArray.data_append, ByteArray.data_append, ByteArray.data_append]
  apply Array.ext'
  unfold beB le4
  simp [beL]
set_option maxHeartbeats 1000000 in
set_option maxRecDepth 100000 in
theorem rsum_any (s : ByteArray) (hs : s.size ≤ 9223372036854775807) (w : World) : Calls Tryd.prog 40 #[.string s] w fun e w' => e = .returned (.string (sumB s)) ∧ Below w.heap.size w w' := by
  have C1 : Hid (Calls Tryd.prog 70 #[.int .u32 0, .string s] w fun e w' => e = .returned (.int .u32 (sumN s)) ∧ w' = w) := rmore_any 0 (by decide) s hs w
  have hlt : sumN s < 4294967296 := moreC_lt _ _
  have C2 : Hid (∀ w : World, Calls Tryd.prog 39 #[.int .u64 (sumN s : Int), .int .i64 4] w fun e w' => e = .returned (.string (beB (sumN s) 4)) ∧ Below w.heap.size w w') := rbytes_any (sumN s) 4 (by omega) (by omega)
  have W1 : IntKind.u64.wrap (sumN s : Int) = (sumN s : Int) := by rw [IntKind.wrap_u64]; omega
  have HB : Hid ((beB (sumN s) 4).extract 3 4 ++ (beB (sumN s) 4).extract 2 3 ++ (beB (sumN s) 4).extract 1 2 ++ (beB (sumN s) 4).extract 0 1 = sumB s) := le4_be _ hlt
  have z := beB_size (sumN s) 4
  generalize beB (sumN s) 4 = b at *
  generalize sumB s = S at *
  generalize sumN s = n at *
  go_enter Tryd.func40, Tryd.ntmps40
  go_wp2_with fail
  refine C1.out.mono ?_
  rintro e w1 ⟨rfl, rfl⟩
  go_wp2_with fail
  refine (C2.out _).mono ?_
  rintro e w2 ⟨rfl, hb⟩
  go_wp2_with fail
  go_quiet (fail)
  go_wp2
  go_ret
  exact ⟨by rw [← HB.out]; rfl, ⟨hb.os, hb.tape, hb.output, hb.size, hb.block⟩⟩
set_option maxHeartbeats 1000000 in
theorem rnumber_any (s : ByteArray) (hs : s.size ≤ 8) (w : World) : Calls Tryd.prog 43 #[.string s] w fun e w' => e = .returned (.int .u64 (numN s.data.toList)) ∧ w' = w := by
  go_enter Tryd.func43, Tryd.ntmps43
  go_wp2
  go_loopw [3, 4] (fun a i wr => ∃ p r : Nat, a = .int .u64 r ∧ i = .int .i64 p ∧ p ≤ s.size ∧ r = numN (s.data.toList.take p) ∧ wr = w) (fun _ i _ => (s.size - intOf i).toNat)
  case atStart => exact ⟨0, 0, rfl, rfl, by omega, rfl, rfl⟩
  case round =>
    obtain ⟨p, r, rfl, rfl, hp, hr, rfl⟩ := hrel
    by_cases h : p < s.size
    · have hb := (s[p]).toNat_lt
      have hl : r < 256 ^ p := by
        have := numN_lt (s.data.toList.take p)
        rw [List.length_take, Nat.min_eq_left (by simp; omega)] at this
        rw [hr]; exact this
      have hl7 : r * 256 + 255 < 18446744073709551616 := by
        have h7 : 256 ^ p ≤ 256 ^ 7 := Nat.pow_le_pow_right (by decide) (by omega)
        rw [show (256 : Nat) ^ 7 = 72057594037927936 from rfl] at h7
        omega
      have W : IntKind.u64.wrap (256 * (r : Int) + ((s[p]).toNat : Int)) = ((r * 256 + (s[p]).toNat : Nat) : Int) := by rw [IntKind.wrap_u64]; omega
      have W2 : IntKind.u64.wrap (256 * (r : Int)) = 256 * (r : Int) := by rw [IntKind.wrap_u64]; omega
      have HR : Hid (r * 256 + (s[p]).toNat = numN (s.data.toList.take (p + 1))) := by
        show _ = _
        rw [List.take_succ_eq_append_getElem (by simpa using h), numN_snoc, hr]; rfl
      clear hr hl hl7
      go_wp2_with fail
      exact ⟨⟨p + 1, r * 256 + (s[p]).toNat, by go_num, rfl, by omega, HR.out, trivial⟩, by simp only [intOf]; omega⟩
    · have e2 : s.data.toList.take p = s.data.toList := List.take_of_length_le (by simp; omega)
      rw [e2] at hr
      subst hr
      go_wp2
      go_ret
      exact ⟨rfl, rfl⟩
end Go.Proofs.YtnpcnflfpmjgiaaDoor
