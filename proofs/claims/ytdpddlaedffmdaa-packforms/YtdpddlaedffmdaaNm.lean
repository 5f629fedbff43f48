/- The document's number: it reads what package pack's reads, and refuses what that one gives up with. -/
import Derived.Test.YtdpddlaedffmdaaQi
namespace Go.Proofs.Ytdpddlaedffmdaa
open Go.RowKit
set_option linter.unusedVariables false
set_option linter.unusedSimpArgs false

/-- The number of bytes, seven bits a byte. -/
def vN : List UInt8 → Nat
  | [] => 0
  | c :: r => vN r * 128 + c.toNat % 128
theorem vN_snoc : ∀ (l : List UInt8) (c : UInt8), vN (l ++ [c]) = vN l + c.toNat % 128 * 128 ^ l.length
  | [], c => by simp [vN]
  | d :: r, c => by
    rw [List.cons_append, vN, vN_snoc r c, vN, List.length_cons, Nat.pow_succ, Nat.add_mul, Nat.mul_assoc]; omega
theorem vN_lt : ∀ l : List UInt8, vN l < 128 ^ l.length
  | [] => by simp [vN]
  | c :: r => by have := vN_lt r; rw [vN, List.length_cons, Nat.pow_succ]; omega
theorem vN_drop : ∀ (l : List UInt8) (i : Nat), vN (l.drop i) ≤ vN l
  | l, 0 => by simp
  | [], i + 1 => by simp
  | c :: r, i + 1 => by have := vN_drop r i; rw [List.drop_succ_cons, vN]; omega
theorem numS_skip (l : List UInt8) : ∀ j, j ≤ 9 → j ≤ l.length → (∀ i (h : i < l.length), i < j → ¬ (l[i]).toNat < 128) → numS l 0 0 = numS (l.drop j) j (vN (l.take j))
  | 0, _, _, _ => by simp [vN]
  | j + 1, h9, hl, h => by
    have hj : j < l.length := by omega
    rw [numS_skip l j (by omega) (by omega) (fun i hi hij => h i hi (by omega)), List.drop_eq_getElem_cons hj, numS]
    have hc := h j hj (by omega)
    rw [if_pos (.inl (by omega)), if_pos (.inr (by omega)), if_neg hc, List.take_succ_eq_append_getElem hj, vN_snoc, List.length_take, Nat.min_eq_left (by omega)]
theorem numS_low (l : List UInt8) (j : Nat) (h9 : j ≤ 9) (hj : j < l.length) (h : ∀ i (h : i < l.length), i < j → ¬ (l[i]).toNat < 128) (hc : (l[j]).toNat < 128) :
    numS l 0 0 = if (j = 9 ∧ 1 < (l[j]).toNat) ∨ (0 < j ∧ (l[j]).toNat = 0) then (0, 0, 30) else (vN (l.take (j + 1)), j + 1, 0) := by
  rw [numS_skip l j h9 (by omega) h, List.drop_eq_getElem_cons hj, numS]
  by_cases h1 : j < 9 ∨ (l[j]).toNat ≤ 1
  · rw [if_pos h1]
    by_cases h2 : j = 0 ∨ (l[j]).toNat ≠ 0
    · rw [if_pos h2, if_pos hc, if_neg (by omega), List.take_succ_eq_append_getElem hj, vN_snoc, List.length_take, Nat.min_eq_left (by omega)]
    · rw [if_neg h2, if_pos (by omega)]
  · rw [if_neg h1, if_pos (by omega)]
theorem numS_none (l : List UInt8) (h : ∀ i (h : i < l.length), i < 10 → ¬ (l[i]).toNat < 128) : numS l 0 0 = if l.length < 10 then (0, 0, 3) else (0, 0, 30) := by
  by_cases hl : l.length < 10
  · rw [if_pos hl, numS_skip l l.length (by omega) (Nat.le_refl _) (fun i hi hij => h i hi (by omega)), List.drop_eq_nil_of_le (Nat.le_refl _)]; rfl
  · rw [if_neg hl, numS_skip l 9 (by omega) (by omega) (fun i hi hij => h i hi (by omega)), List.drop_eq_getElem_cons (show 9 < l.length by omega), numS]
    have hc := h 9 (by omega) (by omega)
    rw [if_neg (by omega)]
theorem numR_of {l : List UInt8} {most : Nat} {T : Nat × Nat × Int} (h : numS l 0 0 = T) : numR l most = if T.2.2 ≠ 0 then (0, 0, T.2.2) else if T.1 ≤ most then T else (0, 0, 2) := by
  unfold numR; rw [h]
theorem drop_get (s : ByteArray) (a k : Nat) (h : a + k < s.size) : (s.data.toList.drop a)[k]'(by rw [List.length_drop]; have : s.data.toList.length = s.size := (by simp); omega) = s[a + k] := by
  rw [List.getElem_drop]; rfl
theorem vN_small (l : List UInt8) (j : Nat) (hj : j < l.length) (h9 : j ≤ 9) (hb : j = 9 → (l[j]).toNat ≤ 1) : vN (l.take (j + 1)) < 18446744073709551616 := by
  rw [List.take_succ_eq_append_getElem hj, vN_snoc, List.length_take, Nat.min_eq_left (by omega)]
  have h1 := vN_lt (l.take j)
  rw [List.length_take, Nat.min_eq_left (by omega)] at h1
  by_cases h : j = 9
  · subst h
    have h3 : (l[9]).toNat % 128 * 128 ^ 9 ≤ 1 * 128 ^ 9 := Nat.mul_le_mul_right _ (by have := hb rfl; omega)
    have e : (128 : Nat) ^ 9 = 9223372036854775808 := by decide
    omega
  · have h2 : (128 : Nat) ^ j ≤ 128 ^ 8 := Nat.pow_le_pow_right (by decide) (by omega)
    have h3 : (l[j]).toNat % 128 * 128 ^ j ≤ 127 * 128 ^ 8 := Nat.mul_le_mul (by omega) h2
    have e : (128 : Nat) ^ 8 = 72057594037927936 := by decide
    omega

set_option maxHeartbeats 8000000 in
set_option maxRecDepth 100000 in
theorem rnumber_any (s : ByteArray) (hs : s.size ≤ 140737488351232) (a : Nat) (ha : a ≤ s.size) (most : Nat) (w : World) : Calls Try.prog 69 #[.string s, .int .i64 a, .int .u64 most] w fun e w' =>
    e = .returned (.tuple #[.int .u64 (numR (s.data.toList.drop a) most).1, .int .i64 ((a + (numR (s.data.toList.drop a) most).2.1 : Nat) : Int), .int .i64 (numR (s.data.toList.drop a) most).2.2]) ∧ w' = w := by
  obtain ⟨R, hRd⟩ : ∃ R, R = numR (s.data.toList.drop a) most := ⟨_, rfl⟩
  rw [← hRd]
  have HR : Hid (R = numR (s.data.toList.drop a) most) := hRd
  have HS : Hid (s.size ≤ 140737488351232) := hs
  clear hRd hs
  go_enter Try.func69, Try.ntmps69
  go_wp2
  go_loopw [9, 10] (fun x y wr => ∃ i : Nat, i ≤ 10 ∧ a + i ≤ s.size ∧ y = .int .i64 i ∧ wr = w ∧ ((x = .int .i64 (-1) ∧ ∀ k (h : a + k < s.size), k < i → ¬ (s[a + k]).toNat < 128) ∨ (∃ j : Nat, x = .int .i64 j ∧ i = j + 1 ∧ (∃ h : a + j < s.size, (s[a + j]).toNat < 128) ∧ ∀ k, k < j → ∀ (h : a + k < s.size), ¬ (s[a + k]).toNat < 128))) (fun _ y _ => (10 - intOf y).toNat)
  case atStart => exact ⟨0, by omega, by omega, rfl, rfl, .inl ⟨rfl, fun k h hk => by omega⟩⟩
  case round =>
    obtain ⟨i, hi, his, rfl, rfl, (⟨rfl, hh⟩ | ⟨j, rfl, rfl, ⟨hjs, hcj⟩, hh⟩)⟩ := hrel
    · have HH0 : Hid (∀ k (h : a + k < s.size), k < i → ¬ (s[a + k]).toNat < 128) := hh
      clear hh
      have haiw : IntKind.i64.wrap ((a : Int) + (i : Int)) = (a : Int) + (i : Int) := by rw [IntKind.wrap_i64]; have := HS.out; omega
      by_cases hi10 : i < 10
      · have hi10' : (i : Int) < 10 := by omega
        by_cases hais : a + i < s.size
        · have hais' : (a : Int) + (i : Int) < (s.size : Int) := by omega
          have hbi := (s[a + i]).toNat_lt
          by_cases hlow : (s[a + i]).toNat < 128
          · have hlow' : ((s[a + i]).toNat : Int) < 128 := by omega
            go_wp2
            exact ⟨⟨i + 1, by omega, by omega, rfl, trivial, .inr ⟨i, rfl, rfl, ⟨hais, hlow⟩, fun k hk h => HH0.out k h hk⟩⟩, by simp only [intOf]; omega⟩
          · have hlow' : ¬ ((s[a + i]).toNat : Int) < 128 := by omega
            go_wp2
            exact ⟨⟨i + 1, by omega, by omega, rfl, trivial, .inl ⟨rfl, fun k h hk => by
              by_cases e : k = i
              · subst e; exact hlow
              · exact HH0.out k h (by omega)⟩⟩, by simp only [intOf]; omega⟩
        · have hais' : ¬ (a : Int) + (i : Int) < (s.size : Int) := by omega
          have HH : Hid (∀ k (h : a + k < s.size), k < 10 → ¬ (s[a + k]).toNat < 128) := fun k h _ => HH0.out k h (by omega)
          clear HH0
          have hWs : IntKind.i64.wrap ((s.size : Int) - (a : Int)) = (s.size : Int) - (a : Int) := by rw [IntKind.wrap_i64]; have := HS.out; omega
          have hL : (s.data.toList.drop a).length = s.size - a := by simp
          have hN := numS_none (s.data.toList.drop a) (fun k hk h10 => by
            have hk' : a + k < s.size := by rw [hL] at hk; omega
            rw [drop_get s a k hk']; exact HH.out k hk' h10)
          rw [hL] at hN
          by_cases h10 : s.size - a < 10
          · have h10' : (s.size : Int) - (a : Int) < 10 := by omega
            rw [if_pos h10] at hN
            have HRq : Hid (R = (0, 0, 3)) := by show _ = _; rw [HR.out, numR_of hN]; rfl
            clear hN hL HH
            go_wp2
            all_goals try (exfalso; omega)
            all_goals (
              refine bodyPost_ret (v := .tuple #[.int .u64 0, .int .i64 (a : Int), .int .i64 3]) (by simp [results, Try.results69, go_sem]) rfl ?_
              rw [HRq.out]
              exact ⟨by simp, rfl⟩)
          · have h10' : ¬ (s.size : Int) - (a : Int) < 10 := by omega
            have h10c : decide ((s.size : Int) - (a : Int) < 10) = false := by simp; omega
            rw [if_neg h10] at hN
            have HRq : Hid (R = (0, 0, 30)) := by show _ = _; rw [HR.out, numR_of hN]; rfl
            clear hN hL HH
            go_wp2
            all_goals try (exfalso; omega)
            all_goals (
              refine bodyPost_ret (v := .tuple #[.int .u64 0, .int .i64 (a : Int), .int .i64 30]) (by simp [results, Try.results69, go_sem]) rfl ?_
              rw [HRq.out]
              exact ⟨by simp, rfl⟩)
      · have hi10' : ¬ (i : Int) < 10 := by omega
        have HH : Hid (∀ k (h : a + k < s.size), k < 10 → ¬ (s[a + k]).toNat < 128) := fun k h h10 => HH0.out k h (by omega)
        clear HH0
        have hWs : IntKind.i64.wrap ((s.size : Int) - (a : Int)) = (s.size : Int) - (a : Int) := by rw [IntKind.wrap_i64]; have := HS.out; omega
        have hL : (s.data.toList.drop a).length = s.size - a := by simp
        have hN := numS_none (s.data.toList.drop a) (fun k hk h10 => by
          have hk' : a + k < s.size := by rw [hL] at hk; omega
          rw [drop_get s a k hk']; exact HH.out k hk' h10)
        rw [hL] at hN
        by_cases h10 : s.size - a < 10
        · have h10' : (s.size : Int) - (a : Int) < 10 := by omega
          rw [if_pos h10] at hN
          have HRq : Hid (R = (0, 0, 3)) := by show _ = _; rw [HR.out, numR_of hN]; rfl
          clear hN hL HH
          go_wp2
          all_goals try (exfalso; omega)
          all_goals (
            refine bodyPost_ret (v := .tuple #[.int .u64 0, .int .i64 (a : Int), .int .i64 3]) (by simp [results, Try.results69, go_sem]) rfl ?_
            rw [HRq.out]
            exact ⟨by simp, rfl⟩)
        · have h10' : ¬ (s.size : Int) - (a : Int) < 10 := by omega
          have h10c : decide ((s.size : Int) - (a : Int) < 10) = false := by simp; omega
          rw [if_neg h10] at hN
          have HRq : Hid (R = (0, 0, 30)) := by show _ = _; rw [HR.out, numR_of hN]; rfl
          clear hN hL HH
          go_wp2
          all_goals try (exfalso; omega)
          all_goals (
            refine bodyPost_ret (v := .tuple #[.int .u64 0, .int .i64 (a : Int), .int .i64 30]) (by simp [results, Try.results69, go_sem]) rfl ?_
            rw [HRq.out]
            exact ⟨by simp, rfl⟩)
    · have HH : Hid (∀ k, k < j → ∀ (h : a + k < s.size), ¬ (s[a + k]).toNat < 128) := hh
      clear hh
      have hjp : IntKind.i64.wrap ((a : Int) + ((j : Int) + 1)) = (a : Int) + ((j : Int) + 1) := by rw [IntKind.wrap_i64]; have := HS.out; omega
      by_cases hi10 : j + 1 < 10
      · have hi10' : (j : Int) + 1 < 10 := by omega
        by_cases hais : a + (j + 1) < s.size
        · have hais' : (a : Int) + ((j : Int) + 1) < (s.size : Int) := by omega
          have hjL : j < (s.data.toList.drop a).length := by simp; omega
          have hgj : (s.data.toList.drop a)[j] = s[a + j] := drop_get s a j hjs
          have hN := numS_low (s.data.toList.drop a) j (by omega) hjL (fun k hk hkj => by
            have hk' : a + k < s.size := by omega
            rw [drop_get s a k hk']; exact HH.out k hkj hk') (by rw [hgj]; exact hcj)
          rw [hgj] at hN
          have hsm : (j = 9 → (s[a + j]).toNat ≤ 1) → vN ((s.data.toList.drop a).take (j + 1)) < 18446744073709551616 := fun hb => vN_small (s.data.toList.drop a) j hjL (by omega) (by rw [hgj]; exact hb)
          have HNX : Hid (∀ i : Nat, i ≤ j → ∃ h : a + i < s.size, vN (((s.data.toList.drop a).take (j + 1)).drop i) = vN (((s.data.toList.drop a).take (j + 1)).drop (i + 1)) * 128 + (s[a + i]).toNat % 128) := by
            show ∀ i : Nat, _
            intro i hij
            refine ⟨by omega, ?_⟩
            have h1 : i < ((s.data.toList.drop a).take (j + 1)).length := by rw [List.length_take]; omega
            rw [List.drop_eq_getElem_cons h1, vN, List.getElem_take, drop_get s a i (by omega)]
          have HND : Hid (∀ i : Nat, vN (((s.data.toList.drop a).take (j + 1)).drop i) ≤ vN ((s.data.toList.drop a).take (j + 1))) := vN_drop _
          have HNE : Hid (vN (((s.data.toList.drop a).take (j + 1)).drop (j + 1)) = 0) := by
            show _ = _
            rw [List.drop_eq_nil_of_le (by rw [List.length_take]; omega)]; rfl
          have HN0 : Hid (vN (((s.data.toList.drop a).take (j + 1)).drop 0) = vN ((s.data.toList.drop a).take (j + 1))) := by show _ = _; simp
          have hbj := (s[a + j]).toNat_lt
          have hj0 : ¬ (j : Int) < 0 := by omega
          have hajs : (a : Int) + (j : Int) < (s.size : Int) := by omega
          have haj : IntKind.i64.wrap ((a : Int) + (j : Int)) = (a : Int) + (j : Int) := by rw [IntKind.wrap_i64]; have := HS.out; omega
          by_cases hz : 0 < j ∧ (s[a + j]).toNat = 0
          · have HRq : Hid (R = (0, 0, 30)) := by
              show _ = _
              rw [if_pos (Or.inr hz)] at hN
              rw [HR.out, numR_of hN]; rfl
            have hz1 : ((s[a + j]).toNat : Int) = 0 := by omega
            have hz2 : (0 : Int) < (j : Int) := by omega
            clear hN hsm HNX HND HNE HN0 hgj hjL
            go_wp2
            all_goals try (exfalso; omega)
            all_goals (
              refine bodyPost_ret (v := .tuple #[.int .u64 0, .int .i64 (a : Int), .int .i64 30]) (by simp [results, Try.results69, go_sem]) rfl ?_
              rw [HRq.out]
              exact ⟨by simp, rfl⟩)
          · by_cases h9 : j = 9 ∧ 1 < (s[a + j]).toNat
            · have HRq : Hid (R = (0, 0, 30)) := by
                show _ = _
                rw [if_pos (Or.inl h9)] at hN
                rw [HR.out, numR_of hN]; rfl
              obtain ⟨rfl, hz1⟩ := h9
              have hajs9 : (a : Int) + 9 < (s.size : Int) := by omega
              have haj9 : IntKind.i64.wrap ((a : Int) + 9) = (a : Int) + 9 := by rw [IntKind.wrap_i64]; have := HS.out; omega
              have hz2 : ((s[a + 9]).toNat == 0) = false := by simp; omega
              have hz3 : (1 : Int) < ((s[a + 9]).toNat : Int) := by omega
              have hz4 : (((s[a + 9]).toNat : Int) == 0) = false := by simp; omega
              clear hN hsm HNX HND HNE HN0 hgj hjL
              go_wp2
              all_goals try (exfalso; omega)
              all_goals (
                refine bodyPost_ret (v := .tuple #[.int .u64 0, .int .i64 (a : Int), .int .i64 30]) (by simp [results, Try.results69, go_sem]) rfl ?_
                rw [HRq.out]
                exact ⟨by simp, rfl⟩)
            · rw [if_neg (by omega)] at hN
              have hV := hsm (fun e => by omega)
              obtain ⟨V, hVd⟩ : ∃ V, vN ((s.data.toList.drop a).take (j + 1)) = V := ⟨_, rfl⟩
              rw [hVd] at hN hV
              have HV : Hid (V < 18446744073709551616) := hV
              have HVD : Hid (vN ((s.data.toList.drop a).take (j + 1)) = V) := hVd
              have HRR : Hid (R = if V ≤ most then (V, j + 1, 0) else (0, 0, 2)) := by show _ = _; rw [HR.out, numR_of hN]; simp
              have hza : ((((s[a + j]).toNat : Int) == 0) && decide (0 < (j : Int))) = false := by
                by_cases h0 : (s[a + j]).toNat = 0
                · have : j = 0 := by omega
                  subst this; simp
                · have : (((s[a + j]).toNat : Int) == 0) = false := by simp; omega
                  rw [this]; rfl
              clear hN hsm hgj hjL hV hVd
              by_cases h0 : (s[a + j]).toNat = 0
              · have HJ0 : Hid (j = 0) := by show _ = _; omega
                have hzb : (((s[a + j]).toNat : Int) == 0) = true := by simp [h0]
                have hj01 : decide ((0 : Int) < (j : Int)) = false := by simp; omega
                have hj9 : ((j : Int) == 9) = false := by simp; omega
                have hWa : IntKind.i64.wrap (a : Int) = (a : Int) := by rw [IntKind.wrap_i64]; have := HS.out; omega
                have hWa1 : IntKind.i64.wrap ((a : Int) + 1) = (a : Int) + 1 := by rw [IntKind.wrap_i64]; have := HS.out; omega
                clear hza h0
                go_wp2
                go_loopw [11, 12] (fun x y wq => ∃ i : Nat, i ≤ j + 1 ∧ y = .int .i64 ((i : Int) - 1) ∧ x = .int .u64 ((vN (((s.data.toList.drop a).take (j + 1)).drop i) : Nat) : Int) ∧ wq = wr) (fun _ y _ => (1 + intOf y).toNat)
                case atStart => exact ⟨j + 1, by omega, congrArg (Value.int .i64) (by omega), by rw [HNE.out]; rfl, rfl⟩
                case round =>
                  obtain ⟨i, hij, rfl, rfl, rfl⟩ := hrel
                  by_cases hi0 : i = 0
                  · subst hi0
                    rw [HN0.out, HVD.out]
                    by_cases hm : V ≤ most
                    · have hm' : ¬ (most : Int) < (V : Int) := by omega
                      have HRq : Hid (R = (V, j + 1, 0)) := by show _ = _; rw [HRR.out, if_pos hm]
                      have hW1 : IntKind.i64.wrap ((a : Int) + (j : Int) + 1) = (a : Int) + (j : Int) + 1 := by rw [IntKind.wrap_i64]; have := HS.out; omega
                      clear HRR HNX HND HNE HN0
                      go_wp2
                      all_goals try (exfalso; omega)
                      all_goals (
                        refine bodyPost_ret (v := .tuple #[.int .u64 (V : Int), .int .i64 ((a : Int) + (j : Int) + 1), .int .i64 0]) (by simp [results, Try.results69, go_sem]; have := HJ0.out; omega) rfl ?_
                        rw [HRq.out]
                        exact ⟨by simp; omega, rfl⟩)
                    · have hm' : (most : Int) < (V : Int) := by omega
                      have HRq : Hid (R = (0, 0, 2)) := by show _ = _; rw [HRR.out, if_neg hm]
                      clear HRR HNX HND HNE HN0
                      go_wp2
                      all_goals try (exfalso; omega)
                      all_goals (
                        refine bodyPost_ret (v := .tuple #[.int .u64 0, .int .i64 (a : Int), .int .i64 2]) (by simp [results, Try.results69, go_sem]) rfl ?_
                        rw [HRq.out]
                        exact ⟨by simp, rfl⟩)
                  · obtain ⟨k, rfl⟩ : ∃ k, i = k + 1 := ⟨i - 1, by omega⟩
                    obtain ⟨hk, hstep⟩ := HNX.out k (by omega)
                    have hd0 := HND.out k
                    have hd1 := HND.out (k + 1)
                    rw [HVD.out] at hd0 hd1
                    have hlt := HV.out
                    have HST : Hid (vN (((s.data.toList.drop a).take (j + 1)).drop k) = vN (((s.data.toList.drop a).take (j + 1)).drop (k + 1)) * 128 + (s[a + k]).toNat % 128) := hstep
                    obtain ⟨X, hX⟩ : ∃ X, vN (((s.data.toList.drop a).take (j + 1)).drop (k + 1)) = X := ⟨_, rfl⟩
                    rw [hX] at hstep
                    have hbk := (s[a + k]).toNat_lt
                    have hks : (a : Int) + (k : Int) < (s.size : Int) := by omega
                    have hkw : IntKind.i64.wrap ((a : Int) + (k : Int)) = (a : Int) + (k : Int) := by rw [IntKind.wrap_i64]; have := HS.out; omega
                    have e1 : ((k + 1 : Nat) : Int) - 1 = (k : Int) := by omega
                    have hW1 : IntKind.u64.wrap ((X : Int) * 128) = (X : Int) * 128 := by rw [IntKind.wrap_u64]; omega
                    have hW2 : IntKind.u64.wrap ((X : Int) * 128 + ((s[a + k]).toNat : Int) % 128) = (X : Int) * 128 + ((s[a + k]).toNat : Int) % 128 := by rw [IntKind.wrap_u64]; omega
                    have hW3 : IntKind.u64.wrap (((s[a + k]).toNat : Int) % 128) = ((s[a + k]).toNat : Int) % 128 := by rw [IntKind.wrap_u64]; omega
                    have HX : Hid (vN (((s.data.toList.drop a).take (j + 1)).drop (k + 1)) = X) := hX
                    rw [hX, e1]
                    clear hX hstep hd0 hd1 hlt e1
                    go_wp2
                    exact ⟨⟨k, by omega, rfl, congrArg (Value.int .u64) (by rw [HST.out, HX.out]; omega), trivial⟩, by simp only [intOf]; omega⟩
              · have hzb : (((s[a + j]).toNat : Int) == 0) = false := by simp; omega
                have hj9' : ((j : Int) == 9) = false := by simp; omega
                clear hza
                go_wp2
                go_loopw [11, 12] (fun x y wq => ∃ i : Nat, i ≤ j + 1 ∧ y = .int .i64 ((i : Int) - 1) ∧ x = .int .u64 ((vN (((s.data.toList.drop a).take (j + 1)).drop i) : Nat) : Int) ∧ wq = wr) (fun _ y _ => (1 + intOf y).toNat)
                case atStart => exact ⟨j + 1, by omega, congrArg (Value.int .i64) (by omega), by rw [HNE.out]; rfl, rfl⟩
                case round =>
                  obtain ⟨i, hij, rfl, rfl, rfl⟩ := hrel
                  by_cases hi0 : i = 0
                  · subst hi0
                    rw [HN0.out, HVD.out]
                    by_cases hm : V ≤ most
                    · have hm' : ¬ (most : Int) < (V : Int) := by omega
                      have HRq : Hid (R = (V, j + 1, 0)) := by show _ = _; rw [HRR.out, if_pos hm]
                      have hW1 : IntKind.i64.wrap ((a : Int) + (j : Int) + 1) = (a : Int) + (j : Int) + 1 := by rw [IntKind.wrap_i64]; have := HS.out; omega
                      clear HRR HNX HND HNE HN0
                      go_wp2
                      all_goals try (exfalso; omega)
                      all_goals (
                        refine bodyPost_ret (v := .tuple #[.int .u64 (V : Int), .int .i64 ((a : Int) + (j : Int) + 1), .int .i64 0]) (by simp [results, Try.results69, go_sem]) rfl ?_
                        rw [HRq.out]
                        exact ⟨by simp; omega, rfl⟩)
                    · have hm' : (most : Int) < (V : Int) := by omega
                      have HRq : Hid (R = (0, 0, 2)) := by show _ = _; rw [HRR.out, if_neg hm]
                      clear HRR HNX HND HNE HN0
                      go_wp2
                      all_goals try (exfalso; omega)
                      all_goals (
                        refine bodyPost_ret (v := .tuple #[.int .u64 0, .int .i64 (a : Int), .int .i64 2]) (by simp [results, Try.results69, go_sem]) rfl ?_
                        rw [HRq.out]
                        exact ⟨by simp, rfl⟩)
                  · obtain ⟨k, rfl⟩ : ∃ k, i = k + 1 := ⟨i - 1, by omega⟩
                    obtain ⟨hk, hstep⟩ := HNX.out k (by omega)
                    have hd0 := HND.out k
                    have hd1 := HND.out (k + 1)
                    rw [HVD.out] at hd0 hd1
                    have hlt := HV.out
                    have HST : Hid (vN (((s.data.toList.drop a).take (j + 1)).drop k) = vN (((s.data.toList.drop a).take (j + 1)).drop (k + 1)) * 128 + (s[a + k]).toNat % 128) := hstep
                    obtain ⟨X, hX⟩ : ∃ X, vN (((s.data.toList.drop a).take (j + 1)).drop (k + 1)) = X := ⟨_, rfl⟩
                    rw [hX] at hstep
                    have hbk := (s[a + k]).toNat_lt
                    have hks : (a : Int) + (k : Int) < (s.size : Int) := by omega
                    have hkw : IntKind.i64.wrap ((a : Int) + (k : Int)) = (a : Int) + (k : Int) := by rw [IntKind.wrap_i64]; have := HS.out; omega
                    have e1 : ((k + 1 : Nat) : Int) - 1 = (k : Int) := by omega
                    have hW1 : IntKind.u64.wrap ((X : Int) * 128) = (X : Int) * 128 := by rw [IntKind.wrap_u64]; omega
                    have hW2 : IntKind.u64.wrap ((X : Int) * 128 + ((s[a + k]).toNat : Int) % 128) = (X : Int) * 128 + ((s[a + k]).toNat : Int) % 128 := by rw [IntKind.wrap_u64]; omega
                    have hW3 : IntKind.u64.wrap (((s[a + k]).toNat : Int) % 128) = ((s[a + k]).toNat : Int) % 128 := by rw [IntKind.wrap_u64]; omega
                    have HX : Hid (vN (((s.data.toList.drop a).take (j + 1)).drop (k + 1)) = X) := hX
                    rw [hX, e1]
                    clear hX hstep hd0 hd1 hlt e1
                    go_wp2
                    exact ⟨⟨k, by omega, rfl, congrArg (Value.int .u64) (by rw [HST.out, HX.out]; omega), trivial⟩, by simp only [intOf]; omega⟩
        · have hais' : ¬ (a : Int) + ((j : Int) + 1) < (s.size : Int) := by omega
          have hjL : j < (s.data.toList.drop a).length := by simp; omega
          have hgj : (s.data.toList.drop a)[j] = s[a + j] := drop_get s a j hjs
          have hN := numS_low (s.data.toList.drop a) j (by omega) hjL (fun k hk hkj => by
            have hk' : a + k < s.size := by omega
            rw [drop_get s a k hk']; exact HH.out k hkj hk') (by rw [hgj]; exact hcj)
          rw [hgj] at hN
          have hsm : (j = 9 → (s[a + j]).toNat ≤ 1) → vN ((s.data.toList.drop a).take (j + 1)) < 18446744073709551616 := fun hb => vN_small (s.data.toList.drop a) j hjL (by omega) (by rw [hgj]; exact hb)
          have HNX : Hid (∀ i : Nat, i ≤ j → ∃ h : a + i < s.size, vN (((s.data.toList.drop a).take (j + 1)).drop i) = vN (((s.data.toList.drop a).take (j + 1)).drop (i + 1)) * 128 + (s[a + i]).toNat % 128) := by
            show ∀ i : Nat, _
            intro i hij
            refine ⟨by omega, ?_⟩
            have h1 : i < ((s.data.toList.drop a).take (j + 1)).length := by rw [List.length_take]; omega
            rw [List.drop_eq_getElem_cons h1, vN, List.getElem_take, drop_get s a i (by omega)]
          have HND : Hid (∀ i : Nat, vN (((s.data.toList.drop a).take (j + 1)).drop i) ≤ vN ((s.data.toList.drop a).take (j + 1))) := vN_drop _
          have HNE : Hid (vN (((s.data.toList.drop a).take (j + 1)).drop (j + 1)) = 0) := by
            show _ = _
            rw [List.drop_eq_nil_of_le (by rw [List.length_take]; omega)]; rfl
          have HN0 : Hid (vN (((s.data.toList.drop a).take (j + 1)).drop 0) = vN ((s.data.toList.drop a).take (j + 1))) := by show _ = _; simp
          have hbj := (s[a + j]).toNat_lt
          have hj0 : ¬ (j : Int) < 0 := by omega
          have hajs : (a : Int) + (j : Int) < (s.size : Int) := by omega
          have haj : IntKind.i64.wrap ((a : Int) + (j : Int)) = (a : Int) + (j : Int) := by rw [IntKind.wrap_i64]; have := HS.out; omega
          by_cases hz : 0 < j ∧ (s[a + j]).toNat = 0
          · have HRq : Hid (R = (0, 0, 30)) := by
              show _ = _
              rw [if_pos (Or.inr hz)] at hN
              rw [HR.out, numR_of hN]; rfl
            have hz1 : ((s[a + j]).toNat : Int) = 0 := by omega
            have hz2 : (0 : Int) < (j : Int) := by omega
            clear hN hsm HNX HND HNE HN0 hgj hjL
            go_wp2
            all_goals try (exfalso; omega)
            all_goals (
              refine bodyPost_ret (v := .tuple #[.int .u64 0, .int .i64 (a : Int), .int .i64 30]) (by simp [results, Try.results69, go_sem]) rfl ?_
              rw [HRq.out]
              exact ⟨by simp, rfl⟩)
          · by_cases h9 : j = 9 ∧ 1 < (s[a + j]).toNat
            · have HRq : Hid (R = (0, 0, 30)) := by
                show _ = _
                rw [if_pos (Or.inl h9)] at hN
                rw [HR.out, numR_of hN]; rfl
              obtain ⟨rfl, hz1⟩ := h9
              have hajs9 : (a : Int) + 9 < (s.size : Int) := by omega
              have haj9 : IntKind.i64.wrap ((a : Int) + 9) = (a : Int) + 9 := by rw [IntKind.wrap_i64]; have := HS.out; omega
              have hz2 : ((s[a + 9]).toNat == 0) = false := by simp; omega
              have hz3 : (1 : Int) < ((s[a + 9]).toNat : Int) := by omega
              have hz4 : (((s[a + 9]).toNat : Int) == 0) = false := by simp; omega
              clear hN hsm HNX HND HNE HN0 hgj hjL
              go_wp2
              all_goals try (exfalso; omega)
              all_goals (
                refine bodyPost_ret (v := .tuple #[.int .u64 0, .int .i64 (a : Int), .int .i64 30]) (by simp [results, Try.results69, go_sem]) rfl ?_
                rw [HRq.out]
                exact ⟨by simp, rfl⟩)
            · rw [if_neg (by omega)] at hN
              have hV := hsm (fun e => by omega)
              obtain ⟨V, hVd⟩ : ∃ V, vN ((s.data.toList.drop a).take (j + 1)) = V := ⟨_, rfl⟩
              rw [hVd] at hN hV
              have HV : Hid (V < 18446744073709551616) := hV
              have HVD : Hid (vN ((s.data.toList.drop a).take (j + 1)) = V) := hVd
              have HRR : Hid (R = if V ≤ most then (V, j + 1, 0) else (0, 0, 2)) := by show _ = _; rw [HR.out, numR_of hN]; simp
              have hza : ((((s[a + j]).toNat : Int) == 0) && decide (0 < (j : Int))) = false := by
                by_cases h0 : (s[a + j]).toNat = 0
                · have : j = 0 := by omega
                  subst this; simp
                · have : (((s[a + j]).toNat : Int) == 0) = false := by simp; omega
                  rw [this]; rfl
              clear hN hsm hgj hjL hV hVd
              by_cases h0 : (s[a + j]).toNat = 0
              · have HJ0 : Hid (j = 0) := by show _ = _; omega
                have hzb : (((s[a + j]).toNat : Int) == 0) = true := by simp [h0]
                have hj01 : decide ((0 : Int) < (j : Int)) = false := by simp; omega
                have hj9 : ((j : Int) == 9) = false := by simp; omega
                have hWa : IntKind.i64.wrap (a : Int) = (a : Int) := by rw [IntKind.wrap_i64]; have := HS.out; omega
                have hWa1 : IntKind.i64.wrap ((a : Int) + 1) = (a : Int) + 1 := by rw [IntKind.wrap_i64]; have := HS.out; omega
                clear hza h0
                go_wp2
                go_loopw [11, 12] (fun x y wq => ∃ i : Nat, i ≤ j + 1 ∧ y = .int .i64 ((i : Int) - 1) ∧ x = .int .u64 ((vN (((s.data.toList.drop a).take (j + 1)).drop i) : Nat) : Int) ∧ wq = wr) (fun _ y _ => (1 + intOf y).toNat)
                case atStart => exact ⟨j + 1, by omega, congrArg (Value.int .i64) (by omega), by rw [HNE.out]; rfl, rfl⟩
                case round =>
                  obtain ⟨i, hij, rfl, rfl, rfl⟩ := hrel
                  by_cases hi0 : i = 0
                  · subst hi0
                    rw [HN0.out, HVD.out]
                    by_cases hm : V ≤ most
                    · have hm' : ¬ (most : Int) < (V : Int) := by omega
                      have HRq : Hid (R = (V, j + 1, 0)) := by show _ = _; rw [HRR.out, if_pos hm]
                      have hW1 : IntKind.i64.wrap ((a : Int) + (j : Int) + 1) = (a : Int) + (j : Int) + 1 := by rw [IntKind.wrap_i64]; have := HS.out; omega
                      clear HRR HNX HND HNE HN0
                      go_wp2
                      all_goals try (exfalso; omega)
                      all_goals (
                        refine bodyPost_ret (v := .tuple #[.int .u64 (V : Int), .int .i64 ((a : Int) + (j : Int) + 1), .int .i64 0]) (by simp [results, Try.results69, go_sem]; have := HJ0.out; omega) rfl ?_
                        rw [HRq.out]
                        exact ⟨by simp; omega, rfl⟩)
                    · have hm' : (most : Int) < (V : Int) := by omega
                      have HRq : Hid (R = (0, 0, 2)) := by show _ = _; rw [HRR.out, if_neg hm]
                      clear HRR HNX HND HNE HN0
                      go_wp2
                      all_goals try (exfalso; omega)
                      all_goals (
                        refine bodyPost_ret (v := .tuple #[.int .u64 0, .int .i64 (a : Int), .int .i64 2]) (by simp [results, Try.results69, go_sem]) rfl ?_
                        rw [HRq.out]
                        exact ⟨by simp, rfl⟩)
                  · obtain ⟨k, rfl⟩ : ∃ k, i = k + 1 := ⟨i - 1, by omega⟩
                    obtain ⟨hk, hstep⟩ := HNX.out k (by omega)
                    have hd0 := HND.out k
                    have hd1 := HND.out (k + 1)
                    rw [HVD.out] at hd0 hd1
                    have hlt := HV.out
                    have HST : Hid (vN (((s.data.toList.drop a).take (j + 1)).drop k) = vN (((s.data.toList.drop a).take (j + 1)).drop (k + 1)) * 128 + (s[a + k]).toNat % 128) := hstep
                    obtain ⟨X, hX⟩ : ∃ X, vN (((s.data.toList.drop a).take (j + 1)).drop (k + 1)) = X := ⟨_, rfl⟩
                    rw [hX] at hstep
                    have hbk := (s[a + k]).toNat_lt
                    have hks : (a : Int) + (k : Int) < (s.size : Int) := by omega
                    have hkw : IntKind.i64.wrap ((a : Int) + (k : Int)) = (a : Int) + (k : Int) := by rw [IntKind.wrap_i64]; have := HS.out; omega
                    have e1 : ((k + 1 : Nat) : Int) - 1 = (k : Int) := by omega
                    have hW1 : IntKind.u64.wrap ((X : Int) * 128) = (X : Int) * 128 := by rw [IntKind.wrap_u64]; omega
                    have hW2 : IntKind.u64.wrap ((X : Int) * 128 + ((s[a + k]).toNat : Int) % 128) = (X : Int) * 128 + ((s[a + k]).toNat : Int) % 128 := by rw [IntKind.wrap_u64]; omega
                    have hW3 : IntKind.u64.wrap (((s[a + k]).toNat : Int) % 128) = ((s[a + k]).toNat : Int) % 128 := by rw [IntKind.wrap_u64]; omega
                    have HX : Hid (vN (((s.data.toList.drop a).take (j + 1)).drop (k + 1)) = X) := hX
                    rw [hX, e1]
                    clear hX hstep hd0 hd1 hlt e1
                    go_wp2
                    exact ⟨⟨k, by omega, rfl, congrArg (Value.int .u64) (by rw [HST.out, HX.out]; omega), trivial⟩, by simp only [intOf]; omega⟩
              · have hzb : (((s[a + j]).toNat : Int) == 0) = false := by simp; omega
                have hj9' : ((j : Int) == 9) = false := by simp; omega
                clear hza
                go_wp2
                go_loopw [11, 12] (fun x y wq => ∃ i : Nat, i ≤ j + 1 ∧ y = .int .i64 ((i : Int) - 1) ∧ x = .int .u64 ((vN (((s.data.toList.drop a).take (j + 1)).drop i) : Nat) : Int) ∧ wq = wr) (fun _ y _ => (1 + intOf y).toNat)
                case atStart => exact ⟨j + 1, by omega, congrArg (Value.int .i64) (by omega), by rw [HNE.out]; rfl, rfl⟩
                case round =>
                  obtain ⟨i, hij, rfl, rfl, rfl⟩ := hrel
                  by_cases hi0 : i = 0
                  · subst hi0
                    rw [HN0.out, HVD.out]
                    by_cases hm : V ≤ most
                    · have hm' : ¬ (most : Int) < (V : Int) := by omega
                      have HRq : Hid (R = (V, j + 1, 0)) := by show _ = _; rw [HRR.out, if_pos hm]
                      have hW1 : IntKind.i64.wrap ((a : Int) + (j : Int) + 1) = (a : Int) + (j : Int) + 1 := by rw [IntKind.wrap_i64]; have := HS.out; omega
                      clear HRR HNX HND HNE HN0
                      go_wp2
                      all_goals try (exfalso; omega)
                      all_goals (
                        refine bodyPost_ret (v := .tuple #[.int .u64 (V : Int), .int .i64 ((a : Int) + (j : Int) + 1), .int .i64 0]) (by simp [results, Try.results69, go_sem]) rfl ?_
                        rw [HRq.out]
                        exact ⟨by simp; omega, rfl⟩)
                    · have hm' : (most : Int) < (V : Int) := by omega
                      have HRq : Hid (R = (0, 0, 2)) := by show _ = _; rw [HRR.out, if_neg hm]
                      clear HRR HNX HND HNE HN0
                      go_wp2
                      all_goals try (exfalso; omega)
                      all_goals (
                        refine bodyPost_ret (v := .tuple #[.int .u64 0, .int .i64 (a : Int), .int .i64 2]) (by simp [results, Try.results69, go_sem]) rfl ?_
                        rw [HRq.out]
                        exact ⟨by simp, rfl⟩)
                  · obtain ⟨k, rfl⟩ : ∃ k, i = k + 1 := ⟨i - 1, by omega⟩
                    obtain ⟨hk, hstep⟩ := HNX.out k (by omega)
                    have hd0 := HND.out k
                    have hd1 := HND.out (k + 1)
                    rw [HVD.out] at hd0 hd1
                    have hlt := HV.out
                    have HST : Hid (vN (((s.data.toList.drop a).take (j + 1)).drop k) = vN (((s.data.toList.drop a).take (j + 1)).drop (k + 1)) * 128 + (s[a + k]).toNat % 128) := hstep
                    obtain ⟨X, hX⟩ : ∃ X, vN (((s.data.toList.drop a).take (j + 1)).drop (k + 1)) = X := ⟨_, rfl⟩
                    rw [hX] at hstep
                    have hbk := (s[a + k]).toNat_lt
                    have hks : (a : Int) + (k : Int) < (s.size : Int) := by omega
                    have hkw : IntKind.i64.wrap ((a : Int) + (k : Int)) = (a : Int) + (k : Int) := by rw [IntKind.wrap_i64]; have := HS.out; omega
                    have e1 : ((k + 1 : Nat) : Int) - 1 = (k : Int) := by omega
                    have hW1 : IntKind.u64.wrap ((X : Int) * 128) = (X : Int) * 128 := by rw [IntKind.wrap_u64]; omega
                    have hW2 : IntKind.u64.wrap ((X : Int) * 128 + ((s[a + k]).toNat : Int) % 128) = (X : Int) * 128 + ((s[a + k]).toNat : Int) % 128 := by rw [IntKind.wrap_u64]; omega
                    have hW3 : IntKind.u64.wrap (((s[a + k]).toNat : Int) % 128) = ((s[a + k]).toNat : Int) % 128 := by rw [IntKind.wrap_u64]; omega
                    have HX : Hid (vN (((s.data.toList.drop a).take (j + 1)).drop (k + 1)) = X) := hX
                    rw [hX, e1]
                    clear hX hstep hd0 hd1 hlt e1
                    go_wp2
                    exact ⟨⟨k, by omega, rfl, congrArg (Value.int .u64) (by rw [HST.out, HX.out]; omega), trivial⟩, by simp only [intOf]; omega⟩
      · have hi10' : ¬ (j : Int) + 1 < 10 := by omega
        have hjL : j < (s.data.toList.drop a).length := by simp; omega
        have hgj : (s.data.toList.drop a)[j] = s[a + j] := drop_get s a j hjs
        have hN := numS_low (s.data.toList.drop a) j (by omega) hjL (fun k hk hkj => by
          have hk' : a + k < s.size := by omega
          rw [drop_get s a k hk']; exact HH.out k hkj hk') (by rw [hgj]; exact hcj)
        rw [hgj] at hN
        have hsm : (j = 9 → (s[a + j]).toNat ≤ 1) → vN ((s.data.toList.drop a).take (j + 1)) < 18446744073709551616 := fun hb => vN_small (s.data.toList.drop a) j hjL (by omega) (by rw [hgj]; exact hb)
        have HNX : Hid (∀ i : Nat, i ≤ j → ∃ h : a + i < s.size, vN (((s.data.toList.drop a).take (j + 1)).drop i) = vN (((s.data.toList.drop a).take (j + 1)).drop (i + 1)) * 128 + (s[a + i]).toNat % 128) := by
          show ∀ i : Nat, _
          intro i hij
          refine ⟨by omega, ?_⟩
          have h1 : i < ((s.data.toList.drop a).take (j + 1)).length := by rw [List.length_take]; omega
          rw [List.drop_eq_getElem_cons h1, vN, List.getElem_take, drop_get s a i (by omega)]
        have HND : Hid (∀ i : Nat, vN (((s.data.toList.drop a).take (j + 1)).drop i) ≤ vN ((s.data.toList.drop a).take (j + 1))) := vN_drop _
        have HNE : Hid (vN (((s.data.toList.drop a).take (j + 1)).drop (j + 1)) = 0) := by
          show _ = _
          rw [List.drop_eq_nil_of_le (by rw [List.length_take]; omega)]; rfl
        have HN0 : Hid (vN (((s.data.toList.drop a).take (j + 1)).drop 0) = vN ((s.data.toList.drop a).take (j + 1))) := by show _ = _; simp
        have hbj := (s[a + j]).toNat_lt
        have hj0 : ¬ (j : Int) < 0 := by omega
        have hajs : (a : Int) + (j : Int) < (s.size : Int) := by omega
        have haj : IntKind.i64.wrap ((a : Int) + (j : Int)) = (a : Int) + (j : Int) := by rw [IntKind.wrap_i64]; have := HS.out; omega
        by_cases hz : 0 < j ∧ (s[a + j]).toNat = 0
        · have HRq : Hid (R = (0, 0, 30)) := by
            show _ = _
            rw [if_pos (Or.inr hz)] at hN
            rw [HR.out, numR_of hN]; rfl
          have hz1 : ((s[a + j]).toNat : Int) = 0 := by omega
          have hz2 : (0 : Int) < (j : Int) := by omega
          clear hN hsm HNX HND HNE HN0 hgj hjL
          go_wp2
          all_goals try (exfalso; omega)
          all_goals (
            refine bodyPost_ret (v := .tuple #[.int .u64 0, .int .i64 (a : Int), .int .i64 30]) (by simp [results, Try.results69, go_sem]) rfl ?_
            rw [HRq.out]
            exact ⟨by simp, rfl⟩)
        · by_cases h9 : j = 9 ∧ 1 < (s[a + j]).toNat
          · have HRq : Hid (R = (0, 0, 30)) := by
              show _ = _
              rw [if_pos (Or.inl h9)] at hN
              rw [HR.out, numR_of hN]; rfl
            obtain ⟨rfl, hz1⟩ := h9
            have hajs9 : (a : Int) + 9 < (s.size : Int) := by omega
            have haj9 : IntKind.i64.wrap ((a : Int) + 9) = (a : Int) + 9 := by rw [IntKind.wrap_i64]; have := HS.out; omega
            have hz2 : ((s[a + 9]).toNat == 0) = false := by simp; omega
            have hz3 : (1 : Int) < ((s[a + 9]).toNat : Int) := by omega
            have hz4 : (((s[a + 9]).toNat : Int) == 0) = false := by simp; omega
            clear hN hsm HNX HND HNE HN0 hgj hjL
            go_wp2
            all_goals try (exfalso; omega)
            all_goals (
              refine bodyPost_ret (v := .tuple #[.int .u64 0, .int .i64 (a : Int), .int .i64 30]) (by simp [results, Try.results69, go_sem]) rfl ?_
              rw [HRq.out]
              exact ⟨by simp, rfl⟩)
          · rw [if_neg (by omega)] at hN
            have hV := hsm (fun e => by omega)
            obtain ⟨V, hVd⟩ : ∃ V, vN ((s.data.toList.drop a).take (j + 1)) = V := ⟨_, rfl⟩
            rw [hVd] at hN hV
            have HV : Hid (V < 18446744073709551616) := hV
            have HVD : Hid (vN ((s.data.toList.drop a).take (j + 1)) = V) := hVd
            have HRR : Hid (R = if V ≤ most then (V, j + 1, 0) else (0, 0, 2)) := by show _ = _; rw [HR.out, numR_of hN]; simp
            have hza : ((((s[a + j]).toNat : Int) == 0) && decide (0 < (j : Int))) = false := by
              by_cases h0 : (s[a + j]).toNat = 0
              · have : j = 0 := by omega
                subst this; simp
              · have : (((s[a + j]).toNat : Int) == 0) = false := by simp; omega
                rw [this]; rfl
            clear hN hsm hgj hjL hV hVd
            have hc0 : ¬ (s[a + j]).toNat = 0 := by omega
            have hzb : (((s[a + j]).toNat : Int) == 0) = false := by simp; omega
            clear hza
            obtain rfl : j = 9 := by omega
            have hc1 : ¬ (1 : Int) < ((s[a + 9]).toNat : Int) := by omega
            have hajs9 : (a : Int) + 9 < (s.size : Int) := by omega
            have haj9 : IntKind.i64.wrap ((a : Int) + 9) = (a : Int) + 9 := by rw [IntKind.wrap_i64]; have := HS.out; omega
            go_wp2
            go_loopw [11, 12] (fun x y wq => ∃ i : Nat, i ≤ 9 + 1 ∧ y = .int .i64 ((i : Int) - 1) ∧ x = .int .u64 ((vN (((s.data.toList.drop a).take (9 + 1)).drop i) : Nat) : Int) ∧ wq = wr) (fun _ y _ => (1 + intOf y).toNat)
            case atStart => exact ⟨9 + 1, by omega, congrArg (Value.int .i64) (by omega), by rw [HNE.out]; rfl, rfl⟩
            case round =>
              obtain ⟨i, hij, rfl, rfl, rfl⟩ := hrel
              by_cases hi0 : i = 0
              · subst hi0
                rw [HN0.out, HVD.out]
                by_cases hm : V ≤ most
                · have hm' : ¬ (most : Int) < (V : Int) := by omega
                  have HRq : Hid (R = (V, 9 + 1, 0)) := by show _ = _; rw [HRR.out, if_pos hm]
                  have hW1 : IntKind.i64.wrap ((a : Int) + (9 : Int) + 1) = (a : Int) + (9 : Int) + 1 := by rw [IntKind.wrap_i64]; have := HS.out; omega
                  clear HRR HNX HND HNE HN0
                  go_wp2
                  all_goals try (exfalso; omega)
                  all_goals (
                    refine bodyPost_ret (v := .tuple #[.int .u64 (V : Int), .int .i64 ((a : Int) + (9 : Int) + 1), .int .i64 0]) (by simp [results, Try.results69, go_sem]) rfl ?_
                    rw [HRq.out]
                    exact ⟨by simp; omega, rfl⟩)
                · have hm' : (most : Int) < (V : Int) := by omega
                  have HRq : Hid (R = (0, 0, 2)) := by show _ = _; rw [HRR.out, if_neg hm]
                  clear HRR HNX HND HNE HN0
                  go_wp2
                  all_goals try (exfalso; omega)
                  all_goals (
                    refine bodyPost_ret (v := .tuple #[.int .u64 0, .int .i64 (a : Int), .int .i64 2]) (by simp [results, Try.results69, go_sem]) rfl ?_
                    rw [HRq.out]
                    exact ⟨by simp, rfl⟩)
              · obtain ⟨k, rfl⟩ : ∃ k, i = k + 1 := ⟨i - 1, by omega⟩
                obtain ⟨hk, hstep⟩ := HNX.out k (by omega)
                have hd0 := HND.out k
                have hd1 := HND.out (k + 1)
                rw [HVD.out] at hd0 hd1
                have hlt := HV.out
                have HST : Hid (vN (((s.data.toList.drop a).take (9 + 1)).drop k) = vN (((s.data.toList.drop a).take (9 + 1)).drop (k + 1)) * 128 + (s[a + k]).toNat % 128) := hstep
                obtain ⟨X, hX⟩ : ∃ X, vN (((s.data.toList.drop a).take (9 + 1)).drop (k + 1)) = X := ⟨_, rfl⟩
                rw [hX] at hstep
                have hbk := (s[a + k]).toNat_lt
                have hks : (a : Int) + (k : Int) < (s.size : Int) := by omega
                have hkw : IntKind.i64.wrap ((a : Int) + (k : Int)) = (a : Int) + (k : Int) := by rw [IntKind.wrap_i64]; have := HS.out; omega
                have e1 : ((k + 1 : Nat) : Int) - 1 = (k : Int) := by omega
                have hW1 : IntKind.u64.wrap ((X : Int) * 128) = (X : Int) * 128 := by rw [IntKind.wrap_u64]; omega
                have hW2 : IntKind.u64.wrap ((X : Int) * 128 + ((s[a + k]).toNat : Int) % 128) = (X : Int) * 128 + ((s[a + k]).toNat : Int) % 128 := by rw [IntKind.wrap_u64]; omega
                have hW3 : IntKind.u64.wrap (((s[a + k]).toNat : Int) % 128) = ((s[a + k]).toNat : Int) % 128 := by rw [IntKind.wrap_u64]; omega
                have HX : Hid (vN (((s.data.toList.drop a).take (9 + 1)).drop (k + 1)) = X) := hX
                rw [hX, e1]
                clear hX hstep hd0 hd1 hlt e1
                go_wp2
                exact ⟨⟨k, by omega, rfl, congrArg (Value.int .u64) (by rw [HST.out, HX.out]; omega), trivial⟩, by simp only [intOf]; omega⟩
end Go.Proofs.Ytdpddlaedffmdaa
