/- The sum of ones: package sums' folded, Ones and Patch, and the document's, to one plain meaning. Texts are no longer than any text may be. -/
import Derived.Test.YtabipemlemppjaaDoorProg
import Derived.WalkKit
import Derived.WalkSpells
import Derived.WalkLawsBesides
import Derived.Handy
import Derived.Laws.BitsAllLaws
import Derived.RowKit3
import Derived.WalkSmall
import Derived.Outline
namespace Go.Proofs.YtabipemlemppjaaDoor
open Go.RowKit
set_option linter.unusedVariables false
set_option linter.unusedSimpArgs false

/-- Folded into 16 bits. -/
def foldN (n : Nat) : Nat := if h : 65535 < n then foldN (n / 65536 + n % 65536) else n
termination_by n
decreasing_by omega
theorem foldN_more {n : Nat} (h : 65535 < n) : foldN n = foldN (n / 65536 + n % 65536) := by rw [foldN, dif_pos h]
theorem foldN_end {n : Nat} (h : ¬ 65535 < n) : foldN n = n := by rw [foldN, dif_neg h]
theorem foldN_le (n : Nat) : foldN n ≤ 65535 := by
  induction n using Nat.strongRecOn with
  | _ n ih =>
    by_cases h : 65535 < n
    · rw [foldN_more h]; exact ih _ (by omega)
    · rw [foldN_end h]; omega
theorem and_low (m : Nat) (h : m < 18446744073709551616) : bits .and .u64 (m : Int) 65535 = ((m % 65536 : Nat) : Int) := by
  have := u64_and_nat m 65535 h (by decide)
  rw [show ((65535 : Nat) : Int) = 65535 from rfl] at this
  rw [this]
  congr 1
  exact Nat.and_two_pow_sub_one_eq_mod m 16
theorem fold_wrap (m : Nat) (h : m < 18446744073709551616) : IntKind.u64.wrap ((m : Int) / 65536 + (m : Int) % 65536) = ((m / 65536 + m % 65536 : Nat) : Int) := by
  rw [IntKind.wrap_u64]; omega

set_option maxHeartbeats 1000000 in
theorem folded_any (n : Nat) (hn : n < 18446744073709551616) (w : World) : Calls Tryd.prog 37 #[.int .u64 n] w fun e w' => e = .returned (.int .u16 (foldN n)) ∧ w' = w := by
  go_enter Tryd.func37, Tryd.ntmps37
  go_wp2
  go_loopw [0] (fun v wr => ∃ m : Nat, v = .int .u64 m ∧ m < 18446744073709551616 ∧ foldN m = foldN n ∧ wr = w) (fun v _ => (intOf v).toNat)
  case atStart => exact ⟨n, rfl, hn, rfl, rfl⟩
  case round =>
    obtain ⟨m, rfl, hm, hf, rfl⟩ := hrel
    by_cases h : 65535 < m
    · have e1 := and_low m hm
      have e2 := fold_wrap m hm
      have h1 : (65535 : Int) < m := by omega
      have H : Hid (foldN m = foldN n) := hf
      have HM : Hid (m < 18446744073709551616) := hm
      have HL : Hid (65535 < m) := h
      clear hf hm h hn
      go_wp2
      have hl := HL.out
      have hm := HM.out
      refine ⟨⟨m / 65536 + m % 65536, congrArg (Value.int .u64) (by omega), by omega, by rw [← foldN_more hl]; exact H.out, trivial⟩, ?_⟩
      simp only [intOf]; omega
    · go_wp2
      go_ret
      rw [foldN_end h] at hf
      exact ⟨by rw [← hf]; rfl, rfl⟩

theorem rfold_word (m : Nat) (h : m < 9223372036854775808) : IntKind.i64.wrap ((m : Int).tdiv 65536 + (m : Int).tmod 65536) = ((m / 65536 + m % 65536 : Nat) : Int) := by
  rw [Int.tdiv_eq_ediv_of_nonneg (by omega), Int.tmod_eq_emod_of_nonneg (by omega), IntKind.wrap_i64]; omega
set_option maxHeartbeats 1000000 in
theorem rfolded_any (n : Nat) (hn : n < 9223372036854775808) (w : World) : Calls Tryd.prog 38 #[.int .i64 n] w fun e w' => e = .returned (.int .i64 (foldN n)) ∧ w' = w := by
  go_enter Tryd.func38, Tryd.ntmps38
  go_wp2
  go_loopw [0] (fun v wr => ∃ m : Nat, v = .int .i64 m ∧ m < 9223372036854775808 ∧ foldN m = foldN n ∧ wr = w) (fun v _ => (intOf v).toNat)
  case atStart => exact ⟨n, rfl, hn, rfl, rfl⟩
  case round =>
    obtain ⟨m, rfl, hm, hf, rfl⟩ := hrel
    by_cases h : 65535 < m
    · have h1 : (65535 : Int) < m := by omega
      have H : Hid (foldN m = foldN n) := hf
      have HL : Hid (65535 < m) := h
      clear hf h hn
      go_wp2
      have hl := HL.out
      refine ⟨⟨m / 65536 + m % 65536, congrArg (Value.int .i64) (by omega), by omega, by rw [← foldN_more hl]; exact H.out, trivial⟩, ?_⟩
      simp only [intOf]; omega
    · go_wp2
      go_ret
      rw [foldN_end h] at hf
      exact ⟨by rw [← hf]; rfl, rfl⟩

/-- The sum of the words of bytes. -/
def sumW : List UInt8 → Nat
  | [] => 0
  | [a] => 256 * a.toNat
  | a :: b :: r => 256 * a.toNat + b.toNat + sumW r
theorem sumW_le : ∀ l : List UInt8, sumW l ≤ 65536 * l.length
  | [] => by simp [sumW]
  | [a] => by have := a.toNat_lt; simp [sumW]; omega
  | a :: b :: r => by have := a.toNat_lt; have := b.toNat_lt; have := sumW_le r; simp [sumW]; omega
/-- The sum of ones. -/
def onesW (l : List UInt8) : Nat := 65535 - foldN (sumW l)
theorem byte_at (s : ByteArray) {p : Nat} (h : p < s.size) : s.data.toList.drop p = s[p] :: s.data.toList.drop (p + 1) := by
  have h' : p < s.data.toList.length := by simpa using h
  rw [List.drop_eq_getElem_cons h']; rfl
theorem sumW_two (s : ByteArray) {p : Nat} (h : p + 1 < s.size) : sumW (s.data.toList.drop p) = 256 * (s[p]).toNat + (s[p+1]).toNat + sumW (s.data.toList.drop (p + 2)) := by
  rw [byte_at s (by omega : p < s.size), byte_at s h, sumW]
theorem sumW_one (s : ByteArray) {p : Nat} (h : p < s.size) (h' : ¬ p + 1 < s.size) : sumW (s.data.toList.drop p) = 256 * (s[p]).toNat := by
  rw [byte_at s h, List.drop_eq_nil_of_le (by simp; omega), sumW]
end Go.Proofs.YtabipemlemppjaaDoor
