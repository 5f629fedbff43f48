/- Package value's digitOf and withDigit: what a sign is worth in a base; a number with a digit behind it. -/
import Derived.Test.YtlgfpjaomiomjaaGreatDoorWg
import Derived.Test.YtlgfpjaomiomjaaGreatDoorSf
namespace Go.Proofs.YtlgfpjaomiomjaaGreatDoor
open Go.RowKit
set_option linter.unusedVariables false
set_option linter.unusedSimpArgs false

set_option maxHeartbeats 1000000 in
theorem digitOf_yes (base d : Nat) (hb : base ≤ 16) (hd : d < base) (w : World) (hT : Tab w) :
    Calls Tryz.prog 71 #[.int .i32 ((sgn d).toNat : Int), .int .u64 base] w fun e w' => e = .returned (.tuple #[.int .u64 d, .bool true]) ∧ w' = w := by
  have hlt256 := UInt8.toNat_lt (sgn d)
  go_enter Tryz.func71, Tryz.ntmps71
  go_wp2
  go_loop [8] (fun c => ∃ k : Nat, k ≤ d ∧ c = .int .u64 k) (fun c => d + 1 - (intOf c).toNat)
  case atStart => exact ⟨0, by omega, rfl⟩
  case round =>
    obtain ⟨k, hk, rfl⟩ := hrel
    have hc := hT k (by omega)
    have hlt : k < base := by omega
    have hk16 : k < 16 := by omega
    have hlt256' := UInt8.toNat_lt (sgn k)
    by_cases he : k = d
    · have HE : Hid (k = d) := he
      have h1 : (((sgn d).toNat : Int) == ((sgn k).toNat : Int)) = true := by rw [he]; simp
      clear he
      go_wp2
      go_ret2
      exact ⟨by rw [← HE.out]; rfl, rfl⟩
    · have h1 : (((sgn d).toNat : Int) == ((sgn k).toNat : Int)) = false := by
        simp only [beq_eq_false_iff_ne]; intro e
        exact he (sgn_inj k d hk16 (by omega) (UInt8.toNat_inj.1 (by omega)))
      go_wp2
      exact ⟨⟨k + 1, by omega, by go_num⟩, by simp only [intOf]; omega⟩

set_option maxHeartbeats 1000000 in
theorem digitOf_no (base : Nat) (r : Int) (hb : base ≤ 16) (hr : ∀ d, d < base → r ≠ ((sgn d).toNat : Int)) (w : World) (hT : Tab w) :
    Calls Tryz.prog 71 #[.int .i32 r, .int .u64 base] w fun e w' => e = .returned (.tuple #[.int .u64 0, .bool false]) ∧ w' = w := by
  have HR : Hid (∀ d, d < base → r ≠ ((sgn d).toNat : Int)) := hr
  clear hr
  go_enter Tryz.func71, Tryz.ntmps71
  go_wp2
  go_loop [8] (fun c => ∃ k : Nat, k ≤ base ∧ c = .int .u64 k) (fun c => base - (intOf c).toNat)
  case atStart => exact ⟨0, by omega, rfl⟩
  case round =>
    obtain ⟨k, hk, rfl⟩ := hrel
    by_cases hlt : k < base
    · have hc := hT k (by omega)
      have hk16 : k < 16 := by omega
      have hlt256' := UInt8.toNat_lt (sgn k)
      have h1 : (r == ((sgn k).toNat : Int)) = false := by simpa using HR.out k hlt
      go_wp2
      exact ⟨⟨k + 1, by omega, by go_num⟩, by simp only [intOf]; omega⟩
    · go_wp2
      go_ret2
      exact ⟨rfl, rfl⟩

/-- A number with a digit behind it; whether that needs more than 128 bits. -/
def moreN (n base d : Nat) : Nat := (n * base + d) % 340282366920938463463374607431768211456
def overN (n base d : Nat) : Bool := decide (340282366920938463463374607431768211456 ≤ n * base + d)
theorem more_is (n base d : Nat) : Is128 (moreN n base d) := mod_is _

/-- The words of a product and a digit, as two multiplications and two additions give them. -/
theorem more_words (n base d up lo ov hi : Nat) (hup : up = n % 18446744073709551616 * base / 18446744073709551616) (hlo : lo = n % 18446744073709551616 * base % 18446744073709551616)
    (hov : ov = n / 18446744073709551616 * base / 18446744073709551616) (hhi : hi = n / 18446744073709551616 * base % 18446744073709551616) :
    (((hi : Int) + up + ((lo : Int) + d) / 18446744073709551616) % 18446744073709551616 = hiOf (moreN n base d)) ∧ (((lo : Int) + d) % 18446744073709551616 = loOf (moreN n base d)) ∧
    (((ov : Int) != 0) || ((((hi : Int) + up + ((lo : Int) + d) / 18446744073709551616) / 18446744073709551616) != 0)) = overN n base d := by
  have e : n * base = n / 18446744073709551616 * base * 18446744073709551616 + n % 18446744073709551616 * base := by
    have := Nat.div_add_mod n 18446744073709551616
    rw [Nat.mul_right_comm, ← Nat.add_mul, Nat.mul_comm (n / 18446744073709551616), this]
  unfold moreN overN hiOf loOf
  rw [e]
  generalize n / 18446744073709551616 * base = P at *
  generalize n % 18446744073709551616 * base = Q at *
  refine ⟨by omega, by omega, ?_⟩
  rw [Bool.eq_iff_iff]; simp only [Bool.or_eq_true, bne_iff_ne, ne_eq, decide_eq_true_eq]
  omega

set_option maxHeartbeats 1000000 in
theorem withDigit_any (n base d : Nat) (hn : Is128 n) (hb : base ≤ 16) (hd : d < base) (w : World) :
    Calls Tryz.prog 72 #[B n, .int .u64 base, .int .u64 d] w fun e w' => e = .returned (.tuple #[B (moreN n base d), .bool (overN n base d)]) ∧ Below w.heap.size w w' := by
  obtain ⟨up, hup⟩ : ∃ up, up = n % 18446744073709551616 * base / 18446744073709551616 := ⟨_, rfl⟩
  obtain ⟨lo, hlo⟩ : ∃ lo, lo = n % 18446744073709551616 * base % 18446744073709551616 := ⟨_, rfl⟩
  obtain ⟨ov, hov⟩ : ∃ ov, ov = n / 18446744073709551616 * base / 18446744073709551616 := ⟨_, rfl⟩
  obtain ⟨hi, hhi⟩ : ∃ hi, hi = n / 18446744073709551616 * base % 18446744073709551616 := ⟨_, rfl⟩
  have E : Hid _ := more_words n base d up lo ov hi hup hlo hov hhi
  have c1 : ∀ w, Calls Tryz.prog 89 #[.int .u64 (loOf n), .int .u64 base] w fun e w' => e = .returned (.tuple #[.int .u64 up, .int .u64 lo]) ∧ w' = w := fun w => by
    rw [hup, hlo]; exact Tryz.bits_Mul64 (n % 18446744073709551616) base (by omega) (by omega) w
  have c2 : ∀ w, Calls Tryz.prog 89 #[.int .u64 (hiOf n), .int .u64 base] w fun e w' => e = .returned (.tuple #[.int .u64 ov, .int .u64 hi]) ∧ w' = w := fun w => by
    rw [hov, hhi]; exact Tryz.bits_Mul64 (n / 18446744073709551616) base (by unfold Is128 at hn; omega) (by omega) w
  have C1 : Hid (∀ w, Calls Tryz.prog 89 #[.int .u64 (loOf n), .int .u64 base] w fun e w' => e = .returned (.tuple #[.int .u64 up, .int .u64 lo]) ∧ w' = w) := c1
  have C2 : Hid (∀ w, Calls Tryz.prog 89 #[.int .u64 (hiOf n), .int .u64 base] w fun e w' => e = .returned (.tuple #[.int .u64 ov, .int .u64 hi]) ∧ w' = w) := c2
  have k1 : ((lo : Int) + d) / 18446744073709551616 ≤ 1 := by omega
  have k0 : 0 ≤ ((lo : Int) + d) / 18446744073709551616 := by omega
  have u0 : (0 : Int) ≤ up := by omega
  have l0 : (0 : Int) ≤ lo := by omega
  have h0 : (0 : Int) ≤ hi := by omega
  have d0 : (0 : Int) ≤ d := by omega
  clear c1 c2 hup hlo hov hhi
  go_enter Tryz.func72, Tryz.ntmps72
  go_wp2_with fail
  refine (C1.out _).mono ?_
  rintro e w1 ⟨rfl, rfl⟩
  go_wp2_with fail
  refine (C2.out _).mono ?_
  rintro e w1 ⟨rfl, rfl⟩
  cases hov0 : ((ov : Int) != 0)
  all_goals
    go_wp2_with (first | simp only [add64_0 (lo : Int) (d : Int) l0 d0] | simp only [add64 (hi : Int) (up : Int) _ h0 u0 k0 k1])
    refine bodyPost_ret (v := .tuple #[B (moreN n base d), .bool (overN n base d)]) ?_ rfl ⟨rfl, ?_⟩
    · rw [E.out.1, E.out.2.1, ← E.out.2.2, hov0]; simp [results, Tryz.results72, go_sem]
    · go_grown
end Go.Proofs.YtlgfpjaomiomjaaGreatDoor
