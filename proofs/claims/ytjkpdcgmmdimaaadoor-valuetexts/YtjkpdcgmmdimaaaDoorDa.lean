/- math/bits.Div64 by 10, 2, 16: the quotient and what is left. -/
import Derived.Test.YtjkpdcgmmdimaaaDoorWo
import Derived.Test.YtjkpdcgmmdimaaaDoorBa
import Derived.Test.YtjkpdcgmmdimaaaDoorWd
namespace Go.Proofs.YtjkpdcgmmdimaaaDoor
open Go.RowKit
set_option linter.unusedVariables false
set_option linter.unusedSimpArgs false
theorem bl_ten : Lib.bitLen 10 = 4 := by decide
theorem n5a_ten (U L q1 r1 u1 u0 u21 : Nat) (a2 : U = q1 * 2684354560 + r1) (a7 : L = u1 * 4294967296 + u0) (h21 : u21 = r1 * 4294967296 + u1) : U * 18446744073709551616 + L = (q1 * 4294967296) * 11529215046068469760 + (u21 * 4294967296 + u0) := by
  subst a2 a7 h21
  rw [Nat.add_mul, Nat.add_mul, Nat.mul_assoc, Nat.mul_assoc, Nat.mul_assoc]
  omega
theorem n5b_ten (q1 u0 u21 q0 r0 : Nat) (b2 : u21 = q0 * 2684354560 + r0) : (q1 * 4294967296) * 11529215046068469760 + (u21 * 4294967296 + u0) = (q1 * 4294967296 + q0) * 11529215046068469760 + (r0 * 4294967296 + u0) := by
  subst b2
  rw [Nat.add_mul, Nat.add_mul, Nat.mul_assoc q0]
  omega
theorem n6_ten (N Q R : Nat) (h : N * 1152921504606846976 = Q * 11529215046068469760 + R) (hR : R < 11529215046068469760) : Q = N / 10 ∧ R / 1152921504606846976 = N % 10 := by omega
theorem nums_ten (hi lo : Nat) (h1 : hi < 10) (h2 : lo < 18446744073709551616) (U L u1 u0 q1 r1 u21 q0 r0 : Nat) (hU : U = hi * 1152921504606846976 + lo / 16) (hL : L = lo * 1152921504606846976 % 18446744073709551616) (hu1 : u1 = L / 4294967296) (hu0 : u0 = L % 4294967296)
    (hq1 : q1 = U / 2684354560) (hr1 : r1 = U % 2684354560) (h21 : u21 = r1 * 4294967296 + u1) (hq0 : q0 = u21 / 2684354560) (hr0 : r0 = u21 % 2684354560) :
    U < 11529215046068469760 ∧ q1 < 4294967296 ∧ r1 < 2684354560 ∧ u21 < 11529215046068469760 ∧ q0 < 4294967296 ∧ r0 < 2684354560 ∧ u1 < 4294967296 ∧ u0 < 4294967296 ∧ q1 * 4294967296 + q0 = (hi * 18446744073709551616 + lo) / 10 ∧ (r0 * 4294967296 + u0) / 1152921504606846976 = (hi * 18446744073709551616 + lo) % 10 ∧ U * 4294967296 + u1 = q1 * 11529215046068469760 + u21 ∧ u21 * 4294967296 + u0 = q0 * 11529215046068469760 + (r0 * 4294967296 + u0) ∧ U = q1 * 2684354560 + r1 ∧ u21 = q0 * 2684354560 + r0 := by
  have a1 : U < 11529215046068469760 := by clear hL hu1 hu0 hq1 hr1 h21 hq0 hr0; omega
  obtain ⟨a2, a3⟩ : U = q1 * 2684354560 + r1 ∧ r1 < 2684354560 := by clear hU hL hu1 hu0 h21 hq0 hr0 a1 h1 h2; omega
  have a4 : L < 18446744073709551616 := by clear hU hu1 hu0 hq1 hr1 h21 hq0 hr0 a1 a2 a3 h1 h2; omega
  have a5' : lo * 1152921504606846976 = lo / 16 * 18446744073709551616 + L := by clear hU hu1 hu0 hq1 hr1 h21 hq0 hr0 a1 a2 a3 a4 h1 h2; omega
  have a5 : (hi * 18446744073709551616 + lo) * 1152921504606846976 = U * 18446744073709551616 + L := by clear hL hu1 hu0 hq1 hr1 h21 hq0 hr0 a1 a2 a3 a4 h1 h2; rw [hU, Nat.add_mul, Nat.add_mul, a5', Nat.mul_right_comm, Nat.add_assoc]
  obtain ⟨a6, a7, a8⟩ : u1 < 4294967296 ∧ L = u1 * 4294967296 + u0 ∧ u0 < 4294967296 := by clear hU hL hq1 hr1 h21 hq0 hr0 a1 a2 a3 a5 a5' h1 h2; omega
  have b1 : u21 < 11529215046068469760 := by clear hU hL hu1 hu0 hq1 hr1 hq0 hr0 a1 a2 a4 a5 a5' a7 h1 h2; omega
  obtain ⟨b2, b3⟩ : u21 = q0 * 2684354560 + r0 ∧ r0 < 2684354560 := by clear hU hL hu1 hu0 hq1 hr1 h21 a1 a2 a3 a4 a5 a5' a6 a7 a8 b1 h1 h2; omega
  have b4 : q0 < 4294967296 := by clear hU hL hu1 hu0 hq1 hr1 h21 a1 a2 a3 a4 a5 a5' a6 a7 a8 b2 b3 hr0 h1 h2; omega
  have b5 : q1 < 4294967296 := by clear hU hL hu1 hu0 hr1 h21 a2 a3 a4 a5 a5' a6 a7 a8 b1 b2 b3 hr0 h1 h2 hq0; omega
  have c1 : (hi * 18446744073709551616 + lo) * 1152921504606846976 = (q1 * 4294967296 + q0) * 11529215046068469760 + (r0 * 4294967296 + u0) := by rw [a5, n5a_ten U L q1 r1 u1 u0 u21 a2 a7 h21, n5b_ten q1 u0 u21 q0 r0 b2]
  have c2 : r0 * 4294967296 + u0 < 11529215046068469760 := by clear hU hL hu1 hu0 hq1 hr1 h21 hq0 hr0 a1 a2 a3 a4 a5 a5' a6 a7 b1 b2 b4 b5 c1 h1 h2; omega
  have d : q1 * 4294967296 + q0 = (hi * 18446744073709551616 + lo) / 10 ∧ (r0 * 4294967296 + u0) / 1152921504606846976 = (hi * 18446744073709551616 + lo) % 10 := n6_ten _ _ _ c1 c2
  have e1 : U * 4294967296 + u1 = q1 * 11529215046068469760 + u21 := by clear hU hL hu1 hu0 hq1 hr1 hq0 hr0 a1 a3 a4 a5 a5' a6 a7 a8 b1 b2 b3 b4 b5 c1 c2 d h1 h2; omega
  have e2 : u21 * 4294967296 + u0 = q0 * 11529215046068469760 + (r0 * 4294967296 + u0) := by clear hU hL hu1 hu0 hq1 hr1 h21 hq0 hr0 a1 a2 a3 a4 a5 a5' a6 a7 a8 b1 b3 b4 b5 c1 c2 d e1 h1 h2; omega
  exact ⟨a1, b5, a3, b1, b4, b3, a6, a8, d.1, d.2, e1, e2, a2, b2⟩
theorem XU_ten (hi lo U : Nat) (h1 : hi < 10) (h2 : lo < 18446744073709551616) (hU : U = hi * 1152921504606846976 + lo / 16) : bits BinOp.or IntKind.u64 ((hi : Int) * 1152921504606846976) ((lo : Int) / 16) = (U : Int) := by
  rw [show (hi : Int) * 1152921504606846976 = ((hi * 1152921504606846976 : Nat) : Int) by omega, show (lo : Int) / 16 = ((lo / 16 : Nat) : Int) by omega, u64_or_nat _ _ (by omega) (by omega), show hi * 1152921504606846976 = 2 ^ 60 * hi by omega, or_small (by omega), hU]; omega
theorem XL_ten (lo L : Nat) (hL : L = lo * 1152921504606846976 % 18446744073709551616) : IntKind.u64.wrap ((lo : Int) * 1152921504606846976) = (L : Int) := by rw [IntKind.wrap_u64]; omega
theorem X0_ten : bits BinOp.and IntKind.u64 11529215046068469760 4294967295 = 0 := by decide
theorem Xu0_ten (L u0 : Nat) (hL : L < 18446744073709551616) (hu0 : u0 = L % 4294967296) : bits BinOp.and IntKind.u64 (L : Int) 4294967295 = (u0 : Int) := by
  rw [show (4294967295 : Int) = ((4294967295 : Nat) : Int) from rfl, u64_and_nat _ _ (by omega) (by omega), show (4294967295 : Nat) = 2 ^ 32 - 1 by decide, Nat.and_two_pow_sub_one_eq_mod]; omega
theorem Xq_ten (U q : Nat) (hU : U < 18446744073709551616) (hq : q = U / 2684354560) : IntKind.u64.wrap ((U : Int).tdiv 2684354560) = (q : Int) := by rw [quo_word (by omega) (by omega) (by decide)]; omega
theorem Xr_ten (U q r : Nat) (hU : U < 18446744073709551616) (h : U = q * 2684354560 + r) : IntKind.u64.wrap ((U : Int) - IntKind.u64.wrap ((q : Int) * 2684354560)) = (r : Int) := by rw [IntKind.wrap_u64, IntKind.wrap_u64]; omega
theorem X21_ten (U u q v : Nat) (h : U * 4294967296 + u = q * 11529215046068469760 + v) (hv : v < 18446744073709551616) : IntKind.u64.wrap (IntKind.u64.wrap (IntKind.u64.wrap ((U : Int) * 4294967296) + (u : Int)) - IntKind.u64.wrap ((q : Int) * 11529215046068469760)) = (v : Int) := by simp only [IntKind.wrap_u64]; omega
theorem XQ_ten (q p : Nat) (hq : q < 4294967296) (hp : p < 4294967296) : IntKind.u64.wrap (IntKind.u64.wrap ((q : Int) * 4294967296) + (p : Int)) = ((q * 4294967296 + p : Nat) : Int) := by simp only [IntKind.wrap_u64]; omega
theorem Xt_ten (r u : Nat) : ∃ t : Nat, IntKind.u64.wrap (IntKind.u64.wrap (4294967296 * (r : Int)) + (u : Int)) = (t : Int) := ⟨(IntKind.u64.wrap (IntKind.u64.wrap (4294967296 * (r : Int)) + (u : Int))).toNat, by rw [IntKind.wrap_u64]; omega⟩
set_option maxHeartbeats 4000000 in
set_option maxRecDepth 100000 in
theorem div64_ten (hi lo : Nat) (h0 : 0 < hi) (h1 : hi < 10) (h2 : lo < 18446744073709551616) (w : World) : Calls Tryd.prog 81 #[.int .u64 hi, .int .u64 lo, .int .u64 10] w fun e w' => e = .returned (.tuple #[.int .u64 (((hi * 18446744073709551616 + lo) / 10 : Nat) : Int), .int .u64 (((hi * 18446744073709551616 + lo) % 10 : Nat) : Int)]) ∧ Below w.heap.size w w' := by
  obtain ⟨U, hU⟩ : ∃ U, U = hi * 1152921504606846976 + lo / 16 := ⟨_, rfl⟩
  obtain ⟨L, hL⟩ : ∃ L, L = lo * 1152921504606846976 % 18446744073709551616 := ⟨_, rfl⟩
  obtain ⟨u1, hu1⟩ : ∃ u1, u1 = L / 4294967296 := ⟨_, rfl⟩
  obtain ⟨u0, hu0⟩ : ∃ u0, u0 = L % 4294967296 := ⟨_, rfl⟩
  obtain ⟨q1, hq1⟩ : ∃ q1, q1 = U / 2684354560 := ⟨_, rfl⟩
  obtain ⟨r1, hr1⟩ : ∃ r1, r1 = U % 2684354560 := ⟨_, rfl⟩
  obtain ⟨u21, h21⟩ : ∃ u21, u21 = r1 * 4294967296 + u1 := ⟨_, rfl⟩
  obtain ⟨q0, hq0⟩ : ∃ q0, q0 = u21 / 2684354560 := ⟨_, rfl⟩
  obtain ⟨r0, hr0⟩ : ∃ r0, r0 = u21 % 2684354560 := ⟨_, rfl⟩
  obtain ⟨n1, n2, n3, n4, n5, n6, n7, n8, n9, n10, n11, n12, n13, n14⟩ := nums_ten hi lo h1 h2 U L u1 u0 q1 r1 u21 q0 r0 hU hL hu1 hu0 hq1 hr1 h21 hq0 hr0
  have hLW : L < 18446744073709551616 := by rw [hL]; exact Nat.mod_lt _ (by decide)
  have hYW : 11529215046068469760 < 18446744073709551616 := by decide
  have XU : Hid (bits BinOp.or IntKind.u64 ((hi : Int) * 1152921504606846976) ((lo : Int) / 16) = (U : Int)) := XU_ten hi lo U h1 h2 hU
  have XL : Hid (IntKind.u64.wrap ((lo : Int) * 1152921504606846976) = (L : Int)) := XL_ten lo L hL
  have X0 : Hid (bits BinOp.and IntKind.u64 11529215046068469760 4294967295 = 0) := X0_ten
  have Xu0 : Hid (bits BinOp.and IntKind.u64 (L : Int) 4294967295 = (u0 : Int)) := Xu0_ten L u0 hLW hu0
  have Xu1 : Hid ((L : Int) / 4294967296 = (u1 : Int)) := by show _ = _; rw [hu1]; rfl
  have Xq1 : Hid (IntKind.u64.wrap ((U : Int).tdiv 2684354560) = (q1 : Int)) := Xq_ten U q1 (Nat.lt_trans n1 hYW) hq1
  have Xr1 : Hid (IntKind.u64.wrap ((U : Int) - IntKind.u64.wrap ((q1 : Int) * 2684354560)) = (r1 : Int)) := Xr_ten U q1 r1 (Nat.lt_trans n1 hYW) n13
  have X21 : Hid (IntKind.u64.wrap (IntKind.u64.wrap (IntKind.u64.wrap ((U : Int) * 4294967296) + (u1 : Int)) - IntKind.u64.wrap ((q1 : Int) * 11529215046068469760)) = (u21 : Int)) := X21_ten U u1 q1 u21 n11 (Nat.lt_trans n4 hYW)
  have Xq0 : Hid (IntKind.u64.wrap ((u21 : Int).tdiv 2684354560) = (q0 : Int)) := Xq_ten u21 q0 (Nat.lt_trans n4 hYW) hq0
  have Xr0 : Hid (IntKind.u64.wrap ((u21 : Int) - IntKind.u64.wrap ((q0 : Int) * 2684354560)) = (r0 : Int)) := Xr_ten u21 q0 r0 (Nat.lt_trans n4 hYW) n14
  have XQ : Hid (IntKind.u64.wrap (IntKind.u64.wrap ((q1 : Int) * 4294967296) + (q0 : Int)) = (((hi * 18446744073709551616 + lo) / 10 : Nat) : Int)) := by show _ = _; rw [← n9]; exact XQ_ten q1 q0 n2 n5
  have nR : r0 * 4294967296 + u0 < 18446744073709551616 := by clear XU XL X0 Xu0 Xu1 Xq1 Xr1 X21 Xq0 Xr0 XQ hU hL hu1 hu0 hq1 hr1 h21 hq0 hr0 n1 n2 n3 n4 n5 n7 n9 n10 n11 n12 n13 n14 h1 h2; omega
  have XR : Hid (IntKind.u64.wrap (IntKind.u64.wrap (IntKind.u64.wrap ((u21 : Int) * 4294967296) + (u0 : Int)) - IntKind.u64.wrap ((q0 : Int) * 11529215046068469760)) / 1152921504606846976 = (((hi * 18446744073709551616 + lo) % 10 : Nat) : Int)) := by show _ = _; rw [X21_ten u21 u0 q0 _ n12 nR, ← n10]; rfl
  obtain ⟨t1, ht1⟩ := Xt_ten r1 u1
  obtain ⟨t0, ht0⟩ := Xt_ten r0 u0
  have d1 : decide ((4294967296 : Int) ≤ (q1 : Int)) = false := decide_eq_false (fun h => absurd (Int.ofNat_le.1 h) (Nat.not_le.2 n2))
  have d0 : decide ((4294967296 : Int) ≤ (q0 : Int)) = false := decide_eq_false (fun h => absurd (Int.ofNat_le.1 h) (Nat.not_le.2 n5))
  have e0 : ((hi : Int) == 0) = false := beq_eq_false_iff_ne.2 (fun h => absurd (Int.ofNat_inj.1 h) (Nat.ne_of_gt h0))
  have e1 : decide ((10 : Int) ≤ hi) = false := decide_eq_false (fun h => absurd (Int.ofNat_le.1 h) (Nat.not_le.2 h1))
  have m1 : decide ((t1 : Int) < 0) = false := decide_eq_false (Int.not_lt.2 (Int.natCast_nonneg t1))
  have m0 : decide ((t0 : Int) < 0) = false := decide_eq_false (Int.not_lt.2 (Int.natCast_nonneg t0))
  have C : Hid (∀ w, Calls Tryd.prog 69 #[.int .u64 10] w fun e w' => e = .returned (.int .i64 60) ∧ w' = w) := fun w => by
    have := lead64 10 (by decide) w
    rwa [bl_ten] at this
  have HT1 : Hid _ := ht1
  have HT0 : Hid _ := ht0
  clear hU hL hu1 hu0 hq1 hr1 h21 hq0 hr0 n1 n2 n3 n4 n5 n6 n7 n8 n9 n10 n11 n12 n13 n14 h2 hLW hYW nR
  go_enter Tryd.func81, Tryd.ntmps81
  go_wp2_with fail
  refine (C.out _).mono ?_
  rintro e w1 ⟨rfl, rfl⟩
  go_wp2_with fail
  rw [XU.out, XL.out, X0.out, Xu0.out, Xu1.out, Xq1.out, Xr1.out]
  go_loopw [15, 16] (fun q r wr => q = .int .u64 q1 ∧ r = .int .u64 r1 ∧ wr = w1) (fun _ _ _ => 0)
  case atStart => exact ⟨rfl, rfl, rfl⟩
  case round =>
    obtain ⟨rfl, rfl, rfl⟩ := hrel
    go_wp2_with fail
    rw [X21.out, Xq0.out, Xr0.out]
    go_loopw [18, 16] (fun q r wx => q = .int .u64 q0 ∧ r = .int .u64 r0 ∧ wx = wr) (fun _ _ _ => 0)
    case atStart => exact ⟨rfl, rfl, rfl⟩
    case round =>
      obtain ⟨rfl, rfl, rfl⟩ := hrel
      go_wp2_with fail
      go_ret2
      rw [XQ.out, XR.out]
      exact ⟨rfl, Below.refl _ _⟩

theorem bl_two : Lib.bitLen 2 = 2 := by decide
theorem n5a_two (U L q1 r1 u1 u0 u21 : Nat) (a2 : U = q1 * 2147483648 + r1) (a7 : L = u1 * 4294967296 + u0) (h21 : u21 = r1 * 4294967296 + u1) : U * 18446744073709551616 + L = (q1 * 4294967296) * 9223372036854775808 + (u21 * 4294967296 + u0) := by
  subst a2 a7 h21
  rw [Nat.add_mul, Nat.add_mul, Nat.mul_assoc, Nat.mul_assoc, Nat.mul_assoc]
  omega
theorem n5b_two (q1 u0 u21 q0 r0 : Nat) (b2 : u21 = q0 * 2147483648 + r0) : (q1 * 4294967296) * 9223372036854775808 + (u21 * 4294967296 + u0) = (q1 * 4294967296 + q0) * 9223372036854775808 + (r0 * 4294967296 + u0) := by
  subst b2
  rw [Nat.add_mul, Nat.add_mul, Nat.mul_assoc q0]
  omega
theorem n6_two (N Q R : Nat) (h : N * 4611686018427387904 = Q * 9223372036854775808 + R) (hR : R < 9223372036854775808) : Q = N / 2 ∧ R / 4611686018427387904 = N % 2 := by omega
theorem nums_two (hi lo : Nat) (h1 : hi < 2) (h2 : lo < 18446744073709551616) (U L u1 u0 q1 r1 u21 q0 r0 : Nat) (hU : U = hi * 4611686018427387904 + lo / 4) (hL : L = lo * 4611686018427387904 % 18446744073709551616) (hu1 : u1 = L / 4294967296) (hu0 : u0 = L % 4294967296)
    (hq1 : q1 = U / 2147483648) (hr1 : r1 = U % 2147483648) (h21 : u21 = r1 * 4294967296 + u1) (hq0 : q0 = u21 / 2147483648) (hr0 : r0 = u21 % 2147483648) :
    U < 9223372036854775808 ∧ q1 < 4294967296 ∧ r1 < 2147483648 ∧ u21 < 9223372036854775808 ∧ q0 < 4294967296 ∧ r0 < 2147483648 ∧ u1 < 4294967296 ∧ u0 < 4294967296 ∧ q1 * 4294967296 + q0 = (hi * 18446744073709551616 + lo) / 2 ∧ (r0 * 4294967296 + u0) / 4611686018427387904 = (hi * 18446744073709551616 + lo) % 2 ∧ U * 4294967296 + u1 = q1 * 9223372036854775808 + u21 ∧ u21 * 4294967296 + u0 = q0 * 9223372036854775808 + (r0 * 4294967296 + u0) ∧ U = q1 * 2147483648 + r1 ∧ u21 = q0 * 2147483648 + r0 := by
  have a1 : U < 9223372036854775808 := by clear hL hu1 hu0 hq1 hr1 h21 hq0 hr0; omega
  obtain ⟨a2, a3⟩ : U = q1 * 2147483648 + r1 ∧ r1 < 2147483648 := by clear hU hL hu1 hu0 h21 hq0 hr0 a1 h1 h2; omega
  have a4 : L < 18446744073709551616 := by clear hU hu1 hu0 hq1 hr1 h21 hq0 hr0 a1 a2 a3 h1 h2; omega
  have a5' : lo * 4611686018427387904 = lo / 4 * 18446744073709551616 + L := by clear hU hu1 hu0 hq1 hr1 h21 hq0 hr0 a1 a2 a3 a4 h1 h2; omega
  have a5 : (hi * 18446744073709551616 + lo) * 4611686018427387904 = U * 18446744073709551616 + L := by clear hL hu1 hu0 hq1 hr1 h21 hq0 hr0 a1 a2 a3 a4 h1 h2; rw [hU, Nat.add_mul, Nat.add_mul, a5', Nat.mul_right_comm, Nat.add_assoc]
  obtain ⟨a6, a7, a8⟩ : u1 < 4294967296 ∧ L = u1 * 4294967296 + u0 ∧ u0 < 4294967296 := by clear hU hL hq1 hr1 h21 hq0 hr0 a1 a2 a3 a5 a5' h1 h2; omega
  have b1 : u21 < 9223372036854775808 := by clear hU hL hu1 hu0 hq1 hr1 hq0 hr0 a1 a2 a4 a5 a5' a7 h1 h2; omega
  obtain ⟨b2, b3⟩ : u21 = q0 * 2147483648 + r0 ∧ r0 < 2147483648 := by clear hU hL hu1 hu0 hq1 hr1 h21 a1 a2 a3 a4 a5 a5' a6 a7 a8 b1 h1 h2; omega
  have b4 : q0 < 4294967296 := by clear hU hL hu1 hu0 hq1 hr1 h21 a1 a2 a3 a4 a5 a5' a6 a7 a8 b2 b3 hr0 h1 h2; omega
  have b5 : q1 < 4294967296 := by clear hU hL hu1 hu0 hr1 h21 a2 a3 a4 a5 a5' a6 a7 a8 b1 b2 b3 hr0 h1 h2 hq0; omega
  have c1 : (hi * 18446744073709551616 + lo) * 4611686018427387904 = (q1 * 4294967296 + q0) * 9223372036854775808 + (r0 * 4294967296 + u0) := by rw [a5, n5a_two U L q1 r1 u1 u0 u21 a2 a7 h21, n5b_two q1 u0 u21 q0 r0 b2]
  have c2 : r0 * 4294967296 + u0 < 9223372036854775808 := by clear hU hL hu1 hu0 hq1 hr1 h21 hq0 hr0 a1 a2 a3 a4 a5 a5' a6 a7 b1 b2 b4 b5 c1 h1 h2; omega
  have d : q1 * 4294967296 + q0 = (hi * 18446744073709551616 + lo) / 2 ∧ (r0 * 4294967296 + u0) / 4611686018427387904 = (hi * 18446744073709551616 + lo) % 2 := n6_two _ _ _ c1 c2
  have e1 : U * 4294967296 + u1 = q1 * 9223372036854775808 + u21 := by clear hU hL hu1 hu0 hq1 hr1 hq0 hr0 a1 a3 a4 a5 a5' a6 a7 a8 b1 b2 b3 b4 b5 c1 c2 d h1 h2; omega
  have e2 : u21 * 4294967296 + u0 = q0 * 9223372036854775808 + (r0 * 4294967296 + u0) := by clear hU hL hu1 hu0 hq1 hr1 h21 hq0 hr0 a1 a2 a3 a4 a5 a5' a6 a7 a8 b1 b3 b4 b5 c1 c2 d e1 h1 h2; omega
  exact ⟨a1, b5, a3, b1, b4, b3, a6, a8, d.1, d.2, e1, e2, a2, b2⟩
theorem XU_two (hi lo U : Nat) (h1 : hi < 2) (h2 : lo < 18446744073709551616) (hU : U = hi * 4611686018427387904 + lo / 4) : bits BinOp.or IntKind.u64 ((hi : Int) * 4611686018427387904) ((lo : Int) / 4) = (U : Int) := by
  rw [show (hi : Int) * 4611686018427387904 = ((hi * 4611686018427387904 : Nat) : Int) by omega, show (lo : Int) / 4 = ((lo / 4 : Nat) : Int) by omega, u64_or_nat _ _ (by omega) (by omega), show hi * 4611686018427387904 = 2 ^ 62 * hi by omega, or_small (by omega), hU]; omega
theorem XL_two (lo L : Nat) (hL : L = lo * 4611686018427387904 % 18446744073709551616) : IntKind.u64.wrap ((lo : Int) * 4611686018427387904) = (L : Int) := by rw [IntKind.wrap_u64]; omega
theorem X0_two : bits BinOp.and IntKind.u64 9223372036854775808 4294967295 = 0 := by decide
theorem Xu0_two (L u0 : Nat) (hL : L < 18446744073709551616) (hu0 : u0 = L % 4294967296) : bits BinOp.and IntKind.u64 (L : Int) 4294967295 = (u0 : Int) := by
  rw [show (4294967295 : Int) = ((4294967295 : Nat) : Int) from rfl, u64_and_nat _ _ (by omega) (by omega), show (4294967295 : Nat) = 2 ^ 32 - 1 by decide, Nat.and_two_pow_sub_one_eq_mod]; omega
theorem Xq_two (U q : Nat) (hU : U < 18446744073709551616) (hq : q = U / 2147483648) : IntKind.u64.wrap ((U : Int).tdiv 2147483648) = (q : Int) := by rw [quo_word (by omega) (by omega) (by decide)]; omega
theorem Xr_two (U q r : Nat) (hU : U < 18446744073709551616) (h : U = q * 2147483648 + r) : IntKind.u64.wrap ((U : Int) - IntKind.u64.wrap ((q : Int) * 2147483648)) = (r : Int) := by rw [IntKind.wrap_u64, IntKind.wrap_u64]; omega
theorem X21_two (U u q v : Nat) (h : U * 4294967296 + u = q * 9223372036854775808 + v) (hv : v < 18446744073709551616) : IntKind.u64.wrap (IntKind.u64.wrap (IntKind.u64.wrap ((U : Int) * 4294967296) + (u : Int)) - IntKind.u64.wrap ((q : Int) * 9223372036854775808)) = (v : Int) := by simp only [IntKind.wrap_u64]; omega
theorem XQ_two (q p : Nat) (hq : q < 4294967296) (hp : p < 4294967296) : IntKind.u64.wrap (IntKind.u64.wrap ((q : Int) * 4294967296) + (p : Int)) = ((q * 4294967296 + p : Nat) : Int) := by simp only [IntKind.wrap_u64]; omega
theorem Xt_two (r u : Nat) : ∃ t : Nat, IntKind.u64.wrap (IntKind.u64.wrap (4294967296 * (r : Int)) + (u : Int)) = (t : Int) := ⟨(IntKind.u64.wrap (IntKind.u64.wrap (4294967296 * (r : Int)) + (u : Int))).toNat, by rw [IntKind.wrap_u64]; omega⟩
set_option maxHeartbeats 4000000 in
set_option maxRecDepth 100000 in
theorem div64_two (hi lo : Nat) (h0 : 0 < hi) (h1 : hi < 2) (h2 : lo < 18446744073709551616) (w : World) : Calls Tryd.prog 81 #[.int .u64 hi, .int .u64 lo, .int .u64 2] w fun e w' => e = .returned (.tuple #[.int .u64 (((hi * 18446744073709551616 + lo) / 2 : Nat) : Int), .int .u64 (((hi * 18446744073709551616 + lo) % 2 : Nat) : Int)]) ∧ Below w.heap.size w w' := by
  obtain ⟨U, hU⟩ : ∃ U, U = hi * 4611686018427387904 + lo / 4 := ⟨_, rfl⟩
  obtain ⟨L, hL⟩ : ∃ L, L = lo * 4611686018427387904 % 18446744073709551616 := ⟨_, rfl⟩
  obtain ⟨u1, hu1⟩ : ∃ u1, u1 = L / 4294967296 := ⟨_, rfl⟩
  obtain ⟨u0, hu0⟩ : ∃ u0, u0 = L % 4294967296 := ⟨_, rfl⟩
  obtain ⟨q1, hq1⟩ : ∃ q1, q1 = U / 2147483648 := ⟨_, rfl⟩
  obtain ⟨r1, hr1⟩ : ∃ r1, r1 = U % 2147483648 := ⟨_, rfl⟩
  obtain ⟨u21, h21⟩ : ∃ u21, u21 = r1 * 4294967296 + u1 := ⟨_, rfl⟩
  obtain ⟨q0, hq0⟩ : ∃ q0, q0 = u21 / 2147483648 := ⟨_, rfl⟩
  obtain ⟨r0, hr0⟩ : ∃ r0, r0 = u21 % 2147483648 := ⟨_, rfl⟩
  obtain ⟨n1, n2, n3, n4, n5, n6, n7, n8, n9, n10, n11, n12, n13, n14⟩ := nums_two hi lo h1 h2 U L u1 u0 q1 r1 u21 q0 r0 hU hL hu1 hu0 hq1 hr1 h21 hq0 hr0
  have hLW : L < 18446744073709551616 := by rw [hL]; exact Nat.mod_lt _ (by decide)
  have hYW : 9223372036854775808 < 18446744073709551616 := by decide
  have XU : Hid (bits BinOp.or IntKind.u64 ((hi : Int) * 4611686018427387904) ((lo : Int) / 4) = (U : Int)) := XU_two hi lo U h1 h2 hU
  have XL : Hid (IntKind.u64.wrap ((lo : Int) * 4611686018427387904) = (L : Int)) := XL_two lo L hL
  have X0 : Hid (bits BinOp.and IntKind.u64 9223372036854775808 4294967295 = 0) := X0_two
  have Xu0 : Hid (bits BinOp.and IntKind.u64 (L : Int) 4294967295 = (u0 : Int)) := Xu0_two L u0 hLW hu0
  have Xu1 : Hid ((L : Int) / 4294967296 = (u1 : Int)) := by show _ = _; rw [hu1]; rfl
  have Xq1 : Hid (IntKind.u64.wrap ((U : Int).tdiv 2147483648) = (q1 : Int)) := Xq_two U q1 (Nat.lt_trans n1 hYW) hq1
  have Xr1 : Hid (IntKind.u64.wrap ((U : Int) - IntKind.u64.wrap ((q1 : Int) * 2147483648)) = (r1 : Int)) := Xr_two U q1 r1 (Nat.lt_trans n1 hYW) n13
  have X21 : Hid (IntKind.u64.wrap (IntKind.u64.wrap (IntKind.u64.wrap ((U : Int) * 4294967296) + (u1 : Int)) - IntKind.u64.wrap ((q1 : Int) * 9223372036854775808)) = (u21 : Int)) := X21_two U u1 q1 u21 n11 (Nat.lt_trans n4 hYW)
  have Xq0 : Hid (IntKind.u64.wrap ((u21 : Int).tdiv 2147483648) = (q0 : Int)) := Xq_two u21 q0 (Nat.lt_trans n4 hYW) hq0
  have Xr0 : Hid (IntKind.u64.wrap ((u21 : Int) - IntKind.u64.wrap ((q0 : Int) * 2147483648)) = (r0 : Int)) := Xr_two u21 q0 r0 (Nat.lt_trans n4 hYW) n14
  have XQ : Hid (IntKind.u64.wrap (IntKind.u64.wrap ((q1 : Int) * 4294967296) + (q0 : Int)) = (((hi * 18446744073709551616 + lo) / 2 : Nat) : Int)) := by show _ = _; rw [← n9]; exact XQ_two q1 q0 n2 n5
  have nR : r0 * 4294967296 + u0 < 18446744073709551616 := by clear XU XL X0 Xu0 Xu1 Xq1 Xr1 X21 Xq0 Xr0 XQ hU hL hu1 hu0 hq1 hr1 h21 hq0 hr0 n1 n2 n3 n4 n5 n7 n9 n10 n11 n12 n13 n14 h1 h2; omega
  have XR : Hid (IntKind.u64.wrap (IntKind.u64.wrap (IntKind.u64.wrap ((u21 : Int) * 4294967296) + (u0 : Int)) - IntKind.u64.wrap ((q0 : Int) * 9223372036854775808)) / 4611686018427387904 = (((hi * 18446744073709551616 + lo) % 2 : Nat) : Int)) := by show _ = _; rw [X21_two u21 u0 q0 _ n12 nR, ← n10]; rfl
  obtain ⟨t1, ht1⟩ := Xt_two r1 u1
  obtain ⟨t0, ht0⟩ := Xt_two r0 u0
  have d1 : decide ((4294967296 : Int) ≤ (q1 : Int)) = false := decide_eq_false (fun h => absurd (Int.ofNat_le.1 h) (Nat.not_le.2 n2))
  have d0 : decide ((4294967296 : Int) ≤ (q0 : Int)) = false := decide_eq_false (fun h => absurd (Int.ofNat_le.1 h) (Nat.not_le.2 n5))
  have e0 : ((hi : Int) == 0) = false := beq_eq_false_iff_ne.2 (fun h => absurd (Int.ofNat_inj.1 h) (Nat.ne_of_gt h0))
  have e1 : decide ((2 : Int) ≤ hi) = false := decide_eq_false (fun h => absurd (Int.ofNat_le.1 h) (Nat.not_le.2 h1))
  have m1 : decide ((t1 : Int) < 0) = false := decide_eq_false (Int.not_lt.2 (Int.natCast_nonneg t1))
  have m0 : decide ((t0 : Int) < 0) = false := decide_eq_false (Int.not_lt.2 (Int.natCast_nonneg t0))
  have C : Hid (∀ w, Calls Tryd.prog 69 #[.int .u64 2] w fun e w' => e = .returned (.int .i64 62) ∧ w' = w) := fun w => by
    have := lead64 2 (by decide) w
    rwa [bl_two] at this
  have HT1 : Hid _ := ht1
  have HT0 : Hid _ := ht0
  clear hU hL hu1 hu0 hq1 hr1 h21 hq0 hr0 n1 n2 n3 n4 n5 n6 n7 n8 n9 n10 n11 n12 n13 n14 h2 hLW hYW nR
  go_enter Tryd.func81, Tryd.ntmps81
  go_wp2_with fail
  refine (C.out _).mono ?_
  rintro e w1 ⟨rfl, rfl⟩
  go_wp2_with fail
  rw [XU.out, XL.out, X0.out, Xu0.out, Xu1.out, Xq1.out, Xr1.out]
  go_loopw [15, 16] (fun q r wr => q = .int .u64 q1 ∧ r = .int .u64 r1 ∧ wr = w1) (fun _ _ _ => 0)
  case atStart => exact ⟨rfl, rfl, rfl⟩
  case round =>
    obtain ⟨rfl, rfl, rfl⟩ := hrel
    go_wp2_with fail
    rw [X21.out, Xq0.out, Xr0.out]
    go_loopw [18, 16] (fun q r wx => q = .int .u64 q0 ∧ r = .int .u64 r0 ∧ wx = wr) (fun _ _ _ => 0)
    case atStart => exact ⟨rfl, rfl, rfl⟩
    case round =>
      obtain ⟨rfl, rfl, rfl⟩ := hrel
      go_wp2_with fail
      go_ret2
      rw [XQ.out, XR.out]
      exact ⟨rfl, Below.refl _ _⟩

theorem bl_hex : Lib.bitLen 16 = 5 := by decide
theorem n5a_hex (U L q1 r1 u1 u0 u21 : Nat) (a2 : U = q1 * 2147483648 + r1) (a7 : L = u1 * 4294967296 + u0) (h21 : u21 = r1 * 4294967296 + u1) : U * 18446744073709551616 + L = (q1 * 4294967296) * 9223372036854775808 + (u21 * 4294967296 + u0) := by
  subst a2 a7 h21
  rw [Nat.add_mul, Nat.add_mul, Nat.mul_assoc, Nat.mul_assoc, Nat.mul_assoc]
  omega
theorem n5b_hex (q1 u0 u21 q0 r0 : Nat) (b2 : u21 = q0 * 2147483648 + r0) : (q1 * 4294967296) * 9223372036854775808 + (u21 * 4294967296 + u0) = (q1 * 4294967296 + q0) * 9223372036854775808 + (r0 * 4294967296 + u0) := by
  subst b2
  rw [Nat.add_mul, Nat.add_mul, Nat.mul_assoc q0]
  omega
theorem n6_hex (N Q R : Nat) (h : N * 576460752303423488 = Q * 9223372036854775808 + R) (hR : R < 9223372036854775808) : Q = N / 16 ∧ R / 576460752303423488 = N % 16 := by omega
theorem nums_hex (hi lo : Nat) (h1 : hi < 16) (h2 : lo < 18446744073709551616) (U L u1 u0 q1 r1 u21 q0 r0 : Nat) (hU : U = hi * 576460752303423488 + lo / 32) (hL : L = lo * 576460752303423488 % 18446744073709551616) (hu1 : u1 = L / 4294967296) (hu0 : u0 = L % 4294967296)
    (hq1 : q1 = U / 2147483648) (hr1 : r1 = U % 2147483648) (h21 : u21 = r1 * 4294967296 + u1) (hq0 : q0 = u21 / 2147483648) (hr0 : r0 = u21 % 2147483648) :
    U < 9223372036854775808 ∧ q1 < 4294967296 ∧ r1 < 2147483648 ∧ u21 < 9223372036854775808 ∧ q0 < 4294967296 ∧ r0 < 2147483648 ∧ u1 < 4294967296 ∧ u0 < 4294967296 ∧ q1 * 4294967296 + q0 = (hi * 18446744073709551616 + lo) / 16 ∧ (r0 * 4294967296 + u0) / 576460752303423488 = (hi * 18446744073709551616 + lo) % 16 ∧ U * 4294967296 + u1 = q1 * 9223372036854775808 + u21 ∧ u21 * 4294967296 + u0 = q0 * 9223372036854775808 + (r0 * 4294967296 + u0) ∧ U = q1 * 2147483648 + r1 ∧ u21 = q0 * 2147483648 + r0 := by
  have a1 : U < 9223372036854775808 := by clear hL hu1 hu0 hq1 hr1 h21 hq0 hr0; omega
  obtain ⟨a2, a3⟩ : U = q1 * 2147483648 + r1 ∧ r1 < 2147483648 := by clear hU hL hu1 hu0 h21 hq0 hr0 a1 h1 h2; omega
  have a4 : L < 18446744073709551616 := by clear hU hu1 hu0 hq1 hr1 h21 hq0 hr0 a1 a2 a3 h1 h2; omega
  have a5' : lo * 576460752303423488 = lo / 32 * 18446744073709551616 + L := by clear hU hu1 hu0 hq1 hr1 h21 hq0 hr0 a1 a2 a3 a4 h1 h2; omega
  have a5 : (hi * 18446744073709551616 + lo) * 576460752303423488 = U * 18446744073709551616 + L := by clear hL hu1 hu0 hq1 hr1 h21 hq0 hr0 a1 a2 a3 a4 h1 h2; rw [hU, Nat.add_mul, Nat.add_mul, a5', Nat.mul_right_comm, Nat.add_assoc]
  obtain ⟨a6, a7, a8⟩ : u1 < 4294967296 ∧ L = u1 * 4294967296 + u0 ∧ u0 < 4294967296 := by clear hU hL hq1 hr1 h21 hq0 hr0 a1 a2 a3 a5 a5' h1 h2; omega
  have b1 : u21 < 9223372036854775808 := by clear hU hL hu1 hu0 hq1 hr1 hq0 hr0 a1 a2 a4 a5 a5' a7 h1 h2; omega
  obtain ⟨b2, b3⟩ : u21 = q0 * 2147483648 + r0 ∧ r0 < 2147483648 := by clear hU hL hu1 hu0 hq1 hr1 h21 a1 a2 a3 a4 a5 a5' a6 a7 a8 b1 h1 h2; omega
  have b4 : q0 < 4294967296 := by clear hU hL hu1 hu0 hq1 hr1 h21 a1 a2 a3 a4 a5 a5' a6 a7 a8 b2 b3 hr0 h1 h2; omega
  have b5 : q1 < 4294967296 := by clear hU hL hu1 hu0 hr1 h21 a2 a3 a4 a5 a5' a6 a7 a8 b1 b2 b3 hr0 h1 h2 hq0; omega
  have c1 : (hi * 18446744073709551616 + lo) * 576460752303423488 = (q1 * 4294967296 + q0) * 9223372036854775808 + (r0 * 4294967296 + u0) := by rw [a5, n5a_hex U L q1 r1 u1 u0 u21 a2 a7 h21, n5b_hex q1 u0 u21 q0 r0 b2]
  have c2 : r0 * 4294967296 + u0 < 9223372036854775808 := by clear hU hL hu1 hu0 hq1 hr1 h21 hq0 hr0 a1 a2 a3 a4 a5 a5' a6 a7 b1 b2 b4 b5 c1 h1 h2; omega
  have d : q1 * 4294967296 + q0 = (hi * 18446744073709551616 + lo) / 16 ∧ (r0 * 4294967296 + u0) / 576460752303423488 = (hi * 18446744073709551616 + lo) % 16 := n6_hex _ _ _ c1 c2
  have e1 : U * 4294967296 + u1 = q1 * 9223372036854775808 + u21 := by clear hU hL hu1 hu0 hq1 hr1 hq0 hr0 a1 a3 a4 a5 a5' a6 a7 a8 b1 b2 b3 b4 b5 c1 c2 d h1 h2; omega
  have e2 : u21 * 4294967296 + u0 = q0 * 9223372036854775808 + (r0 * 4294967296 + u0) := by clear hU hL hu1 hu0 hq1 hr1 h21 hq0 hr0 a1 a2 a3 a4 a5 a5' a6 a7 a8 b1 b3 b4 b5 c1 c2 d e1 h1 h2; omega
  exact ⟨a1, b5, a3, b1, b4, b3, a6, a8, d.1, d.2, e1, e2, a2, b2⟩
theorem XU_hex (hi lo U : Nat) (h1 : hi < 16) (h2 : lo < 18446744073709551616) (hU : U = hi * 576460752303423488 + lo / 32) : bits BinOp.or IntKind.u64 ((hi : Int) * 576460752303423488) ((lo : Int) / 32) = (U : Int) := by
  rw [show (hi : Int) * 576460752303423488 = ((hi * 576460752303423488 : Nat) : Int) by omega, show (lo : Int) / 32 = ((lo / 32 : Nat) : Int) by omega, u64_or_nat _ _ (by omega) (by omega), show hi * 576460752303423488 = 2 ^ 59 * hi by omega, or_small (by omega), hU]; omega
theorem XL_hex (lo L : Nat) (hL : L = lo * 576460752303423488 % 18446744073709551616) : IntKind.u64.wrap ((lo : Int) * 576460752303423488) = (L : Int) := by rw [IntKind.wrap_u64]; omega
theorem X0_hex : bits BinOp.and IntKind.u64 9223372036854775808 4294967295 = 0 := by decide
theorem Xu0_hex (L u0 : Nat) (hL : L < 18446744073709551616) (hu0 : u0 = L % 4294967296) : bits BinOp.and IntKind.u64 (L : Int) 4294967295 = (u0 : Int) := by
  rw [show (4294967295 : Int) = ((4294967295 : Nat) : Int) from rfl, u64_and_nat _ _ (by omega) (by omega), show (4294967295 : Nat) = 2 ^ 32 - 1 by decide, Nat.and_two_pow_sub_one_eq_mod]; omega
theorem Xq_hex (U q : Nat) (hU : U < 18446744073709551616) (hq : q = U / 2147483648) : IntKind.u64.wrap ((U : Int).tdiv 2147483648) = (q : Int) := by rw [quo_word (by omega) (by omega) (by decide)]; omega
theorem Xr_hex (U q r : Nat) (hU : U < 18446744073709551616) (h : U = q * 2147483648 + r) : IntKind.u64.wrap ((U : Int) - IntKind.u64.wrap ((q : Int) * 2147483648)) = (r : Int) := by rw [IntKind.wrap_u64, IntKind.wrap_u64]; omega
theorem X21_hex (U u q v : Nat) (h : U * 4294967296 + u = q * 9223372036854775808 + v) (hv : v < 18446744073709551616) : IntKind.u64.wrap (IntKind.u64.wrap (IntKind.u64.wrap ((U : Int) * 4294967296) + (u : Int)) - IntKind.u64.wrap ((q : Int) * 9223372036854775808)) = (v : Int) := by simp only [IntKind.wrap_u64]; omega
theorem XQ_hex (q p : Nat) (hq : q < 4294967296) (hp : p < 4294967296) : IntKind.u64.wrap (IntKind.u64.wrap ((q : Int) * 4294967296) + (p : Int)) = ((q * 4294967296 + p : Nat) : Int) := by simp only [IntKind.wrap_u64]; omega
theorem Xt_hex (r u : Nat) : ∃ t : Nat, IntKind.u64.wrap (IntKind.u64.wrap (4294967296 * (r : Int)) + (u : Int)) = (t : Int) := ⟨(IntKind.u64.wrap (IntKind.u64.wrap (4294967296 * (r : Int)) + (u : Int))).toNat, by rw [IntKind.wrap_u64]; omega⟩
set_option maxHeartbeats 4000000 in
set_option maxRecDepth 100000 in
theorem div64_hex (hi lo : Nat) (h0 : 0 < hi) (h1 : hi < 16) (h2 : lo < 18446744073709551616) (w : World) : Calls Tryd.prog 81 #[.int .u64 hi, .int .u64 lo, .int .u64 16] w fun e w' => e = .returned (.tuple #[.int .u64 (((hi * 18446744073709551616 + lo) / 16 : Nat) : Int), .int .u64 (((hi * 18446744073709551616 + lo) % 16 : Nat) : Int)]) ∧ Below w.heap.size w w' := by
  obtain ⟨U, hU⟩ : ∃ U, U = hi * 576460752303423488 + lo / 32 := ⟨_, rfl⟩
  obtain ⟨L, hL⟩ : ∃ L, L = lo * 576460752303423488 % 18446744073709551616 := ⟨_, rfl⟩
  obtain ⟨u1, hu1⟩ : ∃ u1, u1 = L / 4294967296 := ⟨_, rfl⟩
  obtain ⟨u0, hu0⟩ : ∃ u0, u0 = L % 4294967296 := ⟨_, rfl⟩
  obtain ⟨q1, hq1⟩ : ∃ q1, q1 = U / 2147483648 := ⟨_, rfl⟩
  obtain ⟨r1, hr1⟩ : ∃ r1, r1 = U % 2147483648 := ⟨_, rfl⟩
  obtain ⟨u21, h21⟩ : ∃ u21, u21 = r1 * 4294967296 + u1 := ⟨_, rfl⟩
  obtain ⟨q0, hq0⟩ : ∃ q0, q0 = u21 / 2147483648 := ⟨_, rfl⟩
  obtain ⟨r0, hr0⟩ : ∃ r0, r0 = u21 % 2147483648 := ⟨_, rfl⟩
  obtain ⟨n1, n2, n3, n4, n5, n6, n7, n8, n9, n10, n11, n12, n13, n14⟩ := nums_hex hi lo h1 h2 U L u1 u0 q1 r1 u21 q0 r0 hU hL hu1 hu0 hq1 hr1 h21 hq0 hr0
  have hLW : L < 18446744073709551616 := by rw [hL]; exact Nat.mod_lt _ (by decide)
  have hYW : 9223372036854775808 < 18446744073709551616 := by decide
  have XU : Hid (bits BinOp.or IntKind.u64 ((hi : Int) * 576460752303423488) ((lo : Int) / 32) = (U : Int)) := XU_hex hi lo U h1 h2 hU
  have XL : Hid (IntKind.u64.wrap ((lo : Int) * 576460752303423488) = (L : Int)) := XL_hex lo L hL
  have X0 : Hid (bits BinOp.and IntKind.u64 9223372036854775808 4294967295 = 0) := X0_hex
  have Xu0 : Hid (bits BinOp.and IntKind.u64 (L : Int) 4294967295 = (u0 : Int)) := Xu0_hex L u0 hLW hu0
  have Xu1 : Hid ((L : Int) / 4294967296 = (u1 : Int)) := by show _ = _; rw [hu1]; rfl
  have Xq1 : Hid (IntKind.u64.wrap ((U : Int).tdiv 2147483648) = (q1 : Int)) := Xq_hex U q1 (Nat.lt_trans n1 hYW) hq1
  have Xr1 : Hid (IntKind.u64.wrap ((U : Int) - IntKind.u64.wrap ((q1 : Int) * 2147483648)) = (r1 : Int)) := Xr_hex U q1 r1 (Nat.lt_trans n1 hYW) n13
  have X21 : Hid (IntKind.u64.wrap (IntKind.u64.wrap (IntKind.u64.wrap ((U : Int) * 4294967296) + (u1 : Int)) - IntKind.u64.wrap ((q1 : Int) * 9223372036854775808)) = (u21 : Int)) := X21_hex U u1 q1 u21 n11 (Nat.lt_trans n4 hYW)
  have Xq0 : Hid (IntKind.u64.wrap ((u21 : Int).tdiv 2147483648) = (q0 : Int)) := Xq_hex u21 q0 (Nat.lt_trans n4 hYW) hq0
  have Xr0 : Hid (IntKind.u64.wrap ((u21 : Int) - IntKind.u64.wrap ((q0 : Int) * 2147483648)) = (r0 : Int)) := Xr_hex u21 q0 r0 (Nat.lt_trans n4 hYW) n14
  have XQ : Hid (IntKind.u64.wrap (IntKind.u64.wrap ((q1 : Int) * 4294967296) + (q0 : Int)) = (((hi * 18446744073709551616 + lo) / 16 : Nat) : Int)) := by show _ = _; rw [← n9]; exact XQ_hex q1 q0 n2 n5
  have nR : r0 * 4294967296 + u0 < 18446744073709551616 := by clear XU XL X0 Xu0 Xu1 Xq1 Xr1 X21 Xq0 Xr0 XQ hU hL hu1 hu0 hq1 hr1 h21 hq0 hr0 n1 n2 n3 n4 n5 n7 n9 n10 n11 n12 n13 n14 h1 h2; omega
  have XR : Hid (IntKind.u64.wrap (IntKind.u64.wrap (IntKind.u64.wrap ((u21 : Int) * 4294967296) + (u0 : Int)) - IntKind.u64.wrap ((q0 : Int) * 9223372036854775808)) / 576460752303423488 = (((hi * 18446744073709551616 + lo) % 16 : Nat) : Int)) := by show _ = _; rw [X21_hex u21 u0 q0 _ n12 nR, ← n10]; rfl
  obtain ⟨t1, ht1⟩ := Xt_hex r1 u1
  obtain ⟨t0, ht0⟩ := Xt_hex r0 u0
  have d1 : decide ((4294967296 : Int) ≤ (q1 : Int)) = false := decide_eq_false (fun h => absurd (Int.ofNat_le.1 h) (Nat.not_le.2 n2))
  have d0 : decide ((4294967296 : Int) ≤ (q0 : Int)) = false := decide_eq_false (fun h => absurd (Int.ofNat_le.1 h) (Nat.not_le.2 n5))
  have e0 : ((hi : Int) == 0) = false := beq_eq_false_iff_ne.2 (fun h => absurd (Int.ofNat_inj.1 h) (Nat.ne_of_gt h0))
  have e1 : decide ((16 : Int) ≤ hi) = false := decide_eq_false (fun h => absurd (Int.ofNat_le.1 h) (Nat.not_le.2 h1))
  have m1 : decide ((t1 : Int) < 0) = false := decide_eq_false (Int.not_lt.2 (Int.natCast_nonneg t1))
  have m0 : decide ((t0 : Int) < 0) = false := decide_eq_false (Int.not_lt.2 (Int.natCast_nonneg t0))
  have C : Hid (∀ w, Calls Tryd.prog 69 #[.int .u64 16] w fun e w' => e = .returned (.int .i64 59) ∧ w' = w) := fun w => by
    have := lead64 16 (by decide) w
    rwa [bl_hex] at this
  have HT1 : Hid _ := ht1
  have HT0 : Hid _ := ht0
  clear hU hL hu1 hu0 hq1 hr1 h21 hq0 hr0 n1 n2 n3 n4 n5 n6 n7 n8 n9 n10 n11 n12 n13 n14 h2 hLW hYW nR
  go_enter Tryd.func81, Tryd.ntmps81
  go_wp2_with fail
  refine (C.out _).mono ?_
  rintro e w1 ⟨rfl, rfl⟩
  go_wp2_with fail
  rw [XU.out, XL.out, X0.out, Xu0.out, Xu1.out, Xq1.out, Xr1.out]
  go_loopw [15, 16] (fun q r wr => q = .int .u64 q1 ∧ r = .int .u64 r1 ∧ wr = w1) (fun _ _ _ => 0)
  case atStart => exact ⟨rfl, rfl, rfl⟩
  case round =>
    obtain ⟨rfl, rfl, rfl⟩ := hrel
    go_wp2_with fail
    rw [X21.out, Xq0.out, Xr0.out]
    go_loopw [18, 16] (fun q r wx => q = .int .u64 q0 ∧ r = .int .u64 r0 ∧ wx = wr) (fun _ _ _ => 0)
    case atStart => exact ⟨rfl, rfl, rfl⟩
    case round =>
      obtain ⟨rfl, rfl, rfl⟩ := hrel
      go_wp2_with fail
      go_ret2
      rw [XQ.out, XR.out]
      exact ⟨rfl, Below.refl _ _⟩

end Go.Proofs.YtjkpdcgmmdimaaaDoor
