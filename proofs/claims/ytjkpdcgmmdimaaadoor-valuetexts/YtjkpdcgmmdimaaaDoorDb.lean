/- Package value's divide by 10, 2, 16, of any number of 128 bits; its digits in these bases. -/
import Derived.Test.YtjkpdcgmmdimaaaDoorDa
namespace Go.Proofs.YtjkpdcgmmdimaaaDoor
open Go.RowKit
set_option linter.unusedVariables false
set_option linter.unusedSimpArgs false

/-- What Div64 by a base answers. -/
def Div64Said (base : Nat) : Prop := ∀ hi lo : Nat, hi < base → lo < 18446744073709551616 → ∀ w : World, Calls Tryd.prog 81 #[.int .u64 hi, .int .u64 lo, .int .u64 base] w fun e w' => e = .returned (.tuple #[.int .u64 (((hi * 18446744073709551616 + lo) / base : Nat) : Int), .int .u64 (((hi * 18446744073709551616 + lo) % base : Nat) : Int)]) ∧ Below w.heap.size w w'
theorem div64_zero (base lo : Nat) (hb : 0 < base) (hl : lo < 18446744073709551616) (w : World) : Calls Tryd.prog 81 #[.int .u64 ((0 : Nat) : Int), .int .u64 lo, .int .u64 base] w fun e w' => e = .returned (.tuple #[.int .u64 (((0 * 18446744073709551616 + lo) / base : Nat) : Int), .int .u64 (((0 * 18446744073709551616 + lo) % base : Nat) : Int)]) ∧ Below w.heap.size w w' := by
  have := div64_small (lo : Int) (base : Int) (by omega) (by omega) (by omega) w
  rw [Nat.zero_mul, Nat.zero_add]
  exact this
theorem said_ten : Div64Said 10 := fun hi lo h1 h2 w => by
  rcases Nat.eq_zero_or_pos hi with rfl | h
  · exact div64_zero 10 lo (by decide) h2 w
  · exact div64_ten hi lo h h1 h2 w
theorem said_two : Div64Said 2 := fun hi lo h1 h2 w => by
  rcases Nat.eq_zero_or_pos hi with rfl | h
  · exact div64_zero 2 lo (by decide) h2 w
  · exact div64_two hi lo h h1 h2 w
theorem said_hex : Div64Said 16 := fun hi lo h1 h2 w => by
  rcases Nat.eq_zero_or_pos hi with rfl | h
  · exact div64_zero 16 lo (by decide) h2 w
  · exact div64_hex hi lo h h1 h2 w

theorem hq_words (H Q : Nat) (h : Q < 18446744073709551616) : (H * 18446744073709551616 + Q) / 18446744073709551616 = H ∧ (H * 18446744073709551616 + Q) % 18446744073709551616 = Q := by omega
theorem divide_nums (n base h l : Nat) (hb : 0 < base) (hh : h = n / 18446744073709551616) (hl : l = n % 18446744073709551616) :
    n / base / 18446744073709551616 = h / base ∧ n / base % 18446744073709551616 = (h % base * 18446744073709551616 + l) / base ∧ n % base = (h % base * 18446744073709551616 + l) % base := by
  have hn : n = (h / base * 18446744073709551616) * base + (h % base * 18446744073709551616 + l) := by
    have e1 := Nat.div_add_mod h base
    have e2 : h * 18446744073709551616 = base * (h / base) * 18446744073709551616 + h % base * 18446744073709551616 := by rw [← Nat.add_mul, e1]
    have e3 : h / base * 18446744073709551616 * base = base * (h / base) * 18446744073709551616 := by rw [Nat.mul_comm, ← Nat.mul_assoc]
    omega
  have hr : h % base * 18446744073709551616 + l < base * 18446744073709551616 := by
    have := Nat.mod_lt h hb
    have h1 : h % base + 1 ≤ base := this
    have h2 := Nat.mul_le_mul_right 18446744073709551616 h1
    rw [Nat.add_mul] at h2
    omega
  have hq : (h % base * 18446744073709551616 + l) / base < 18446744073709551616 := Nat.div_lt_of_lt_mul hr
  have hd : n / base = h / base * 18446744073709551616 + (h % base * 18446744073709551616 + l) / base := by
    conv => lhs; rw [hn]
    rw [Nat.add_comm, Nat.add_mul_div_right _ _ hb, Nat.add_comm]
  have hm : n % base = (h % base * 18446744073709551616 + l) % base := by
    conv => lhs; rw [hn]
    rw [Nat.add_comm, Nat.add_mul_mod_self_right]
  rw [hd]
  exact ⟨(hq_words _ _ hq).1, (hq_words _ _ hq).2, hm⟩

set_option maxHeartbeats 1000000 in
set_option maxRecDepth 100000 in
theorem divide_any (base : Nat) (hb : 0 < base) (hb1 : base < 18446744073709551616) (HD : Div64Said base) (n : Nat) (hn : Is128 n) (w : World) : Calls Tryd.prog 70 #[B n, .int .u64 base] w fun e w' => e = .returned (.tuple #[B (n / base), .int .u64 ((n % base : Nat) : Int)]) ∧ Below w.heap.size w w' := by
  obtain ⟨h, hh⟩ : ∃ h, h = n / 18446744073709551616 := ⟨_, rfl⟩
  obtain ⟨l, hl⟩ : ∃ l, l = n % 18446744073709551616 := ⟨_, rfl⟩
  obtain ⟨e1, e2, e3⟩ := divide_nums n base h l hb hh hl
  have hw : h < 18446744073709551616 := by unfold Is128 at hn; omega
  have lw : l < 18446744073709551616 := by omega
  have E1 : Hid (B (n / base) = .agg #[.int .u64 ((h / base : Nat) : Int), .int .u64 (((h % base * 18446744073709551616 + l) / base : Nat) : Int)]) := by
    show _ = _
    simp only [B, hiOf, loOf, e1, e2]
  have E3 : Hid (((n % base : Nat) : Int) = (((h % base * 18446744073709551616 + l) % base : Nat) : Int)) := congrArg _ e3
  have c : ∀ w, Calls Tryd.prog 81 #[.int .u64 ((h % base : Nat) : Int), .int .u64 l, .int .u64 base] w fun e w' => e = .returned (.tuple #[.int .u64 (((h % base * 18446744073709551616 + l) / base : Nat) : Int), .int .u64 (((h % base * 18446744073709551616 + l) % base : Nat) : Int)]) ∧ Below w.heap.size w w' := fun w => HD _ _ (Nat.mod_lt _ hb) lw w
  have X1 : Hid (IntKind.u64.wrap ((h : Int) / (base : Int)) = ((h / base : Nat) : Int)) := by
    have := quo_word (a := (h : Int)) (b := (base : Int)) (by omega) (by omega) (by omega)
    rw [Int.tdiv_eq_ediv_of_nonneg (by omega)] at this
    exact this.trans rfl
  have hB : B n = .agg #[.int .u64 (h : Int), .int .u64 (l : Int)] := by simp only [B, hiOf, loOf, hh, hl]
  rw [hB, E1.out, E3.out]
  generalize (h % base * 18446744073709551616 + l) / base = q at *
  generalize (h % base * 18446744073709551616 + l) % base = r at *
  rw [show ((h % base : Nat) : Int) = (h : Int) % (base : Int) from rfl] at c
  have C : Hid (∀ w, Calls Tryd.prog 81 #[.int .u64 ((h : Int) % (base : Int)), .int .u64 l, .int .u64 base] w fun e w' => e = .returned (.tuple #[.int .u64 (q : Int), .int .u64 (r : Int)]) ∧ Below w.heap.size w w') := c
  clear hB e1 e2 e3 hh hl E1 E3 hn hw lw HD c
  obtain ⟨H, hH⟩ : ∃ H : Int, H = ((h / base : Nat) : Int) := ⟨_, rfl⟩
  rw [← hH] at X1 ⊢
  clear hH
  have h1 : (((base : Nat) : Int) == 0) = false := by simp; omega
  go_enter Tryd.func70, Tryd.ntmps70
  go_wp2
  go_quiet (fail)
  go_wp2_with fail
  rw [X1.out]
  refine (C.out _).mono ?_
  rintro e w1 ⟨rfl, hb1⟩
  obtain ⟨hc1, hf1⟩ := bcell hb1
  simp at hc1 hf1
  go_wp2
  refine bodyPost_ret (v := .tuple #[.agg #[.int .u64 H, .int .u64 (q : Int)], .int .u64 (r : Int)]) ?_ rfl ⟨rfl, ?_⟩
  · simp [results, Tryd.results70, go_sem, hc1, hf1]
  · refine Below.setCell (Below.setCell (bstep (below_drewN ?_ _) hb1) ?_ _) ?_ _
    · go_grown
    · simp
    · simp

theorem div_said (base n : Nat) (hb : 0 < base) (hb1 : base < 18446744073709551616) (HD : Div64Said base) (hn : Is128 n) : DivSaid base n := fun m hm w => divide_any base hb hb1 HD m (by unfold Is128 at *; omega) w
theorem digits_ten (n : Nat) (hn : Is128 n) (w : World) (hT : Tab w) : Calls Tryd.prog 57 #[B n, .int .u64 10] w fun e w' => e = .returned (.string ⟨(digs 10 n).toArray⟩) ∧ Below w.heap.size w w' :=
  digits_of 10 n (by decide) (by decide) (Nat.lt_of_lt_of_le hn (by decide)) (div_said 10 n (by decide) (by decide) said_ten hn) w hT
theorem digits_two (n : Nat) (hn : Is128 n) (w : World) (hT : Tab w) : Calls Tryd.prog 57 #[B n, .int .u64 2] w fun e w' => e = .returned (.string ⟨(digs 2 n).toArray⟩) ∧ Below w.heap.size w w' :=
  digits_of 2 n (by decide) (by decide) (Nat.lt_of_lt_of_le hn (by decide)) (div_said 2 n (by decide) (by decide) said_two hn) w hT
theorem digits_hex (n : Nat) (hn : Is128 n) (w : World) (hT : Tab w) : Calls Tryd.prog 57 #[B n, .int .u64 16] w fun e w' => e = .returned (.string ⟨(digs 16 n).toArray⟩) ∧ Below w.heap.size w w' :=
  digits_of 16 n (by decide) (by decide) (Nat.lt_of_lt_of_le hn (by decide)) (div_said 16 n (by decide) (by decide) said_hex hn) w hT
end Go.Proofs.YtjkpdcgmmdimaaaDoor
