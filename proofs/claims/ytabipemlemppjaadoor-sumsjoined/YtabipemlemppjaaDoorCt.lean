/- Turns of the register: they are linear; four of them are what the table of halves says; the document's turn, takes, over and More: what each answers. -/
import Derived.Test.YtabipemlemppjaaDoorCy
namespace Go.Proofs.YtabipemlemppjaaDoor
open Go.RowKit
set_option linter.unusedVariables false
set_option linter.unusedSimpArgs false

/-- A turn of the register. -/
def turnN (r : Nat) : Nat := if r % 2 = 1 then (r / 2) ^^^ 3988292384 else r / 2
theorem turnN_odd {r : Nat} (h : r % 2 = 1) : turnN r = (r / 2) ^^^ 3988292384 := by rw [turnN, if_pos h]
theorem turnN_even {r : Nat} (h : ¬ r % 2 = 1) : turnN r = r / 2 := by rw [turnN, if_neg h]
theorem turnN_lt (r : Nat) (h : r < 4294967296) : turnN r < 4294967296 := by
  by_cases e : r % 2 = 1
  · rw [turnN_odd e]; exact Nat.xor_lt_two_pow (n := 32) (by omega) (by decide)
  · rw [turnN_even e]; omega
theorem xor_half (a b : Nat) : (a ^^^ b) / 2 = a / 2 ^^^ b / 2 := by
  apply Nat.eq_of_testBit_eq; intro i
  simp only [Nat.testBit_div_two, Nat.testBit_xor]
theorem xor_low (a b : Nat) : ((a ^^^ b) % 2 = 1) ↔ ¬ ((a % 2 = 1) ↔ (b % 2 = 1)) := by
  have h := Nat.testBit_xor a b 0
  simp only [Nat.testBit_zero] at h
  by_cases ha : a % 2 = 1 <;> by_cases hb : b % 2 = 1 <;> simp [ha, hb] at h <;> simp [ha, hb] <;> omega
theorem xor_swap (a b p : Nat) : (a ^^^ p) ^^^ (b ^^^ p) = a ^^^ b := by
  apply Nat.eq_of_testBit_eq; intro i
  simp only [Nat.testBit_xor]
  cases a.testBit i <;> cases b.testBit i <;> cases p.testBit i <;> rfl
theorem xor_mid (a b p : Nat) : (a ^^^ b) ^^^ p = (a ^^^ p) ^^^ b := by
  rw [Nat.xor_assoc, Nat.xor_comm b p, ← Nat.xor_assoc]
theorem turn_xor (a b : Nat) : turnN (a ^^^ b) = turnN a ^^^ turnN b := by
  have h := xor_low a b
  by_cases ha : a % 2 = 1 <;> by_cases hb : b % 2 = 1
  · rw [turnN_odd ha, turnN_odd hb, turnN_even (by rw [h]; simp [ha, hb]), xor_half, xor_swap]
  · rw [turnN_odd ha, turnN_even hb, turnN_odd (by rw [h]; simp [ha, hb]), xor_half, xor_mid]
  · rw [turnN_even ha, turnN_odd hb, turnN_odd (by rw [h]; simp [ha, hb]), xor_half, Nat.xor_assoc]
  · rw [turnN_even ha, turnN_even hb, turnN_even (by rw [h]; simp [ha, hb]), xor_half]
/-- So many turns. -/
def turnsN : Nat → Nat → Nat
  | 0, r => r
  | k + 1, r => turnsN k (turnN r)
theorem turns_xor : ∀ (k a b : Nat), turnsN k (a ^^^ b) = turnsN k a ^^^ turnsN k b
  | 0, _, _ => rfl
  | k + 1, a, b => by rw [turnsN, turnsN, turnsN, turn_xor, turns_xor k]
theorem turns_lt : ∀ (k r : Nat), r < 4294967296 → turnsN k r < 4294967296
  | 0, _, h => h
  | k + 1, r, h => by rw [turnsN]; exact turns_lt k _ (turnN_lt r h)
theorem turns_add : ∀ (k j r : Nat), turnsN (k + j) r = turnsN j (turnsN k r)
  | 0, j, r => by rw [Nat.zero_add]; rfl
  | k + 1, j, r => by rw [Nat.add_right_comm, turnsN, turnsN, turns_add k j]
theorem turn_double (q : Nat) : turnN (2 * q) = q := by rw [turnN_even (by omega)]; omega
theorem turns_four (q : Nat) : turnsN 4 (16 * q) = q := by
  rw [show 16 * q = 2 * (2 * (2 * (2 * q))) by omega]
  simp only [turnsN, turn_double]
theorem split16 (r : Nat) : r = (16 * (r / 16)) ^^^ (r % 16) := by
  apply Nat.eq_of_testBit_eq; intro i
  rw [Nat.testBit_xor, show r % 16 = r % 2 ^ 4 from rfl, Nat.testBit_mod_two_pow, Nat.mul_comm, show r / 16 * 16 = r / 2 ^ 4 * 2 ^ 4 from rfl, Nat.testBit_mul_two_pow, Nat.testBit_div_two_pow]
  by_cases h : i < 4
  · simp [h, show ¬ 4 ≤ i by omega]
  · simp [h, show 4 ≤ i by omega]
theorem half_turns : ∀ d, d < 16 → turnsN 4 d = half d := by decide
theorem four_turns (r : Nat) : fourN r = turnsN 4 r := by
  conv => rhs; rw [split16 r, turns_xor, turns_four, half_turns _ (Nat.mod_lt _ (by decide))]
  rfl
theorem forth_turns (r : Nat) : forthN r = turnsN 8 r := by
  rw [forthN, four_turns, four_turns, ← turns_add]

theorem turn_word (r : Nat) (h : r < 4294967296) : bits .xor .u32 ((r : Int) / 2) 3988292384 = ((r / 2 ^^^ 3988292384 : Nat) : Int) := by
  have := u32_xor_nat (r / 2) 3988292384 (by omega) (by decide)
  rw [show ((r / 2 : Nat) : Int) = (r : Int) / 2 by omega] at this
  exact this
set_option maxHeartbeats 1000000 in
theorem turn_any (r : Nat) (hr : r < 4294967296) (w : World) : Calls Tryd.prog 41 #[.int .u32 r] w fun e w' => e = .returned (.int .u32 (turnN r)) ∧ w' = w := by
  by_cases h : r % 2 = 1
  · have h' : (r : Int) % 2 = 1 := by omega
    have e := turn_word r hr
    have HT : Hid (turnN r = (r / 2) ^^^ 3988292384) := turnN_odd h
    generalize r / 2 ^^^ 3988292384 = q at *
    go_enter Tryd.func41, Tryd.ntmps41
    go_wp2
    go_ret
    exact ⟨by rw [HT.out]; rfl, rfl⟩
  · have h' : (r : Int) % 2 = 0 := by omega
    have HT : Hid (turnN r = r / 2) := turnN_even h
    go_enter Tryd.func41, Tryd.ntmps41
    go_wp2
    go_ret
    exact ⟨by rw [HT.out]; rfl, rfl⟩
set_option maxHeartbeats 1000000 in
theorem over_any (r : Nat) (hr : r < 4294967296) (w : World) : Calls Tryd.prog 30 #[.int .u32 r] w fun e w' => e = .returned (.int .u32 ((4294967295 - r : Nat) : Int)) ∧ w' = w := by
  have e0 : ((4294967295 : Int) - (r : Int)) = ((4294967295 - r : Nat) : Int) := by omega
  go_enter Tryd.func30, Tryd.ntmps30
  go_wp2
  go_ret
  exact ⟨by rw [← e0]; rfl, rfl⟩
end Go.Proofs.YtabipemlemppjaaDoor
