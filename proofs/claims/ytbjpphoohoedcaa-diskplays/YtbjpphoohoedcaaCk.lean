/- The walk of DiskNil: whatever the arguments: true; older memory is as it was. -/
import Derived.Test.YtbjpphoohoedcaaCj
namespace Go.Proofs.Ytbjpphoohoedcaa
open Go.RowKit
set_option linter.unusedVariables false
set_option linter.unusedSimpArgs false

def stV (a b c : Int) : Value := .agg #[.int .i64 a, .int .i64 b, .int .i64 c]
theorem run_eqS (a b c d e f : Int) (w : World) : (binOp .eql 67 (.agg #[.int .i64 a, .int .i64 b, .int .i64 c]) (.agg #[.int .i64 d, .int .i64 e, .int .i64 f])).run Try.prog w = .ok (.bool ((a == d) && (b == e) && (c == f))) w := by
  have hS : Try.prog.underlying 67 = some (.struct (Try.prog.fieldsOf 67)) := by kernel_rfl
  have hp : Try.prog.stoodInHeld 67 = false := by kernel_rfl
  have u := Try.underlying3
  have h : (Op.equalIn 10000 67 (.agg #[.int .i64 a, .int .i64 b, .int .i64 c]) (.agg #[.int .i64 d, .int .i64 e, .int .i64 f])).run Try.prog w = .ok (a == d && b == e && c == f) w := by
    rw [show (10000 : Nat) = 9999 + 1 from rfl, run_equalIn_struct w 9999 67 _ _ hS hp]
    simp only [Program.fieldsOf, Try.underlying67]
    go_simp
    by_cases h1 : a = d <;> by_cases h2 : b = e <;> by_cases h3 : c = f <;> simp [h1, h2, h3]
  simp only [binOp]
  simp [Op.equal, Op.maxDepth, h]
theorem run_neS (a b c d e f : Int) (w : World) : (binOp .neq 67 (.agg #[.int .i64 a, .int .i64 b, .int .i64 c]) (.agg #[.int .i64 d, .int .i64 e, .int .i64 f])).run Try.prog w = .ok (.bool (!((a == d) && (b == e) && (c == f)))) w := by
  have hS : Try.prog.underlying 67 = some (.struct (Try.prog.fieldsOf 67)) := by kernel_rfl
  have hp : Try.prog.stoodInHeld 67 = false := by kernel_rfl
  have u := Try.underlying3
  have h : (Op.equalIn 10000 67 (.agg #[.int .i64 a, .int .i64 b, .int .i64 c]) (.agg #[.int .i64 d, .int .i64 e, .int .i64 f])).run Try.prog w = .ok (a == d && b == e && c == f) w := by
    rw [show (10000 : Nat) = 9999 + 1 from rfl, run_equalIn_struct w 9999 67 _ _ hS hp]
    simp only [Program.fieldsOf, Try.underlying67]
    go_simp
    by_cases h1 : a = d <;> by_cases h2 : b = e <;> by_cases h3 : c = f <;> simp [h1, h2, h3]
  simp only [binOp]
  simp [Op.equal, Op.maxDepth, h]
theorem eq_zero (w : World) : (binOp .eql 67 (.agg #[.int .i64 0, .int .i64 0, .int .i64 0]) (.agg #[.int .i64 0, .int .i64 0, .int .i64 0])).run Try.prog w = .ok (.bool true) w := by
  rw [run_eqS]; rfl
theorem pending_nil (w : World) : Calls Try.prog 24 #[.pointer none] w fun e w' => e = .returned (.slice none 0 0) ∧ w' = w := by
  go_enter Try.func24, Try.ntmps24
  go_wp2
  go_ret
  exact ⟨rfl, rfl⟩
theorem image_nil (w : World) : Calls Try.prog 18 #[.pointer none] w fun e w' => e = .returned (.string ⟨#[]⟩) ∧ w' = w := by
  go_enter Try.func18, Try.ntmps18
  go_wp2
  go_ret
  exact ⟨rfl, rfl⟩
set_option maxHeartbeats 2000000 in
set_option maxRecDepth 100000 in
theorem nil_walk (n : Int) (s : ByteArray) (a : Option Addr) (k c : Nat) (w : World) : Calls Try.prog 10 #[.int .i64 n, .string s, .slice a k c] w fun e w' => e = .returned (.bool true) ∧ Below w.heap.size w w' := by
  have hq := eq_zero
  go_enter Try.func10, Try.ntmps10
  go_wp2_with fail
  refine (awake_any _).mono ?_
  rintro e w1 ⟨rfl, hb1⟩
  go_wp2_with fail
  refine (read_nil _ _).mono ?_
  rintro e w2 ⟨rfl, hw⟩
  rw [hw]; clear hw
  go_wp2_with fail
  refine (write_nil _ _ _).mono ?_
  rintro e w2 ⟨rfl, hw⟩
  rw [hw]; clear hw
  go_wp2_with fail
  refine (flush_nil _).mono ?_
  rintro e w2 ⟨rfl, hw⟩
  rw [hw]; clear hw
  go_wp2_with fail
  refine (cut_nil _ _).mono ?_
  rintro e w2 ⟨rfl, hw⟩
  rw [hw]; clear hw
  go_wp2_with fail
  refine (crash_nil _ _ _ _).mono ?_
  rintro e w2 ⟨rfl, hb2⟩
  have hB2 := bstep hb1 hb2 (Nat.le_refl _)
  clear hb1 hb2
  go_wp2_with fail
  refine (size_nil _).mono ?_
  rintro e w3 ⟨rfl, hw⟩
  rw [hw]; clear hw
  go_wp2_with fail
  refine (off_nil _).mono ?_
  rintro e w3 ⟨rfl, hw⟩
  rw [hw]; clear hw
  go_wp2_with fail
  refine (pending_nil _).mono ?_
  rintro e w3 ⟨rfl, hw⟩
  rw [hw]; clear hw
  go_wp2_with fail
  refine (image_nil _).mono ?_
  rintro e w3 ⟨rfl, hw⟩
  rw [hw]; clear hw
  go_wp2_with fail
  refine (stats_nil _).mono ?_
  rintro e w3 ⟨rfl, hb3⟩
  have hB3 := bstep hB2 hb3 (Nat.le_refl _)
  clear hb3
  go_wp2
  go_ret
  exact ⟨rfl, hB3⟩
end Go.Proofs.Ytbjpphoohoedcaa
