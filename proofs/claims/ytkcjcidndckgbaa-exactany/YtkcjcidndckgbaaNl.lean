/- Package exact at a nil map: what each call answers. -/
import Derived.Test.YtkcjcidndckgbaaAw
namespace Go.Proofs.Ytkcjcidndckgbaa
open Go.RowKit
set_option linter.unusedVariables false
set_option linter.unusedSimpArgs false

theorem putI_nil (k : ByteArray) (v : Int) (w : World) : Calls Try.prog 27 #[.pointer none, .string k, .int .i64 v] w fun e w' => e = .returned (.int .i64 1) ∧ w' = w := by
  go_enter Try.func27, Try.ntmps27
  go_wp2
  go_ret
  exact ⟨rfl, rfl⟩
theorem setI_nil (k : ByteArray) (v : Int) (w : World) : Calls Try.prog 28 #[.pointer none, .string k, .int .i64 v] w fun e w' => e = .returned (.int .i64 1) ∧ w' = w := by
  go_enter Try.func28, Try.ntmps28
  go_wp2
  go_ret
  exact ⟨rfl, rfl⟩
theorem mfindI_nil (k : ByteArray) (w : World) : Calls Try.prog 57 #[.pointer none, .string k] w fun e w' => e = .returned (.tuple #[.int .i64 0, .bool false]) ∧ w' = w := by
  go_enter Try.func57, Try.ntmps57
  go_wp2
  go_ret2
  exact ⟨rfl, rfl⟩
theorem dropI_nil (k : ByteArray) (w : World) : Calls Try.prog 29 #[.pointer none, .string k] w fun e w' => e = .returned (.tuple #[.int .i64 0, .bool false]) ∧ w' = w := by
  have C : Hid (Calls Try.prog 57 #[.pointer none, .string k] w fun e w' => e = .returned (.tuple #[.int .i64 0, .bool false]) ∧ w' = w) := mfindI_nil k w
  go_enter Try.func29, Try.ntmps29
  go_wp2_with fail
  refine C.out.mono ?_
  rintro e w1 ⟨rfl, rfl⟩
  clear C
  go_wp2
  go_ret2
  exact ⟨rfl, rfl⟩
theorem getI_nil (k : ByteArray) (w : World) : Calls Try.prog 30 #[.pointer none, .string k] w fun e w' => e = .returned (.tuple #[.int .i64 0, .bool false]) ∧ w' = w := by
  have C : Hid (Calls Try.prog 57 #[.pointer none, .string k] w fun e w' => e = .returned (.tuple #[.int .i64 0, .bool false]) ∧ w' = w) := mfindI_nil k w
  go_enter Try.func30, Try.ntmps30
  go_wp2_with fail
  refine C.out.mono ?_
  rintro e w1 ⟨rfl, rfl⟩
  clear C
  go_wp2
  go_ret2
  exact ⟨rfl, rfl⟩
theorem lenI_nil (w : World) : Calls Try.prog 33 #[.pointer none] w fun e w' => e = .returned (.int .i64 0) ∧ w' = w := by
  go_enter Try.func33, Try.ntmps33
  go_wp2
  go_ret
  exact ⟨rfl, rfl⟩
theorem clearI_nil (w : World) : Calls Try.prog 31 #[.pointer none] w fun e w' => e = .returned (.tuple #[]) ∧ w' = w := by
  go_enter Try.func31, Try.ntmps31
  go_wp2
  refine bodyPost_ret (results_none rfl _ _ _) rfl ?_
  exact ⟨rfl, rfl⟩
theorem copyI_nil (w : World) : Calls Try.prog 32 #[.pointer none] w fun e w' => e = .returned (.pointer none) ∧ w' = w := by
  go_enter Try.func32, Try.ntmps32
  go_wp2
  go_ret
  exact ⟨rfl, rfl⟩
theorem allI_any (p : Option Addr) (w : World) : Calls Try.prog 11 #[.pointer p] w fun e w' => e = .returned (.func (.func 42) #[] #[.pointer (some ⟨w.heap.size, 0, none⟩)]) ∧ Blk w' w.heap.size #[.pointer p] 24 ∧ Below w.heap.size w w' := by
  have hmf := mf
  have HB : Hid (Below w.heap.size w (w.alloc (.cells #[.pointer p] 24))) := (Below.refl _ _).alloc (Nat.le_refl _) _
  have HX : Hid (Blk (w.alloc (.cells #[.pointer p] 24)) w.heap.size #[.pointer p] 24) := Blk.new w _ 24
  go_enter Try.func11, Try.ntmps11
  go_wp2
  go_ret
  exact ⟨rfl, HX.out, HB.out⟩
theorem sortedI_nil (m : Nat) (w : World) : CallsIn Fence.wide m Try.prog 43 #[.pointer none] w fun e w' => e = .returned (.slice none 0 0) ∧ w' = w := by
  refine callsIn_of_wp_marks Try.func43 rfl trivial ?_ rfl
  simp only [Try.ntmps43, List.size_toArray, List.length_cons, List.length_nil, Nat.reduceAdd, Nat.reduceSub, Array.replicate_succ, Array.replicate_zero, List.push_toArray, List.append_toArray, List.nil_append, List.cons_append]
  gi_wp2
  refine ⟨.slice none 0 0, ?_, rfl, rfl⟩
  simp [results, Try.results43, go_sem]
theorem allI_tells_nil {α : Type} (encs : α → Array Value) (w : World) (bx : Nat) (hbx : Blk w bx #[.pointer none] 24) (S : Nat → Prop) :
    Tells Try.prog 42 #[.pointer (some ⟨bx, 0, none⟩)] encs [] S w := by
  intro n l J Jx W hW hl hJ hJx hY h0
  have HBW : Hid (Blk W bx #[.pointer none] 24) := hbx.below hW
  have H0 : Hid (J [] W) := h0
  have CS : Hid (∀ W m, CallsIn Fence.wide m Try.prog 43 #[.pointer none] W fun e w' => e = .returned (.slice none 0 0) ∧ w' = W) := fun W m => sortedI_nil m W
  have c0 := HBW.out.cell 0 (v := .pointer none) rfl
  clear hbx hW hY h0 hJ hJx
  refine callsIn_of_wp Try.func42 rfl trivial ?_ rfl
  simp only [Try.ntmps42, List.size_toArray, List.length_cons, List.length_nil, Nat.reduceAdd, Nat.reduceSub, Array.replicate_succ, Array.replicate_zero, List.push_toArray, List.append_toArray, List.nil_append, List.cons_append]
  gi_wp2_with fail
  refine ⟨trivial, no_depth _, ?_⟩
  refine (CS.out _ _).mono ?_
  rintro e w1 ⟨rfl, rfl⟩
  gi_wp2_with fail
  gi_loopw [8] (fun t wr => t = .int .i64 0 ∧ wr = w1) (fun _ _ => 0)
  case atStart => exact ⟨rfl, rfl⟩
  case round =>
    obtain ⟨rfl, rfl⟩ := hrel
    gi_wp2_with fail
    go_end0
    exact ⟨⟨_, rfl⟩, .inl H0.out⟩
end Go.Proofs.Ytkcjcidndckgbaa
