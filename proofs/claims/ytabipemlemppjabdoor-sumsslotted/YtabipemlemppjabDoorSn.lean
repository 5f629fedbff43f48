/- The walk of SumsSlotted at no texts. -/
import Derived.Test.YtabipemlemppjabDoorSb
namespace Go.Proofs.YtabipemlemppjabDoor
open Go.RowKit Go.Maps
set_option linter.unusedVariables false
set_option linter.unusedSimpArgs false

set_option maxHeartbeats 8000000 in
set_option maxRecDepth 100000 in
theorem slotted_none (ad : Option Addr) (cap : Nat) (seed : Nat) (hseed : seed < 4294967296) (m : Int) (hm1 : -9223372036854775808 ≤ m) (hm2 : m ≤ 9223372036854775807) (w : World) (hT : Tab w) :
    Calls Tryd.prog 5 #[.int .u32 seed, .int .i64 m, .slice ad 0 cap] w fun e w' => e = .returned (.bool true) ∧ Below w.heap.size w w' := by
  have CL : Hid (∀ w : World, Tab w → Calls Tryd.prog 6 #[] w fun e w' => e = .returned (.bool true) ∧ Below w.heap.size w w') := live_any
  by_cases hm : m < 1
  · have CA : Hid (∀ (v : Value) (w : World), Calls Tryd.prog 10 #[.int .u32 seed, .int .i64 m, v] w fun e w' => e = .returned (.tuple #[.slice none 0 0, .int .i64 1]) ∧ w' = w) := fun v w => slots_arg seed m hm v w
    go_enter Tryd.func5, Tryd.ntmps5
    go_wp2_with fail
    refine (CL.out _ hT).mono ?_
    rintro e w1 ⟨rfl, hb1⟩
    go_wp2_with fail
    refine wp_loop_rounds 1 ?_
    rw [rounds_succ]
    go_wp2_with fail
    refine (CA.out _ _).mono ?_
    rintro e w2 ⟨rfl, rfl⟩
    go_wp2_with fail
    refine (CA.out _ _).mono ?_
    rintro e w3 ⟨rfl, rfl⟩
    go_wp2_with fail
    go_ret
    exact ⟨rfl, hb1⟩
  · obtain ⟨N, rfl⟩ : ∃ N : Nat, m = N := ⟨m.toNat, by omega⟩
    have CA : Hid (∀ w : World, Calls Tryd.prog 10 #[.int .u32 seed, .int .i64 N, .slice none 0 0] w fun e w' => Below w.heap.size w w' ∧ ∃ a c, e = .returned (.tuple #[.slice a 0 c, .int .i64 0])) := fun w => (slots_nil seed N (by omega) (by omega) w).mono (by
      rintro e w' ⟨hb, v, rfl, ho⟩
      refine ⟨hb, ?_⟩
      rcases ho.2 with ⟨rfl, _⟩ | ⟨g, cap, cur, rfl, _⟩
      · exact ⟨_, _, rfl⟩
      · exact ⟨_, _, rfl⟩)
    go_enter Tryd.func5, Tryd.ntmps5
    go_wp2_with fail
    refine (CL.out _ hT).mono ?_
    rintro e w1 ⟨rfl, hb1⟩
    go_wp2_with fail
    refine wp_loop_rounds 1 ?_
    rw [rounds_succ]
    go_wp2_with fail
    refine (CA.out _).mono ?_
    rintro e w2 ⟨hb2, a, c, rfl⟩
    go_wp2_with fail
    refine (CA.out _).mono ?_
    rintro e w3 ⟨hb3, a', c', rfl⟩
    go_wp2_with fail
    refine wp_loop_rounds 1 ?_
    rw [rounds_succ]
    go_wp2_with fail
    go_ret
    exact ⟨rfl, hb1.trans ((hb2.mono hb1.size).trans (hb3.mono (Nat.le_trans hb1.size hb2.size)))⟩
end Go.Proofs.YtabipemlemppjabDoor
