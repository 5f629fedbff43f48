/- What a script's calls lean on: rest, same. -/
import Derived.Test.YtgdpplipahhffaaGc
namespace Go.Proofs.Ytgdpplipahhffaa
open Go.RowKit
set_option linter.unusedVariables false
set_option linter.unusedSimpArgs false

theorem rest_any (k : Int) (w : World) : Calls Try.prog 12 #[.int .i64 k] w fun e w' => e = .returned (.int .i64 (k % 12)) ∧ w' = w := by
  have h1 : (Int.tmod k 12 + 12) % 12 = k % 12 ∧ -12 < Int.tmod k 12 ∧ Int.tmod k 12 < 12 := by
    rcases Int.le_total 0 k with h | h
    · rw [Int.tmod_eq_emod_of_nonneg h]; omega
    · have h0 : 0 ≤ -k := by omega
      have e : Int.tmod k 12 = -((-k) % 12) := by
        rw [← Int.tmod_eq_emod_of_nonneg h0, Int.neg_tmod]; omega
      rw [e]; omega
  have HH : Hid ((Int.tmod k 12 + 12) % 12 = k % 12) := h1.1
  obtain ⟨_, h2, h3⟩ := h1
  generalize hx : Int.tmod k 12 = x at *
  go_enter Try.func12, Try.ntmps12
  go_wp2
  go_ret
  exact ⟨by rw [← HH.out]; rfl, rfl⟩
set_option maxHeartbeats 2000000 in
theorem same_yes (w : World) {W : Nat} (h2 : W ≤ 128) {p : List Bool} (hp : p.length ≤ W) (u : Int) :
    Calls Try.prog 22 #[Pf (valOf W p) p.length, .agg #[.string (tx p), .int .i64 u], .int .i64 W] w fun e w' => e = .returned (.bool true) ∧ Below w.heap.size w w' := by
  have HB := two_new' w #[.int .u64 (hiOf (valOf W p)), .int .u64 (loOf (valOf W p)), .int .i64 p.length] #[.string (tx p), .int .i64 u] 51 57
  have C53 : Hid (∀ w1, Calls Try.prog 53 #[.string (tx p), .int .i64 W] w1 fun e w' => e = .returned (B (valOf W p)) ∧ Hid (Kept (fun _ => False) w1 w')) := fun w1 => (rvalue_any w1 h2 hp).mono fun _ _ h => ⟨h.1, h.2⟩
  have hsz : (tx p).size = p.length := tx_size p
  generalize valOf W p = v at *
  generalize tx p = tp at *
  go_enter Try.func22, Try.ntmps22
  go_upto_region 1 with fail
  generalize (World.alloc _ _) = w0 at HB ⊢
  have d0 := HB.out.2.1.cell 0 (v := .string tp) rfl
  go_wp2_with fail
  refine (C53.out _).mono ?_
  rintro e w2 ⟨rfl, H2⟩
  have HC : Hid (Blk w2 w.heap.size #[.int .u64 (hiOf v), .int .u64 (loOf v), .int .i64 p.length] 51 ∧ Blk w2 (w.heap.size + 1) #[.string tp, .int .i64 u] 57 ∧ Below w.heap.size w w2) :=
    ⟨HB.out.1.kept H2.out id, HB.out.2.1.kept H2.out id, bst HB.out.2.2.1 (H2.out.below (Nat.le_refl _) (fun k e => e.elim))⟩
  have HD := one_new w2 #[.int .u64 (hiOf v), .int .u64 (loOf v)] 33
  have HE : Hid (Blk (w2.alloc (.cells #[.int .u64 (hiOf v), .int .u64 (loOf v)] 33)) w.heap.size #[.int .u64 (hiOf v), .int .u64 (loOf v), .int .i64 p.length] 51 ∧ Blk (w2.alloc (.cells #[.int .u64 (hiOf v), .int .u64 (loOf v)] 33)) (w.heap.size + 1) #[.string tp, .int .i64 u] 57 ∧ Blk (w2.alloc (.cells #[.int .u64 (hiOf v), .int .u64 (loOf v)] 33)) w2.heap.size #[.int .u64 (hiOf v), .int .u64 (loOf v)] 33 ∧ Below w.heap.size w (w2.alloc (.cells #[.int .u64 (hiOf v), .int .u64 (loOf v)] 33))) :=
    ⟨HC.out.1.below HD.2.1, HC.out.2.1.below HD.2.1, HD.1, bst HC.out.2.2 HD.2.1⟩
  clear HB HC HD H2 d0 C53
  go_upto_region 2 with fail
  generalize (World.alloc _ _) = w3 at HE ⊢
  have x0 := HE.out.1.cell 0 (v := .int .u64 (hiOf v)) rfl
  have x1 := HE.out.1.cell 1 (v := .int .u64 (loOf v)) rfl
  have x2 := HE.out.1.cell 2 (v := .int .i64 p.length) rfl
  have d0 := HE.out.2.1.cell 0 (v := .string tp) rfl
  have y0 := HE.out.2.2.1.cell 0 (v := .int .u64 (hiOf v)) rfl
  have y1 := HE.out.2.2.1.cell 1 (v := .int .u64 (loOf v)) rfl
  go_wp2_with fail
  go_ret
  exact ⟨rfl, HE.out.2.2.2⟩
end Go.Proofs.Ytgdpplipahhffaa
