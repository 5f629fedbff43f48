/- The law's opening look at the chapter's examples: what it answers. -/
import Derived.Test.YtkcjcidndckgbaaMs
import Derived.Test.YtkcjcidndckgbaaMt
namespace Go.Proofs.Ytkcjcidndckgbaa
open Go.RowKit
set_option linter.unusedVariables false
set_option linter.unusedSimpArgs false

/-- A map in memory laid since w. -/
structure Mine (w W : World) (q b most : Nat) (r : List (Pl Int)) (cap : Nat) : Prop where
  at_ : MapAt W q b most r cap
  bel : Below w.heap.size w W
  lq : w.heap.size ≤ q
  lb : w.heap.size ≤ b
theorem Mine.below {w W W' : World} {q b most cap : Nat} {r : List (Pl Int)} (h : Mine w W q b most r cap) (hb : Below W.heap.size W W') : Mine w W' q b most r cap :=
  ⟨h.at_.below hb, h.bel.trans (hb.mono h.bel.size), h.lq, h.lb⟩
theorem Mine.step {w W W' : World} {q b most cap b2 cap2 : Nat} {r r2 : List (Pl Int)} (h : Mine w W q b most r cap) (h1 : MapAt W' q b2 most r2 cap2) (hk : Kept (fun z => z = q ∨ z = b) W W') (h2 : b2 = b ∨ W.heap.size ≤ b2) : Mine w W' q b2 most r2 cap2 :=
  ⟨h1, h.bel.trans (hk.below h.bel.size (fun k e => by have := h.lq; have := h.lb; rcases e with e | e <;> omega)), h.lq, by have := h.lb; have := h.bel.size; rcases h2 with h2 | h2 <;> omega⟩
set_option maxHeartbeats 4000000 in
set_option maxRecDepth 100000 in
theorem awake_any (w : World) : Calls Try.prog 6 #[] w fun e w' => e = .returned (.bool true) ∧ Below w.heap.size w w' := by
  have C0 : Hid (Calls Try.prog 7 #[.int .i64 0] w fun e w' => e = .returned (.tuple #[.pointer none, .int .i64 1]) ∧ w' = w) := newI_bad 0 (by omega) w
  have C1 : Hid (Calls Try.prog 7 #[.int .i64 2] w fun e w' => ∃ q b r cap, e = .returned (.tuple #[.pointer (some ⟨q, 0, none⟩), .int .i64 0]) ∧ Hid (Mine w w' q b 2 r cap ∧ cont r = [])) := (newI_ok 2 (by omega) (by omega) w).mono (by
    rintro e w' ⟨q, b, r, cap, rfl, h1, h2, h3, h4, h5⟩
    exact ⟨q, b, r, cap, rfl, ⟨h1, h3, h4, h5⟩, h2⟩)
  have CP1 : Hid (∀ W q b r cap, Mine w W q b 2 r cap → cont r = [] → Calls Try.prog 27 #[.pointer (some ⟨q, 0, none⟩), .string ⟨#[98]⟩, .int .i64 1] W fun e w' => e = .returned (.int .i64 0) ∧ ∃ b2 r2 cap2, Hid (Mine w w' q b2 2 r2 cap2 ∧ (cont r2).Perm [(⟨#[98]⟩, 1)])) := fun W q b r cap h h0 =>
    (putI_ok q b 2 cap r ⟨#[98]⟩ 1 (by decide) W h.at_ (by rw [h0]; simp) (by rw [h0]; decide)).mono (by
      rintro e w' ⟨rfl, b2, cap2, r2, h1, h2, h3, h4⟩
      exact ⟨rfl, b2, r2, cap2, h.step h1 h3 h4, by rw [h0] at h2; exact h2⟩)
  have CP2 : Hid (∀ W q b r cap, Mine w W q b 2 r cap → (cont r).Perm [(⟨#[98]⟩, 1)] → Calls Try.prog 27 #[.pointer (some ⟨q, 0, none⟩), .string ⟨#[]⟩, .int .i64 2] W fun e w' => e = .returned (.int .i64 0) ∧ ∃ b2 r2 cap2, Hid (Mine w w' q b2 2 r2 cap2 ∧ (cont r2).Perm [(⟨#[]⟩, 2), (⟨#[98]⟩, 1)])) := fun W q b r cap h h0 =>
    (putI_ok q b 2 cap r ⟨#[]⟩ 2 (by decide) W h.at_ (fun x hx => by have := h0.mem_iff.1 hx; simp at this; subst this; simp) (by rw [h0.length_eq]; decide)).mono (by
      rintro e w' ⟨rfl, b2, cap2, r2, h1, h2, h3, h4⟩
      exact ⟨rfl, b2, r2, cap2, h.step h1 h3 h4, h2.trans (h0.cons _)⟩)
  have CP3 : Hid (∀ W q b r cap, Mine w W q b 2 r cap → (cont r).Perm [(⟨#[]⟩, 2), (⟨#[98]⟩, 1)] → Calls Try.prog 27 #[.pointer (some ⟨q, 0, none⟩), .string ⟨#[98]⟩, .int .i64 3] W fun e w' => e = .returned (.int .i64 121) ∧ Hid (Mine w w' q b 2 r cap)) := fun W q b r cap h h0 =>
    (putI_dup q b 2 cap r ⟨#[98]⟩ 1 3 (by decide) W h.at_ (h0.mem_iff.2 (by simp))).mono (by
      rintro e w' ⟨rfl, hb⟩
      exact ⟨rfl, h.below hb⟩)
  have CP4 : Hid (∀ W q b r cap, Mine w W q b 2 r cap → (cont r).Perm [(⟨#[]⟩, 2), (⟨#[98]⟩, 1)] → Calls Try.prog 27 #[.pointer (some ⟨q, 0, none⟩), .string ⟨#[99]⟩, .int .i64 4] W fun e w' => e = .returned (.int .i64 120) ∧ Hid (Mine w w' q b 2 r cap)) := fun W q b r cap h h0 =>
    (putI_full q b 2 cap r ⟨#[99]⟩ 4 (by decide) W h.at_ (fun x hx => by have := h0.mem_iff.1 hx; simp at this; rcases this with rfl | rfl <;> simp) (by rw [h0.length_eq]; rfl)).mono (by
      rintro e w' ⟨rfl, hb⟩
      exact ⟨rfl, h.below hb⟩)
  have CG : Hid (∀ W q b r cap, Mine w W q b 2 r cap → (cont r).Perm [(⟨#[]⟩, 2), (⟨#[98]⟩, 1)] → Calls Try.prog 30 #[.pointer (some ⟨q, 0, none⟩), .string ⟨#[98]⟩] W fun e w' => e = .returned (.tuple #[.int .i64 1, .bool true]) ∧ Hid (Mine w w' q b 2 r cap)) := fun W q b r cap h h0 =>
    (getI_some q b 2 cap r ⟨#[98]⟩ 1 (by decide) W h.at_ (h0.mem_iff.2 (by simp))).mono (by
      rintro e w' ⟨rfl, hb⟩
      exact ⟨rfl, h.below hb⟩)
  have CN : Hid (∀ W q b r cap, Mine w W q b 2 r cap → (cont r).Perm [(⟨#[]⟩, 2), (⟨#[98]⟩, 1)] → Calls Try.prog 33 #[.pointer (some ⟨q, 0, none⟩)] W fun e w' => e = .returned (.int .i64 2) ∧ w' = W) := fun W q b r cap h h0 => by
    have := lenI_any q b 2 cap r W h.at_
    rw [h0.length_eq] at this
    exact this
  go_enter Try.func6, Try.ntmps6
  go_wp2_with fail
  refine C0.out.mono ?_
  rintro e w0 ⟨rfl, rfl⟩
  go_wp2_with fail
  refine C1.out.mono ?_
  rintro e w1 ⟨q, b1, r1, cap1, rfl, H1⟩
  clear C0 C1
  go_wp2_with fail
  refine (CP1.out _ _ _ _ _ H1.out.1 H1.out.2).mono ?_
  rintro e w2 ⟨rfl, b2, r2, cap2, H2⟩
  clear H1 CP1
  go_wp2_with fail
  refine (CP2.out _ _ _ _ _ H2.out.1 H2.out.2).mono ?_
  rintro e w3 ⟨rfl, b3, r3, cap3, H3⟩
  clear H2 CP2
  go_wp2_with fail
  refine (CP3.out _ _ _ _ _ H3.out.1 H3.out.2).mono ?_
  rintro e w4 ⟨rfl, H4⟩
  go_wp2_with fail
  refine (CP4.out _ _ _ _ _ H4.out H3.out.2).mono ?_
  rintro e w5 ⟨rfl, H5⟩
  clear H4 CP3 CP4
  go_wp2_with fail
  refine (CG.out _ _ _ _ _ H5.out H3.out.2).mono ?_
  rintro e w6 ⟨rfl, H6⟩
  clear H5 CG
  have CN6 : Hid (∀ W, Mine w0 W q b3 2 r3 cap3 → Calls Try.prog 33 #[.pointer (some ⟨q, 0, none⟩)] W fun e w' => e = .returned (.int .i64 2) ∧ w' = W) := fun W h => CN.out _ _ _ _ _ h H3.out.2
  clear CN
  go_wp2_with fail
  refine (CN6.out _ H6.out).mono ?_
  rintro e w7 ⟨rfl, rfl⟩
  have HF : Hid (Below w0.heap.size w0 w7) := H6.out.bel
  clear H6 CN6 H3
  go_wp2_with fail
  go_ret
  exact ⟨rfl, HF.out⟩
end Go.Proofs.Ytkcjcidndckgbaa
