/- Two disks beside one another: play. -/
import Derived.Test.YtbjpphoohoedcaaDc
import Derived.Test.YtbjpphoohoedcaaDg
namespace Go.Proofs.Ytbjpphoohoedcaa
open Go.RowKit
set_option linter.unusedVariables false
set_option linter.unusedSimpArgs false

theorem xor_one (f : UInt8) : bits .xor .u8 (f.toNat : Int) 1 = ((f ^^^ 1).toNat : Int) := by
  have h : ∀ x : Fin 256, bits .xor .u8 (x.val : Int) 1 = (((UInt8.ofFin x) ^^^ 1).toNat : Int) := by decide +kernel
  exact h f.toFin
theorem readD_wait (S : DS) (n : Int) : (readD S n).wait = S.wait := by unfold readD; split <;> rfl
theorem readD_safe (S : DS) (n : Int) : (readD S n).safe = S.safe := by unfold readD; split <;> rfl
theorem pread_TL {B : Nat} {w w1 : World} {a b : Nat} {fa fb : Nat → Prop} {S : DS} (h : TL B a b fa fb w S S w1) (n : Int) : Calls Try.prog 17 #[.agg #[.pointer (some ⟨a, 0, none⟩), .pointer (some ⟨b, 0, none⟩)], .int .i64 n] w1 fun e w' => e = .returned (.bool true) ∧ TL B a b fa fb w (readD S n) (readD S n) w' := by
  obtain ⟨fa1, fb1, t1, hk1, hn1⟩ := h
  refine (pread_any t1 n).mono ?_
  rintro e w' ⟨h1, h2⟩
  exact ⟨h1, TL.trans hk1 hn1 h2⟩
theorem rcut_left {B : Nat} {w : World} {b : Nat} {fp : Nat → Prop} {S : DS} (d : Rk B w b fp S) (k : Int) (hk : k ≤ 9223372036854775807) : Calls Try.prog 49 #[.pointer (some ⟨b, 0, none⟩), .int .i64 k] w fun e w' => e = .returned (.tuple #[]) ∧ RLeft B b fp w (cutD S k) w' := by
  obtain ⟨g, cg, pv, rfl, d⟩ := d
  refine (rcut_any d k hk).mono ?_
  rintro e w' ⟨h1, h2, h3, _⟩
  exact ⟨h1, _, ⟨g, cg, pv, rfl, h2⟩, h3.mono (fun k _ e => .inl e), fun k h => .inl h⟩
end Go.Proofs.Ytbjpphoohoedcaa
