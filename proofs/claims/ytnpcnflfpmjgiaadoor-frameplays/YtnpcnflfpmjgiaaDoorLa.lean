/- Two disks beside one another: play. -/
import Derived.Test.YtnpcnflfpmjgiaaDoorJw
import Derived.Test.YtnpcnflfpmjgiaaDoorIa
import Derived.Test.YtnpcnflfpmjgiaaDoorCw
import Derived.Test.YtnpcnflfpmjgiaaDoorRd
import Derived.Test.YtnpcnflfpmjgiaaDoorAw
namespace Go.Proofs.YtnpcnflfpmjgiaaDoor
open Go.RowKit
set_option linter.unusedVariables false
set_option linter.unusedSimpArgs false

theorem pput_TL {B : Nat} {w w0 w1 : World} {a b : Nat} {fa fb : Nat → Prop} {S : DS} (h : TL B a b fa fb w S S w1) (n : Int) (f : Fr) (hg : f.num < 18446744073709551616) (hT : Tab w1) (hB : 1 < B) (hBw : B ≤ w.heap.size) (hfew : S.wait.length < 5864062014000) : Calls Tryd.prog 47 #[.agg #[.pointer (some ⟨a, 0, none⟩), .pointer (some ⟨b, 0, none⟩)], .int .i64 n, frV f] w1 fun e w' => e = .returned (.bool true) ∧ TL B a b fa fb w (putD S n f) (putD S n f) w' := by
  obtain ⟨fa1, fb1, t1, hk1, hn1⟩ := h
  have hz := hk1.size
  refine (pputs_any t1 n f hg hT hB (by omega) hfew).mono ?_
  rintro e w' ⟨h1, h2⟩
  exact ⟨h1, TL.trans hk1 hn1 h2⟩
theorem pget_TL {B : Nat} {w w1 : World} {a b : Nat} {fa fb : Nat → Prop} {S : DS} (h : TL B a b fa fb w S S w1) (n : Int) (hT : Tab w1) (hB : 1 < B) : Calls Tryd.prog 49 #[.agg #[.pointer (some ⟨a, 0, none⟩), .pointer (some ⟨b, 0, none⟩)], .int .i64 n] w1 fun e w' => e = .returned (.bool true) ∧ TL B a b fa fb w (readD S n) (readD S n) w' := by
  obtain ⟨fa1, fb1, t1, hk1, hn1⟩ := h
  refine (pget_any t1 n hT hB).mono ?_
  rintro e w' ⟨h1, h2⟩
  exact ⟨h1, TL.trans hk1 hn1 h2⟩
theorem rcut_left {B : Nat} {w : World} {b : Nat} {fp : Nat → Prop} {S : DS} (d : Rk B w b fp S) (k : Int) (hk : k ≤ 9223372036854775807) : Calls Tryd.prog 53 #[.pointer (some ⟨b, 0, none⟩), .int .i64 k] w fun e w' => e = .returned (.tuple #[]) ∧ RLeft B b fp w (cutD S k) w' := by
  obtain ⟨g, cg, pv, rfl, d⟩ := d
  refine (rcut_any d k hk).mono ?_
  rintro e w' ⟨h1, h2, h3, _⟩
  exact ⟨h1, _, ⟨g, cg, pv, rfl, h2⟩, h3.mono (fun k _ e => .inl e), fun k h => .inl h⟩
theorem putD_wait (S : DS) (n : Int) (f : Fr) : (putD S n f).wait.length ≤ S.wait.length + 1 := by
  unfold putD
  split
  · split
    · exact Nat.le_trans (writeD_wait _ _ _) (by rw [readD_wait]; omega)
    · omega
  · omega
end Go.Proofs.YtnpcnflfpmjgiaaDoor
