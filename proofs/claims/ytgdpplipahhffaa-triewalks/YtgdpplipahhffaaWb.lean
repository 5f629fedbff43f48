/- A bit of a value. -/
import Derived.Test.YtgdpplipahhffaaWa
namespace Go.Proofs.Ytgdpplipahhffaa
open Go.RowKit
set_option linter.unusedVariables false
set_option linter.unusedSimpArgs false

/-- The i-th highest bit of a width. -/
def bitN (n : Nat) (w i : Int) : Bool := isW w && decide (0 ≤ i) && decide (i < w) && n.testBit (w - 1 - i).toNat
theorem bit_any (n : Nat) (hn : Is128 n) (wd i : Int) (w : World) : Calls Try.prog 84 #[B n, .int .i64 wd, .int .i64 i] w fun e w' => e = .returned (.bool (bitN n wd i)) ∧ Below w.heap.size w w' := by
  cases hW : isW wd
  · have E : Hid (bitN n wd i = false) := by unfold bitN; rw [hW]; rfl
    go_enter Try.func84, Try.ntmps84
    go_wp2_with (go_at_call 87; refine (isWidth_val hW _).mono ?_; rintro e w' ⟨rfl, rfl⟩)
    go_ret
    exact ⟨by rw [E.out]; rfl, by go_grown⟩
  have hb := isW_bounds hW
  by_cases h0 : i < 0
  · have E : Hid (bitN n wd i = false) := by unfold bitN; rw [show decide (0 ≤ i) = false by simp; omega]; show _ = _; simp
    go_enter Try.func84, Try.ntmps84
    go_wp2_with (go_at_call 87; refine (isWidth_val hW _).mono ?_; rintro e w' ⟨rfl, rfl⟩)
    go_ret
    exact ⟨by rw [E.out]; rfl, by go_grown⟩
  by_cases h1 : wd ≤ i
  · have E : Hid (bitN n wd i = false) := by unfold bitN; rw [show decide (i < wd) = false by simp; omega]; show _ = _; simp
    go_enter Try.func84, Try.ntmps84
    go_wp2_with (go_at_call 87; refine (isWidth_val hW _).mono ?_; rintro e w' ⟨rfl, rfl⟩)
    go_ret
    exact ⟨by rw [E.out]; rfl, by go_grown⟩
  have E : Hid (bitN n wd i = n.testBit (wd - 1 - i).toNat) := by
    unfold bitN; rw [hW, show decide (0 ≤ i) = true by simp; omega, show decide (i < wd) = true by simp; omega]; show _ = _; simp
  have d1 : decide (i < 0) = false := by simp; omega
  have d2 : decide (wd ≤ i) = false := by simp; omega
  by_cases h2 : 64 ≤ wd - 1 - i
  · have E2 : Hid _ := bit_hi hn (k := (wd - 1 - i - 64).toNat)
    have E3 : Hid (64 + (wd - 1 - i - 64).toNat = (wd - 1 - i).toNat) := by show _ = _; omega
    go_enter Try.func84, Try.ntmps84
    go_wp2_with (go_at_call 87; refine (isWidth_val hW _).mono ?_; rintro e w' ⟨rfl, rfl⟩)
    go_ret
    exact ⟨by rw [E.out, ← E3.out, ← E2.out]; rfl, by go_grown⟩
  · have E2 : Hid _ := bit_lo n (k := (wd - 1 - i).toNat) (by omega)
    have h2' : wd - 1 - i < 64 := by omega
    go_enter Try.func84, Try.ntmps84
    go_wp2_with (go_at_call 87; refine (isWidth_val hW _).mono ?_; rintro e w' ⟨rfl, rfl⟩)
    go_ret
    exact ⟨by rw [E.out, ← E2.out]; rfl, by go_grown⟩

end Go.Proofs.Ytgdpplipahhffaa
