/- ExactKeeps' walk over its arguments as they lie; what the listed variables give it. -/
import Derived.Test.YtkcjcidndckgbaaDoorKw
import Derived.Test.YtkcjcidndckgbaaDoorOa
import Derived.LaidMore
import Derived.Lay
import Derived.SevenTiedAt
import Derived.Stop.Joined
namespace Go.Proofs.YtkcjcidndckgbaaDoor
open Go.ChangeShapes Go.WideShapes Go.ChangeAt Go.RowKit Go.Joins
set_option linter.unusedVariables false
set_option linter.unusedSimpArgs false

theorem own : ownKnob Tryd.prog.godebug = none := by kernel_rfl
abbrev laid3 : List (String × DataW Unit) := [("math/bits.deBruijn32tab", Rows.laid_math_bits_deBruijn32tab), ("math/bits.deBruijn64tab", Rows.laid_math_bits_deBruijn64tab), ("internal/strconv.uint64pow10", Rows.laid_internal_strconv_uint64pow10)]
theorem pow_data : (Rows.laid_internal_strconv_uint64pow10 : DataW Unit) = Lib.tabData .u64 Lib.pow10Tab := by kernel_rfl
theorem tab_of_laid {W : World} (h : laidMetH Tryd.prog laid3 W) : Tab W := by
  rw [MakeChecks.laidMetH_plain _ _ _ (by kernel_rfl)] at h
  obtain ⟨ps, ⟨g0, t0, cs0, f0, p0, q0, hg0, ht0, hv0, hd0, ⟨g1, t1, cs1, f1, p1, q1, hg1, ht1, hv1, hd1, ⟨g, t, cs, fuel, p, q, hg, ht, hv, hd, _⟩, _⟩, _⟩, _, _⟩ := h
  rw [pow_data] at hd
  obtain rfl := Option.some.inj ((show Tryd.prog.globalNamed "internal/strconv.uint64pow10" = some 0 by kernel_rfl).symm.trans hg)
  obtain rfl := Option.some.inj ((show (Tryd.prog.globals[0]?).map (·.type) = some 67 by kernel_rfl).symm.trans ht)
  show Lib.TabIs _ _ _ _ _
  unfold Lib.TabIs
  rw [hv, ← Lib.cells_of_tab Tryd.underlying67 Tryd.underlying60 (by kernel_rfl) (by kernel_rfl) hd]
/-- A list of numbers that came in. -/
abbrev IRow (w : World) (v : Value) (xs : List Int) : Prop := Row 1 (fun _ cs (x : Int) => cs = #[.int .i64 x]) w v xs ∧ Len 8 xs
section
variable {H : Type} {enc : TypeId × Value → H} {W : World} {held : Bool}
theorem open_ints {fuel : Nat} {cs : List Value} (h : Reads enc W held fuel 22 cs) : ∃ v xs, cs = [v] ∧ IRow W v xs := open_row Tryd.underlying22 cells3 (by decide) bytes3 h (fun _ _ _ g => by
  obtain ⟨n, rfl, hn⟩ := open_int g
  exact ⟨n, rfl, rfl⟩)
end
theorem keeps_walk (w : World) (most : Int) (v : Value) (xs : List Int) (tail : ByteArray) (hr : IRow w v xs) (ht : Okt tail) (hT : Tab w) :
    Calls Tryd.prog 3 #[.int .i64 most, v, .string tail] w fun e w' => e = .returned (.bool true) ∧ Below w.heap.size w w' := by
  obtain ⟨⟨ad, cap, rfl, hcap, hc⟩, hl⟩ := hr
  have hx : xs = [] ∨ ∃ b o, ad = some ⟨b, o, none⟩ ∧ ∀ i x, xs[i]? = some x → w.cell? ⟨b, o + i, none⟩ = some (.int .i64 x) := by
    rcases hc with h | ⟨b, o, rfl, h⟩
    · exact .inl h
    · refine .inr ⟨b, o, rfl, fun i x hi => ?_⟩
      obtain ⟨cs, _, h2, rfl⟩ := h i x hi
      have := h2 0 _ rfl
      rwa [Nat.mul_one, Nat.add_zero] at this
  by_cases h : 64 < tail.size
  · refine keeps_cut w most ad cap xs tail (tail.extract 0 64) (.inl ⟨h, rfl⟩) ?_ hx hl hT
    rw [ByteArray.size_extract]; omega
  · exact keeps_cut w most ad cap xs tail tail (.inr ⟨by omega, rfl⟩) (by omega) hx hl hT
end Go.Proofs.YtkcjcidndckgbaaDoor
