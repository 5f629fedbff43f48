/- A list of texts, opened. -/
import Derived.Test.YtkcjcidndckgbaaOa
import Derived.Test.YtkcjcidndckgbaaWe
namespace Go.Proofs.Ytkcjcidndckgbaa
open Go.ChangeShapes Go.WideShapes Go.ChangeAt Go.RowKit Go.Joins
set_option linter.unusedVariables false

theorem open_txts {H : Type} {enc : TypeId × Value → H} {W : World} {held : Bool} {fuel : Nat} {cs : List Value} (h : Reads enc W held fuel 44 cs) : ∃ v xs, cs = [v] ∧ TxtRow W v xs := by
  obtain ⟨v, xs, e, h1, h2⟩ := open_row (Is := fun _ cs s => cs = #[.string s] ∧ Okt s) Try.underlying44 cells9 (by decide) bytes9 h (fun _ _ _ g => by
    obtain ⟨b, rfl, hb⟩ := open_txt g
    exact ⟨b, rfl, rfl, hb⟩)
  exact ⟨v, xs, e, h1, h2⟩
end Go.Proofs.Ytkcjcidndckgbaa
