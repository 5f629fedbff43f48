/-
  DERIVED. GIVEN WITH THE SEED: THE CARDS: each row of YtkcjcidndckgbaaDoorRows.lean that lists a variable, with what it lists TIED to the program's text (the seventh form; the later family's looks); each row that meets fmt, with fmt's text TOLD by the authors' own Lean function (tested against real Go, not proved from fmt's source: count such statements apart). THE CARD IS WHAT COUNTS. Prove the row's statement (the work); the ties are given (YtkcjcidndckgbaaDoorTie.lean); close each card by the builder's one call (the guide's Derived/Test/ToyasCard.lean, 'card_holds'). Laid BY PROGRAM, IN A SANDBOX (cutbox-door.mjs). By AI agents, Wed Nov 11 2026. No macro, syntax, notation, axiom, sorry.
-/
import Derived.Test.YtkcjcidndckgbaaDoorRows
import GoSem.ClaimSeven
namespace Go.Proofs.YtkcjcidndckgbaaDoor
namespace Rows

/-- THE TIED CARD OF 'turnoutlaw12.ExactKeeps'. -/
def exactKeepsCard : Claim7 := { stood := { row := exactKeepsRow, standIns := [], harness := (true, "c83b0432b21066889ae91045663530c8452e15b35b6563b69877f912d38ec4a1"), looks := false }, kinds := [], alts := [], laidByText := true, laidKinds := [.data, .data, .data], laidTests := true, laidLooks := .later }
def ExactKeepsCardSaid : Prop := Claim7.holds Tryd.pinned (.plain (OpenSpec.ofChange exactKeepsSpec)) exactKeepsCard

/-- THE SECOND FORM's CARD OF 'turnoutlaw12.ExactKeeps'. -/
def exactKeepsUptoCard : Claim7 := { stood := { row := exactKeepsUptoRow, standIns := [], harness := (true, "c83b0432b21066889ae91045663530c8452e15b35b6563b69877f912d38ec4a1"), looks := false }, kinds := [], alts := [], laidByText := true, laidKinds := [.data, .data, .data], laidTests := true, laidLooks := .later }
def ExactKeepsUptoCardSaid : Prop := Claim7.holds Tryd.pinned (.plain (OpenSpec.upto exactKeepsSpec)) exactKeepsUptoCard
end Rows
end Go.Proofs.YtkcjcidndckgbaaDoor
