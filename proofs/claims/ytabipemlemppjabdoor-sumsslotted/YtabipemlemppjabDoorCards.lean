/-
  DERIVED. GIVEN WITH THE SEED: THE CARDS: each row of YtabipemlemppjabDoorRows.lean that lists a variable, with what it lists TIED to the program's text (the seventh form; the later family's looks); each row that meets fmt, with fmt's text TOLD by the authors' own Lean function (tested against real Go, not proved from fmt's source: count such statements apart). THE CARD IS WHAT COUNTS. Prove the row's statement (the work); the ties are given (YtabipemlemppjabDoorTie.lean); close each card by the builder's one call (the guide's Derived/Test/ToyasCard.lean, 'card_holds'). Laid BY PROGRAM, IN A SANDBOX (cutbox-door.mjs). By AI agents, Wed Nov 11 2026. No macro, syntax, notation, axiom, sorry.
-/
import Derived.Test.YtabipemlemppjabDoorRows
import GoSem.ClaimSeven
namespace Go.Proofs.YtabipemlemppjabDoor
namespace Rows

/-- THE TIED CARD OF 'turnoutlaw02.SumsApart'. -/
def sumsApartCard : Claim7 := { stood := { row := sumsApartRow, standIns := [], harness := (true, "1d0aacd08dcd5c5feb6feca45b9c6818903ccb5e084cd8da609b96a2d7f37fa2"), looks := false }, kinds := [], alts := [], laidByText := true, laidKinds := [.data], laidTests := true, laidLooks := .later }
def SumsApartCardSaid : Prop := Claim7.holds Tryd.pinned (.plain (OpenSpec.ofChange sumsApartSpec)) sumsApartCard

/-- THE TIED CARD OF 'turnoutlaw02.SumsPatched'. -/
def sumsPatchedCard : Claim7 := { stood := { row := sumsPatchedRow, standIns := [], harness := (true, "1d0aacd08dcd5c5feb6feca45b9c6818903ccb5e084cd8da609b96a2d7f37fa2"), looks := false }, kinds := [], alts := [], laidByText := true, laidKinds := [.data], laidTests := true, laidLooks := .later }
def SumsPatchedCardSaid : Prop := Claim7.holds Tryd.pinned (.plain (OpenSpec.ofChange sumsPatchedSpec)) sumsPatchedCard

/-- THE TIED CARD OF 'turnoutlaw02.SumsSlotted'. -/
def sumsSlottedCard : Claim7 := { stood := { row := sumsSlottedRow, standIns := [], harness := (true, "1d0aacd08dcd5c5feb6feca45b9c6818903ccb5e084cd8da609b96a2d7f37fa2"), looks := false }, kinds := [], alts := [], laidByText := true, laidKinds := [.data], laidTests := true, laidLooks := .later }
def SumsSlottedCardSaid : Prop := Claim7.holds Tryd.pinned (.plain (OpenSpec.ofChange sumsSlottedSpec)) sumsSlottedCard

/-- THE SECOND FORM's CARD OF 'turnoutlaw02.SumsApart'. -/
def sumsApartUptoCard : Claim7 := { stood := { row := sumsApartUptoRow, standIns := [], harness := (true, "1d0aacd08dcd5c5feb6feca45b9c6818903ccb5e084cd8da609b96a2d7f37fa2"), looks := false }, kinds := [], alts := [], laidByText := true, laidKinds := [.data], laidTests := true, laidLooks := .later }
def SumsApartUptoCardSaid : Prop := Claim7.holds Tryd.pinned (.plain (OpenSpec.upto sumsApartSpec)) sumsApartUptoCard

/-- THE SECOND FORM's CARD OF 'turnoutlaw02.SumsPatched'. -/
def sumsPatchedUptoCard : Claim7 := { stood := { row := sumsPatchedUptoRow, standIns := [], harness := (true, "1d0aacd08dcd5c5feb6feca45b9c6818903ccb5e084cd8da609b96a2d7f37fa2"), looks := false }, kinds := [], alts := [], laidByText := true, laidKinds := [.data], laidTests := true, laidLooks := .later }
def SumsPatchedUptoCardSaid : Prop := Claim7.holds Tryd.pinned (.plain (OpenSpec.upto sumsPatchedSpec)) sumsPatchedUptoCard

/-- THE SECOND FORM's CARD OF 'turnoutlaw02.SumsSlotted'. -/
def sumsSlottedUptoCard : Claim7 := { stood := { row := sumsSlottedUptoRow, standIns := [], harness := (true, "1d0aacd08dcd5c5feb6feca45b9c6818903ccb5e084cd8da609b96a2d7f37fa2"), looks := false }, kinds := [], alts := [], laidByText := true, laidKinds := [.data], laidTests := true, laidLooks := .later }
def SumsSlottedUptoCardSaid : Prop := Claim7.holds Tryd.pinned (.plain (OpenSpec.upto sumsSlottedSpec)) sumsSlottedUptoCard
end Rows
end Go.Proofs.YtabipemlemppjabDoor
