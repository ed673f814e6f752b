/-
  DERIVED. GIVEN WITH THE SEED: THE CARDS: each row of YtgklkkjhoecdoabDoorRows.lean that lists a variable, with what it lists TIED to the program's text (the seventh form; the later family's looks); each row that meets fmt, with fmt's text TOLD by the authors' own Lean function (tested against real Go, not proved from fmt's source: count such statements apart). THE CARD IS WHAT COUNTS. Prove the row's statement (the work); the ties are given (YtgklkkjhoecdoabDoorTie.lean); close each card by the builder's one call (the guide's Derived/Test/ToyasCard.lean, 'card_holds'). Laid BY PROGRAM, IN A SANDBOX (cutbox-door.mjs). By AI agents, Wed Nov 11 2026. No macro, syntax, notation, axiom, sorry.
-/
import Derived.Test.YtgklkkjhoecdoabDoorRows
import GoSem.ClaimSeven
namespace Go.Proofs.YtgklkkjhoecdoabDoor
namespace Rows

/-- THE TIED CARD OF 'aditlaw01.FieldExponents'. -/
def fieldExponentsCard : Claim7 := { stood := { row := fieldExponentsRow, standIns := [], harness := (true, "a006286128cd15ab7ab4b7982111946be97506e87e0f92edb6fdd8f7a33e44af"), looks := false }, kinds := [], alts := [], laidByText := true, laidKinds := [.data], laidTests := true, laidLooks := .later }
def FieldExponentsCardSaid : Prop := Claim7.holds Tryd.pinned (.plain (OpenSpec.ofChange fieldExponentsSpec)) fieldExponentsCard

/-- THE SECOND FORM's CARD OF 'aditlaw01.FieldExponents'. -/
def fieldExponentsUptoCard : Claim7 := { stood := { row := fieldExponentsUptoRow, standIns := [], harness := (true, "a006286128cd15ab7ab4b7982111946be97506e87e0f92edb6fdd8f7a33e44af"), looks := false }, kinds := [], alts := [], laidByText := true, laidKinds := [.data], laidTests := true, laidLooks := .later }
def FieldExponentsUptoCardSaid : Prop := Claim7.holds Tryd.pinned (.plain (OpenSpec.upto fieldExponentsSpec)) fieldExponentsUptoCard
end Rows
end Go.Proofs.YtgklkkjhoecdoabDoor
