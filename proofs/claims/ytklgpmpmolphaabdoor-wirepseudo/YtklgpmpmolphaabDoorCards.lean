/-
  DERIVED. GIVEN WITH THE SEED: THE CARDS: each row of YtklgpmpmolphaabDoorRows.lean that lists a variable, with what it lists TIED to the program's text (the seventh form; the later family's looks); each row that meets fmt, with fmt's text TOLD by the authors' own Lean function (tested against real Go, not proved from fmt's source: count such statements apart). THE CARD IS WHAT COUNTS. Prove the row's statement (the work); the ties are given (YtklgpmpmolphaabDoorTie.lean); close each card by the builder's one call (the guide's Derived/Test/ToyasCard.lean, 'card_holds'). Laid BY PROGRAM, IN A SANDBOX (cutbox-door.mjs). By AI agents, Wed Nov 11 2026. No macro, syntax, notation, axiom, sorry.
-/
import Derived.Test.YtklgpmpmolphaabDoorRows
import GoSem.ClaimSeven
namespace Go.Proofs.YtklgpmpmolphaabDoor
namespace Rows

/-- THE TIED CARD OF 'aditlaw12.WirePseudo'. -/
def wirePseudoCard : Claim7 := { stood := { row := wirePseudoRow, standIns := [], harness := (true, "ee71c282afa2800452ebfeb5bb68ceccb321c46a914f4cd31ce9385f92726a8d"), looks := true }, kinds := [], alts := [], laidByText := true, laidKinds := [.data, .data, .data, .data, .sentinel, .sentinel, .pinned], laidTests := true, laidLooks := .later }
def WirePseudoCardSaid : Prop := Claim7.holds Tryd.pinned (.plain (OpenSpec.ofChange wirePseudoSpec)) wirePseudoCard

/-- THE SECOND FORM's CARD OF 'aditlaw12.WirePseudo'. -/
def wirePseudoUptoCard : Claim7 := { stood := { row := wirePseudoUptoRow, standIns := [], harness := (true, "ee71c282afa2800452ebfeb5bb68ceccb321c46a914f4cd31ce9385f92726a8d"), looks := true }, kinds := [], alts := [], laidByText := true, laidKinds := [.data, .data, .data, .data, .sentinel, .sentinel, .pinned], laidTests := true, laidLooks := .later }
def WirePseudoUptoCardSaid : Prop := Claim7.holds Tryd.pinned (.plain (OpenSpec.upto wirePseudoSpec)) wirePseudoUptoCard
end Rows
end Go.Proofs.YtklgpmpmolphaabDoor
