/-
  DERIVED. GIVEN WITH THE SEED: THE CARDS: each row of YtdlepeogmjmleaaDoorRows.lean that lists a variable, with what it lists TIED to the program's text (the seventh form; the later family's looks); each row that meets fmt, with fmt's text TOLD by the authors' own Lean function (tested against real Go, not proved from fmt's source: count such statements apart). THE CARD IS WHAT COUNTS. Prove the row's statement (the work); the ties are given (YtdlepeogmjmleaaDoorTie.lean); close each card by the builder's one call (the guide's Derived/Test/ToyasCard.lean, 'card_holds'). Laid BY PROGRAM, IN A SANDBOX (cutbox-door.mjs). By AI agents, Wed Nov 11 2026. No macro, syntax, notation, axiom, sorry.
-/
import Derived.Test.YtdlepeogmjmleaaDoorRows
import GoSem.ClaimSeven
namespace Go.Proofs.YtdlepeogmjmleaaDoor
namespace Rows

/-- THE TIED CARD OF 'aditlaw12.WireAddrs'. -/
def wireAddrsCard : Claim7 := { stood := { row := wireAddrsRow, standIns := [], harness := (true, "b720cce210e3de9a99ac4d836c43b8d37a525a252eb40ba9b6bdd7ccab9fea19"), looks := true }, kinds := [], alts := [], laidByText := true, laidKinds := [.data, .data, .data, .data, .sentinel, .sentinel, .pinned], laidTests := true, laidLooks := .later }
def WireAddrsCardSaid : Prop := Claim7.holds Tryd.pinned (.plain (OpenSpec.ofChange wireAddrsSpec)) wireAddrsCard

/-- THE SECOND FORM's CARD OF 'aditlaw12.WireAddrs'. -/
def wireAddrsUptoCard : Claim7 := { stood := { row := wireAddrsUptoRow, standIns := [], harness := (true, "b720cce210e3de9a99ac4d836c43b8d37a525a252eb40ba9b6bdd7ccab9fea19"), looks := true }, kinds := [], alts := [], laidByText := true, laidKinds := [.data, .data, .data, .data, .sentinel, .sentinel, .pinned], laidTests := true, laidLooks := .later }
def WireAddrsUptoCardSaid : Prop := Claim7.holds Tryd.pinned (.plain (OpenSpec.upto wireAddrsSpec)) wireAddrsUptoCard
end Rows
end Go.Proofs.YtdlepeogmjmleaaDoor
