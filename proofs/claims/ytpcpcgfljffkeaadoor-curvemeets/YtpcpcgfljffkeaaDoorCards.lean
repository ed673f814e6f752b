/-
  DERIVED. GIVEN WITH THE SEED: THE CARDS: each row of YtpcpcgfljffkeaaDoorRows.lean that lists a variable, with what it lists TIED to the program's text (the seventh form; the later family's looks); each row that meets fmt, with fmt's text TOLD by the authors' own Lean function (tested against real Go, not proved from fmt's source: count such statements apart). THE CARD IS WHAT COUNTS. Prove the row's statement (the work); the ties are given (YtpcpcgfljffkeaaDoorTie.lean); close each card by the builder's one call (the guide's Derived/Test/ToyasCard.lean, 'card_holds'). Laid BY PROGRAM, IN A SANDBOX (cutbox-door.mjs). By AI agents, Wed Nov 11 2026. No macro, syntax, notation, axiom, sorry.
-/
import Derived.Test.YtpcpcgfljffkeaaDoorRows
import GoSem.ClaimSeven
namespace Go.Proofs.YtpcpcgfljffkeaaDoor
namespace Rows

/-- THE TIED CARD OF 'aditlaw02.CurveTimes'. -/
def curveTimesCard : Claim7 := { stood := { row := curveTimesRow, standIns := [], harness := (true, "2419eeb4ae568c205ba38b64265d231fc5cce2ef390adf0354f1a41b99e9408b"), looks := false }, kinds := [], alts := [], laidByText := true, laidKinds := [.data], laidTests := true, laidLooks := .later }
def CurveTimesCardSaid : Prop := Claim7.holds Tryd.pinned (.plain (OpenSpec.ofChange curveTimesSpec)) curveTimesCard

/-- THE TIED CARD OF 'aditlaw02.CurveMeets'. -/
def curveMeetsCard : Claim7 := { stood := { row := curveMeetsRow, standIns := [], harness := (true, "2419eeb4ae568c205ba38b64265d231fc5cce2ef390adf0354f1a41b99e9408b"), looks := false }, kinds := [], alts := [], laidByText := true, laidKinds := [.data], laidTests := true, laidLooks := .later }
def CurveMeetsCardSaid : Prop := Claim7.holds Tryd.pinned (.plain (OpenSpec.ofChange curveMeetsSpec)) curveMeetsCard

/-- THE TIED CARD OF 'aditlaw02.CurveTurns'. -/
def curveTurnsCard : Claim7 := { stood := { row := curveTurnsRow, standIns := [], harness := (true, "2419eeb4ae568c205ba38b64265d231fc5cce2ef390adf0354f1a41b99e9408b"), looks := false }, kinds := [], alts := [], laidByText := true, laidKinds := [.data], laidTests := true, laidLooks := .later }
def CurveTurnsCardSaid : Prop := Claim7.holds Tryd.pinned (.plain (OpenSpec.ofChange curveTurnsSpec)) curveTurnsCard

/-- THE TIED CARD OF 'aditlaw02.CurveLoose'. -/
def curveLooseCard : Claim7 := { stood := { row := curveLooseRow, standIns := [], harness := (true, "2419eeb4ae568c205ba38b64265d231fc5cce2ef390adf0354f1a41b99e9408b"), looks := false }, kinds := [], alts := [], laidByText := true, laidKinds := [.data], laidTests := true, laidLooks := .later }
def CurveLooseCardSaid : Prop := Claim7.holds Tryd.pinned (.plain (OpenSpec.ofChange curveLooseSpec)) curveLooseCard

/-- THE SECOND FORM's CARD OF 'aditlaw02.CurveTimes'. -/
def curveTimesUptoCard : Claim7 := { stood := { row := curveTimesUptoRow, standIns := [], harness := (true, "2419eeb4ae568c205ba38b64265d231fc5cce2ef390adf0354f1a41b99e9408b"), looks := false }, kinds := [], alts := [], laidByText := true, laidKinds := [.data], laidTests := true, laidLooks := .later }
def CurveTimesUptoCardSaid : Prop := Claim7.holds Tryd.pinned (.plain (OpenSpec.upto curveTimesSpec)) curveTimesUptoCard

/-- THE SECOND FORM's CARD OF 'aditlaw02.CurveMeets'. -/
def curveMeetsUptoCard : Claim7 := { stood := { row := curveMeetsUptoRow, standIns := [], harness := (true, "2419eeb4ae568c205ba38b64265d231fc5cce2ef390adf0354f1a41b99e9408b"), looks := false }, kinds := [], alts := [], laidByText := true, laidKinds := [.data], laidTests := true, laidLooks := .later }
def CurveMeetsUptoCardSaid : Prop := Claim7.holds Tryd.pinned (.plain (OpenSpec.upto curveMeetsSpec)) curveMeetsUptoCard

/-- THE SECOND FORM's CARD OF 'aditlaw02.CurveTurns'. -/
def curveTurnsUptoCard : Claim7 := { stood := { row := curveTurnsUptoRow, standIns := [], harness := (true, "2419eeb4ae568c205ba38b64265d231fc5cce2ef390adf0354f1a41b99e9408b"), looks := false }, kinds := [], alts := [], laidByText := true, laidKinds := [.data], laidTests := true, laidLooks := .later }
def CurveTurnsUptoCardSaid : Prop := Claim7.holds Tryd.pinned (.plain (OpenSpec.upto curveTurnsSpec)) curveTurnsUptoCard

/-- THE SECOND FORM's CARD OF 'aditlaw02.CurveLoose'. -/
def curveLooseUptoCard : Claim7 := { stood := { row := curveLooseUptoRow, standIns := [], harness := (true, "2419eeb4ae568c205ba38b64265d231fc5cce2ef390adf0354f1a41b99e9408b"), looks := false }, kinds := [], alts := [], laidByText := true, laidKinds := [.data], laidTests := true, laidLooks := .later }
def CurveLooseUptoCardSaid : Prop := Claim7.holds Tryd.pinned (.plain (OpenSpec.upto curveLooseSpec)) curveLooseUptoCard
end Rows
end Go.Proofs.YtpcpcgfljffkeaaDoor
