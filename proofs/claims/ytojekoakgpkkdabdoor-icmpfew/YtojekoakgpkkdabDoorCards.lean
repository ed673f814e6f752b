/-
  DERIVED. GIVEN WITH THE SEED: THE CARDS: each row of YtojekoakgpkkdabDoorRows.lean that lists a variable, with what it lists TIED to the program's text (the seventh form; the later family's looks); each row that meets fmt, with fmt's text TOLD by the authors' own Lean function (tested against real Go, not proved from fmt's source: count such statements apart). THE CARD IS WHAT COUNTS. Prove the row's statement (the work); the ties are given (YtojekoakgpkkdabDoorTie.lean); close each card by the builder's one call (the guide's Derived/Test/ToyasCard.lean, 'card_holds'). Laid BY PROGRAM, IN A SANDBOX (cutbox-door.mjs). By AI agents, Wed Nov 11 2026. No macro, syntax, notation, axiom, sorry.
-/
import Derived.Test.YtojekoakgpkkdabDoorRows
import GoSem.ClaimSeven
namespace Go.Proofs.YtojekoakgpkkdabDoor
namespace Rows

/-- THE TIED CARD OF 'aditlaw15.IcmpFew'. -/
def icmpFewCard : Claim7 := { stood := { row := icmpFewRow, standIns := [], harness := (true, "b78e8503e435155ac22eb20c25de72d882939110fc94e8e613bf7363a7fe8a22"), looks := false }, kinds := [], alts := [], laidByText := true, laidKinds := [.data, .data, .data], laidTests := true, laidLooks := .later }
def IcmpFewCardSaid : Prop := Claim7.holds Tryd.pinned (.plain (OpenSpec.ofChange icmpFewSpec)) icmpFewCard

/-- THE TIED CARD OF 'aditlaw15.IcmpPaths'. -/
def icmpPathsCard : Claim7 := { stood := { row := icmpPathsRow, standIns := [], harness := (true, "b78e8503e435155ac22eb20c25de72d882939110fc94e8e613bf7363a7fe8a22"), looks := false }, kinds := [], alts := [], laidByText := true, laidKinds := [.data, .data, .data], laidTests := true, laidLooks := .later }
def IcmpPathsCardSaid : Prop := Claim7.holds Tryd.pinned (.plain (OpenSpec.ofChange icmpPathsSpec)) icmpPathsCard

/-- THE SECOND FORM's CARD OF 'aditlaw15.IcmpFew'. -/
def icmpFewUptoCard : Claim7 := { stood := { row := icmpFewUptoRow, standIns := [], harness := (true, "b78e8503e435155ac22eb20c25de72d882939110fc94e8e613bf7363a7fe8a22"), looks := false }, kinds := [], alts := [], laidByText := true, laidKinds := [.data, .data, .data], laidTests := true, laidLooks := .later }
def IcmpFewUptoCardSaid : Prop := Claim7.holds Tryd.pinned (.plain (OpenSpec.upto icmpFewSpec)) icmpFewUptoCard

/-- THE SECOND FORM's CARD OF 'aditlaw15.IcmpPaths'. -/
def icmpPathsUptoCard : Claim7 := { stood := { row := icmpPathsUptoRow, standIns := [], harness := (true, "b78e8503e435155ac22eb20c25de72d882939110fc94e8e613bf7363a7fe8a22"), looks := false }, kinds := [], alts := [], laidByText := true, laidKinds := [.data, .data, .data], laidTests := true, laidLooks := .later }
def IcmpPathsUptoCardSaid : Prop := Claim7.holds Tryd.pinned (.plain (OpenSpec.upto icmpPathsSpec)) icmpPathsUptoCard
end Rows
end Go.Proofs.YtojekoakgpkkdabDoor
