/-
  DERIVED. GIVEN WITH THE SEED: THE CARDS: each row of YtgklkkjhoecdoaaDoorRows.lean that lists a variable, with what it lists TIED to the program's text (the seventh form; the later family's looks); each row that meets fmt, with fmt's text TOLD by the authors' own Lean function (tested against real Go, not proved from fmt's source: count such statements apart). THE CARD IS WHAT COUNTS. Prove the row's statement (the work); the ties are given (YtgklkkjhoecdoaaDoorTie.lean); close each card by the builder's one call (the guide's Derived/Test/ToyasCard.lean, 'card_holds'). Laid BY PROGRAM, IN A SANDBOX (cutbox-door.mjs). By AI agents, Wed Nov 11 2026. No macro, syntax, notation, axiom, sorry.
-/
import Derived.Test.YtgklkkjhoecdoaaDoorRows
import GoSem.ClaimSeven
namespace Go.Proofs.YtgklkkjhoecdoaaDoor
namespace Rows

/-- THE TIED CARD OF 'aditlaw01.FieldSums'. -/
def fieldSumsCard : Claim7 := { stood := { row := fieldSumsRow, standIns := [], harness := (true, "eb5bf380fb2e1834df9b65ffe5c6e6f0a2415900792271faf49adc8efc496855"), looks := false }, kinds := [], alts := [], laidByText := true, laidKinds := [.data], laidTests := true, laidLooks := .later }
def FieldSumsCardSaid : Prop := Claim7.holds Tryd.pinned (.plain (OpenSpec.ofChange fieldSumsSpec)) fieldSumsCard

/-- THE TIED CARD OF 'aditlaw01.FieldTwo'. -/
def fieldTwoCard : Claim7 := { stood := { row := fieldTwoRow, standIns := [], harness := (true, "eb5bf380fb2e1834df9b65ffe5c6e6f0a2415900792271faf49adc8efc496855"), looks := false }, kinds := [], alts := [], laidByText := true, laidKinds := [.data], laidTests := true, laidLooks := .later }
def FieldTwoCardSaid : Prop := Claim7.holds Tryd.pinned (.plain (OpenSpec.ofChange fieldTwoSpec)) fieldTwoCard

/-- THE TIED CARD OF 'aditlaw01.FieldOf'. -/
def fieldOfCard : Claim7 := { stood := { row := fieldOfRow, standIns := [], harness := (true, "eb5bf380fb2e1834df9b65ffe5c6e6f0a2415900792271faf49adc8efc496855"), looks := false }, kinds := [], alts := [], laidByText := true, laidKinds := [.data], laidTests := true, laidLooks := .later }
def FieldOfCardSaid : Prop := Claim7.holds Tryd.pinned (.plain (OpenSpec.ofChange fieldOfSpec)) fieldOfCard

/-- THE TIED CARD OF 'aditlaw01.FieldPowers'. -/
def fieldPowersCard : Claim7 := { stood := { row := fieldPowersRow, standIns := [], harness := (true, "eb5bf380fb2e1834df9b65ffe5c6e6f0a2415900792271faf49adc8efc496855"), looks := false }, kinds := [], alts := [], laidByText := true, laidKinds := [.data], laidTests := true, laidLooks := .later }
def FieldPowersCardSaid : Prop := Claim7.holds Tryd.pinned (.plain (OpenSpec.ofChange fieldPowersSpec)) fieldPowersCard

/-- THE TIED CARD OF 'aditlaw01.FieldRules'. -/
def fieldRulesCard : Claim7 := { stood := { row := fieldRulesRow, standIns := [], harness := (true, "eb5bf380fb2e1834df9b65ffe5c6e6f0a2415900792271faf49adc8efc496855"), looks := false }, kinds := [], alts := [], laidByText := true, laidKinds := [.data], laidTests := true, laidLooks := .later }
def FieldRulesCardSaid : Prop := Claim7.holds Tryd.pinned (.plain (OpenSpec.ofChange fieldRulesSpec)) fieldRulesCard

/-- THE TIED CARD OF 'aditlaw01.FieldInverse'. -/
def fieldInverseCard : Claim7 := { stood := { row := fieldInverseRow, standIns := [], harness := (true, "eb5bf380fb2e1834df9b65ffe5c6e6f0a2415900792271faf49adc8efc496855"), looks := false }, kinds := [], alts := [], laidByText := true, laidKinds := [.data], laidTests := true, laidLooks := .later }
def FieldInverseCardSaid : Prop := Claim7.holds Tryd.pinned (.plain (OpenSpec.ofChange fieldInverseSpec)) fieldInverseCard

/-- THE SECOND FORM's CARD OF 'aditlaw01.FieldSums'. -/
def fieldSumsUptoCard : Claim7 := { stood := { row := fieldSumsUptoRow, standIns := [], harness := (true, "eb5bf380fb2e1834df9b65ffe5c6e6f0a2415900792271faf49adc8efc496855"), looks := false }, kinds := [], alts := [], laidByText := true, laidKinds := [.data], laidTests := true, laidLooks := .later }
def FieldSumsUptoCardSaid : Prop := Claim7.holds Tryd.pinned (.plain (OpenSpec.upto fieldSumsSpec)) fieldSumsUptoCard

/-- THE SECOND FORM's CARD OF 'aditlaw01.FieldTwo'. -/
def fieldTwoUptoCard : Claim7 := { stood := { row := fieldTwoUptoRow, standIns := [], harness := (true, "eb5bf380fb2e1834df9b65ffe5c6e6f0a2415900792271faf49adc8efc496855"), looks := false }, kinds := [], alts := [], laidByText := true, laidKinds := [.data], laidTests := true, laidLooks := .later }
def FieldTwoUptoCardSaid : Prop := Claim7.holds Tryd.pinned (.plain (OpenSpec.upto fieldTwoSpec)) fieldTwoUptoCard

/-- THE SECOND FORM's CARD OF 'aditlaw01.FieldOf'. -/
def fieldOfUptoCard : Claim7 := { stood := { row := fieldOfUptoRow, standIns := [], harness := (true, "eb5bf380fb2e1834df9b65ffe5c6e6f0a2415900792271faf49adc8efc496855"), looks := false }, kinds := [], alts := [], laidByText := true, laidKinds := [.data], laidTests := true, laidLooks := .later }
def FieldOfUptoCardSaid : Prop := Claim7.holds Tryd.pinned (.plain (OpenSpec.upto fieldOfSpec)) fieldOfUptoCard

/-- THE SECOND FORM's CARD OF 'aditlaw01.FieldPowers'. -/
def fieldPowersUptoCard : Claim7 := { stood := { row := fieldPowersUptoRow, standIns := [], harness := (true, "eb5bf380fb2e1834df9b65ffe5c6e6f0a2415900792271faf49adc8efc496855"), looks := false }, kinds := [], alts := [], laidByText := true, laidKinds := [.data], laidTests := true, laidLooks := .later }
def FieldPowersUptoCardSaid : Prop := Claim7.holds Tryd.pinned (.plain (OpenSpec.upto fieldPowersSpec)) fieldPowersUptoCard

/-- THE SECOND FORM's CARD OF 'aditlaw01.FieldRules'. -/
def fieldRulesUptoCard : Claim7 := { stood := { row := fieldRulesUptoRow, standIns := [], harness := (true, "eb5bf380fb2e1834df9b65ffe5c6e6f0a2415900792271faf49adc8efc496855"), looks := false }, kinds := [], alts := [], laidByText := true, laidKinds := [.data], laidTests := true, laidLooks := .later }
def FieldRulesUptoCardSaid : Prop := Claim7.holds Tryd.pinned (.plain (OpenSpec.upto fieldRulesSpec)) fieldRulesUptoCard

/-- THE SECOND FORM's CARD OF 'aditlaw01.FieldInverse'. -/
def fieldInverseUptoCard : Claim7 := { stood := { row := fieldInverseUptoRow, standIns := [], harness := (true, "eb5bf380fb2e1834df9b65ffe5c6e6f0a2415900792271faf49adc8efc496855"), looks := false }, kinds := [], alts := [], laidByText := true, laidKinds := [.data], laidTests := true, laidLooks := .later }
def FieldInverseUptoCardSaid : Prop := Claim7.holds Tryd.pinned (.plain (OpenSpec.upto fieldInverseSpec)) fieldInverseUptoCard
end Rows
end Go.Proofs.YtgklkkjhoecdoaaDoor
