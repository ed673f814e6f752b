/-
  DERIVED. GIVEN WITH THE SEED: THE CARDS: each row of YthghcjepdhkfdaaGreatDoorRows.lean that lists a variable, with what it lists TIED to the program's text (the seventh form; the later family's looks); each row that meets fmt, with fmt's text TOLD by the authors' own Lean function (tested against real Go, not proved from fmt's source: count such statements apart). THE CARD IS WHAT COUNTS. Prove the row's statement (the work); the ties are given (YthghcjepdhkfdaaGreatDoorTie.lean); close each card by the builder's one call (the guide's Derived/Test/ToyasCard.lean, 'card_holds'). Laid BY PROGRAM, IN A SANDBOX (cutbox-door.mjs). By AI agents, Wed Nov 11 2026. No macro, syntax, notation, axiom, sorry.
-/
import Derived.Test.YthghcjepdhkfdaaGreatDoorRows
import GoSem.ClaimSeven
namespace Go.Proofs.YthghcjepdhkfdaaGreatDoor
namespace Rows

/-- THE TIED CARD OF 'aditlaw07.NoiseBegins'. -/
def noiseBeginsCard : Claim7 := { stood := { row := noiseBeginsRow, standIns := [], harness := (true, "787521ba1f70ef0e8c792104e244770416e70be933f222d8c90d4df4ffde73c1"), looks := true }, kinds := [], alts := [], laidByText := true, laidKinds := [.data, .data, .data], laidTests := true, laidLooks := .later }
def NoiseBeginsCardSaid : Prop := Claim7.holds Tryz.pinned (.plain (OpenSpec.ofChange noiseBeginsSpec)) noiseBeginsCard

/-- THE TIED CARD OF 'aditlaw07.NoiseAnswers'. -/
def noiseAnswersCard : Claim7 := { stood := { row := noiseAnswersRow, standIns := [], harness := (true, "787521ba1f70ef0e8c792104e244770416e70be933f222d8c90d4df4ffde73c1"), looks := true }, kinds := [], alts := [], laidByText := true, laidKinds := [.data, .data, .data], laidTests := true, laidLooks := .later }
def NoiseAnswersCardSaid : Prop := Claim7.holds Tryz.pinned (.plain (OpenSpec.ofChange noiseAnswersSpec)) noiseAnswersCard

/-- THE TIED CARD OF 'aditlaw07.NoiseMeets'. -/
def noiseMeetsCard : Claim7 := { stood := { row := noiseMeetsRow, standIns := [], harness := (true, "787521ba1f70ef0e8c792104e244770416e70be933f222d8c90d4df4ffde73c1"), looks := true }, kinds := [], alts := [], laidByText := true, laidKinds := [.data, .data, .data], laidTests := true, laidLooks := .later }
def NoiseMeetsCardSaid : Prop := Claim7.holds Tryz.pinned (.plain (OpenSpec.ofChange noiseMeetsSpec)) noiseMeetsCard

/-- THE TIED CARD OF 'aditlaw07.NoiseMarks'. -/
def noiseMarksCard : Claim7 := { stood := { row := noiseMarksRow, standIns := [], harness := (true, "787521ba1f70ef0e8c792104e244770416e70be933f222d8c90d4df4ffde73c1"), looks := true }, kinds := [], alts := [], laidByText := true, laidKinds := [.data, .data, .data], laidTests := true, laidLooks := .later }
def NoiseMarksCardSaid : Prop := Claim7.holds Tryz.pinned (.plain (OpenSpec.ofChange noiseMarksSpec)) noiseMarksCard

/-- THE TIED CARD OF 'aditlaw07.NoiseStamps'. -/
def noiseStampsCard : Claim7 := { stood := { row := noiseStampsRow, standIns := [], harness := (true, "787521ba1f70ef0e8c792104e244770416e70be933f222d8c90d4df4ffde73c1"), looks := true }, kinds := [], alts := [], laidByText := true, laidKinds := [.data, .data, .data], laidTests := true, laidLooks := .later }
def NoiseStampsCardSaid : Prop := Claim7.holds Tryz.pinned (.plain (OpenSpec.ofChange noiseStampsSpec)) noiseStampsCard

/-- THE SECOND FORM's CARD OF 'aditlaw07.NoiseBegins'. -/
def noiseBeginsUptoCard : Claim7 := { stood := { row := noiseBeginsUptoRow, standIns := [], harness := (true, "787521ba1f70ef0e8c792104e244770416e70be933f222d8c90d4df4ffde73c1"), looks := true }, kinds := [], alts := [], laidByText := true, laidKinds := [.data, .data, .data], laidTests := true, laidLooks := .later }
def NoiseBeginsUptoCardSaid : Prop := Claim7.holds Tryz.pinned (.plain (OpenSpec.upto noiseBeginsSpec)) noiseBeginsUptoCard

/-- THE SECOND FORM's CARD OF 'aditlaw07.NoiseAnswers'. -/
def noiseAnswersUptoCard : Claim7 := { stood := { row := noiseAnswersUptoRow, standIns := [], harness := (true, "787521ba1f70ef0e8c792104e244770416e70be933f222d8c90d4df4ffde73c1"), looks := true }, kinds := [], alts := [], laidByText := true, laidKinds := [.data, .data, .data], laidTests := true, laidLooks := .later }
def NoiseAnswersUptoCardSaid : Prop := Claim7.holds Tryz.pinned (.plain (OpenSpec.upto noiseAnswersSpec)) noiseAnswersUptoCard

/-- THE SECOND FORM's CARD OF 'aditlaw07.NoiseMeets'. -/
def noiseMeetsUptoCard : Claim7 := { stood := { row := noiseMeetsUptoRow, standIns := [], harness := (true, "787521ba1f70ef0e8c792104e244770416e70be933f222d8c90d4df4ffde73c1"), looks := true }, kinds := [], alts := [], laidByText := true, laidKinds := [.data, .data, .data], laidTests := true, laidLooks := .later }
def NoiseMeetsUptoCardSaid : Prop := Claim7.holds Tryz.pinned (.plain (OpenSpec.upto noiseMeetsSpec)) noiseMeetsUptoCard

/-- THE SECOND FORM's CARD OF 'aditlaw07.NoiseMarks'. -/
def noiseMarksUptoCard : Claim7 := { stood := { row := noiseMarksUptoRow, standIns := [], harness := (true, "787521ba1f70ef0e8c792104e244770416e70be933f222d8c90d4df4ffde73c1"), looks := true }, kinds := [], alts := [], laidByText := true, laidKinds := [.data, .data, .data], laidTests := true, laidLooks := .later }
def NoiseMarksUptoCardSaid : Prop := Claim7.holds Tryz.pinned (.plain (OpenSpec.upto noiseMarksSpec)) noiseMarksUptoCard

/-- THE SECOND FORM's CARD OF 'aditlaw07.NoiseStamps'. -/
def noiseStampsUptoCard : Claim7 := { stood := { row := noiseStampsUptoRow, standIns := [], harness := (true, "787521ba1f70ef0e8c792104e244770416e70be933f222d8c90d4df4ffde73c1"), looks := true }, kinds := [], alts := [], laidByText := true, laidKinds := [.data, .data, .data], laidTests := true, laidLooks := .later }
def NoiseStampsUptoCardSaid : Prop := Claim7.holds Tryz.pinned (.plain (OpenSpec.upto noiseStampsSpec)) noiseStampsUptoCard
end Rows
end Go.Proofs.YthghcjepdhkfdaaGreatDoor
