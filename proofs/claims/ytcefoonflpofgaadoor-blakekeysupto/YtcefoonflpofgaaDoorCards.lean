/-
  DERIVED. GIVEN WITH THE SEED: THE CARDS: each row of YtcefoonflpofgaaDoorRows.lean that lists a variable, with what it lists TIED to the program's text (the seventh form; the later family's looks); each row that meets fmt, with fmt's text TOLD by the authors' own Lean function (tested against real Go, not proved from fmt's source: count such statements apart). THE CARD IS WHAT COUNTS. Prove the row's statement (the work); the ties are given (YtcefoonflpofgaaDoorTie.lean); close each card by the builder's one call (the guide's Derived/Test/ToyasCard.lean, 'card_holds'). Laid BY PROGRAM, IN A SANDBOX (cutbox-door.mjs). By AI agents, Wed Nov 11 2026. No macro, syntax, notation, axiom, sorry.
-/
import Derived.Test.YtcefoonflpofgaaDoorRows
import GoSem.ClaimSeven
namespace Go.Proofs.YtcefoonflpofgaaDoor
namespace Rows

/-- THE TIED CARD OF 'aditlaw06.BlakeSums'. -/
def blakeSumsCard : Claim7 := { stood := { row := blakeSumsRow, standIns := [], harness := (true, "bcbc0e1ae298f3e78c92a6f062535dfbadadaaa406215ebe71277150415cd75f"), looks := false }, kinds := [], alts := [], laidByText := true, laidKinds := [.data, .data], laidTests := true, laidLooks := .later }
def BlakeSumsCardSaid : Prop := Claim7.holds Tryd.pinned (.plain (OpenSpec.ofChange blakeSumsSpec)) blakeSumsCard

/-- THE TIED CARD OF 'aditlaw06.BlakeKeys'. -/
def blakeKeysCard : Claim7 := { stood := { row := blakeKeysRow, standIns := [], harness := (true, "bcbc0e1ae298f3e78c92a6f062535dfbadadaaa406215ebe71277150415cd75f"), looks := false }, kinds := [], alts := [], laidByText := true, laidKinds := [.data, .data], laidTests := true, laidLooks := .later }
def BlakeKeysCardSaid : Prop := Claim7.holds Tryd.pinned (.plain (OpenSpec.ofChange blakeKeysSpec)) blakeKeysCard

/-- THE TIED CARD OF 'aditlaw06.BlakeMacs'. -/
def blakeMacsCard : Claim7 := { stood := { row := blakeMacsRow, standIns := [], harness := (true, "bcbc0e1ae298f3e78c92a6f062535dfbadadaaa406215ebe71277150415cd75f"), looks := false }, kinds := [], alts := [], laidByText := true, laidKinds := [.data, .data], laidTests := true, laidLooks := .later }
def BlakeMacsCardSaid : Prop := Claim7.holds Tryd.pinned (.plain (OpenSpec.ofChange blakeMacsSpec)) blakeMacsCard

/-- THE TIED CARD OF 'aditlaw06.BlakeChains'. -/
def blakeChainsCard : Claim7 := { stood := { row := blakeChainsRow, standIns := [], harness := (true, "bcbc0e1ae298f3e78c92a6f062535dfbadadaaa406215ebe71277150415cd75f"), looks := false }, kinds := [], alts := [], laidByText := true, laidKinds := [.data, .data], laidTests := true, laidLooks := .later }
def BlakeChainsCardSaid : Prop := Claim7.holds Tryd.pinned (.plain (OpenSpec.ofChange blakeChainsSpec)) blakeChainsCard

/-- THE TIED CARD OF 'aditlaw06.BlakeCuts'. -/
def blakeCutsCard : Claim7 := { stood := { row := blakeCutsRow, standIns := [], harness := (true, "bcbc0e1ae298f3e78c92a6f062535dfbadadaaa406215ebe71277150415cd75f"), looks := false }, kinds := [], alts := [], laidByText := true, laidKinds := [.data, .data], laidTests := true, laidLooks := .later }
def BlakeCutsCardSaid : Prop := Claim7.holds Tryd.pinned (.plain (OpenSpec.ofChange blakeCutsSpec)) blakeCutsCard

/-- THE SECOND FORM's CARD OF 'aditlaw06.BlakeSums'. -/
def blakeSumsUptoCard : Claim7 := { stood := { row := blakeSumsUptoRow, standIns := [], harness := (true, "bcbc0e1ae298f3e78c92a6f062535dfbadadaaa406215ebe71277150415cd75f"), looks := false }, kinds := [], alts := [], laidByText := true, laidKinds := [.data, .data], laidTests := true, laidLooks := .later }
def BlakeSumsUptoCardSaid : Prop := Claim7.holds Tryd.pinned (.plain (OpenSpec.upto blakeSumsSpec)) blakeSumsUptoCard

/-- THE SECOND FORM's CARD OF 'aditlaw06.BlakeKeys'. -/
def blakeKeysUptoCard : Claim7 := { stood := { row := blakeKeysUptoRow, standIns := [], harness := (true, "bcbc0e1ae298f3e78c92a6f062535dfbadadaaa406215ebe71277150415cd75f"), looks := false }, kinds := [], alts := [], laidByText := true, laidKinds := [.data, .data], laidTests := true, laidLooks := .later }
def BlakeKeysUptoCardSaid : Prop := Claim7.holds Tryd.pinned (.plain (OpenSpec.upto blakeKeysSpec)) blakeKeysUptoCard

/-- THE SECOND FORM's CARD OF 'aditlaw06.BlakeMacs'. -/
def blakeMacsUptoCard : Claim7 := { stood := { row := blakeMacsUptoRow, standIns := [], harness := (true, "bcbc0e1ae298f3e78c92a6f062535dfbadadaaa406215ebe71277150415cd75f"), looks := false }, kinds := [], alts := [], laidByText := true, laidKinds := [.data, .data], laidTests := true, laidLooks := .later }
def BlakeMacsUptoCardSaid : Prop := Claim7.holds Tryd.pinned (.plain (OpenSpec.upto blakeMacsSpec)) blakeMacsUptoCard

/-- THE SECOND FORM's CARD OF 'aditlaw06.BlakeChains'. -/
def blakeChainsUptoCard : Claim7 := { stood := { row := blakeChainsUptoRow, standIns := [], harness := (true, "bcbc0e1ae298f3e78c92a6f062535dfbadadaaa406215ebe71277150415cd75f"), looks := false }, kinds := [], alts := [], laidByText := true, laidKinds := [.data, .data], laidTests := true, laidLooks := .later }
def BlakeChainsUptoCardSaid : Prop := Claim7.holds Tryd.pinned (.plain (OpenSpec.upto blakeChainsSpec)) blakeChainsUptoCard

/-- THE SECOND FORM's CARD OF 'aditlaw06.BlakeCuts'. -/
def blakeCutsUptoCard : Claim7 := { stood := { row := blakeCutsUptoRow, standIns := [], harness := (true, "bcbc0e1ae298f3e78c92a6f062535dfbadadaaa406215ebe71277150415cd75f"), looks := false }, kinds := [], alts := [], laidByText := true, laidKinds := [.data, .data], laidTests := true, laidLooks := .later }
def BlakeCutsUptoCardSaid : Prop := Claim7.holds Tryd.pinned (.plain (OpenSpec.upto blakeCutsSpec)) blakeCutsUptoCard
end Rows
end Go.Proofs.YtcefoonflpofgaaDoor
