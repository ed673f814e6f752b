/-
  DERIVED. GIVEN WITH THE SEED: THE CARDS: each row of YtojekoakgpkkdaaDoorRows.lean that lists a variable, with what it lists TIED to the program's text (the seventh form; the later family's looks); each row that meets fmt, with fmt's text TOLD by the authors' own Lean function (tested against real Go, not proved from fmt's source: count such statements apart). THE CARD IS WHAT COUNTS. Prove the row's statement (the work); the ties are given (YtojekoakgpkkdaaDoorTie.lean); close each card by the builder's one call (the guide's Derived/Test/ToyasCard.lean, 'card_holds'). Laid BY PROGRAM, IN A SANDBOX (cutbox-door.mjs). By AI agents, Wed Nov 11 2026. No macro, syntax, notation, axiom, sorry.
-/
import Derived.Test.YtojekoakgpkkdaaDoorRows
import GoSem.ClaimSeven
namespace Go.Proofs.YtojekoakgpkkdaaDoor
namespace Rows

/-- THE TIED CARD OF 'aditlaw15.IcmpBytes'. -/
def icmpBytesCard : Claim7 := { stood := { row := icmpBytesRow, standIns := [], harness := (true, "3d0c59a570fe45af45d97714df16d23eb05718544d016e5868692003fe7de03e"), looks := false }, kinds := [], alts := [], laidByText := true, laidKinds := [.data, .data, .data], laidTests := true, laidLooks := .later }
def IcmpBytesCardSaid : Prop := Claim7.holds Tryd.pinned (.plain (OpenSpec.ofChange icmpBytesSpec)) icmpBytesCard

/-- THE TIED CARD OF 'aditlaw15.IcmpEchoes'. -/
def icmpEchoesCard : Claim7 := { stood := { row := icmpEchoesRow, standIns := [], harness := (true, "3d0c59a570fe45af45d97714df16d23eb05718544d016e5868692003fe7de03e"), looks := false }, kinds := [], alts := [], laidByText := true, laidKinds := [.data, .data, .data], laidTests := true, laidLooks := .later }
def IcmpEchoesCardSaid : Prop := Claim7.holds Tryd.pinned (.plain (OpenSpec.ofChange icmpEchoesSpec)) icmpEchoesCard

/-- THE TIED CARD OF 'aditlaw15.IcmpQuiet'. -/
def icmpQuietCard : Claim7 := { stood := { row := icmpQuietRow, standIns := [], harness := (true, "3d0c59a570fe45af45d97714df16d23eb05718544d016e5868692003fe7de03e"), looks := false }, kinds := [], alts := [], laidByText := true, laidKinds := [.data, .data, .data], laidTests := true, laidLooks := .later }
def IcmpQuietCardSaid : Prop := Claim7.holds Tryd.pinned (.plain (OpenSpec.ofChange icmpQuietSpec)) icmpQuietCard

/-- THE TIED CARD OF 'aditlaw15.IcmpTold'. -/
def icmpToldCard : Claim7 := { stood := { row := icmpToldRow, standIns := [], harness := (true, "3d0c59a570fe45af45d97714df16d23eb05718544d016e5868692003fe7de03e"), looks := false }, kinds := [], alts := [], laidByText := true, laidKinds := [.data, .data, .data], laidTests := true, laidLooks := .later }
def IcmpToldCardSaid : Prop := Claim7.holds Tryd.pinned (.plain (OpenSpec.ofChange icmpToldSpec)) icmpToldCard

/-- THE TIED CARD OF 'aditlaw15.IcmpTables'. -/
def icmpTablesCard : Claim7 := { stood := { row := icmpTablesRow, standIns := [], harness := (true, "3d0c59a570fe45af45d97714df16d23eb05718544d016e5868692003fe7de03e"), looks := false }, kinds := [], alts := [], laidByText := true, laidKinds := [.data, .data, .data], laidTests := true, laidLooks := .later }
def IcmpTablesCardSaid : Prop := Claim7.holds Tryd.pinned (.plain (OpenSpec.ofChange icmpTablesSpec)) icmpTablesCard

/-- THE SECOND FORM's CARD OF 'aditlaw15.IcmpBytes'. -/
def icmpBytesUptoCard : Claim7 := { stood := { row := icmpBytesUptoRow, standIns := [], harness := (true, "3d0c59a570fe45af45d97714df16d23eb05718544d016e5868692003fe7de03e"), looks := false }, kinds := [], alts := [], laidByText := true, laidKinds := [.data, .data, .data], laidTests := true, laidLooks := .later }
def IcmpBytesUptoCardSaid : Prop := Claim7.holds Tryd.pinned (.plain (OpenSpec.upto icmpBytesSpec)) icmpBytesUptoCard

/-- THE SECOND FORM's CARD OF 'aditlaw15.IcmpEchoes'. -/
def icmpEchoesUptoCard : Claim7 := { stood := { row := icmpEchoesUptoRow, standIns := [], harness := (true, "3d0c59a570fe45af45d97714df16d23eb05718544d016e5868692003fe7de03e"), looks := false }, kinds := [], alts := [], laidByText := true, laidKinds := [.data, .data, .data], laidTests := true, laidLooks := .later }
def IcmpEchoesUptoCardSaid : Prop := Claim7.holds Tryd.pinned (.plain (OpenSpec.upto icmpEchoesSpec)) icmpEchoesUptoCard

/-- THE SECOND FORM's CARD OF 'aditlaw15.IcmpQuiet'. -/
def icmpQuietUptoCard : Claim7 := { stood := { row := icmpQuietUptoRow, standIns := [], harness := (true, "3d0c59a570fe45af45d97714df16d23eb05718544d016e5868692003fe7de03e"), looks := false }, kinds := [], alts := [], laidByText := true, laidKinds := [.data, .data, .data], laidTests := true, laidLooks := .later }
def IcmpQuietUptoCardSaid : Prop := Claim7.holds Tryd.pinned (.plain (OpenSpec.upto icmpQuietSpec)) icmpQuietUptoCard

/-- THE SECOND FORM's CARD OF 'aditlaw15.IcmpTold'. -/
def icmpToldUptoCard : Claim7 := { stood := { row := icmpToldUptoRow, standIns := [], harness := (true, "3d0c59a570fe45af45d97714df16d23eb05718544d016e5868692003fe7de03e"), looks := false }, kinds := [], alts := [], laidByText := true, laidKinds := [.data, .data, .data], laidTests := true, laidLooks := .later }
def IcmpToldUptoCardSaid : Prop := Claim7.holds Tryd.pinned (.plain (OpenSpec.upto icmpToldSpec)) icmpToldUptoCard

/-- THE SECOND FORM's CARD OF 'aditlaw15.IcmpTables'. -/
def icmpTablesUptoCard : Claim7 := { stood := { row := icmpTablesUptoRow, standIns := [], harness := (true, "3d0c59a570fe45af45d97714df16d23eb05718544d016e5868692003fe7de03e"), looks := false }, kinds := [], alts := [], laidByText := true, laidKinds := [.data, .data, .data], laidTests := true, laidLooks := .later }
def IcmpTablesUptoCardSaid : Prop := Claim7.holds Tryd.pinned (.plain (OpenSpec.upto icmpTablesSpec)) icmpTablesUptoCard
end Rows
end Go.Proofs.YtojekoakgpkkdaaDoor
