/-
  NARROWER THAN 'FOR EVERY INPUT', by the rows' own cells (each row's printed sentence says how): BlakeSums: laid · BlakeKeys: laid · BlakeMacs: laid · BlakeChains: laid · BlakeCuts: laid.
  DERIVED. THE GIVEN ROWS OF THIS SEAT. 5 by the template 'for every input the law returns true; each argument reads behind the call as it read before'; 0 by the template 'total and deterministic' (their statements: YtcefoonflpofgaaDoorTotals.lean).
  GIVEN WITH THE SEED: the statements are not yours to turn. If you find one false, say at which input.
  Laid BY PROGRAM, IN A SANDBOX (cutbox-rows.mjs): the forced cells as the released guide's own fill.sh prints them over the translation 3d54018576856401… (all of the seat's roots in one cut). By AI agents, Wed Nov 11 2026. No macro, syntax, notation, axiom, sorry.
-/
import Derived.Test.YtcefoonflpofgaaDoorChecked
import GoSem.Claim
import GoSem.ClaimJoined
import GoSem.ClaimMapViews
import Derived.JoinedTies
import Derived.KernelRfl
namespace Go.Proofs.YtcefoonflpofgaaDoor
/- THE CELL 'sum', in the pinned program and in every row, IS THE sha256 OF THE DUMP (.gsa) THAT YtcefoonflpofgaaDoorProg.lean LOADS. Nothing in Lean hashes anything: it is a label: what it is worth is what the hold of that sum in a sandbox is worth. -/
noncomputable def Tryd.pinned : Pinned := { name := "ytcefoonflpofgaadoor", sum := "3d5401857685640153d491bfda5043ed2834c3eef209c720c42a22f38c61d5ea", checked := Tryd.checked }
namespace Rows
def none {H : Type} : Left H := { results := [], args := [] }

/- WHAT THE LISTED PACKAGE-LEVEL VARIABLES READ AS WHEN THE CALL BEGINS. Each datum BY PROGRAM (the guide's laid-datum.mjs) off the statement by which the dump's own 'gosem.cut.vars' lays the variable. In a bare row this is a premise. The card (YtcefoonflpofgaaDoorCards.lean) ties it to the program's text. -/
def laid_adit_blake_beginnings {H : Type} : DataW H := .agg [.lit (.int .u32 1779033703), .lit (.int .u32 3144134277), .lit (.int .u32 1013904242), .lit (.int .u32 2773480762), .lit (.int .u32 1359893119), .lit (.int .u32 2600822924), .lit (.int .u32 528734635), .lit (.int .u32 1541459225)]
def laid_adit_blake_orders {H : Type} : DataW H := .agg [.agg [.lit (.int .u8 0), .lit (.int .u8 1), .lit (.int .u8 2), .lit (.int .u8 3), .lit (.int .u8 4), .lit (.int .u8 5), .lit (.int .u8 6), .lit (.int .u8 7), .lit (.int .u8 8), .lit (.int .u8 9), .lit (.int .u8 10), .lit (.int .u8 11), .lit (.int .u8 12), .lit (.int .u8 13), .lit (.int .u8 14), .lit (.int .u8 15)], .agg [.lit (.int .u8 14), .lit (.int .u8 10), .lit (.int .u8 4), .lit (.int .u8 8), .lit (.int .u8 9), .lit (.int .u8 15), .lit (.int .u8 13), .lit (.int .u8 6), .lit (.int .u8 1), .lit (.int .u8 12), .lit (.int .u8 0), .lit (.int .u8 2), .lit (.int .u8 11), .lit (.int .u8 7), .lit (.int .u8 5), .lit (.int .u8 3)], .agg [.lit (.int .u8 11), .lit (.int .u8 8), .lit (.int .u8 12), .lit (.int .u8 0), .lit (.int .u8 5), .lit (.int .u8 2), .lit (.int .u8 15), .lit (.int .u8 13), .lit (.int .u8 10), .lit (.int .u8 14), .lit (.int .u8 3), .lit (.int .u8 6), .lit (.int .u8 7), .lit (.int .u8 1), .lit (.int .u8 9), .lit (.int .u8 4)], .agg [.lit (.int .u8 7), .lit (.int .u8 9), .lit (.int .u8 3), .lit (.int .u8 1), .lit (.int .u8 13), .lit (.int .u8 12), .lit (.int .u8 11), .lit (.int .u8 14), .lit (.int .u8 2), .lit (.int .u8 6), .lit (.int .u8 5), .lit (.int .u8 10), .lit (.int .u8 4), .lit (.int .u8 0), .lit (.int .u8 15), .lit (.int .u8 8)], .agg [.lit (.int .u8 9), .lit (.int .u8 0), .lit (.int .u8 5), .lit (.int .u8 7), .lit (.int .u8 2), .lit (.int .u8 4), .lit (.int .u8 10), .lit (.int .u8 15), .lit (.int .u8 14), .lit (.int .u8 1), .lit (.int .u8 11), .lit (.int .u8 12), .lit (.int .u8 6), .lit (.int .u8 8), .lit (.int .u8 3), .lit (.int .u8 13)], .agg [.lit (.int .u8 2), .lit (.int .u8 12), .lit (.int .u8 6), .lit (.int .u8 10), .lit (.int .u8 0), .lit (.int .u8 11), .lit (.int .u8 8), .lit (.int .u8 3), .lit (.int .u8 4), .lit (.int .u8 13), .lit (.int .u8 7), .lit (.int .u8 5), .lit (.int .u8 15), .lit (.int .u8 14), .lit (.int .u8 1), .lit (.int .u8 9)], .agg [.lit (.int .u8 12), .lit (.int .u8 5), .lit (.int .u8 1), .lit (.int .u8 15), .lit (.int .u8 14), .lit (.int .u8 13), .lit (.int .u8 4), .lit (.int .u8 10), .lit (.int .u8 0), .lit (.int .u8 7), .lit (.int .u8 6), .lit (.int .u8 3), .lit (.int .u8 9), .lit (.int .u8 2), .lit (.int .u8 8), .lit (.int .u8 11)], .agg [.lit (.int .u8 13), .lit (.int .u8 11), .lit (.int .u8 7), .lit (.int .u8 14), .lit (.int .u8 12), .lit (.int .u8 1), .lit (.int .u8 3), .lit (.int .u8 9), .lit (.int .u8 5), .lit (.int .u8 0), .lit (.int .u8 15), .lit (.int .u8 4), .lit (.int .u8 8), .lit (.int .u8 6), .lit (.int .u8 2), .lit (.int .u8 10)], .agg [.lit (.int .u8 6), .lit (.int .u8 15), .lit (.int .u8 14), .lit (.int .u8 9), .lit (.int .u8 11), .lit (.int .u8 3), .lit (.int .u8 0), .lit (.int .u8 8), .lit (.int .u8 12), .lit (.int .u8 2), .lit (.int .u8 13), .lit (.int .u8 7), .lit (.int .u8 1), .lit (.int .u8 4), .lit (.int .u8 10), .lit (.int .u8 5)], .agg [.lit (.int .u8 10), .lit (.int .u8 2), .lit (.int .u8 8), .lit (.int .u8 4), .lit (.int .u8 7), .lit (.int .u8 6), .lit (.int .u8 1), .lit (.int .u8 5), .lit (.int .u8 15), .lit (.int .u8 11), .lit (.int .u8 9), .lit (.int .u8 14), .lit (.int .u8 3), .lit (.int .u8 12), .lit (.int .u8 13), .lit (.int .u8 0)]]

/-- 'aditlaw06.BlakeSums': WHATEVER THE INPUT: true; the input reads as it did. -/
def blakeSumsSpec : ChangeSpec := { name := "blakeSums", fn := fun _ => fun
  | [d] => { results := [.lit (.bool true)], args := [d] }
  | _ => none }
def blakeSumsRow : OpenClaim := { program := "ytcefoonflpofgaadoor", sum := "3d5401857685640153d491bfda5043ed2834c3eef209c720c42a22f38c61d5ea", func := "adit/aditlaw06.BlakeSums", spec := "blakeSums", named := ["adit/blake.beginnings", "adit/blake.orders"], apart := false, laid := [("adit/blake.beginnings", laid_adit_blake_beginnings), ("adit/blake.orders", laid_adit_blake_orders)] }
def BlakeSumsSaid : Prop := blakeSumsRow.holds Tryd.pinned (OpenSpec.ofChange blakeSumsSpec)

/-- ITS FALSE NEIGHBOUR: 'it returns false'. Refute it at one input. -/
def blakeSumsWrong : ChangeSpec := { name := "blakeSums", fn := fun _ => fun
  | [d] => { results := [.lit (.bool false)], args := [d] }
  | _ => none }
def BlakeSumsWrongFalsely : Prop := blakeSumsRow.holds Tryd.pinned (OpenSpec.ofChange blakeSumsWrong)

/-- 'aditlaw06.BlakeKeys': WHATEVER THE INPUT: true; the input reads as it did. -/
def blakeKeysSpec : ChangeSpec := { name := "blakeKeys", fn := fun _ => fun
  | [d1, d2, d3] => { results := [.lit (.bool true)], args := [d1, d2, d3] }
  | _ => none }
def blakeKeysRow : OpenClaim := { program := "ytcefoonflpofgaadoor", sum := "3d5401857685640153d491bfda5043ed2834c3eef209c720c42a22f38c61d5ea", func := "adit/aditlaw06.BlakeKeys", spec := "blakeKeys", named := ["adit/blake.beginnings", "adit/blake.orders"], apart := false, laid := [("adit/blake.beginnings", laid_adit_blake_beginnings), ("adit/blake.orders", laid_adit_blake_orders)] }
def BlakeKeysSaid : Prop := blakeKeysRow.holds Tryd.pinned (OpenSpec.ofChange blakeKeysSpec)

/-- ITS FALSE NEIGHBOUR: 'it returns false'. Refute it at one input. -/
def blakeKeysWrong : ChangeSpec := { name := "blakeKeys", fn := fun _ => fun
  | [d1, d2, d3] => { results := [.lit (.bool false)], args := [d1, d2, d3] }
  | _ => none }
def BlakeKeysWrongFalsely : Prop := blakeKeysRow.holds Tryd.pinned (OpenSpec.ofChange blakeKeysWrong)

/-- 'aditlaw06.BlakeMacs': WHATEVER THE INPUT: true; the input reads as it did. -/
def blakeMacsSpec : ChangeSpec := { name := "blakeMacs", fn := fun _ => fun
  | [d1, d2] => { results := [.lit (.bool true)], args := [d1, d2] }
  | _ => none }
def blakeMacsRow : OpenClaim := { program := "ytcefoonflpofgaadoor", sum := "3d5401857685640153d491bfda5043ed2834c3eef209c720c42a22f38c61d5ea", func := "adit/aditlaw06.BlakeMacs", spec := "blakeMacs", named := ["adit/blake.beginnings", "adit/blake.orders"], apart := false, laid := [("adit/blake.beginnings", laid_adit_blake_beginnings), ("adit/blake.orders", laid_adit_blake_orders)] }
def BlakeMacsSaid : Prop := blakeMacsRow.holds Tryd.pinned (OpenSpec.ofChange blakeMacsSpec)

/-- ITS FALSE NEIGHBOUR: 'it returns false'. Refute it at one input. -/
def blakeMacsWrong : ChangeSpec := { name := "blakeMacs", fn := fun _ => fun
  | [d1, d2] => { results := [.lit (.bool false)], args := [d1, d2] }
  | _ => none }
def BlakeMacsWrongFalsely : Prop := blakeMacsRow.holds Tryd.pinned (OpenSpec.ofChange blakeMacsWrong)

/-- 'aditlaw06.BlakeChains': WHATEVER THE INPUT: true; the input reads as it did. -/
def blakeChainsSpec : ChangeSpec := { name := "blakeChains", fn := fun _ => fun
  | [d1, d2, d3] => { results := [.lit (.bool true)], args := [d1, d2, d3] }
  | _ => none }
def blakeChainsRow : OpenClaim := { program := "ytcefoonflpofgaadoor", sum := "3d5401857685640153d491bfda5043ed2834c3eef209c720c42a22f38c61d5ea", func := "adit/aditlaw06.BlakeChains", spec := "blakeChains", named := ["adit/blake.beginnings", "adit/blake.orders"], apart := false, laid := [("adit/blake.beginnings", laid_adit_blake_beginnings), ("adit/blake.orders", laid_adit_blake_orders)] }
def BlakeChainsSaid : Prop := blakeChainsRow.holds Tryd.pinned (OpenSpec.ofChange blakeChainsSpec)

/-- ITS FALSE NEIGHBOUR: 'it returns false'. Refute it at one input. -/
def blakeChainsWrong : ChangeSpec := { name := "blakeChains", fn := fun _ => fun
  | [d1, d2, d3] => { results := [.lit (.bool false)], args := [d1, d2, d3] }
  | _ => none }
def BlakeChainsWrongFalsely : Prop := blakeChainsRow.holds Tryd.pinned (OpenSpec.ofChange blakeChainsWrong)

/-- 'aditlaw06.BlakeCuts': WHATEVER THE INPUT: true; the input reads as it did. -/
def blakeCutsSpec : ChangeSpec := { name := "blakeCuts", fn := fun _ => fun
  | [d1, d2] => { results := [.lit (.bool true)], args := [d1, d2] }
  | _ => none }
def blakeCutsRow : OpenClaim := { program := "ytcefoonflpofgaadoor", sum := "3d5401857685640153d491bfda5043ed2834c3eef209c720c42a22f38c61d5ea", func := "adit/aditlaw06.BlakeCuts", spec := "blakeCuts", named := ["adit/blake.beginnings", "adit/blake.orders"], apart := false, laid := [("adit/blake.beginnings", laid_adit_blake_beginnings), ("adit/blake.orders", laid_adit_blake_orders)] }
def BlakeCutsSaid : Prop := blakeCutsRow.holds Tryd.pinned (OpenSpec.ofChange blakeCutsSpec)

/-- ITS FALSE NEIGHBOUR: 'it returns false'. Refute it at one input. -/
def blakeCutsWrong : ChangeSpec := { name := "blakeCuts", fn := fun _ => fun
  | [d1, d2] => { results := [.lit (.bool false)], args := [d1, d2] }
  | _ => none }
def BlakeCutsWrongFalsely : Prop := blakeCutsRow.holds Tryd.pinned (OpenSpec.ofChange blakeCutsWrong)

/- THE SECOND FORM. 'bulk': how many values and letters a reading holds, each counted each time it is reached (what is shared counts as often as it is met; a slice's spare places count too). A statement '..UptoSaid' is the law's where the arguments, and the package variables that the reading takes, are together of bulk at most 1048576: NARROWER than '..Said'. Prove '..Said' where nothing that the law and all that it calls make is longer than what came in: it says more and counts as full. Else prove '..UptoSaid'. A law counts once. -/
mutual
def uptoBulk {H : Type} : DataW H → Nat
  | .lit (.string bytes) => bytes.length + 1
  | .lit _ => 1
  | .nil => 1
  | .ptr d => uptoBulk d + 1
  | .slice elems spare => uptoBulkAll elems + uptoBulkAll spare + 1
  | .agg parts => uptoBulkAll parts + 1
  | .iface _ d => uptoBulk d + 1
  | .map entries => uptoBulkEntries entries + 1
  | .held _ => 1
def uptoBulkAll {H : Type} : List (DataW H) → Nat
  | [] => 0
  | d :: r => uptoBulk d + uptoBulkAll r
def uptoBulkEntries {H : Type} : List (Lit × DataW H) → Nat
  | [] => 0
  | x :: r => uptoBulkEntry x + uptoBulkEntries r
def uptoBulkEntry {H : Type} : Lit × DataW H → Nat
  | (.string bytes, d) => bytes.length + uptoBulk d + 1
  | (_, d) => uptoBulk d + 1
 end
def uptoSmall : (H : Type) → List (DataW H) → Bool := fun _ ds => decide (uptoBulkAll ds ≤ 1048576)
def OpenSpec.upto (s : _root_.Go.ChangeSpec) : _root_.Go.OpenSpec := { _root_.Go.OpenSpec.ofChange s with cond := some uptoSmall }

/-- 'aditlaw06.BlakeSums', WHERE WHAT IT READS IS OF BULK AT MOST 1048576: true; the input reads as it did. -/
def blakeSumsUptoRow : OpenClaim := { program := "ytcefoonflpofgaadoor", sum := "3d5401857685640153d491bfda5043ed2834c3eef209c720c42a22f38c61d5ea", func := "adit/aditlaw06.BlakeSums", spec := "blakeSums", named := ["adit/blake.beginnings", "adit/blake.orders"], apart := false, laid := [("adit/blake.beginnings", laid_adit_blake_beginnings), ("adit/blake.orders", laid_adit_blake_orders)], narrowed := true }
def BlakeSumsUptoSaid : Prop := blakeSumsUptoRow.holds Tryd.pinned (OpenSpec.upto blakeSumsSpec)

/-- 'aditlaw06.BlakeKeys', WHERE WHAT IT READS IS OF BULK AT MOST 1048576: true; the input reads as it did. -/
def blakeKeysUptoRow : OpenClaim := { program := "ytcefoonflpofgaadoor", sum := "3d5401857685640153d491bfda5043ed2834c3eef209c720c42a22f38c61d5ea", func := "adit/aditlaw06.BlakeKeys", spec := "blakeKeys", named := ["adit/blake.beginnings", "adit/blake.orders"], apart := false, laid := [("adit/blake.beginnings", laid_adit_blake_beginnings), ("adit/blake.orders", laid_adit_blake_orders)], narrowed := true }
def BlakeKeysUptoSaid : Prop := blakeKeysUptoRow.holds Tryd.pinned (OpenSpec.upto blakeKeysSpec)

/-- 'aditlaw06.BlakeMacs', WHERE WHAT IT READS IS OF BULK AT MOST 1048576: true; the input reads as it did. -/
def blakeMacsUptoRow : OpenClaim := { program := "ytcefoonflpofgaadoor", sum := "3d5401857685640153d491bfda5043ed2834c3eef209c720c42a22f38c61d5ea", func := "adit/aditlaw06.BlakeMacs", spec := "blakeMacs", named := ["adit/blake.beginnings", "adit/blake.orders"], apart := false, laid := [("adit/blake.beginnings", laid_adit_blake_beginnings), ("adit/blake.orders", laid_adit_blake_orders)], narrowed := true }
def BlakeMacsUptoSaid : Prop := blakeMacsUptoRow.holds Tryd.pinned (OpenSpec.upto blakeMacsSpec)

/-- 'aditlaw06.BlakeChains', WHERE WHAT IT READS IS OF BULK AT MOST 1048576: true; the input reads as it did. -/
def blakeChainsUptoRow : OpenClaim := { program := "ytcefoonflpofgaadoor", sum := "3d5401857685640153d491bfda5043ed2834c3eef209c720c42a22f38c61d5ea", func := "adit/aditlaw06.BlakeChains", spec := "blakeChains", named := ["adit/blake.beginnings", "adit/blake.orders"], apart := false, laid := [("adit/blake.beginnings", laid_adit_blake_beginnings), ("adit/blake.orders", laid_adit_blake_orders)], narrowed := true }
def BlakeChainsUptoSaid : Prop := blakeChainsUptoRow.holds Tryd.pinned (OpenSpec.upto blakeChainsSpec)

/-- 'aditlaw06.BlakeCuts', WHERE WHAT IT READS IS OF BULK AT MOST 1048576: true; the input reads as it did. -/
def blakeCutsUptoRow : OpenClaim := { program := "ytcefoonflpofgaadoor", sum := "3d5401857685640153d491bfda5043ed2834c3eef209c720c42a22f38c61d5ea", func := "adit/aditlaw06.BlakeCuts", spec := "blakeCuts", named := ["adit/blake.beginnings", "adit/blake.orders"], apart := false, laid := [("adit/blake.beginnings", laid_adit_blake_beginnings), ("adit/blake.orders", laid_adit_blake_orders)], narrowed := true }
def BlakeCutsUptoSaid : Prop := blakeCutsUptoRow.holds Tryd.pinned (OpenSpec.upto blakeCutsSpec)

end Rows
end Go.Proofs.YtcefoonflpofgaaDoor
