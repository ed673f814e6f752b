/-
  No cell of these rows narrows 'for every input' (looked for: loops, veiled, ifaces, maps, wideKeys, modest, calm, conditions, laid).
  DERIVED. THE GIVEN ROWS OF THIS SEAT. 5 by the template 'for every input the law returns true; each argument reads behind the call as it read before'; 0 by the template 'total and deterministic' (their statements: YtfbeclleeehaaaaTotals.lean).
  GIVEN WITH THE SEED: the statements are not yours to turn. If you find one false, say at which input.
  Laid BY PROGRAM, IN A SANDBOX (cutbox-rows.mjs): the forced cells as the released guide's own fill.sh prints them over the translation 34838db336488d21… (all of the seat's roots in one cut). By AI agents, Wed Nov 11 2026. No macro, syntax, notation, axiom, sorry.
-/
import Derived.Test.YtfbeclleeehaaaaChecked
import GoSem.Claim
import GoSem.ClaimJoined
import GoSem.ClaimMapViews
import Derived.JoinedTies
import Derived.KernelRfl
namespace Go.Proofs.Ytfbeclleeehaaaa
/- THE CELL 'sum', in the pinned program and in every row, IS THE sha256 OF THE DUMP (.gsa) THAT YtfbeclleeehaaaaProg.lean LOADS. Nothing in Lean hashes anything: it is a label: what it is worth is what the hold of that sum in a sandbox is worth. -/
noncomputable def Try.pinned : Pinned := { name := "ytfbeclleeehaaaa", sum := "34838db336488d21630294cc41280c5dd71b2fc109878da742e60288ea0a70ee", checked := Try.checked }
namespace Rows
def none {H : Type} : Left H := { results := [], args := [] }

/-- 'aditlaw04.PolyTags': WHATEVER THE INPUT: true; the input reads as it did. -/
def polyTagsSpec : ChangeSpec := { name := "polyTags", fn := fun _ => fun
  | [d1, d2] => { results := [.lit (.bool true)], args := [d1, d2] }
  | _ => none }
def polyTagsRow : OpenClaim := { program := "ytfbeclleeehaaaa", sum := "34838db336488d21630294cc41280c5dd71b2fc109878da742e60288ea0a70ee", func := "adit/aditlaw04.PolyTags", spec := "polyTags", inPlace := ["math/bits.Add64"], apart := false }
def PolyTagsSaid : Prop := polyTagsRow.holds Try.pinned (OpenSpec.ofChange polyTagsSpec)

/-- ITS FALSE NEIGHBOUR: 'it returns false'. Refute it at one input. -/
def polyTagsWrong : ChangeSpec := { name := "polyTags", fn := fun _ => fun
  | [d1, d2] => { results := [.lit (.bool false)], args := [d1, d2] }
  | _ => none }
def PolyTagsWrongFalsely : Prop := polyTagsRow.holds Try.pinned (OpenSpec.ofChange polyTagsWrong)

/-- 'aditlaw04.PolyPieces': WHATEVER THE INPUT: true; the input reads as it did. -/
def polyPiecesSpec : ChangeSpec := { name := "polyPieces", fn := fun _ => fun
  | [d1, d2] => { results := [.lit (.bool true)], args := [d1, d2] }
  | _ => none }
def polyPiecesRow : OpenClaim := { program := "ytfbeclleeehaaaa", sum := "34838db336488d21630294cc41280c5dd71b2fc109878da742e60288ea0a70ee", func := "adit/aditlaw04.PolyPieces", spec := "polyPieces", inPlace := ["math/bits.Add64"], apart := false }
def PolyPiecesSaid : Prop := polyPiecesRow.holds Try.pinned (OpenSpec.ofChange polyPiecesSpec)

/-- ITS FALSE NEIGHBOUR: 'it returns false'. Refute it at one input. -/
def polyPiecesWrong : ChangeSpec := { name := "polyPieces", fn := fun _ => fun
  | [d1, d2] => { results := [.lit (.bool false)], args := [d1, d2] }
  | _ => none }
def PolyPiecesWrongFalsely : Prop := polyPiecesRow.holds Try.pinned (OpenSpec.ofChange polyPiecesWrong)

/-- 'aditlaw04.PolyGoes': WHATEVER THE INPUT: true; the input reads as it did. -/
def polyGoesSpec : ChangeSpec := { name := "polyGoes", fn := fun _ => fun
  | [d1, d2, d3] => { results := [.lit (.bool true)], args := [d1, d2, d3] }
  | _ => none }
def polyGoesRow : OpenClaim := { program := "ytfbeclleeehaaaa", sum := "34838db336488d21630294cc41280c5dd71b2fc109878da742e60288ea0a70ee", func := "adit/aditlaw04.PolyGoes", spec := "polyGoes", inPlace := ["math/bits.Add64"], apart := false }
def PolyGoesSaid : Prop := polyGoesRow.holds Try.pinned (OpenSpec.ofChange polyGoesSpec)

/-- ITS FALSE NEIGHBOUR: 'it returns false'. Refute it at one input. -/
def polyGoesWrong : ChangeSpec := { name := "polyGoes", fn := fun _ => fun
  | [d1, d2, d3] => { results := [.lit (.bool false)], args := [d1, d2, d3] }
  | _ => none }
def PolyGoesWrongFalsely : Prop := polyGoesRow.holds Try.pinned (OpenSpec.ofChange polyGoesWrong)

/-- 'aditlaw04.PolyCuts': WHATEVER THE INPUT: true; the input reads as it did. -/
def polyCutsSpec : ChangeSpec := { name := "polyCuts", fn := fun _ => fun
  | [d1, d2, d3] => { results := [.lit (.bool true)], args := [d1, d2, d3] }
  | _ => none }
def polyCutsRow : OpenClaim := { program := "ytfbeclleeehaaaa", sum := "34838db336488d21630294cc41280c5dd71b2fc109878da742e60288ea0a70ee", func := "adit/aditlaw04.PolyCuts", spec := "polyCuts", inPlace := ["math/bits.Add64"], apart := false }
def PolyCutsSaid : Prop := polyCutsRow.holds Try.pinned (OpenSpec.ofChange polyCutsSpec)

/-- ITS FALSE NEIGHBOUR: 'it returns false'. Refute it at one input. -/
def polyCutsWrong : ChangeSpec := { name := "polyCuts", fn := fun _ => fun
  | [d1, d2, d3] => { results := [.lit (.bool false)], args := [d1, d2, d3] }
  | _ => none }
def PolyCutsWrongFalsely : Prop := polyCutsRow.holds Try.pinned (OpenSpec.ofChange polyCutsWrong)

/-- 'aditlaw04.PolyNobody': WHATEVER THE INPUT: true; the input reads as it did. -/
def polyNobodySpec : ChangeSpec := { name := "polyNobody", fn := fun _ => fun
  | [d] => { results := [.lit (.bool true)], args := [d] }
  | _ => none }
def polyNobodyRow : OpenClaim := { program := "ytfbeclleeehaaaa", sum := "34838db336488d21630294cc41280c5dd71b2fc109878da742e60288ea0a70ee", func := "adit/aditlaw04.PolyNobody", spec := "polyNobody", inPlace := ["math/bits.Add64"], apart := false }
def PolyNobodySaid : Prop := polyNobodyRow.holds Try.pinned (OpenSpec.ofChange polyNobodySpec)

/-- ITS FALSE NEIGHBOUR: 'it returns false'. Refute it at one input. -/
def polyNobodyWrong : ChangeSpec := { name := "polyNobody", fn := fun _ => fun
  | [d] => { results := [.lit (.bool false)], args := [d] }
  | _ => none }
def PolyNobodyWrongFalsely : Prop := polyNobodyRow.holds Try.pinned (OpenSpec.ofChange polyNobodyWrong)

/- THE SECOND FORM. 'bulk': how many values and letters a reading holds, each counted each time it is reached (what is shared counts as often as it is met; a slice's spare places count too). A statement '..UptoSaid' is the law's where the arguments, and the package variables that the reading takes, are together of bulk at most 1048576: NARROWER than '..Said'. Prove '..Said' where nothing that the law and all that it calls make is longer than what came in: it says more and counts as full. Else prove '..UptoSaid'. A law counts once. -/
mutual
def uptoBulk {H : Type} : DataW H → Nat
  | .lit (.string bytes) => bytes.length + 1
  | .lit _ => 1
  | .nil => 1
  | .ptr d => uptoBulk d + 1
  | .slice elems spare => uptoBulkAll elems + uptoBulkAll spare + 1
  | .agg parts => uptoBulkAll parts + 1
  | .iface _ d => uptoBulk d + 1
  | .map entries => uptoBulkEntries entries + 1
  | .held _ => 1
def uptoBulkAll {H : Type} : List (DataW H) → Nat
  | [] => 0
  | d :: r => uptoBulk d + uptoBulkAll r
def uptoBulkEntries {H : Type} : List (Lit × DataW H) → Nat
  | [] => 0
  | x :: r => uptoBulkEntry x + uptoBulkEntries r
def uptoBulkEntry {H : Type} : Lit × DataW H → Nat
  | (.string bytes, d) => bytes.length + uptoBulk d + 1
  | (_, d) => uptoBulk d + 1
 end
def uptoSmall : (H : Type) → List (DataW H) → Bool := fun _ ds => decide (uptoBulkAll ds ≤ 1048576)
def OpenSpec.upto (s : _root_.Go.ChangeSpec) : _root_.Go.OpenSpec := { _root_.Go.OpenSpec.ofChange s with cond := some uptoSmall }

/-- 'aditlaw04.PolyTags', WHERE WHAT IT READS IS OF BULK AT MOST 1048576: true; the input reads as it did. -/
def polyTagsUptoRow : OpenClaim := { program := "ytfbeclleeehaaaa", sum := "34838db336488d21630294cc41280c5dd71b2fc109878da742e60288ea0a70ee", func := "adit/aditlaw04.PolyTags", spec := "polyTags", inPlace := ["math/bits.Add64"], apart := false, narrowed := true }
def PolyTagsUptoSaid : Prop := polyTagsUptoRow.holds Try.pinned (OpenSpec.upto polyTagsSpec)

/-- 'aditlaw04.PolyPieces', WHERE WHAT IT READS IS OF BULK AT MOST 1048576: true; the input reads as it did. -/
def polyPiecesUptoRow : OpenClaim := { program := "ytfbeclleeehaaaa", sum := "34838db336488d21630294cc41280c5dd71b2fc109878da742e60288ea0a70ee", func := "adit/aditlaw04.PolyPieces", spec := "polyPieces", inPlace := ["math/bits.Add64"], apart := false, narrowed := true }
def PolyPiecesUptoSaid : Prop := polyPiecesUptoRow.holds Try.pinned (OpenSpec.upto polyPiecesSpec)

/-- 'aditlaw04.PolyGoes', WHERE WHAT IT READS IS OF BULK AT MOST 1048576: true; the input reads as it did. -/
def polyGoesUptoRow : OpenClaim := { program := "ytfbeclleeehaaaa", sum := "34838db336488d21630294cc41280c5dd71b2fc109878da742e60288ea0a70ee", func := "adit/aditlaw04.PolyGoes", spec := "polyGoes", inPlace := ["math/bits.Add64"], apart := false, narrowed := true }
def PolyGoesUptoSaid : Prop := polyGoesUptoRow.holds Try.pinned (OpenSpec.upto polyGoesSpec)

/-- 'aditlaw04.PolyCuts', WHERE WHAT IT READS IS OF BULK AT MOST 1048576: true; the input reads as it did. -/
def polyCutsUptoRow : OpenClaim := { program := "ytfbeclleeehaaaa", sum := "34838db336488d21630294cc41280c5dd71b2fc109878da742e60288ea0a70ee", func := "adit/aditlaw04.PolyCuts", spec := "polyCuts", inPlace := ["math/bits.Add64"], apart := false, narrowed := true }
def PolyCutsUptoSaid : Prop := polyCutsUptoRow.holds Try.pinned (OpenSpec.upto polyCutsSpec)

/-- 'aditlaw04.PolyNobody', WHERE WHAT IT READS IS OF BULK AT MOST 1048576: true; the input reads as it did. -/
def polyNobodyUptoRow : OpenClaim := { program := "ytfbeclleeehaaaa", sum := "34838db336488d21630294cc41280c5dd71b2fc109878da742e60288ea0a70ee", func := "adit/aditlaw04.PolyNobody", spec := "polyNobody", inPlace := ["math/bits.Add64"], apart := false, narrowed := true }
def PolyNobodyUptoSaid : Prop := polyNobodyUptoRow.holds Try.pinned (OpenSpec.upto polyNobodySpec)

end Rows
end Go.Proofs.Ytfbeclleeehaaaa
