/-
  NARROWER THAN 'FOR EVERY INPUT', by the rows' own cells (each row's printed sentence says how): CurveTimes: laid · CurveMeets: laid · CurveTurns: laid · CurveLoose: laid.
  DERIVED. THE GIVEN ROWS OF THIS SEAT. 4 by the template 'for every input the law returns true; each argument reads behind the call as it read before'; 0 by the template 'total and deterministic' (their statements: YtpcpcgfljffkeaaDoorTotals.lean).
  GIVEN WITH THE SEED: the statements are not yours to turn. If you find one false, say at which input.
  Laid BY PROGRAM, IN A SANDBOX (cutbox-rows.mjs): the forced cells as the released guide's own fill.sh prints them over the translation 9ba78077e51ee4f9… (all of the seat's roots in one cut). By AI agents, Wed Nov 11 2026. No macro, syntax, notation, axiom, sorry.
-/
import Derived.Test.YtpcpcgfljffkeaaDoorChecked
import GoSem.Claim
import GoSem.ClaimJoined
import GoSem.ClaimMapViews
import Derived.JoinedTies
import Derived.KernelRfl
namespace Go.Proofs.YtpcpcgfljffkeaaDoor
/- THE CELL 'sum', in the pinned program and in every row, IS THE sha256 OF THE DUMP (.gsa) THAT YtpcpcgfljffkeaaDoorProg.lean LOADS. Nothing in Lean hashes anything: it is a label: what it is worth is what the hold of that sum in a sandbox is worth. -/
noncomputable def Tryd.pinned : Pinned := { name := "ytpcpcgfljffkeaadoor", sum := "9ba78077e51ee4f96c57d62ae428f9ee800968a43016809ec97b75add663424d", checked := Tryd.checked }
namespace Rows
def none {H : Type} : Left H := { results := [], args := [] }

/- WHAT THE LISTED PACKAGE-LEVEL VARIABLES READ AS WHEN THE CALL BEGINS. Each datum BY PROGRAM (the guide's laid-datum.mjs) off the statement by which the dump's own 'gosem.cut.vars' lays the variable. In a bare row this is a premise. The card (YtpcpcgfljffkeaaDoorCards.lean) ties it to the program's text. -/
def laid_adit_field_prime {H : Type} : DataW H := .agg [.lit (.int .u64 18446744073709551597), .lit (.int .u64 18446744073709551615), .lit (.int .u64 18446744073709551615), .lit (.int .u64 9223372036854775807)]

/-- 'aditlaw02.CurveTimes': WHATEVER THE INPUT: true; the input reads as it did. -/
def curveTimesSpec : ChangeSpec := { name := "curveTimes", fn := fun _ => fun
  | [d1, d2] => { results := [.lit (.bool true)], args := [d1, d2] }
  | _ => none }
def curveTimesRow : OpenClaim := { program := "ytpcpcgfljffkeaadoor", sum := "9ba78077e51ee4f96c57d62ae428f9ee800968a43016809ec97b75add663424d", func := "adit/aditlaw02.CurveTimes", spec := "curveTimes", inPlace := ["math/bits.Add64", "math/bits.Sub64"], named := ["adit/field.prime"], apart := false, laid := [("adit/field.prime", laid_adit_field_prime)] }
def CurveTimesSaid : Prop := curveTimesRow.holds Tryd.pinned (OpenSpec.ofChange curveTimesSpec)

/-- ITS FALSE NEIGHBOUR: 'it returns false'. Refute it at one input. -/
def curveTimesWrong : ChangeSpec := { name := "curveTimes", fn := fun _ => fun
  | [d1, d2] => { results := [.lit (.bool false)], args := [d1, d2] }
  | _ => none }
def CurveTimesWrongFalsely : Prop := curveTimesRow.holds Tryd.pinned (OpenSpec.ofChange curveTimesWrong)

/-- 'aditlaw02.CurveMeets': WHATEVER THE INPUT: true; the input reads as it did. -/
def curveMeetsSpec : ChangeSpec := { name := "curveMeets", fn := fun _ => fun
  | [d1, d2] => { results := [.lit (.bool true)], args := [d1, d2] }
  | _ => none }
def curveMeetsRow : OpenClaim := { program := "ytpcpcgfljffkeaadoor", sum := "9ba78077e51ee4f96c57d62ae428f9ee800968a43016809ec97b75add663424d", func := "adit/aditlaw02.CurveMeets", spec := "curveMeets", inPlace := ["math/bits.Sub64", "math/bits.Add64"], named := ["adit/field.prime"], apart := false, laid := [("adit/field.prime", laid_adit_field_prime)] }
def CurveMeetsSaid : Prop := curveMeetsRow.holds Tryd.pinned (OpenSpec.ofChange curveMeetsSpec)

/-- ITS FALSE NEIGHBOUR: 'it returns false'. Refute it at one input. -/
def curveMeetsWrong : ChangeSpec := { name := "curveMeets", fn := fun _ => fun
  | [d1, d2] => { results := [.lit (.bool false)], args := [d1, d2] }
  | _ => none }
def CurveMeetsWrongFalsely : Prop := curveMeetsRow.holds Tryd.pinned (OpenSpec.ofChange curveMeetsWrong)

/-- 'aditlaw02.CurveTurns': WHATEVER THE INPUT: true; the input reads as it did. -/
def curveTurnsSpec : ChangeSpec := { name := "curveTurns", fn := fun _ => fun
  | [d1, d2, d3] => { results := [.lit (.bool true)], args := [d1, d2, d3] }
  | _ => none }
def curveTurnsRow : OpenClaim := { program := "ytpcpcgfljffkeaadoor", sum := "9ba78077e51ee4f96c57d62ae428f9ee800968a43016809ec97b75add663424d", func := "adit/aditlaw02.CurveTurns", spec := "curveTurns", inPlace := ["math/bits.Add64", "math/bits.Sub64"], named := ["adit/field.prime"], apart := false, laid := [("adit/field.prime", laid_adit_field_prime)] }
def CurveTurnsSaid : Prop := curveTurnsRow.holds Tryd.pinned (OpenSpec.ofChange curveTurnsSpec)

/-- ITS FALSE NEIGHBOUR: 'it returns false'. Refute it at one input. -/
def curveTurnsWrong : ChangeSpec := { name := "curveTurns", fn := fun _ => fun
  | [d1, d2, d3] => { results := [.lit (.bool false)], args := [d1, d2, d3] }
  | _ => none }
def CurveTurnsWrongFalsely : Prop := curveTurnsRow.holds Tryd.pinned (OpenSpec.ofChange curveTurnsWrong)

/-- 'aditlaw02.CurveLoose': WHATEVER THE INPUT: true; the input reads as it did. -/
def curveLooseSpec : ChangeSpec := { name := "curveLoose", fn := fun _ => fun
  | [d1, d2, d3] => { results := [.lit (.bool true)], args := [d1, d2, d3] }
  | _ => none }
def curveLooseRow : OpenClaim := { program := "ytpcpcgfljffkeaadoor", sum := "9ba78077e51ee4f96c57d62ae428f9ee800968a43016809ec97b75add663424d", func := "adit/aditlaw02.CurveLoose", spec := "curveLoose", inPlace := ["math/bits.Add64", "math/bits.Sub64"], named := ["adit/field.prime"], apart := false, laid := [("adit/field.prime", laid_adit_field_prime)] }
def CurveLooseSaid : Prop := curveLooseRow.holds Tryd.pinned (OpenSpec.ofChange curveLooseSpec)

/-- ITS FALSE NEIGHBOUR: 'it returns false'. Refute it at one input. -/
def curveLooseWrong : ChangeSpec := { name := "curveLoose", fn := fun _ => fun
  | [d1, d2, d3] => { results := [.lit (.bool false)], args := [d1, d2, d3] }
  | _ => none }
def CurveLooseWrongFalsely : Prop := curveLooseRow.holds Tryd.pinned (OpenSpec.ofChange curveLooseWrong)

/- THE SECOND FORM. 'bulk': how many values and letters a reading holds, each counted each time it is reached (what is shared counts as often as it is met; a slice's spare places count too). A statement '..UptoSaid' is the law's where the arguments, and the package variables that the reading takes, are together of bulk at most 1048576: NARROWER than '..Said'. Prove '..Said' where nothing that the law and all that it calls make is longer than what came in: it says more and counts as full. Else prove '..UptoSaid'. A law counts once. -/
mutual
def uptoBulk {H : Type} : DataW H → Nat
  | .lit (.string bytes) => bytes.length + 1
  | .lit _ => 1
  | .nil => 1
  | .ptr d => uptoBulk d + 1
  | .slice elems spare => uptoBulkAll elems + uptoBulkAll spare + 1
  | .agg parts => uptoBulkAll parts + 1
  | .iface _ d => uptoBulk d + 1
  | .map entries => uptoBulkEntries entries + 1
  | .held _ => 1
def uptoBulkAll {H : Type} : List (DataW H) → Nat
  | [] => 0
  | d :: r => uptoBulk d + uptoBulkAll r
def uptoBulkEntries {H : Type} : List (Lit × DataW H) → Nat
  | [] => 0
  | x :: r => uptoBulkEntry x + uptoBulkEntries r
def uptoBulkEntry {H : Type} : Lit × DataW H → Nat
  | (.string bytes, d) => bytes.length + uptoBulk d + 1
  | (_, d) => uptoBulk d + 1
 end
def uptoSmall : (H : Type) → List (DataW H) → Bool := fun _ ds => decide (uptoBulkAll ds ≤ 1048576)
def OpenSpec.upto (s : _root_.Go.ChangeSpec) : _root_.Go.OpenSpec := { _root_.Go.OpenSpec.ofChange s with cond := some uptoSmall }

/-- 'aditlaw02.CurveTimes', WHERE WHAT IT READS IS OF BULK AT MOST 1048576: true; the input reads as it did. -/
def curveTimesUptoRow : OpenClaim := { program := "ytpcpcgfljffkeaadoor", sum := "9ba78077e51ee4f96c57d62ae428f9ee800968a43016809ec97b75add663424d", func := "adit/aditlaw02.CurveTimes", spec := "curveTimes", inPlace := ["math/bits.Add64", "math/bits.Sub64"], named := ["adit/field.prime"], apart := false, laid := [("adit/field.prime", laid_adit_field_prime)], narrowed := true }
def CurveTimesUptoSaid : Prop := curveTimesUptoRow.holds Tryd.pinned (OpenSpec.upto curveTimesSpec)

/-- 'aditlaw02.CurveMeets', WHERE WHAT IT READS IS OF BULK AT MOST 1048576: true; the input reads as it did. -/
def curveMeetsUptoRow : OpenClaim := { program := "ytpcpcgfljffkeaadoor", sum := "9ba78077e51ee4f96c57d62ae428f9ee800968a43016809ec97b75add663424d", func := "adit/aditlaw02.CurveMeets", spec := "curveMeets", inPlace := ["math/bits.Sub64", "math/bits.Add64"], named := ["adit/field.prime"], apart := false, laid := [("adit/field.prime", laid_adit_field_prime)], narrowed := true }
def CurveMeetsUptoSaid : Prop := curveMeetsUptoRow.holds Tryd.pinned (OpenSpec.upto curveMeetsSpec)

/-- 'aditlaw02.CurveTurns', WHERE WHAT IT READS IS OF BULK AT MOST 1048576: true; the input reads as it did. -/
def curveTurnsUptoRow : OpenClaim := { program := "ytpcpcgfljffkeaadoor", sum := "9ba78077e51ee4f96c57d62ae428f9ee800968a43016809ec97b75add663424d", func := "adit/aditlaw02.CurveTurns", spec := "curveTurns", inPlace := ["math/bits.Add64", "math/bits.Sub64"], named := ["adit/field.prime"], apart := false, laid := [("adit/field.prime", laid_adit_field_prime)], narrowed := true }
def CurveTurnsUptoSaid : Prop := curveTurnsUptoRow.holds Tryd.pinned (OpenSpec.upto curveTurnsSpec)

/-- 'aditlaw02.CurveLoose', WHERE WHAT IT READS IS OF BULK AT MOST 1048576: true; the input reads as it did. -/
def curveLooseUptoRow : OpenClaim := { program := "ytpcpcgfljffkeaadoor", sum := "9ba78077e51ee4f96c57d62ae428f9ee800968a43016809ec97b75add663424d", func := "adit/aditlaw02.CurveLoose", spec := "curveLoose", inPlace := ["math/bits.Add64", "math/bits.Sub64"], named := ["adit/field.prime"], apart := false, laid := [("adit/field.prime", laid_adit_field_prime)], narrowed := true }
def CurveLooseUptoSaid : Prop := curveLooseUptoRow.holds Tryd.pinned (OpenSpec.upto curveLooseSpec)

end Rows
end Go.Proofs.YtpcpcgfljffkeaaDoor
