/-
  NARROWER THAN 'FOR EVERY INPUT', by the rows' own cells (each row's printed sentence says how): FieldSums: laid · FieldTwo: laid · FieldOf: laid · FieldPowers: laid · FieldRules: laid · FieldInverse: laid.
  DERIVED. THE GIVEN ROWS OF THIS SEAT. 6 by the template 'for every input the law returns true; each argument reads behind the call as it read before'; 0 by the template 'total and deterministic' (their statements: YtgklkkjhoecdoaaDoorTotals.lean).
  GIVEN WITH THE SEED: the statements are not yours to turn. If you find one false, say at which input.
  Laid BY PROGRAM, IN A SANDBOX (cutbox-rows.mjs): the forced cells as the released guide's own fill.sh prints them over the translation a5480085e12133c4… (all of the seat's roots in one cut). By AI agents, Wed Nov 11 2026. No macro, syntax, notation, axiom, sorry.
-/
import Derived.Test.YtgklkkjhoecdoaaDoorChecked
import GoSem.Claim
import GoSem.ClaimJoined
import GoSem.ClaimMapViews
import Derived.JoinedTies
import Derived.KernelRfl
namespace Go.Proofs.YtgklkkjhoecdoaaDoor
/- THE CELL 'sum', in the pinned program and in every row, IS THE sha256 OF THE DUMP (.gsa) THAT YtgklkkjhoecdoaaDoorProg.lean LOADS. Nothing in Lean hashes anything: it is a label: what it is worth is what the hold of that sum in a sandbox is worth. -/
noncomputable def Tryd.pinned : Pinned := { name := "ytgklkkjhoecdoaadoor", sum := "a5480085e12133c4afb1ddfc20af61ccef464598978165b0a19d71d320479388", checked := Tryd.checked }
namespace Rows
def none {H : Type} : Left H := { results := [], args := [] }

/- WHAT THE LISTED PACKAGE-LEVEL VARIABLES READ AS WHEN THE CALL BEGINS. Each datum BY PROGRAM (the guide's laid-datum.mjs) off the statement by which the dump's own 'gosem.cut.vars' lays the variable. In a bare row this is a premise. The card (YtgklkkjhoecdoaaDoorCards.lean) ties it to the program's text. -/
def laid_adit_field_prime {H : Type} : DataW H := .agg [.lit (.int .u64 18446744073709551597), .lit (.int .u64 18446744073709551615), .lit (.int .u64 18446744073709551615), .lit (.int .u64 9223372036854775807)]

/-- 'aditlaw01.FieldSums': WHATEVER THE INPUT: true; the input reads as it did. -/
def fieldSumsSpec : ChangeSpec := { name := "fieldSums", fn := fun _ => fun
  | [d] => { results := [.lit (.bool true)], args := [d] }
  | _ => none }
def fieldSumsRow : OpenClaim := { program := "ytgklkkjhoecdoaadoor", sum := "a5480085e12133c4afb1ddfc20af61ccef464598978165b0a19d71d320479388", func := "adit/aditlaw01.FieldSums", spec := "fieldSums", inPlace := ["math/bits.Add64", "math/bits.Sub64"], named := ["adit/field.prime"], apart := false, laid := [("adit/field.prime", laid_adit_field_prime)] }
def FieldSumsSaid : Prop := fieldSumsRow.holds Tryd.pinned (OpenSpec.ofChange fieldSumsSpec)

/-- ITS FALSE NEIGHBOUR: 'it returns false'. Refute it at one input. -/
def fieldSumsWrong : ChangeSpec := { name := "fieldSums", fn := fun _ => fun
  | [d] => { results := [.lit (.bool false)], args := [d] }
  | _ => none }
def FieldSumsWrongFalsely : Prop := fieldSumsRow.holds Tryd.pinned (OpenSpec.ofChange fieldSumsWrong)

/-- 'aditlaw01.FieldTwo': WHATEVER THE INPUT: true; the input reads as it did. -/
def fieldTwoSpec : ChangeSpec := { name := "fieldTwo", fn := fun _ => fun
  | [d1, d2] => { results := [.lit (.bool true)], args := [d1, d2] }
  | _ => none }
def fieldTwoRow : OpenClaim := { program := "ytgklkkjhoecdoaadoor", sum := "a5480085e12133c4afb1ddfc20af61ccef464598978165b0a19d71d320479388", func := "adit/aditlaw01.FieldTwo", spec := "fieldTwo", inPlace := ["math/bits.Add64", "math/bits.Sub64"], named := ["adit/field.prime"], apart := false, laid := [("adit/field.prime", laid_adit_field_prime)] }
def FieldTwoSaid : Prop := fieldTwoRow.holds Tryd.pinned (OpenSpec.ofChange fieldTwoSpec)

/-- ITS FALSE NEIGHBOUR: 'it returns false'. Refute it at one input. -/
def fieldTwoWrong : ChangeSpec := { name := "fieldTwo", fn := fun _ => fun
  | [d1, d2] => { results := [.lit (.bool false)], args := [d1, d2] }
  | _ => none }
def FieldTwoWrongFalsely : Prop := fieldTwoRow.holds Tryd.pinned (OpenSpec.ofChange fieldTwoWrong)

/-- 'aditlaw01.FieldOf': WHATEVER THE INPUT: true; the input reads as it did. -/
def fieldOfSpec : ChangeSpec := { name := "fieldOf", fn := fun _ => fun
  | [d] => { results := [.lit (.bool true)], args := [d] }
  | _ => none }
def fieldOfRow : OpenClaim := { program := "ytgklkkjhoecdoaadoor", sum := "a5480085e12133c4afb1ddfc20af61ccef464598978165b0a19d71d320479388", func := "adit/aditlaw01.FieldOf", spec := "fieldOf", inPlace := ["math/bits.Sub64", "math/bits.Add64"], recurses := true, named := ["adit/field.prime"], apart := false, laid := [("adit/field.prime", laid_adit_field_prime)] }
def FieldOfSaid : Prop := fieldOfRow.holds Tryd.pinned (OpenSpec.ofChange fieldOfSpec)

/-- ITS FALSE NEIGHBOUR: 'it returns false'. Refute it at one input. -/
def fieldOfWrong : ChangeSpec := { name := "fieldOf", fn := fun _ => fun
  | [d] => { results := [.lit (.bool false)], args := [d] }
  | _ => none }
def FieldOfWrongFalsely : Prop := fieldOfRow.holds Tryd.pinned (OpenSpec.ofChange fieldOfWrong)

/-- 'aditlaw01.FieldPowers': WHATEVER THE INPUT: true; the input reads as it did. -/
def fieldPowersSpec : ChangeSpec := { name := "fieldPowers", fn := fun _ => fun
  | [d1, d2] => { results := [.lit (.bool true)], args := [d1, d2] }
  | _ => none }
def fieldPowersRow : OpenClaim := { program := "ytgklkkjhoecdoaadoor", sum := "a5480085e12133c4afb1ddfc20af61ccef464598978165b0a19d71d320479388", func := "adit/aditlaw01.FieldPowers", spec := "fieldPowers", inPlace := ["math/bits.Add64", "math/bits.Sub64"], named := ["adit/field.prime"], apart := false, laid := [("adit/field.prime", laid_adit_field_prime)] }
def FieldPowersSaid : Prop := fieldPowersRow.holds Tryd.pinned (OpenSpec.ofChange fieldPowersSpec)

/-- ITS FALSE NEIGHBOUR: 'it returns false'. Refute it at one input. -/
def fieldPowersWrong : ChangeSpec := { name := "fieldPowers", fn := fun _ => fun
  | [d1, d2] => { results := [.lit (.bool false)], args := [d1, d2] }
  | _ => none }
def FieldPowersWrongFalsely : Prop := fieldPowersRow.holds Tryd.pinned (OpenSpec.ofChange fieldPowersWrong)

/-- 'aditlaw01.FieldRules': WHATEVER THE INPUT: true; the input reads as it did. -/
def fieldRulesSpec : ChangeSpec := { name := "fieldRules", fn := fun _ => fun
  | [d1, d2, d3] => { results := [.lit (.bool true)], args := [d1, d2, d3] }
  | _ => none }
def fieldRulesRow : OpenClaim := { program := "ytgklkkjhoecdoaadoor", sum := "a5480085e12133c4afb1ddfc20af61ccef464598978165b0a19d71d320479388", func := "adit/aditlaw01.FieldRules", spec := "fieldRules", inPlace := ["math/bits.Add64", "math/bits.Sub64"], named := ["adit/field.prime"], apart := false, laid := [("adit/field.prime", laid_adit_field_prime)] }
def FieldRulesSaid : Prop := fieldRulesRow.holds Tryd.pinned (OpenSpec.ofChange fieldRulesSpec)

/-- ITS FALSE NEIGHBOUR: 'it returns false'. Refute it at one input. -/
def fieldRulesWrong : ChangeSpec := { name := "fieldRules", fn := fun _ => fun
  | [d1, d2, d3] => { results := [.lit (.bool false)], args := [d1, d2, d3] }
  | _ => none }
def FieldRulesWrongFalsely : Prop := fieldRulesRow.holds Tryd.pinned (OpenSpec.ofChange fieldRulesWrong)

/-- 'aditlaw01.FieldInverse': WHATEVER THE INPUT: true; the input reads as it did. -/
def fieldInverseSpec : ChangeSpec := { name := "fieldInverse", fn := fun _ => fun
  | [d1, d2] => { results := [.lit (.bool true)], args := [d1, d2] }
  | _ => none }
def fieldInverseRow : OpenClaim := { program := "ytgklkkjhoecdoaadoor", sum := "a5480085e12133c4afb1ddfc20af61ccef464598978165b0a19d71d320479388", func := "adit/aditlaw01.FieldInverse", spec := "fieldInverse", inPlace := ["math/bits.Sub64", "math/bits.Add64"], named := ["adit/field.prime"], apart := false, laid := [("adit/field.prime", laid_adit_field_prime)] }
def FieldInverseSaid : Prop := fieldInverseRow.holds Tryd.pinned (OpenSpec.ofChange fieldInverseSpec)

/-- ITS FALSE NEIGHBOUR: 'it returns false'. Refute it at one input. -/
def fieldInverseWrong : ChangeSpec := { name := "fieldInverse", fn := fun _ => fun
  | [d1, d2] => { results := [.lit (.bool false)], args := [d1, d2] }
  | _ => none }
def FieldInverseWrongFalsely : Prop := fieldInverseRow.holds Tryd.pinned (OpenSpec.ofChange fieldInverseWrong)

/- THE SECOND FORM. 'bulk': how many values and letters a reading holds, each counted each time it is reached (what is shared counts as often as it is met; a slice's spare places count too). A statement '..UptoSaid' is the law's where the arguments, and the package variables that the reading takes, are together of bulk at most 1048576: NARROWER than '..Said'. Prove '..Said' where nothing that the law and all that it calls make is longer than what came in: it says more and counts as full. Else prove '..UptoSaid'. A law counts once. -/
mutual
def uptoBulk {H : Type} : DataW H → Nat
  | .lit (.string bytes) => bytes.length + 1
  | .lit _ => 1
  | .nil => 1
  | .ptr d => uptoBulk d + 1
  | .slice elems spare => uptoBulkAll elems + uptoBulkAll spare + 1
  | .agg parts => uptoBulkAll parts + 1
  | .iface _ d => uptoBulk d + 1
  | .map entries => uptoBulkEntries entries + 1
  | .held _ => 1
def uptoBulkAll {H : Type} : List (DataW H) → Nat
  | [] => 0
  | d :: r => uptoBulk d + uptoBulkAll r
def uptoBulkEntries {H : Type} : List (Lit × DataW H) → Nat
  | [] => 0
  | x :: r => uptoBulkEntry x + uptoBulkEntries r
def uptoBulkEntry {H : Type} : Lit × DataW H → Nat
  | (.string bytes, d) => bytes.length + uptoBulk d + 1
  | (_, d) => uptoBulk d + 1
 end
def uptoSmall : (H : Type) → List (DataW H) → Bool := fun _ ds => decide (uptoBulkAll ds ≤ 1048576)
def OpenSpec.upto (s : _root_.Go.ChangeSpec) : _root_.Go.OpenSpec := { _root_.Go.OpenSpec.ofChange s with cond := some uptoSmall }

/-- 'aditlaw01.FieldSums', WHERE WHAT IT READS IS OF BULK AT MOST 1048576: true; the input reads as it did. -/
def fieldSumsUptoRow : OpenClaim := { program := "ytgklkkjhoecdoaadoor", sum := "a5480085e12133c4afb1ddfc20af61ccef464598978165b0a19d71d320479388", func := "adit/aditlaw01.FieldSums", spec := "fieldSums", inPlace := ["math/bits.Add64", "math/bits.Sub64"], named := ["adit/field.prime"], apart := false, laid := [("adit/field.prime", laid_adit_field_prime)], narrowed := true }
def FieldSumsUptoSaid : Prop := fieldSumsUptoRow.holds Tryd.pinned (OpenSpec.upto fieldSumsSpec)

/-- 'aditlaw01.FieldTwo', WHERE WHAT IT READS IS OF BULK AT MOST 1048576: true; the input reads as it did. -/
def fieldTwoUptoRow : OpenClaim := { program := "ytgklkkjhoecdoaadoor", sum := "a5480085e12133c4afb1ddfc20af61ccef464598978165b0a19d71d320479388", func := "adit/aditlaw01.FieldTwo", spec := "fieldTwo", inPlace := ["math/bits.Add64", "math/bits.Sub64"], named := ["adit/field.prime"], apart := false, laid := [("adit/field.prime", laid_adit_field_prime)], narrowed := true }
def FieldTwoUptoSaid : Prop := fieldTwoUptoRow.holds Tryd.pinned (OpenSpec.upto fieldTwoSpec)

/-- 'aditlaw01.FieldOf', WHERE WHAT IT READS IS OF BULK AT MOST 1048576: true; the input reads as it did. -/
def fieldOfUptoRow : OpenClaim := { program := "ytgklkkjhoecdoaadoor", sum := "a5480085e12133c4afb1ddfc20af61ccef464598978165b0a19d71d320479388", func := "adit/aditlaw01.FieldOf", spec := "fieldOf", inPlace := ["math/bits.Sub64", "math/bits.Add64"], recurses := true, named := ["adit/field.prime"], apart := false, laid := [("adit/field.prime", laid_adit_field_prime)], narrowed := true }
def FieldOfUptoSaid : Prop := fieldOfUptoRow.holds Tryd.pinned (OpenSpec.upto fieldOfSpec)

/-- 'aditlaw01.FieldPowers', WHERE WHAT IT READS IS OF BULK AT MOST 1048576: true; the input reads as it did. -/
def fieldPowersUptoRow : OpenClaim := { program := "ytgklkkjhoecdoaadoor", sum := "a5480085e12133c4afb1ddfc20af61ccef464598978165b0a19d71d320479388", func := "adit/aditlaw01.FieldPowers", spec := "fieldPowers", inPlace := ["math/bits.Add64", "math/bits.Sub64"], named := ["adit/field.prime"], apart := false, laid := [("adit/field.prime", laid_adit_field_prime)], narrowed := true }
def FieldPowersUptoSaid : Prop := fieldPowersUptoRow.holds Tryd.pinned (OpenSpec.upto fieldPowersSpec)

/-- 'aditlaw01.FieldRules', WHERE WHAT IT READS IS OF BULK AT MOST 1048576: true; the input reads as it did. -/
def fieldRulesUptoRow : OpenClaim := { program := "ytgklkkjhoecdoaadoor", sum := "a5480085e12133c4afb1ddfc20af61ccef464598978165b0a19d71d320479388", func := "adit/aditlaw01.FieldRules", spec := "fieldRules", inPlace := ["math/bits.Add64", "math/bits.Sub64"], named := ["adit/field.prime"], apart := false, laid := [("adit/field.prime", laid_adit_field_prime)], narrowed := true }
def FieldRulesUptoSaid : Prop := fieldRulesUptoRow.holds Tryd.pinned (OpenSpec.upto fieldRulesSpec)

/-- 'aditlaw01.FieldInverse', WHERE WHAT IT READS IS OF BULK AT MOST 1048576: true; the input reads as it did. -/
def fieldInverseUptoRow : OpenClaim := { program := "ytgklkkjhoecdoaadoor", sum := "a5480085e12133c4afb1ddfc20af61ccef464598978165b0a19d71d320479388", func := "adit/aditlaw01.FieldInverse", spec := "fieldInverse", inPlace := ["math/bits.Sub64", "math/bits.Add64"], named := ["adit/field.prime"], apart := false, laid := [("adit/field.prime", laid_adit_field_prime)], narrowed := true }
def FieldInverseUptoSaid : Prop := fieldInverseUptoRow.holds Tryd.pinned (OpenSpec.upto fieldInverseSpec)

end Rows
end Go.Proofs.YtgklkkjhoecdoaaDoor
