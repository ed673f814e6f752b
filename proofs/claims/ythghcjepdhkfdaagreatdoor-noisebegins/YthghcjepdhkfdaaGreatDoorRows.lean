/-
  NARROWER THAN 'FOR EVERY INPUT', by the rows' own cells (each row's printed sentence says how): NoiseBegins: laid · NoiseAnswers: laid · NoiseMeets: laid · NoiseMarks: laid · NoiseStamps: laid.
  DERIVED. THE GIVEN ROWS OF THIS SEAT. 5 by the template 'for every input the law returns true; each argument reads behind the call as it read before'; 0 by the template 'total and deterministic' (their statements: YthghcjepdhkfdaaGreatDoorTotals.lean).
  GIVEN WITH THE SEED: the statements are not yours to turn. If you find one false, say at which input.
  Laid BY PROGRAM, IN A SANDBOX (cutbox-rows.mjs): the forced cells as the released guide's own fill.sh prints them over the translation d9c8cb81a110c38f… (all of the seat's roots in one cut). By AI agents, Wed Nov 11 2026. No macro, syntax, notation, axiom, sorry.
-/
import Derived.Test.YthghcjepdhkfdaaGreatDoorChecked
import GoSem.Claim
import GoSem.ClaimJoined
import GoSem.ClaimMapViews
import Derived.JoinedTies
import Derived.KernelRfl
namespace Go.Proofs.YthghcjepdhkfdaaGreatDoor
/- THE CELL 'sum', in the pinned program and in every row, IS THE sha256 OF THE DUMP (.gsa) THAT YthghcjepdhkfdaaGreatDoorProg.lean LOADS. Nothing in Lean hashes anything: it is a label: what it is worth is what the hold of that sum in a sandbox is worth. -/
noncomputable def Tryz.pinned : Pinned := { name := "ythghcjepdhkfdaagreatdoor", sum := "d9c8cb81a110c38fa8323739fb78c92a4da135f6896e31d37aa42dcf8a33cde9", checked := Tryz.checked }
namespace Rows
def none {H : Type} : Left H := { results := [], args := [] }

/- WHAT THE LISTED PACKAGE-LEVEL VARIABLES READ AS WHEN THE CALL BEGINS. Each datum BY PROGRAM (the guide's laid-datum.mjs) off the statement by which the dump's own 'gosem.cut.vars' lays the variable. In a bare row this is a premise. The card (YthghcjepdhkfdaaGreatDoorCards.lean) ties it to the program's text. -/
def laid_adit_field_prime {H : Type} : DataW H := .agg [.lit (.int .u64 18446744073709551597), .lit (.int .u64 18446744073709551615), .lit (.int .u64 18446744073709551615), .lit (.int .u64 9223372036854775807)]
def laid_adit_blake_beginnings {H : Type} : DataW H := .agg [.lit (.int .u32 1779033703), .lit (.int .u32 3144134277), .lit (.int .u32 1013904242), .lit (.int .u32 2773480762), .lit (.int .u32 1359893119), .lit (.int .u32 2600822924), .lit (.int .u32 528734635), .lit (.int .u32 1541459225)]
def laid_adit_blake_orders {H : Type} : DataW H := .agg [.agg [.lit (.int .u8 0), .lit (.int .u8 1), .lit (.int .u8 2), .lit (.int .u8 3), .lit (.int .u8 4), .lit (.int .u8 5), .lit (.int .u8 6), .lit (.int .u8 7), .lit (.int .u8 8), .lit (.int .u8 9), .lit (.int .u8 10), .lit (.int .u8 11), .lit (.int .u8 12), .lit (.int .u8 13), .lit (.int .u8 14), .lit (.int .u8 15)], .agg [.lit (.int .u8 14), .lit (.int .u8 10), .lit (.int .u8 4), .lit (.int .u8 8), .lit (.int .u8 9), .lit (.int .u8 15), .lit (.int .u8 13), .lit (.int .u8 6), .lit (.int .u8 1), .lit (.int .u8 12), .lit (.int .u8 0), .lit (.int .u8 2), .lit (.int .u8 11), .lit (.int .u8 7), .lit (.int .u8 5), .lit (.int .u8 3)], .agg [.lit (.int .u8 11), .lit (.int .u8 8), .lit (.int .u8 12), .lit (.int .u8 0), .lit (.int .u8 5), .lit (.int .u8 2), .lit (.int .u8 15), .lit (.int .u8 13), .lit (.int .u8 10), .lit (.int .u8 14), .lit (.int .u8 3), .lit (.int .u8 6), .lit (.int .u8 7), .lit (.int .u8 1), .lit (.int .u8 9), .lit (.int .u8 4)], .agg [.lit (.int .u8 7), .lit (.int .u8 9), .lit (.int .u8 3), .lit (.int .u8 1), .lit (.int .u8 13), .lit (.int .u8 12), .lit (.int .u8 11), .lit (.int .u8 14), .lit (.int .u8 2), .lit (.int .u8 6), .lit (.int .u8 5), .lit (.int .u8 10), .lit (.int .u8 4), .lit (.int .u8 0), .lit (.int .u8 15), .lit (.int .u8 8)], .agg [.lit (.int .u8 9), .lit (.int .u8 0), .lit (.int .u8 5), .lit (.int .u8 7), .lit (.int .u8 2), .lit (.int .u8 4), .lit (.int .u8 10), .lit (.int .u8 15), .lit (.int .u8 14), .lit (.int .u8 1), .lit (.int .u8 11), .lit (.int .u8 12), .lit (.int .u8 6), .lit (.int .u8 8), .lit (.int .u8 3), .lit (.int .u8 13)], .agg [.lit (.int .u8 2), .lit (.int .u8 12), .lit (.int .u8 6), .lit (.int .u8 10), .lit (.int .u8 0), .lit (.int .u8 11), .lit (.int .u8 8), .lit (.int .u8 3), .lit (.int .u8 4), .lit (.int .u8 13), .lit (.int .u8 7), .lit (.int .u8 5), .lit (.int .u8 15), .lit (.int .u8 14), .lit (.int .u8 1), .lit (.int .u8 9)], .agg [.lit (.int .u8 12), .lit (.int .u8 5), .lit (.int .u8 1), .lit (.int .u8 15), .lit (.int .u8 14), .lit (.int .u8 13), .lit (.int .u8 4), .lit (.int .u8 10), .lit (.int .u8 0), .lit (.int .u8 7), .lit (.int .u8 6), .lit (.int .u8 3), .lit (.int .u8 9), .lit (.int .u8 2), .lit (.int .u8 8), .lit (.int .u8 11)], .agg [.lit (.int .u8 13), .lit (.int .u8 11), .lit (.int .u8 7), .lit (.int .u8 14), .lit (.int .u8 12), .lit (.int .u8 1), .lit (.int .u8 3), .lit (.int .u8 9), .lit (.int .u8 5), .lit (.int .u8 0), .lit (.int .u8 15), .lit (.int .u8 4), .lit (.int .u8 8), .lit (.int .u8 6), .lit (.int .u8 2), .lit (.int .u8 10)], .agg [.lit (.int .u8 6), .lit (.int .u8 15), .lit (.int .u8 14), .lit (.int .u8 9), .lit (.int .u8 11), .lit (.int .u8 3), .lit (.int .u8 0), .lit (.int .u8 8), .lit (.int .u8 12), .lit (.int .u8 2), .lit (.int .u8 13), .lit (.int .u8 7), .lit (.int .u8 1), .lit (.int .u8 4), .lit (.int .u8 10), .lit (.int .u8 5)], .agg [.lit (.int .u8 10), .lit (.int .u8 2), .lit (.int .u8 8), .lit (.int .u8 4), .lit (.int .u8 7), .lit (.int .u8 6), .lit (.int .u8 1), .lit (.int .u8 5), .lit (.int .u8 15), .lit (.int .u8 11), .lit (.int .u8 9), .lit (.int .u8 14), .lit (.int .u8 3), .lit (.int .u8 12), .lit (.int .u8 13), .lit (.int .u8 0)]]

/-- 'aditlaw07.NoiseBegins': WHATEVER THE INPUT: true; the input reads as it did. -/
def noiseBeginsSpec : ChangeSpec := { name := "noiseBegins", fn := fun _ => fun
  | [d1, d2, d3] => { results := [.lit (.bool true)], args := [d1, d2, d3] }
  | _ => none }
def noiseBeginsRow : OpenClaim := { program := "ythghcjepdhkfdaagreatdoor", sum := "d9c8cb81a110c38fa8323739fb78c92a4da135f6896e31d37aa42dcf8a33cde9", func := "adit/aditlaw07.NoiseBegins", spec := "noiseBegins", inPlace := ["math/bits.Sub64", "math/bits.Add64", "internal/abi.NoEscape", "internal/bytealg.MakeNoZero"], unfollowed := true, recurses := true, named := ["adit/field.prime", "adit/blake.beginnings", "adit/blake.orders"], apart := false, laid := [("adit/field.prime", laid_adit_field_prime), ("adit/blake.beginnings", laid_adit_blake_beginnings), ("adit/blake.orders", laid_adit_blake_orders)] }
def NoiseBeginsSaid : Prop := noiseBeginsRow.holds Tryz.pinned (OpenSpec.ofChange noiseBeginsSpec)

/-- ITS FALSE NEIGHBOUR: 'it returns false'. Refute it at one input. -/
def noiseBeginsWrong : ChangeSpec := { name := "noiseBegins", fn := fun _ => fun
  | [d1, d2, d3] => { results := [.lit (.bool false)], args := [d1, d2, d3] }
  | _ => none }
def NoiseBeginsWrongFalsely : Prop := noiseBeginsRow.holds Tryz.pinned (OpenSpec.ofChange noiseBeginsWrong)

/-- 'aditlaw07.NoiseAnswers': WHATEVER THE INPUT: true; the input reads as it did. -/
def noiseAnswersSpec : ChangeSpec := { name := "noiseAnswers", fn := fun _ => fun
  | [d1, d2, d3] => { results := [.lit (.bool true)], args := [d1, d2, d3] }
  | _ => none }
def noiseAnswersRow : OpenClaim := { program := "ythghcjepdhkfdaagreatdoor", sum := "d9c8cb81a110c38fa8323739fb78c92a4da135f6896e31d37aa42dcf8a33cde9", func := "adit/aditlaw07.NoiseAnswers", spec := "noiseAnswers", inPlace := ["math/bits.Sub64", "math/bits.Add64", "internal/abi.NoEscape", "internal/bytealg.MakeNoZero"], unfollowed := true, recurses := true, named := ["adit/field.prime", "adit/blake.beginnings", "adit/blake.orders"], apart := false, laid := [("adit/field.prime", laid_adit_field_prime), ("adit/blake.beginnings", laid_adit_blake_beginnings), ("adit/blake.orders", laid_adit_blake_orders)] }
def NoiseAnswersSaid : Prop := noiseAnswersRow.holds Tryz.pinned (OpenSpec.ofChange noiseAnswersSpec)

/-- ITS FALSE NEIGHBOUR: 'it returns false'. Refute it at one input. -/
def noiseAnswersWrong : ChangeSpec := { name := "noiseAnswers", fn := fun _ => fun
  | [d1, d2, d3] => { results := [.lit (.bool false)], args := [d1, d2, d3] }
  | _ => none }
def NoiseAnswersWrongFalsely : Prop := noiseAnswersRow.holds Tryz.pinned (OpenSpec.ofChange noiseAnswersWrong)

/-- 'aditlaw07.NoiseMeets': WHATEVER THE INPUT: true; the input reads as it did. -/
def noiseMeetsSpec : ChangeSpec := { name := "noiseMeets", fn := fun _ => fun
  | [d1, d2, d3] => { results := [.lit (.bool true)], args := [d1, d2, d3] }
  | _ => none }
def noiseMeetsRow : OpenClaim := { program := "ythghcjepdhkfdaagreatdoor", sum := "d9c8cb81a110c38fa8323739fb78c92a4da135f6896e31d37aa42dcf8a33cde9", func := "adit/aditlaw07.NoiseMeets", spec := "noiseMeets", inPlace := ["math/bits.Sub64", "math/bits.Add64", "internal/abi.NoEscape", "internal/bytealg.MakeNoZero"], unfollowed := true, recurses := true, named := ["adit/field.prime", "adit/blake.beginnings", "adit/blake.orders"], apart := false, laid := [("adit/field.prime", laid_adit_field_prime), ("adit/blake.beginnings", laid_adit_blake_beginnings), ("adit/blake.orders", laid_adit_blake_orders)] }
def NoiseMeetsSaid : Prop := noiseMeetsRow.holds Tryz.pinned (OpenSpec.ofChange noiseMeetsSpec)

/-- ITS FALSE NEIGHBOUR: 'it returns false'. Refute it at one input. -/
def noiseMeetsWrong : ChangeSpec := { name := "noiseMeets", fn := fun _ => fun
  | [d1, d2, d3] => { results := [.lit (.bool false)], args := [d1, d2, d3] }
  | _ => none }
def NoiseMeetsWrongFalsely : Prop := noiseMeetsRow.holds Tryz.pinned (OpenSpec.ofChange noiseMeetsWrong)

/-- 'aditlaw07.NoiseMarks': WHATEVER THE INPUT: true; the input reads as it did. -/
def noiseMarksSpec : ChangeSpec := { name := "noiseMarks", fn := fun _ => fun
  | [d1, d2] => { results := [.lit (.bool true)], args := [d1, d2] }
  | _ => none }
def noiseMarksRow : OpenClaim := { program := "ythghcjepdhkfdaagreatdoor", sum := "d9c8cb81a110c38fa8323739fb78c92a4da135f6896e31d37aa42dcf8a33cde9", func := "adit/aditlaw07.NoiseMarks", spec := "noiseMarks", inPlace := ["math/bits.Sub64", "math/bits.Add64", "internal/abi.NoEscape", "internal/bytealg.MakeNoZero"], unfollowed := true, recurses := true, named := ["adit/field.prime", "adit/blake.beginnings", "adit/blake.orders"], apart := false, laid := [("adit/field.prime", laid_adit_field_prime), ("adit/blake.beginnings", laid_adit_blake_beginnings), ("adit/blake.orders", laid_adit_blake_orders)] }
def NoiseMarksSaid : Prop := noiseMarksRow.holds Tryz.pinned (OpenSpec.ofChange noiseMarksSpec)

/-- ITS FALSE NEIGHBOUR: 'it returns false'. Refute it at one input. -/
def noiseMarksWrong : ChangeSpec := { name := "noiseMarks", fn := fun _ => fun
  | [d1, d2] => { results := [.lit (.bool false)], args := [d1, d2] }
  | _ => none }
def NoiseMarksWrongFalsely : Prop := noiseMarksRow.holds Tryz.pinned (OpenSpec.ofChange noiseMarksWrong)

/-- 'aditlaw07.NoiseStamps': WHATEVER THE INPUT: true; the input reads as it did. -/
def noiseStampsSpec : ChangeSpec := { name := "noiseStamps", fn := fun _ => fun
  | [d1, d2, d3] => { results := [.lit (.bool true)], args := [d1, d2, d3] }
  | _ => none }
def noiseStampsRow : OpenClaim := { program := "ythghcjepdhkfdaagreatdoor", sum := "d9c8cb81a110c38fa8323739fb78c92a4da135f6896e31d37aa42dcf8a33cde9", func := "adit/aditlaw07.NoiseStamps", spec := "noiseStamps", inPlace := ["math/bits.Sub64", "math/bits.Add64", "internal/abi.NoEscape", "internal/bytealg.MakeNoZero"], unfollowed := true, recurses := true, named := ["adit/field.prime", "adit/blake.beginnings", "adit/blake.orders"], apart := false, laid := [("adit/field.prime", laid_adit_field_prime), ("adit/blake.beginnings", laid_adit_blake_beginnings), ("adit/blake.orders", laid_adit_blake_orders)] }
def NoiseStampsSaid : Prop := noiseStampsRow.holds Tryz.pinned (OpenSpec.ofChange noiseStampsSpec)

/-- ITS FALSE NEIGHBOUR: 'it returns false'. Refute it at one input. -/
def noiseStampsWrong : ChangeSpec := { name := "noiseStamps", fn := fun _ => fun
  | [d1, d2, d3] => { results := [.lit (.bool false)], args := [d1, d2, d3] }
  | _ => none }
def NoiseStampsWrongFalsely : Prop := noiseStampsRow.holds Tryz.pinned (OpenSpec.ofChange noiseStampsWrong)

/- THE SECOND FORM. 'bulk': how many values and letters a reading holds, each counted each time it is reached (what is shared counts as often as it is met; a slice's spare places count too). A statement '..UptoSaid' is the law's where the arguments, and the package variables that the reading takes, are together of bulk at most 1048576: NARROWER than '..Said'. Prove '..Said' where nothing that the law and all that it calls make is longer than what came in: it says more and counts as full. Else prove '..UptoSaid'. A law counts once. -/
mutual
def uptoBulk {H : Type} : DataW H → Nat
  | .lit (.string bytes) => bytes.length + 1
  | .lit _ => 1
  | .nil => 1
  | .ptr d => uptoBulk d + 1
  | .slice elems spare => uptoBulkAll elems + uptoBulkAll spare + 1
  | .agg parts => uptoBulkAll parts + 1
  | .iface _ d => uptoBulk d + 1
  | .map entries => uptoBulkEntries entries + 1
  | .held _ => 1
def uptoBulkAll {H : Type} : List (DataW H) → Nat
  | [] => 0
  | d :: r => uptoBulk d + uptoBulkAll r
def uptoBulkEntries {H : Type} : List (Lit × DataW H) → Nat
  | [] => 0
  | x :: r => uptoBulkEntry x + uptoBulkEntries r
def uptoBulkEntry {H : Type} : Lit × DataW H → Nat
  | (.string bytes, d) => bytes.length + uptoBulk d + 1
  | (_, d) => uptoBulk d + 1
 end
def uptoSmall : (H : Type) → List (DataW H) → Bool := fun _ ds => decide (uptoBulkAll ds ≤ 1048576)
def OpenSpec.upto (s : _root_.Go.ChangeSpec) : _root_.Go.OpenSpec := { _root_.Go.OpenSpec.ofChange s with cond := some uptoSmall }

/-- 'aditlaw07.NoiseBegins', WHERE WHAT IT READS IS OF BULK AT MOST 1048576: true; the input reads as it did. -/
def noiseBeginsUptoRow : OpenClaim := { program := "ythghcjepdhkfdaagreatdoor", sum := "d9c8cb81a110c38fa8323739fb78c92a4da135f6896e31d37aa42dcf8a33cde9", func := "adit/aditlaw07.NoiseBegins", spec := "noiseBegins", inPlace := ["math/bits.Sub64", "math/bits.Add64", "internal/abi.NoEscape", "internal/bytealg.MakeNoZero"], unfollowed := true, recurses := true, named := ["adit/field.prime", "adit/blake.beginnings", "adit/blake.orders"], apart := false, laid := [("adit/field.prime", laid_adit_field_prime), ("adit/blake.beginnings", laid_adit_blake_beginnings), ("adit/blake.orders", laid_adit_blake_orders)], narrowed := true }
def NoiseBeginsUptoSaid : Prop := noiseBeginsUptoRow.holds Tryz.pinned (OpenSpec.upto noiseBeginsSpec)

/-- 'aditlaw07.NoiseAnswers', WHERE WHAT IT READS IS OF BULK AT MOST 1048576: true; the input reads as it did. -/
def noiseAnswersUptoRow : OpenClaim := { program := "ythghcjepdhkfdaagreatdoor", sum := "d9c8cb81a110c38fa8323739fb78c92a4da135f6896e31d37aa42dcf8a33cde9", func := "adit/aditlaw07.NoiseAnswers", spec := "noiseAnswers", inPlace := ["math/bits.Sub64", "math/bits.Add64", "internal/abi.NoEscape", "internal/bytealg.MakeNoZero"], unfollowed := true, recurses := true, named := ["adit/field.prime", "adit/blake.beginnings", "adit/blake.orders"], apart := false, laid := [("adit/field.prime", laid_adit_field_prime), ("adit/blake.beginnings", laid_adit_blake_beginnings), ("adit/blake.orders", laid_adit_blake_orders)], narrowed := true }
def NoiseAnswersUptoSaid : Prop := noiseAnswersUptoRow.holds Tryz.pinned (OpenSpec.upto noiseAnswersSpec)

/-- 'aditlaw07.NoiseMeets', WHERE WHAT IT READS IS OF BULK AT MOST 1048576: true; the input reads as it did. -/
def noiseMeetsUptoRow : OpenClaim := { program := "ythghcjepdhkfdaagreatdoor", sum := "d9c8cb81a110c38fa8323739fb78c92a4da135f6896e31d37aa42dcf8a33cde9", func := "adit/aditlaw07.NoiseMeets", spec := "noiseMeets", inPlace := ["math/bits.Sub64", "math/bits.Add64", "internal/abi.NoEscape", "internal/bytealg.MakeNoZero"], unfollowed := true, recurses := true, named := ["adit/field.prime", "adit/blake.beginnings", "adit/blake.orders"], apart := false, laid := [("adit/field.prime", laid_adit_field_prime), ("adit/blake.beginnings", laid_adit_blake_beginnings), ("adit/blake.orders", laid_adit_blake_orders)], narrowed := true }
def NoiseMeetsUptoSaid : Prop := noiseMeetsUptoRow.holds Tryz.pinned (OpenSpec.upto noiseMeetsSpec)

/-- 'aditlaw07.NoiseMarks', WHERE WHAT IT READS IS OF BULK AT MOST 1048576: true; the input reads as it did. -/
def noiseMarksUptoRow : OpenClaim := { program := "ythghcjepdhkfdaagreatdoor", sum := "d9c8cb81a110c38fa8323739fb78c92a4da135f6896e31d37aa42dcf8a33cde9", func := "adit/aditlaw07.NoiseMarks", spec := "noiseMarks", inPlace := ["math/bits.Sub64", "math/bits.Add64", "internal/abi.NoEscape", "internal/bytealg.MakeNoZero"], unfollowed := true, recurses := true, named := ["adit/field.prime", "adit/blake.beginnings", "adit/blake.orders"], apart := false, laid := [("adit/field.prime", laid_adit_field_prime), ("adit/blake.beginnings", laid_adit_blake_beginnings), ("adit/blake.orders", laid_adit_blake_orders)], narrowed := true }
def NoiseMarksUptoSaid : Prop := noiseMarksUptoRow.holds Tryz.pinned (OpenSpec.upto noiseMarksSpec)

/-- 'aditlaw07.NoiseStamps', WHERE WHAT IT READS IS OF BULK AT MOST 1048576: true; the input reads as it did. -/
def noiseStampsUptoRow : OpenClaim := { program := "ythghcjepdhkfdaagreatdoor", sum := "d9c8cb81a110c38fa8323739fb78c92a4da135f6896e31d37aa42dcf8a33cde9", func := "adit/aditlaw07.NoiseStamps", spec := "noiseStamps", inPlace := ["math/bits.Sub64", "math/bits.Add64", "internal/abi.NoEscape", "internal/bytealg.MakeNoZero"], unfollowed := true, recurses := true, named := ["adit/field.prime", "adit/blake.beginnings", "adit/blake.orders"], apart := false, laid := [("adit/field.prime", laid_adit_field_prime), ("adit/blake.beginnings", laid_adit_blake_beginnings), ("adit/blake.orders", laid_adit_blake_orders)], narrowed := true }
def NoiseStampsUptoSaid : Prop := noiseStampsUptoRow.holds Tryz.pinned (OpenSpec.upto noiseStampsSpec)

end Rows
end Go.Proofs.YthghcjepdhkfdaaGreatDoor
