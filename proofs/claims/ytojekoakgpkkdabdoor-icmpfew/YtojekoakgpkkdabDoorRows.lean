/-
  NARROWER THAN 'FOR EVERY INPUT', by the rows' own cells (each row's printed sentence says how): IcmpFew: laid · IcmpPaths: laid.
  DERIVED. THE GIVEN ROWS OF THIS SEAT. 2 by the template 'for every input the law returns true; each argument reads behind the call as it read before'; 0 by the template 'total and deterministic' (their statements: YtojekoakgpkkdabDoorTotals.lean).
  GIVEN WITH THE SEED: the statements are not yours to turn. If you find one false, say at which input.
  Laid BY PROGRAM, IN A SANDBOX (cutbox-rows.mjs): the forced cells as the released guide's own fill.sh prints them over the translation eabe2bea64777966… (all of the seat's roots in one cut). By AI agents, Wed Nov 11 2026. No macro, syntax, notation, axiom, sorry.
-/
import Derived.Test.YtojekoakgpkkdabDoorChecked
import GoSem.Claim
import GoSem.ClaimJoined
import GoSem.ClaimMapViews
import Derived.JoinedTies
import Derived.KernelRfl
namespace Go.Proofs.YtojekoakgpkkdabDoor
/- THE CELL 'sum', in the pinned program and in every row, IS THE sha256 OF THE DUMP (.gsa) THAT YtojekoakgpkkdabDoorProg.lean LOADS. Nothing in Lean hashes anything: it is a label: what it is worth is what the hold of that sum in a sandbox is worth. -/
noncomputable def Tryd.pinned : Pinned := { name := "ytojekoakgpkkdabdoor", sum := "eabe2bea6477796609260a67eb02622773dd8251b58b09eec4228a8d2e6fd45a", checked := Tryd.checked }
namespace Rows
def none {H : Type} : Left H := { results := [], args := [] }

/- WHAT THE LISTED PACKAGE-LEVEL VARIABLES READ AS WHEN THE CALL BEGINS. Each datum BY PROGRAM (the guide's laid-datum.mjs) off the statement by which the dump's own 'gosem.cut.vars' lays the variable. In a bare row this is a premise. The card (YtojekoakgpkkdabDoorCards.lean) ties it to the program's text. -/
def laid_adit_icmp_version4 {H : Type} : DataW H := .agg [.lit (.int .i64 1), .lit (.int .u8 4), .lit (.int .i64 20), .lit (.int .i64 4), .lit (.int .i64 576), .lit (.int .i64 8), .lit (.int .i64 0), .agg [.agg [.lit (.int .i64 0), .lit (.int .i64 0), .lit (.int .u32 0)], .agg [.lit (.int .i64 3), .lit (.int .i64 3), .lit (.int .u32 0)], .agg [.lit (.int .i64 3), .lit (.int .i64 1), .lit (.int .u32 0)], .agg [.lit (.int .i64 11), .lit (.int .i64 0), .lit (.int .u32 0)], .agg [.lit (.int .i64 3), .lit (.int .i64 4), .lit (.int .u32 0)], .agg [.lit (.int .i64 11), .lit (.int .i64 1), .lit (.int .u32 0)], .agg [.lit (.int .i64 3), .lit (.int .i64 2), .lit (.int .u32 0)]]]
def laid_adit_icmp_version6 {H : Type} : DataW H := .agg [.lit (.int .i64 58), .lit (.int .u8 6), .lit (.int .i64 40), .lit (.int .i64 16), .lit (.int .i64 1280), .lit (.int .i64 128), .lit (.int .i64 129), .agg [.agg [.lit (.int .i64 0), .lit (.int .i64 0), .lit (.int .u32 0)], .agg [.lit (.int .i64 1), .lit (.int .i64 4), .lit (.int .u32 0)], .agg [.lit (.int .i64 1), .lit (.int .i64 0), .lit (.int .u32 0)], .agg [.lit (.int .i64 3), .lit (.int .i64 0), .lit (.int .u32 0)], .agg [.lit (.int .i64 2), .lit (.int .i64 0), .lit (.int .u32 0)], .agg [.lit (.int .i64 3), .lit (.int .i64 1), .lit (.int .u32 0)], .agg [.lit (.int .i64 4), .lit (.int .i64 1), .lit (.int .u32 6)]]]
def laid_adit_icmp_errors4 {H : Type} : DataW H := .agg [.lit (.int .u8 3), .lit (.int .u8 4), .lit (.int .u8 5), .lit (.int .u8 11), .lit (.int .u8 12)]

/-- 'aditlaw15.IcmpFew': WHATEVER THE INPUT: true; the input reads as it did. -/
def icmpFewSpec : ChangeSpec := { name := "icmpFew", fn := fun _ => fun
  | [d] => { results := [.lit (.bool true)], args := [d] }
  | _ => none }
def icmpFewRow : OpenClaim := { program := "ytojekoakgpkkdabdoor", sum := "eabe2bea6477796609260a67eb02622773dd8251b58b09eec4228a8d2e6fd45a", func := "adit/aditlaw15.IcmpFew", spec := "icmpFew", inPlace := ["internal/abi.NoEscape", "internal/bytealg.MakeNoZero"], unfollowed := true, recurses := true, named := ["adit/icmp.version6", "adit/icmp.version4", "adit/icmp.errors4"], plainKeys := false, apart := false, laid := [("adit/icmp.version4", laid_adit_icmp_version4), ("adit/icmp.version6", laid_adit_icmp_version6), ("adit/icmp.errors4", laid_adit_icmp_errors4)] }
def IcmpFewSaid : Prop := icmpFewRow.holds Tryd.pinned (OpenSpec.ofChange icmpFewSpec)

/-- ITS FALSE NEIGHBOUR: 'it returns false'. Refute it at one input. -/
def icmpFewWrong : ChangeSpec := { name := "icmpFew", fn := fun _ => fun
  | [d] => { results := [.lit (.bool false)], args := [d] }
  | _ => none }
def IcmpFewWrongFalsely : Prop := icmpFewRow.holds Tryd.pinned (OpenSpec.ofChange icmpFewWrong)

/-- 'aditlaw15.IcmpPaths': WHATEVER THE INPUT: true; the input reads as it did. -/
def icmpPathsSpec : ChangeSpec := { name := "icmpPaths", fn := fun _ => fun
  | [d1, d2, d3] => { results := [.lit (.bool true)], args := [d1, d2, d3] }
  | _ => none }
def icmpPathsRow : OpenClaim := { program := "ytojekoakgpkkdabdoor", sum := "eabe2bea6477796609260a67eb02622773dd8251b58b09eec4228a8d2e6fd45a", func := "adit/aditlaw15.IcmpPaths", spec := "icmpPaths", inPlace := ["internal/abi.NoEscape", "internal/bytealg.MakeNoZero"], unfollowed := true, recurses := true, named := ["adit/icmp.version6", "adit/icmp.version4", "adit/icmp.errors4"], plainKeys := false, apart := false, laid := [("adit/icmp.version4", laid_adit_icmp_version4), ("adit/icmp.version6", laid_adit_icmp_version6), ("adit/icmp.errors4", laid_adit_icmp_errors4)] }
def IcmpPathsSaid : Prop := icmpPathsRow.holds Tryd.pinned (OpenSpec.ofChange icmpPathsSpec)

/-- ITS FALSE NEIGHBOUR: 'it returns false'. Refute it at one input. -/
def icmpPathsWrong : ChangeSpec := { name := "icmpPaths", fn := fun _ => fun
  | [d1, d2, d3] => { results := [.lit (.bool false)], args := [d1, d2, d3] }
  | _ => none }
def IcmpPathsWrongFalsely : Prop := icmpPathsRow.holds Tryd.pinned (OpenSpec.ofChange icmpPathsWrong)

/- THE SECOND FORM. 'bulk': how many values and letters a reading holds, each counted each time it is reached (what is shared counts as often as it is met; a slice's spare places count too). A statement '..UptoSaid' is the law's where the arguments, and the package variables that the reading takes, are together of bulk at most 1048576: NARROWER than '..Said'. Prove '..Said' where nothing that the law and all that it calls make is longer than what came in: it says more and counts as full. Else prove '..UptoSaid'. A law counts once. -/
mutual
def uptoBulk {H : Type} : DataW H → Nat
  | .lit (.string bytes) => bytes.length + 1
  | .lit _ => 1
  | .nil => 1
  | .ptr d => uptoBulk d + 1
  | .slice elems spare => uptoBulkAll elems + uptoBulkAll spare + 1
  | .agg parts => uptoBulkAll parts + 1
  | .iface _ d => uptoBulk d + 1
  | .map entries => uptoBulkEntries entries + 1
  | .held _ => 1
def uptoBulkAll {H : Type} : List (DataW H) → Nat
  | [] => 0
  | d :: r => uptoBulk d + uptoBulkAll r
def uptoBulkEntries {H : Type} : List (Lit × DataW H) → Nat
  | [] => 0
  | x :: r => uptoBulkEntry x + uptoBulkEntries r
def uptoBulkEntry {H : Type} : Lit × DataW H → Nat
  | (.string bytes, d) => bytes.length + uptoBulk d + 1
  | (_, d) => uptoBulk d + 1
 end
def uptoSmall : (H : Type) → List (DataW H) → Bool := fun _ ds => decide (uptoBulkAll ds ≤ 1048576)
def OpenSpec.upto (s : _root_.Go.ChangeSpec) : _root_.Go.OpenSpec := { _root_.Go.OpenSpec.ofChange s with cond := some uptoSmall }

/-- 'aditlaw15.IcmpFew', WHERE WHAT IT READS IS OF BULK AT MOST 1048576: true; the input reads as it did. -/
def icmpFewUptoRow : OpenClaim := { program := "ytojekoakgpkkdabdoor", sum := "eabe2bea6477796609260a67eb02622773dd8251b58b09eec4228a8d2e6fd45a", func := "adit/aditlaw15.IcmpFew", spec := "icmpFew", inPlace := ["internal/abi.NoEscape", "internal/bytealg.MakeNoZero"], unfollowed := true, recurses := true, named := ["adit/icmp.version6", "adit/icmp.version4", "adit/icmp.errors4"], plainKeys := false, apart := false, laid := [("adit/icmp.version4", laid_adit_icmp_version4), ("adit/icmp.version6", laid_adit_icmp_version6), ("adit/icmp.errors4", laid_adit_icmp_errors4)], narrowed := true }
def IcmpFewUptoSaid : Prop := icmpFewUptoRow.holds Tryd.pinned (OpenSpec.upto icmpFewSpec)

/-- 'aditlaw15.IcmpPaths', WHERE WHAT IT READS IS OF BULK AT MOST 1048576: true; the input reads as it did. -/
def icmpPathsUptoRow : OpenClaim := { program := "ytojekoakgpkkdabdoor", sum := "eabe2bea6477796609260a67eb02622773dd8251b58b09eec4228a8d2e6fd45a", func := "adit/aditlaw15.IcmpPaths", spec := "icmpPaths", inPlace := ["internal/abi.NoEscape", "internal/bytealg.MakeNoZero"], unfollowed := true, recurses := true, named := ["adit/icmp.version6", "adit/icmp.version4", "adit/icmp.errors4"], plainKeys := false, apart := false, laid := [("adit/icmp.version4", laid_adit_icmp_version4), ("adit/icmp.version6", laid_adit_icmp_version6), ("adit/icmp.errors4", laid_adit_icmp_errors4)], narrowed := true }
def IcmpPathsUptoSaid : Prop := icmpPathsUptoRow.holds Tryd.pinned (OpenSpec.upto icmpPathsSpec)

end Rows
end Go.Proofs.YtojekoakgpkkdabDoor
