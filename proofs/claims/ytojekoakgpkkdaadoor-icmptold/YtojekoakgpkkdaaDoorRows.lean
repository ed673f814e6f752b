/-
  NARROWER THAN 'FOR EVERY INPUT', by the rows' own cells (each row's printed sentence says how): IcmpBytes: laid · IcmpEchoes: laid · IcmpQuiet: laid · IcmpTold: laid · IcmpTables: laid.
  DERIVED. THE GIVEN ROWS OF THIS SEAT. 5 by the template 'for every input the law returns true; each argument reads behind the call as it read before'; 0 by the template 'total and deterministic' (their statements: YtojekoakgpkkdaaDoorTotals.lean).
  GIVEN WITH THE SEED: the statements are not yours to turn. If you find one false, say at which input.
  Laid BY PROGRAM, IN A SANDBOX (cutbox-rows.mjs): the forced cells as the released guide's own fill.sh prints them over the translation 1c6ee23d653067ed… (all of the seat's roots in one cut). By AI agents, Wed Nov 11 2026. No macro, syntax, notation, axiom, sorry.
-/
import Derived.Test.YtojekoakgpkkdaaDoorChecked
import GoSem.Claim
import GoSem.ClaimJoined
import GoSem.ClaimMapViews
import Derived.JoinedTies
import Derived.KernelRfl
namespace Go.Proofs.YtojekoakgpkkdaaDoor
/- THE CELL 'sum', in the pinned program and in every row, IS THE sha256 OF THE DUMP (.gsa) THAT YtojekoakgpkkdaaDoorProg.lean LOADS. Nothing in Lean hashes anything: it is a label: what it is worth is what the hold of that sum in a sandbox is worth. -/
noncomputable def Tryd.pinned : Pinned := { name := "ytojekoakgpkkdaadoor", sum := "1c6ee23d653067edb4f40e7f8a616b1dc251845bd72da326604ae2101cac7a99", checked := Tryd.checked }
namespace Rows
def none {H : Type} : Left H := { results := [], args := [] }

/- WHAT THE LISTED PACKAGE-LEVEL VARIABLES READ AS WHEN THE CALL BEGINS. Each datum BY PROGRAM (the guide's laid-datum.mjs) off the statement by which the dump's own 'gosem.cut.vars' lays the variable. In a bare row this is a premise. The card (YtojekoakgpkkdaaDoorCards.lean) ties it to the program's text. -/
def laid_adit_icmp_version4 {H : Type} : DataW H := .agg [.lit (.int .i64 1), .lit (.int .u8 4), .lit (.int .i64 20), .lit (.int .i64 4), .lit (.int .i64 576), .lit (.int .i64 8), .lit (.int .i64 0), .agg [.agg [.lit (.int .i64 0), .lit (.int .i64 0), .lit (.int .u32 0)], .agg [.lit (.int .i64 3), .lit (.int .i64 3), .lit (.int .u32 0)], .agg [.lit (.int .i64 3), .lit (.int .i64 1), .lit (.int .u32 0)], .agg [.lit (.int .i64 11), .lit (.int .i64 0), .lit (.int .u32 0)], .agg [.lit (.int .i64 3), .lit (.int .i64 4), .lit (.int .u32 0)], .agg [.lit (.int .i64 11), .lit (.int .i64 1), .lit (.int .u32 0)], .agg [.lit (.int .i64 3), .lit (.int .i64 2), .lit (.int .u32 0)]]]
def laid_adit_icmp_version6 {H : Type} : DataW H := .agg [.lit (.int .i64 58), .lit (.int .u8 6), .lit (.int .i64 40), .lit (.int .i64 16), .lit (.int .i64 1280), .lit (.int .i64 128), .lit (.int .i64 129), .agg [.agg [.lit (.int .i64 0), .lit (.int .i64 0), .lit (.int .u32 0)], .agg [.lit (.int .i64 1), .lit (.int .i64 4), .lit (.int .u32 0)], .agg [.lit (.int .i64 1), .lit (.int .i64 0), .lit (.int .u32 0)], .agg [.lit (.int .i64 3), .lit (.int .i64 0), .lit (.int .u32 0)], .agg [.lit (.int .i64 2), .lit (.int .i64 0), .lit (.int .u32 0)], .agg [.lit (.int .i64 3), .lit (.int .i64 1), .lit (.int .u32 0)], .agg [.lit (.int .i64 4), .lit (.int .i64 1), .lit (.int .u32 6)]]]
def laid_adit_icmp_errors4 {H : Type} : DataW H := .agg [.lit (.int .u8 3), .lit (.int .u8 4), .lit (.int .u8 5), .lit (.int .u8 11), .lit (.int .u8 12)]

/-- 'aditlaw15.IcmpBytes': WHATEVER THE INPUT: true; the input reads as it did. -/
def icmpBytesSpec : ChangeSpec := { name := "icmpBytes", fn := fun _ => fun
  | [d1, d2, d3] => { results := [.lit (.bool true)], args := [d1, d2, d3] }
  | _ => none }
def icmpBytesRow : OpenClaim := { program := "ytojekoakgpkkdaadoor", sum := "1c6ee23d653067edb4f40e7f8a616b1dc251845bd72da326604ae2101cac7a99", func := "adit/aditlaw15.IcmpBytes", spec := "icmpBytes", inPlace := ["internal/abi.NoEscape", "internal/bytealg.MakeNoZero"], unfollowed := true, recurses := true, named := ["adit/icmp.version6", "adit/icmp.version4", "adit/icmp.errors4"], plainKeys := false, apart := false, laid := [("adit/icmp.version4", laid_adit_icmp_version4), ("adit/icmp.version6", laid_adit_icmp_version6), ("adit/icmp.errors4", laid_adit_icmp_errors4)] }
def IcmpBytesSaid : Prop := icmpBytesRow.holds Tryd.pinned (OpenSpec.ofChange icmpBytesSpec)

/-- ITS FALSE NEIGHBOUR: 'it returns false'. Refute it at one input. -/
def icmpBytesWrong : ChangeSpec := { name := "icmpBytes", fn := fun _ => fun
  | [d1, d2, d3] => { results := [.lit (.bool false)], args := [d1, d2, d3] }
  | _ => none }
def IcmpBytesWrongFalsely : Prop := icmpBytesRow.holds Tryd.pinned (OpenSpec.ofChange icmpBytesWrong)

/-- 'aditlaw15.IcmpEchoes': WHATEVER THE INPUT: true; the input reads as it did. -/
def icmpEchoesSpec : ChangeSpec := { name := "icmpEchoes", fn := fun _ => fun
  | [d] => { results := [.lit (.bool true)], args := [d] }
  | _ => none }
def icmpEchoesRow : OpenClaim := { program := "ytojekoakgpkkdaadoor", sum := "1c6ee23d653067edb4f40e7f8a616b1dc251845bd72da326604ae2101cac7a99", func := "adit/aditlaw15.IcmpEchoes", spec := "icmpEchoes", inPlace := ["internal/abi.NoEscape", "internal/bytealg.MakeNoZero"], unfollowed := true, recurses := true, named := ["adit/icmp.version6", "adit/icmp.version4", "adit/icmp.errors4"], plainKeys := false, apart := false, laid := [("adit/icmp.version4", laid_adit_icmp_version4), ("adit/icmp.version6", laid_adit_icmp_version6), ("adit/icmp.errors4", laid_adit_icmp_errors4)] }
def IcmpEchoesSaid : Prop := icmpEchoesRow.holds Tryd.pinned (OpenSpec.ofChange icmpEchoesSpec)

/-- ITS FALSE NEIGHBOUR: 'it returns false'. Refute it at one input. -/
def icmpEchoesWrong : ChangeSpec := { name := "icmpEchoes", fn := fun _ => fun
  | [d] => { results := [.lit (.bool false)], args := [d] }
  | _ => none }
def IcmpEchoesWrongFalsely : Prop := icmpEchoesRow.holds Tryd.pinned (OpenSpec.ofChange icmpEchoesWrong)

/-- 'aditlaw15.IcmpQuiet': WHATEVER THE INPUT: true; the input reads as it did. -/
def icmpQuietSpec : ChangeSpec := { name := "icmpQuiet", fn := fun _ => fun
  | [d1, d2, d3] => { results := [.lit (.bool true)], args := [d1, d2, d3] }
  | _ => none }
def icmpQuietRow : OpenClaim := { program := "ytojekoakgpkkdaadoor", sum := "1c6ee23d653067edb4f40e7f8a616b1dc251845bd72da326604ae2101cac7a99", func := "adit/aditlaw15.IcmpQuiet", spec := "icmpQuiet", inPlace := ["internal/abi.NoEscape", "internal/bytealg.MakeNoZero"], unfollowed := true, recurses := true, named := ["adit/icmp.version6", "adit/icmp.version4", "adit/icmp.errors4"], plainKeys := false, apart := false, laid := [("adit/icmp.version4", laid_adit_icmp_version4), ("adit/icmp.version6", laid_adit_icmp_version6), ("adit/icmp.errors4", laid_adit_icmp_errors4)] }
def IcmpQuietSaid : Prop := icmpQuietRow.holds Tryd.pinned (OpenSpec.ofChange icmpQuietSpec)

/-- ITS FALSE NEIGHBOUR: 'it returns false'. Refute it at one input. -/
def icmpQuietWrong : ChangeSpec := { name := "icmpQuiet", fn := fun _ => fun
  | [d1, d2, d3] => { results := [.lit (.bool false)], args := [d1, d2, d3] }
  | _ => none }
def IcmpQuietWrongFalsely : Prop := icmpQuietRow.holds Tryd.pinned (OpenSpec.ofChange icmpQuietWrong)

/-- 'aditlaw15.IcmpTold': WHATEVER THE INPUT: true; the input reads as it did. -/
def icmpToldSpec : ChangeSpec := { name := "icmpTold", fn := fun _ => fun
  | [d] => { results := [.lit (.bool true)], args := [d] }
  | _ => none }
def icmpToldRow : OpenClaim := { program := "ytojekoakgpkkdaadoor", sum := "1c6ee23d653067edb4f40e7f8a616b1dc251845bd72da326604ae2101cac7a99", func := "adit/aditlaw15.IcmpTold", spec := "icmpTold", inPlace := ["internal/abi.NoEscape", "internal/bytealg.MakeNoZero"], unfollowed := true, recurses := true, named := ["adit/icmp.version6", "adit/icmp.version4", "adit/icmp.errors4"], plainKeys := false, apart := false, laid := [("adit/icmp.version4", laid_adit_icmp_version4), ("adit/icmp.version6", laid_adit_icmp_version6), ("adit/icmp.errors4", laid_adit_icmp_errors4)] }
def IcmpToldSaid : Prop := icmpToldRow.holds Tryd.pinned (OpenSpec.ofChange icmpToldSpec)

/-- ITS FALSE NEIGHBOUR: 'it returns false'. Refute it at one input. -/
def icmpToldWrong : ChangeSpec := { name := "icmpTold", fn := fun _ => fun
  | [d] => { results := [.lit (.bool false)], args := [d] }
  | _ => none }
def IcmpToldWrongFalsely : Prop := icmpToldRow.holds Tryd.pinned (OpenSpec.ofChange icmpToldWrong)

/-- 'aditlaw15.IcmpTables': WHATEVER THE INPUT: true; the input reads as it did. -/
def icmpTablesSpec : ChangeSpec := { name := "icmpTables", fn := fun _ => fun
  | [d] => { results := [.lit (.bool true)], args := [d] }
  | _ => none }
def icmpTablesRow : OpenClaim := { program := "ytojekoakgpkkdaadoor", sum := "1c6ee23d653067edb4f40e7f8a616b1dc251845bd72da326604ae2101cac7a99", func := "adit/aditlaw15.IcmpTables", spec := "icmpTables", inPlace := ["internal/abi.NoEscape", "internal/bytealg.MakeNoZero"], unfollowed := true, recurses := true, named := ["adit/icmp.version6", "adit/icmp.version4", "adit/icmp.errors4"], plainKeys := false, apart := false, laid := [("adit/icmp.version4", laid_adit_icmp_version4), ("adit/icmp.version6", laid_adit_icmp_version6), ("adit/icmp.errors4", laid_adit_icmp_errors4)] }
def IcmpTablesSaid : Prop := icmpTablesRow.holds Tryd.pinned (OpenSpec.ofChange icmpTablesSpec)

/-- ITS FALSE NEIGHBOUR: 'it returns false'. Refute it at one input. -/
def icmpTablesWrong : ChangeSpec := { name := "icmpTables", fn := fun _ => fun
  | [d] => { results := [.lit (.bool false)], args := [d] }
  | _ => none }
def IcmpTablesWrongFalsely : Prop := icmpTablesRow.holds Tryd.pinned (OpenSpec.ofChange icmpTablesWrong)

/- THE SECOND FORM. 'bulk': how many values and letters a reading holds, each counted each time it is reached (what is shared counts as often as it is met; a slice's spare places count too). A statement '..UptoSaid' is the law's where the arguments, and the package variables that the reading takes, are together of bulk at most 1048576: NARROWER than '..Said'. Prove '..Said' where nothing that the law and all that it calls make is longer than what came in: it says more and counts as full. Else prove '..UptoSaid'. A law counts once. -/
mutual
def uptoBulk {H : Type} : DataW H → Nat
  | .lit (.string bytes) => bytes.length + 1
  | .lit _ => 1
  | .nil => 1
  | .ptr d => uptoBulk d + 1
  | .slice elems spare => uptoBulkAll elems + uptoBulkAll spare + 1
  | .agg parts => uptoBulkAll parts + 1
  | .iface _ d => uptoBulk d + 1
  | .map entries => uptoBulkEntries entries + 1
  | .held _ => 1
def uptoBulkAll {H : Type} : List (DataW H) → Nat
  | [] => 0
  | d :: r => uptoBulk d + uptoBulkAll r
def uptoBulkEntries {H : Type} : List (Lit × DataW H) → Nat
  | [] => 0
  | x :: r => uptoBulkEntry x + uptoBulkEntries r
def uptoBulkEntry {H : Type} : Lit × DataW H → Nat
  | (.string bytes, d) => bytes.length + uptoBulk d + 1
  | (_, d) => uptoBulk d + 1
 end
def uptoSmall : (H : Type) → List (DataW H) → Bool := fun _ ds => decide (uptoBulkAll ds ≤ 1048576)
def OpenSpec.upto (s : _root_.Go.ChangeSpec) : _root_.Go.OpenSpec := { _root_.Go.OpenSpec.ofChange s with cond := some uptoSmall }

/-- 'aditlaw15.IcmpBytes', WHERE WHAT IT READS IS OF BULK AT MOST 1048576: true; the input reads as it did. -/
def icmpBytesUptoRow : OpenClaim := { program := "ytojekoakgpkkdaadoor", sum := "1c6ee23d653067edb4f40e7f8a616b1dc251845bd72da326604ae2101cac7a99", func := "adit/aditlaw15.IcmpBytes", spec := "icmpBytes", inPlace := ["internal/abi.NoEscape", "internal/bytealg.MakeNoZero"], unfollowed := true, recurses := true, named := ["adit/icmp.version6", "adit/icmp.version4", "adit/icmp.errors4"], plainKeys := false, apart := false, laid := [("adit/icmp.version4", laid_adit_icmp_version4), ("adit/icmp.version6", laid_adit_icmp_version6), ("adit/icmp.errors4", laid_adit_icmp_errors4)], narrowed := true }
def IcmpBytesUptoSaid : Prop := icmpBytesUptoRow.holds Tryd.pinned (OpenSpec.upto icmpBytesSpec)

/-- 'aditlaw15.IcmpEchoes', WHERE WHAT IT READS IS OF BULK AT MOST 1048576: true; the input reads as it did. -/
def icmpEchoesUptoRow : OpenClaim := { program := "ytojekoakgpkkdaadoor", sum := "1c6ee23d653067edb4f40e7f8a616b1dc251845bd72da326604ae2101cac7a99", func := "adit/aditlaw15.IcmpEchoes", spec := "icmpEchoes", inPlace := ["internal/abi.NoEscape", "internal/bytealg.MakeNoZero"], unfollowed := true, recurses := true, named := ["adit/icmp.version6", "adit/icmp.version4", "adit/icmp.errors4"], plainKeys := false, apart := false, laid := [("adit/icmp.version4", laid_adit_icmp_version4), ("adit/icmp.version6", laid_adit_icmp_version6), ("adit/icmp.errors4", laid_adit_icmp_errors4)], narrowed := true }
def IcmpEchoesUptoSaid : Prop := icmpEchoesUptoRow.holds Tryd.pinned (OpenSpec.upto icmpEchoesSpec)

/-- 'aditlaw15.IcmpQuiet', WHERE WHAT IT READS IS OF BULK AT MOST 1048576: true; the input reads as it did. -/
def icmpQuietUptoRow : OpenClaim := { program := "ytojekoakgpkkdaadoor", sum := "1c6ee23d653067edb4f40e7f8a616b1dc251845bd72da326604ae2101cac7a99", func := "adit/aditlaw15.IcmpQuiet", spec := "icmpQuiet", inPlace := ["internal/abi.NoEscape", "internal/bytealg.MakeNoZero"], unfollowed := true, recurses := true, named := ["adit/icmp.version6", "adit/icmp.version4", "adit/icmp.errors4"], plainKeys := false, apart := false, laid := [("adit/icmp.version4", laid_adit_icmp_version4), ("adit/icmp.version6", laid_adit_icmp_version6), ("adit/icmp.errors4", laid_adit_icmp_errors4)], narrowed := true }
def IcmpQuietUptoSaid : Prop := icmpQuietUptoRow.holds Tryd.pinned (OpenSpec.upto icmpQuietSpec)

/-- 'aditlaw15.IcmpTold', WHERE WHAT IT READS IS OF BULK AT MOST 1048576: true; the input reads as it did. -/
def icmpToldUptoRow : OpenClaim := { program := "ytojekoakgpkkdaadoor", sum := "1c6ee23d653067edb4f40e7f8a616b1dc251845bd72da326604ae2101cac7a99", func := "adit/aditlaw15.IcmpTold", spec := "icmpTold", inPlace := ["internal/abi.NoEscape", "internal/bytealg.MakeNoZero"], unfollowed := true, recurses := true, named := ["adit/icmp.version6", "adit/icmp.version4", "adit/icmp.errors4"], plainKeys := false, apart := false, laid := [("adit/icmp.version4", laid_adit_icmp_version4), ("adit/icmp.version6", laid_adit_icmp_version6), ("adit/icmp.errors4", laid_adit_icmp_errors4)], narrowed := true }
def IcmpToldUptoSaid : Prop := icmpToldUptoRow.holds Tryd.pinned (OpenSpec.upto icmpToldSpec)

/-- 'aditlaw15.IcmpTables', WHERE WHAT IT READS IS OF BULK AT MOST 1048576: true; the input reads as it did. -/
def icmpTablesUptoRow : OpenClaim := { program := "ytojekoakgpkkdaadoor", sum := "1c6ee23d653067edb4f40e7f8a616b1dc251845bd72da326604ae2101cac7a99", func := "adit/aditlaw15.IcmpTables", spec := "icmpTables", inPlace := ["internal/abi.NoEscape", "internal/bytealg.MakeNoZero"], unfollowed := true, recurses := true, named := ["adit/icmp.version6", "adit/icmp.version4", "adit/icmp.errors4"], plainKeys := false, apart := false, laid := [("adit/icmp.version4", laid_adit_icmp_version4), ("adit/icmp.version6", laid_adit_icmp_version6), ("adit/icmp.errors4", laid_adit_icmp_errors4)], narrowed := true }
def IcmpTablesUptoSaid : Prop := icmpTablesUptoRow.holds Tryd.pinned (OpenSpec.upto icmpTablesSpec)

end Rows
end Go.Proofs.YtojekoakgpkkdaaDoor
