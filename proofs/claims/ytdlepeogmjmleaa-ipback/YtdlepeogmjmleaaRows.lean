/-
  No cell of these rows narrows 'for every input' (looked for: loops, veiled, ifaces, maps, wideKeys, modest, calm, conditions, laid).
  DERIVED. THE GIVEN ROWS OF THIS SEAT. 5 by the template 'for every input the law returns true; each argument reads behind the call as it read before'; 0 by the template 'total and deterministic' (their statements: YtdlepeogmjmleaaTotals.lean).
  GIVEN WITH THE SEED: the statements are not yours to turn. If you find one false, say at which input.
  Laid BY PROGRAM, IN A SANDBOX (cutbox-rows.mjs): the forced cells as the released guide's own fill.sh prints them over the translation 0cc3a4dc042f755d… (all of the seat's roots in one cut). By AI agents, Wed Nov 11 2026. No macro, syntax, notation, axiom, sorry.
-/
import Derived.Test.YtdlepeogmjmleaaChecked
import GoSem.Claim
import GoSem.ClaimJoined
import GoSem.ClaimMapViews
import Derived.JoinedTies
import Derived.KernelRfl
namespace Go.Proofs.Ytdlepeogmjmleaa
/- THE CELL 'sum', in the pinned program and in every row, IS THE sha256 OF THE DUMP (.gsa) THAT YtdlepeogmjmleaaProg.lean LOADS. Nothing in Lean hashes anything: it is a label: what it is worth is what the hold of that sum in a sandbox is worth. -/
noncomputable def Try.pinned : Pinned := { name := "ytdlepeogmjmleaa", sum := "0cc3a4dc042f755d68970ebb97b1d3d6408b9b8a742919bbc31059d47cb05c3a", checked := Try.checked }
namespace Rows
def none {H : Type} : Left H := { results := [], args := [] }

/-- 'aditlaw13.IpBuilds': WHATEVER THE INPUT: true; the input reads as it did. -/
def ipBuildsSpec : ChangeSpec := { name := "ipBuilds", fn := fun _ => fun
  | [d] => { results := [.lit (.bool true)], args := [d] }
  | _ => none }
def ipBuildsRow : OpenClaim := { program := "ytdlepeogmjmleaa", sum := "0cc3a4dc042f755d68970ebb97b1d3d6408b9b8a742919bbc31059d47cb05c3a", func := "adit/aditlaw13.IpBuilds", spec := "ipBuilds", unfollowed := true, recurses := true, apart := false }
def IpBuildsSaid : Prop := ipBuildsRow.holds Try.pinned (OpenSpec.ofChange ipBuildsSpec)

/-- ITS FALSE NEIGHBOUR: 'it returns false'. Refute it at one input. -/
def ipBuildsWrong : ChangeSpec := { name := "ipBuilds", fn := fun _ => fun
  | [d] => { results := [.lit (.bool false)], args := [d] }
  | _ => none }
def IpBuildsWrongFalsely : Prop := ipBuildsRow.holds Try.pinned (OpenSpec.ofChange ipBuildsWrong)

/-- 'aditlaw13.IpReads': WHATEVER THE INPUT: true; the input reads as it did. -/
def ipReadsSpec : ChangeSpec := { name := "ipReads", fn := fun _ => fun
  | [d] => { results := [.lit (.bool true)], args := [d] }
  | _ => none }
def ipReadsRow : OpenClaim := { program := "ytdlepeogmjmleaa", sum := "0cc3a4dc042f755d68970ebb97b1d3d6408b9b8a742919bbc31059d47cb05c3a", func := "adit/aditlaw13.IpReads", spec := "ipReads", unfollowed := true, recurses := true, apart := false }
def IpReadsSaid : Prop := ipReadsRow.holds Try.pinned (OpenSpec.ofChange ipReadsSpec)

/-- ITS FALSE NEIGHBOUR: 'it returns false'. Refute it at one input. -/
def ipReadsWrong : ChangeSpec := { name := "ipReads", fn := fun _ => fun
  | [d] => { results := [.lit (.bool false)], args := [d] }
  | _ => none }
def IpReadsWrongFalsely : Prop := ipReadsRow.holds Try.pinned (OpenSpec.ofChange ipReadsWrong)

/-- 'aditlaw13.IpSame': WHATEVER THE INPUT: true; the input reads as it did. -/
def ipSameSpec : ChangeSpec := { name := "ipSame", fn := fun _ => fun
  | [d1, d2] => { results := [.lit (.bool true)], args := [d1, d2] }
  | _ => none }
def ipSameRow : OpenClaim := { program := "ytdlepeogmjmleaa", sum := "0cc3a4dc042f755d68970ebb97b1d3d6408b9b8a742919bbc31059d47cb05c3a", func := "adit/aditlaw13.IpSame", spec := "ipSame", unfollowed := true, recurses := true, apart := false }
def IpSameSaid : Prop := ipSameRow.holds Try.pinned (OpenSpec.ofChange ipSameSpec)

/-- ITS FALSE NEIGHBOUR: 'it returns false'. Refute it at one input. -/
def ipSameWrong : ChangeSpec := { name := "ipSame", fn := fun _ => fun
  | [d1, d2] => { results := [.lit (.bool false)], args := [d1, d2] }
  | _ => none }
def IpSameWrongFalsely : Prop := ipSameRow.holds Try.pinned (OpenSpec.ofChange ipSameWrong)

/-- 'aditlaw13.IpBack': WHATEVER THE INPUT: true; the input reads as it did. -/
def ipBackSpec : ChangeSpec := { name := "ipBack", fn := fun _ => fun
  | [d1, d2] => { results := [.lit (.bool true)], args := [d1, d2] }
  | _ => none }
def ipBackRow : OpenClaim := { program := "ytdlepeogmjmleaa", sum := "0cc3a4dc042f755d68970ebb97b1d3d6408b9b8a742919bbc31059d47cb05c3a", func := "adit/aditlaw13.IpBack", spec := "ipBack", unfollowed := true, recurses := true, apart := false }
def IpBackSaid : Prop := ipBackRow.holds Try.pinned (OpenSpec.ofChange ipBackSpec)

/-- ITS FALSE NEIGHBOUR: 'it returns false'. Refute it at one input. -/
def ipBackWrong : ChangeSpec := { name := "ipBack", fn := fun _ => fun
  | [d1, d2] => { results := [.lit (.bool false)], args := [d1, d2] }
  | _ => none }
def IpBackWrongFalsely : Prop := ipBackRow.holds Try.pinned (OpenSpec.ofChange ipBackWrong)

/-- 'aditlaw13.IpAgain': WHATEVER THE INPUT: true; the input reads as it did. -/
def ipAgainSpec : ChangeSpec := { name := "ipAgain", fn := fun _ => fun
  | [d] => { results := [.lit (.bool true)], args := [d] }
  | _ => none }
def ipAgainRow : OpenClaim := { program := "ytdlepeogmjmleaa", sum := "0cc3a4dc042f755d68970ebb97b1d3d6408b9b8a742919bbc31059d47cb05c3a", func := "adit/aditlaw13.IpAgain", spec := "ipAgain", unfollowed := true, recurses := true, apart := false }
def IpAgainSaid : Prop := ipAgainRow.holds Try.pinned (OpenSpec.ofChange ipAgainSpec)

/-- ITS FALSE NEIGHBOUR: 'it returns false'. Refute it at one input. -/
def ipAgainWrong : ChangeSpec := { name := "ipAgain", fn := fun _ => fun
  | [d] => { results := [.lit (.bool false)], args := [d] }
  | _ => none }
def IpAgainWrongFalsely : Prop := ipAgainRow.holds Try.pinned (OpenSpec.ofChange ipAgainWrong)

/- THE SECOND FORM. 'bulk': how many values and letters a reading holds, each counted each time it is reached (what is shared counts as often as it is met; a slice's spare places count too). A statement '..UptoSaid' is the law's where the arguments, and the package variables that the reading takes, are together of bulk at most 1048576: NARROWER than '..Said'. Prove '..Said' where nothing that the law and all that it calls make is longer than what came in: it says more and counts as full. Else prove '..UptoSaid'. A law counts once. -/
mutual
def uptoBulk {H : Type} : DataW H → Nat
  | .lit (.string bytes) => bytes.length + 1
  | .lit _ => 1
  | .nil => 1
  | .ptr d => uptoBulk d + 1
  | .slice elems spare => uptoBulkAll elems + uptoBulkAll spare + 1
  | .agg parts => uptoBulkAll parts + 1
  | .iface _ d => uptoBulk d + 1
  | .map entries => uptoBulkEntries entries + 1
  | .held _ => 1
def uptoBulkAll {H : Type} : List (DataW H) → Nat
  | [] => 0
  | d :: r => uptoBulk d + uptoBulkAll r
def uptoBulkEntries {H : Type} : List (Lit × DataW H) → Nat
  | [] => 0
  | x :: r => uptoBulkEntry x + uptoBulkEntries r
def uptoBulkEntry {H : Type} : Lit × DataW H → Nat
  | (.string bytes, d) => bytes.length + uptoBulk d + 1
  | (_, d) => uptoBulk d + 1
 end
def uptoSmall : (H : Type) → List (DataW H) → Bool := fun _ ds => decide (uptoBulkAll ds ≤ 1048576)
def OpenSpec.upto (s : _root_.Go.ChangeSpec) : _root_.Go.OpenSpec := { _root_.Go.OpenSpec.ofChange s with cond := some uptoSmall }

/-- 'aditlaw13.IpBuilds', WHERE WHAT IT READS IS OF BULK AT MOST 1048576: true; the input reads as it did. -/
def ipBuildsUptoRow : OpenClaim := { program := "ytdlepeogmjmleaa", sum := "0cc3a4dc042f755d68970ebb97b1d3d6408b9b8a742919bbc31059d47cb05c3a", func := "adit/aditlaw13.IpBuilds", spec := "ipBuilds", unfollowed := true, recurses := true, apart := false, narrowed := true }
def IpBuildsUptoSaid : Prop := ipBuildsUptoRow.holds Try.pinned (OpenSpec.upto ipBuildsSpec)

/-- 'aditlaw13.IpReads', WHERE WHAT IT READS IS OF BULK AT MOST 1048576: true; the input reads as it did. -/
def ipReadsUptoRow : OpenClaim := { program := "ytdlepeogmjmleaa", sum := "0cc3a4dc042f755d68970ebb97b1d3d6408b9b8a742919bbc31059d47cb05c3a", func := "adit/aditlaw13.IpReads", spec := "ipReads", unfollowed := true, recurses := true, apart := false, narrowed := true }
def IpReadsUptoSaid : Prop := ipReadsUptoRow.holds Try.pinned (OpenSpec.upto ipReadsSpec)

/-- 'aditlaw13.IpSame', WHERE WHAT IT READS IS OF BULK AT MOST 1048576: true; the input reads as it did. -/
def ipSameUptoRow : OpenClaim := { program := "ytdlepeogmjmleaa", sum := "0cc3a4dc042f755d68970ebb97b1d3d6408b9b8a742919bbc31059d47cb05c3a", func := "adit/aditlaw13.IpSame", spec := "ipSame", unfollowed := true, recurses := true, apart := false, narrowed := true }
def IpSameUptoSaid : Prop := ipSameUptoRow.holds Try.pinned (OpenSpec.upto ipSameSpec)

/-- 'aditlaw13.IpBack', WHERE WHAT IT READS IS OF BULK AT MOST 1048576: true; the input reads as it did. -/
def ipBackUptoRow : OpenClaim := { program := "ytdlepeogmjmleaa", sum := "0cc3a4dc042f755d68970ebb97b1d3d6408b9b8a742919bbc31059d47cb05c3a", func := "adit/aditlaw13.IpBack", spec := "ipBack", unfollowed := true, recurses := true, apart := false, narrowed := true }
def IpBackUptoSaid : Prop := ipBackUptoRow.holds Try.pinned (OpenSpec.upto ipBackSpec)

/-- 'aditlaw13.IpAgain', WHERE WHAT IT READS IS OF BULK AT MOST 1048576: true; the input reads as it did. -/
def ipAgainUptoRow : OpenClaim := { program := "ytdlepeogmjmleaa", sum := "0cc3a4dc042f755d68970ebb97b1d3d6408b9b8a742919bbc31059d47cb05c3a", func := "adit/aditlaw13.IpAgain", spec := "ipAgain", unfollowed := true, recurses := true, apart := false, narrowed := true }
def IpAgainUptoSaid : Prop := ipAgainUptoRow.holds Try.pinned (OpenSpec.upto ipAgainSpec)

end Rows
end Go.Proofs.Ytdlepeogmjmleaa
