/-
  No cell of these rows narrows 'for every input' (looked for: loops, veiled, ifaces, maps, wideKeys, modest, calm, conditions, laid).
  DERIVED. THE GIVEN ROWS OF THIS SEAT. 5 by the template 'for every input the law returns true; each argument reads behind the call as it read before'; 0 by the template 'total and deterministic' (their statements: YtjnknhgjlllhjaaTotals.lean).
  GIVEN WITH THE SEED: the statements are not yours to turn. If you find one false, say at which input.
  Laid BY PROGRAM, IN A SANDBOX (cutbox-rows.mjs): the forced cells as the released guide's own fill.sh prints them over the translation 33ff7714b9f5aa95… (all of the seat's roots in one cut). By AI agents, Wed Nov 11 2026. No macro, syntax, notation, axiom, sorry.
-/
import Derived.Test.YtjnknhgjlllhjaaChecked
import GoSem.Claim
import GoSem.ClaimJoined
import GoSem.ClaimMapViews
import Derived.JoinedTies
import Derived.KernelRfl
namespace Go.Proofs.Ytjnknhgjlllhjaa
/- THE CELL 'sum', in the pinned program and in every row, IS THE sha256 OF THE DUMP (.gsa) THAT YtjnknhgjlllhjaaProg.lean LOADS. Nothing in Lean hashes anything: it is a label: what it is worth is what the hold of that sum in a sandbox is worth. -/
noncomputable def Try.pinned : Pinned := { name := "ytjnknhgjlllhjaa", sum := "33ff7714b9f5aa95c36ec9891f1eb6c7542a73484f7f6e553dcd98a86d37e92f", checked := Try.checked }
namespace Rows
def none {H : Type} : Left H := { results := [], args := [] }

/-- 'aditlaw08.ReplayPlays': WHATEVER THE INPUT: true; the input reads as it did. -/
def replayPlaysSpec : ChangeSpec := { name := "replayPlays", fn := fun _ => fun
  | [d1, d2] => { results := [.lit (.bool true)], args := [d1, d2] }
  | _ => none }
def replayPlaysRow : OpenClaim := { program := "ytjnknhgjlllhjaa", sum := "33ff7714b9f5aa95c36ec9891f1eb6c7542a73484f7f6e553dcd98a86d37e92f", func := "adit/aditlaw08.ReplayPlays", spec := "replayPlays", apart := false }
def ReplayPlaysSaid : Prop := replayPlaysRow.holds Try.pinned (OpenSpec.ofChange replayPlaysSpec)

/-- ITS FALSE NEIGHBOUR: 'it returns false'. Refute it at one input. -/
def replayPlaysWrong : ChangeSpec := { name := "replayPlays", fn := fun _ => fun
  | [d1, d2] => { results := [.lit (.bool false)], args := [d1, d2] }
  | _ => none }
def ReplayPlaysWrongFalsely : Prop := replayPlaysRow.holds Try.pinned (OpenSpec.ofChange replayPlaysWrong)

/-- 'aditlaw08.ReplaySmall': WHATEVER THE INPUT: true; the input reads as it did. -/
def replaySmallSpec : ChangeSpec := { name := "replaySmall", fn := fun _ => fun
  | [d1, d2] => { results := [.lit (.bool true)], args := [d1, d2] }
  | _ => none }
def replaySmallRow : OpenClaim := { program := "ytjnknhgjlllhjaa", sum := "33ff7714b9f5aa95c36ec9891f1eb6c7542a73484f7f6e553dcd98a86d37e92f", func := "adit/aditlaw08.ReplaySmall", spec := "replaySmall", apart := false }
def ReplaySmallSaid : Prop := replaySmallRow.holds Try.pinned (OpenSpec.ofChange replaySmallSpec)

/-- ITS FALSE NEIGHBOUR: 'it returns false'. Refute it at one input. -/
def replaySmallWrong : ChangeSpec := { name := "replaySmall", fn := fun _ => fun
  | [d1, d2] => { results := [.lit (.bool false)], args := [d1, d2] }
  | _ => none }
def ReplaySmallWrongFalsely : Prop := replaySmallRow.holds Try.pinned (OpenSpec.ofChange replaySmallWrong)

/-- 'aditlaw08.ReplayOnce': WHATEVER THE INPUT: true; the input reads as it did. -/
def replayOnceSpec : ChangeSpec := { name := "replayOnce", fn := fun _ => fun
  | [d1, d2, d3] => { results := [.lit (.bool true)], args := [d1, d2, d3] }
  | _ => none }
def replayOnceRow : OpenClaim := { program := "ytjnknhgjlllhjaa", sum := "33ff7714b9f5aa95c36ec9891f1eb6c7542a73484f7f6e553dcd98a86d37e92f", func := "adit/aditlaw08.ReplayOnce", spec := "replayOnce", apart := false }
def ReplayOnceSaid : Prop := replayOnceRow.holds Try.pinned (OpenSpec.ofChange replayOnceSpec)

/-- ITS FALSE NEIGHBOUR: 'it returns false'. Refute it at one input. -/
def replayOnceWrong : ChangeSpec := { name := "replayOnce", fn := fun _ => fun
  | [d1, d2, d3] => { results := [.lit (.bool false)], args := [d1, d2, d3] }
  | _ => none }
def ReplayOnceWrongFalsely : Prop := replayOnceRow.holds Try.pinned (OpenSpec.ofChange replayOnceWrong)

/-- 'aditlaw08.ReplayNil': WHATEVER THE INPUT: true; the input reads as it did. -/
def replayNilSpec : ChangeSpec := { name := "replayNil", fn := fun _ => fun
  | [d] => { results := [.lit (.bool true)], args := [d] }
  | _ => none }
def replayNilRow : OpenClaim := { program := "ytjnknhgjlllhjaa", sum := "33ff7714b9f5aa95c36ec9891f1eb6c7542a73484f7f6e553dcd98a86d37e92f", func := "adit/aditlaw08.ReplayNil", spec := "replayNil", apart := false }
def ReplayNilSaid : Prop := replayNilRow.holds Try.pinned (OpenSpec.ofChange replayNilSpec)

/-- ITS FALSE NEIGHBOUR: 'it returns false'. Refute it at one input. -/
def replayNilWrong : ChangeSpec := { name := "replayNil", fn := fun _ => fun
  | [d] => { results := [.lit (.bool false)], args := [d] }
  | _ => none }
def ReplayNilWrongFalsely : Prop := replayNilRow.holds Try.pinned (OpenSpec.ofChange replayNilWrong)

/-- 'aditlaw08.ReplayLate': WHATEVER THE INPUT: true; the input reads as it did. -/
def replayLateSpec : ChangeSpec := { name := "replayLate", fn := fun _ => fun
  | [d1, d2, d3] => { results := [.lit (.bool true)], args := [d1, d2, d3] }
  | _ => none }
def replayLateRow : OpenClaim := { program := "ytjnknhgjlllhjaa", sum := "33ff7714b9f5aa95c36ec9891f1eb6c7542a73484f7f6e553dcd98a86d37e92f", func := "adit/aditlaw08.ReplayLate", spec := "replayLate", apart := false }
def ReplayLateSaid : Prop := replayLateRow.holds Try.pinned (OpenSpec.ofChange replayLateSpec)

/-- ITS FALSE NEIGHBOUR: 'it returns false'. Refute it at one input. -/
def replayLateWrong : ChangeSpec := { name := "replayLate", fn := fun _ => fun
  | [d1, d2, d3] => { results := [.lit (.bool false)], args := [d1, d2, d3] }
  | _ => none }
def ReplayLateWrongFalsely : Prop := replayLateRow.holds Try.pinned (OpenSpec.ofChange replayLateWrong)

/- THE SECOND FORM. 'bulk': how many values and letters a reading holds, each counted each time it is reached (what is shared counts as often as it is met; a slice's spare places count too). A statement '..UptoSaid' is the law's where the arguments, and the package variables that the reading takes, are together of bulk at most 1048576: NARROWER than '..Said'. Prove '..Said' where nothing that the law and all that it calls make is longer than what came in: it says more and counts as full. Else prove '..UptoSaid'. A law counts once. -/
mutual
def uptoBulk {H : Type} : DataW H → Nat
  | .lit (.string bytes) => bytes.length + 1
  | .lit _ => 1
  | .nil => 1
  | .ptr d => uptoBulk d + 1
  | .slice elems spare => uptoBulkAll elems + uptoBulkAll spare + 1
  | .agg parts => uptoBulkAll parts + 1
  | .iface _ d => uptoBulk d + 1
  | .map entries => uptoBulkEntries entries + 1
  | .held _ => 1
def uptoBulkAll {H : Type} : List (DataW H) → Nat
  | [] => 0
  | d :: r => uptoBulk d + uptoBulkAll r
def uptoBulkEntries {H : Type} : List (Lit × DataW H) → Nat
  | [] => 0
  | x :: r => uptoBulkEntry x + uptoBulkEntries r
def uptoBulkEntry {H : Type} : Lit × DataW H → Nat
  | (.string bytes, d) => bytes.length + uptoBulk d + 1
  | (_, d) => uptoBulk d + 1
 end
def uptoSmall : (H : Type) → List (DataW H) → Bool := fun _ ds => decide (uptoBulkAll ds ≤ 1048576)
def OpenSpec.upto (s : _root_.Go.ChangeSpec) : _root_.Go.OpenSpec := { _root_.Go.OpenSpec.ofChange s with cond := some uptoSmall }

/-- 'aditlaw08.ReplayPlays', WHERE WHAT IT READS IS OF BULK AT MOST 1048576: true; the input reads as it did. -/
def replayPlaysUptoRow : OpenClaim := { program := "ytjnknhgjlllhjaa", sum := "33ff7714b9f5aa95c36ec9891f1eb6c7542a73484f7f6e553dcd98a86d37e92f", func := "adit/aditlaw08.ReplayPlays", spec := "replayPlays", apart := false, narrowed := true }
def ReplayPlaysUptoSaid : Prop := replayPlaysUptoRow.holds Try.pinned (OpenSpec.upto replayPlaysSpec)

/-- 'aditlaw08.ReplaySmall', WHERE WHAT IT READS IS OF BULK AT MOST 1048576: true; the input reads as it did. -/
def replaySmallUptoRow : OpenClaim := { program := "ytjnknhgjlllhjaa", sum := "33ff7714b9f5aa95c36ec9891f1eb6c7542a73484f7f6e553dcd98a86d37e92f", func := "adit/aditlaw08.ReplaySmall", spec := "replaySmall", apart := false, narrowed := true }
def ReplaySmallUptoSaid : Prop := replaySmallUptoRow.holds Try.pinned (OpenSpec.upto replaySmallSpec)

/-- 'aditlaw08.ReplayOnce', WHERE WHAT IT READS IS OF BULK AT MOST 1048576: true; the input reads as it did. -/
def replayOnceUptoRow : OpenClaim := { program := "ytjnknhgjlllhjaa", sum := "33ff7714b9f5aa95c36ec9891f1eb6c7542a73484f7f6e553dcd98a86d37e92f", func := "adit/aditlaw08.ReplayOnce", spec := "replayOnce", apart := false, narrowed := true }
def ReplayOnceUptoSaid : Prop := replayOnceUptoRow.holds Try.pinned (OpenSpec.upto replayOnceSpec)

/-- 'aditlaw08.ReplayNil', WHERE WHAT IT READS IS OF BULK AT MOST 1048576: true; the input reads as it did. -/
def replayNilUptoRow : OpenClaim := { program := "ytjnknhgjlllhjaa", sum := "33ff7714b9f5aa95c36ec9891f1eb6c7542a73484f7f6e553dcd98a86d37e92f", func := "adit/aditlaw08.ReplayNil", spec := "replayNil", apart := false, narrowed := true }
def ReplayNilUptoSaid : Prop := replayNilUptoRow.holds Try.pinned (OpenSpec.upto replayNilSpec)

/-- 'aditlaw08.ReplayLate', WHERE WHAT IT READS IS OF BULK AT MOST 1048576: true; the input reads as it did. -/
def replayLateUptoRow : OpenClaim := { program := "ytjnknhgjlllhjaa", sum := "33ff7714b9f5aa95c36ec9891f1eb6c7542a73484f7f6e553dcd98a86d37e92f", func := "adit/aditlaw08.ReplayLate", spec := "replayLate", apart := false, narrowed := true }
def ReplayLateUptoSaid : Prop := replayLateUptoRow.holds Try.pinned (OpenSpec.upto replayLateSpec)

end Rows
end Go.Proofs.Ytjnknhgjlllhjaa
