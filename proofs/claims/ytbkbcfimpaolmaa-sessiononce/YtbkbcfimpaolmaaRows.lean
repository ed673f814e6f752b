/-
  No cell of these rows narrows 'for every input' (looked for: loops, veiled, ifaces, maps, wideKeys, modest, calm, conditions, laid).
  DERIVED. THE GIVEN ROWS OF THIS SEAT. 5 by the template 'for every input the law returns true; each argument reads behind the call as it read before'; 0 by the template 'total and deterministic' (their statements: YtbkbcfimpaolmaaTotals.lean).
  GIVEN WITH THE SEED: the statements are not yours to turn. If you find one false, say at which input.
  Laid BY PROGRAM, IN A SANDBOX (cutbox-rows.mjs): the forced cells as the released guide's own fill.sh prints them over the translation 5ffa3590e863e84a… (all of the seat's roots in one cut). By AI agents, Wed Nov 11 2026. No macro, syntax, notation, axiom, sorry.
-/
import Derived.Test.YtbkbcfimpaolmaaChecked
import GoSem.Claim
import GoSem.ClaimJoined
import GoSem.ClaimMapViews
import Derived.JoinedTies
import Derived.KernelRfl
namespace Go.Proofs.Ytbkbcfimpaolmaa
/- THE CELL 'sum', in the pinned program and in every row, IS THE sha256 OF THE DUMP (.gsa) THAT YtbkbcfimpaolmaaProg.lean LOADS. Nothing in Lean hashes anything: it is a label: what it is worth is what the hold of that sum in a sandbox is worth. -/
noncomputable def Try.pinned : Pinned := { name := "ytbkbcfimpaolmaa", sum := "5ffa3590e863e84a19547ec035de09f23aa1417227b0d536e6a94b914cf0f762", checked := Try.checked }
namespace Rows
def none {H : Type} : Left H := { results := [], args := [] }

/-- 'aditlaw09.SessionOnce': WHATEVER THE INPUT: true; the input reads as it did. -/
def sessionOnceSpec : ChangeSpec := { name := "sessionOnce", fn := fun _ => fun
  | [d] => { results := [.lit (.bool true)], args := [d] }
  | _ => none }
def sessionOnceRow : OpenClaim := { program := "ytbkbcfimpaolmaa", sum := "5ffa3590e863e84a19547ec035de09f23aa1417227b0d536e6a94b914cf0f762", func := "adit/aditlaw09.SessionOnce", spec := "sessionOnce", inPlace := ["internal/abi.NoEscape", "internal/bytealg.MakeNoZero", "math/bits.Add64"], unfollowed := true, recurses := true, apart := false }
def SessionOnceSaid : Prop := sessionOnceRow.holds Try.pinned (OpenSpec.ofChange sessionOnceSpec)

/-- ITS FALSE NEIGHBOUR: 'it returns false'. Refute it at one input. -/
def sessionOnceWrong : ChangeSpec := { name := "sessionOnce", fn := fun _ => fun
  | [d] => { results := [.lit (.bool false)], args := [d] }
  | _ => none }
def SessionOnceWrongFalsely : Prop := sessionOnceRow.holds Try.pinned (OpenSpec.ofChange sessionOnceWrong)

/-- 'aditlaw09.SessionRetires': WHATEVER THE INPUT: true; the input reads as it did. -/
def sessionRetiresSpec : ChangeSpec := { name := "sessionRetires", fn := fun _ => fun
  | [d1, d2] => { results := [.lit (.bool true)], args := [d1, d2] }
  | _ => none }
def sessionRetiresRow : OpenClaim := { program := "ytbkbcfimpaolmaa", sum := "5ffa3590e863e84a19547ec035de09f23aa1417227b0d536e6a94b914cf0f762", func := "adit/aditlaw09.SessionRetires", spec := "sessionRetires", inPlace := ["internal/abi.NoEscape", "internal/bytealg.MakeNoZero", "math/bits.Add64"], apart := false }
def SessionRetiresSaid : Prop := sessionRetiresRow.holds Try.pinned (OpenSpec.ofChange sessionRetiresSpec)

/-- ITS FALSE NEIGHBOUR: 'it returns false'. Refute it at one input. -/
def sessionRetiresWrong : ChangeSpec := { name := "sessionRetires", fn := fun _ => fun
  | [d1, d2] => { results := [.lit (.bool false)], args := [d1, d2] }
  | _ => none }
def SessionRetiresWrongFalsely : Prop := sessionRetiresRow.holds Try.pinned (OpenSpec.ofChange sessionRetiresWrong)

/-- 'aditlaw09.SessionNil': WHATEVER THE INPUT: true; the input reads as it did. -/
def sessionNilSpec : ChangeSpec := { name := "sessionNil", fn := fun _ => fun
  | [d1, d2] => { results := [.lit (.bool true)], args := [d1, d2] }
  | _ => none }
def sessionNilRow : OpenClaim := { program := "ytbkbcfimpaolmaa", sum := "5ffa3590e863e84a19547ec035de09f23aa1417227b0d536e6a94b914cf0f762", func := "adit/aditlaw09.SessionNil", spec := "sessionNil", inPlace := ["internal/abi.NoEscape", "internal/bytealg.MakeNoZero", "math/bits.Add64"], unfollowed := true, recurses := true, apart := false }
def SessionNilSaid : Prop := sessionNilRow.holds Try.pinned (OpenSpec.ofChange sessionNilSpec)

/-- ITS FALSE NEIGHBOUR: 'it returns false'. Refute it at one input. -/
def sessionNilWrong : ChangeSpec := { name := "sessionNil", fn := fun _ => fun
  | [d1, d2] => { results := [.lit (.bool false)], args := [d1, d2] }
  | _ => none }
def SessionNilWrongFalsely : Prop := sessionNilRow.holds Try.pinned (OpenSpec.ofChange sessionNilWrong)

/-- 'aditlaw09.SessionEpochs': WHATEVER THE INPUT: true; the input reads as it did. -/
def sessionEpochsSpec : ChangeSpec := { name := "sessionEpochs", fn := fun _ => fun
  | [d] => { results := [.lit (.bool true)], args := [d] }
  | _ => none }
def sessionEpochsRow : OpenClaim := { program := "ytbkbcfimpaolmaa", sum := "5ffa3590e863e84a19547ec035de09f23aa1417227b0d536e6a94b914cf0f762", func := "adit/aditlaw09.SessionEpochs", spec := "sessionEpochs", inPlace := ["internal/abi.NoEscape", "internal/bytealg.MakeNoZero", "math/bits.Add64"], unfollowed := true, recurses := true, apart := false }
def SessionEpochsSaid : Prop := sessionEpochsRow.holds Try.pinned (OpenSpec.ofChange sessionEpochsSpec)

/-- ITS FALSE NEIGHBOUR: 'it returns false'. Refute it at one input. -/
def sessionEpochsWrong : ChangeSpec := { name := "sessionEpochs", fn := fun _ => fun
  | [d] => { results := [.lit (.bool false)], args := [d] }
  | _ => none }
def SessionEpochsWrongFalsely : Prop := sessionEpochsRow.holds Try.pinned (OpenSpec.ofChange sessionEpochsWrong)

/-- 'aditlaw09.SessionDies': WHATEVER THE INPUT: true; the input reads as it did. -/
def sessionDiesSpec : ChangeSpec := { name := "sessionDies", fn := fun _ => fun
  | [d1, d2] => { results := [.lit (.bool true)], args := [d1, d2] }
  | _ => none }
def sessionDiesRow : OpenClaim := { program := "ytbkbcfimpaolmaa", sum := "5ffa3590e863e84a19547ec035de09f23aa1417227b0d536e6a94b914cf0f762", func := "adit/aditlaw09.SessionDies", spec := "sessionDies", inPlace := ["internal/abi.NoEscape", "internal/bytealg.MakeNoZero", "math/bits.Add64"], unfollowed := true, recurses := true, apart := false }
def SessionDiesSaid : Prop := sessionDiesRow.holds Try.pinned (OpenSpec.ofChange sessionDiesSpec)

/-- ITS FALSE NEIGHBOUR: 'it returns false'. Refute it at one input. -/
def sessionDiesWrong : ChangeSpec := { name := "sessionDies", fn := fun _ => fun
  | [d1, d2] => { results := [.lit (.bool false)], args := [d1, d2] }
  | _ => none }
def SessionDiesWrongFalsely : Prop := sessionDiesRow.holds Try.pinned (OpenSpec.ofChange sessionDiesWrong)

/- THE SECOND FORM. 'bulk': how many values and letters a reading holds, each counted each time it is reached (what is shared counts as often as it is met; a slice's spare places count too). A statement '..UptoSaid' is the law's where the arguments, and the package variables that the reading takes, are together of bulk at most 1048576: NARROWER than '..Said'. Prove '..Said' where nothing that the law and all that it calls make is longer than what came in: it says more and counts as full. Else prove '..UptoSaid'. A law counts once. -/
mutual
def uptoBulk {H : Type} : DataW H → Nat
  | .lit (.string bytes) => bytes.length + 1
  | .lit _ => 1
  | .nil => 1
  | .ptr d => uptoBulk d + 1
  | .slice elems spare => uptoBulkAll elems + uptoBulkAll spare + 1
  | .agg parts => uptoBulkAll parts + 1
  | .iface _ d => uptoBulk d + 1
  | .map entries => uptoBulkEntries entries + 1
  | .held _ => 1
def uptoBulkAll {H : Type} : List (DataW H) → Nat
  | [] => 0
  | d :: r => uptoBulk d + uptoBulkAll r
def uptoBulkEntries {H : Type} : List (Lit × DataW H) → Nat
  | [] => 0
  | x :: r => uptoBulkEntry x + uptoBulkEntries r
def uptoBulkEntry {H : Type} : Lit × DataW H → Nat
  | (.string bytes, d) => bytes.length + uptoBulk d + 1
  | (_, d) => uptoBulk d + 1
 end
def uptoSmall : (H : Type) → List (DataW H) → Bool := fun _ ds => decide (uptoBulkAll ds ≤ 1048576)
def OpenSpec.upto (s : _root_.Go.ChangeSpec) : _root_.Go.OpenSpec := { _root_.Go.OpenSpec.ofChange s with cond := some uptoSmall }

/-- 'aditlaw09.SessionOnce', WHERE WHAT IT READS IS OF BULK AT MOST 1048576: true; the input reads as it did. -/
def sessionOnceUptoRow : OpenClaim := { program := "ytbkbcfimpaolmaa", sum := "5ffa3590e863e84a19547ec035de09f23aa1417227b0d536e6a94b914cf0f762", func := "adit/aditlaw09.SessionOnce", spec := "sessionOnce", inPlace := ["internal/abi.NoEscape", "internal/bytealg.MakeNoZero", "math/bits.Add64"], unfollowed := true, recurses := true, apart := false, narrowed := true }
def SessionOnceUptoSaid : Prop := sessionOnceUptoRow.holds Try.pinned (OpenSpec.upto sessionOnceSpec)

/-- 'aditlaw09.SessionRetires', WHERE WHAT IT READS IS OF BULK AT MOST 1048576: true; the input reads as it did. -/
def sessionRetiresUptoRow : OpenClaim := { program := "ytbkbcfimpaolmaa", sum := "5ffa3590e863e84a19547ec035de09f23aa1417227b0d536e6a94b914cf0f762", func := "adit/aditlaw09.SessionRetires", spec := "sessionRetires", inPlace := ["internal/abi.NoEscape", "internal/bytealg.MakeNoZero", "math/bits.Add64"], apart := false, narrowed := true }
def SessionRetiresUptoSaid : Prop := sessionRetiresUptoRow.holds Try.pinned (OpenSpec.upto sessionRetiresSpec)

/-- 'aditlaw09.SessionNil', WHERE WHAT IT READS IS OF BULK AT MOST 1048576: true; the input reads as it did. -/
def sessionNilUptoRow : OpenClaim := { program := "ytbkbcfimpaolmaa", sum := "5ffa3590e863e84a19547ec035de09f23aa1417227b0d536e6a94b914cf0f762", func := "adit/aditlaw09.SessionNil", spec := "sessionNil", inPlace := ["internal/abi.NoEscape", "internal/bytealg.MakeNoZero", "math/bits.Add64"], unfollowed := true, recurses := true, apart := false, narrowed := true }
def SessionNilUptoSaid : Prop := sessionNilUptoRow.holds Try.pinned (OpenSpec.upto sessionNilSpec)

/-- 'aditlaw09.SessionEpochs', WHERE WHAT IT READS IS OF BULK AT MOST 1048576: true; the input reads as it did. -/
def sessionEpochsUptoRow : OpenClaim := { program := "ytbkbcfimpaolmaa", sum := "5ffa3590e863e84a19547ec035de09f23aa1417227b0d536e6a94b914cf0f762", func := "adit/aditlaw09.SessionEpochs", spec := "sessionEpochs", inPlace := ["internal/abi.NoEscape", "internal/bytealg.MakeNoZero", "math/bits.Add64"], unfollowed := true, recurses := true, apart := false, narrowed := true }
def SessionEpochsUptoSaid : Prop := sessionEpochsUptoRow.holds Try.pinned (OpenSpec.upto sessionEpochsSpec)

/-- 'aditlaw09.SessionDies', WHERE WHAT IT READS IS OF BULK AT MOST 1048576: true; the input reads as it did. -/
def sessionDiesUptoRow : OpenClaim := { program := "ytbkbcfimpaolmaa", sum := "5ffa3590e863e84a19547ec035de09f23aa1417227b0d536e6a94b914cf0f762", func := "adit/aditlaw09.SessionDies", spec := "sessionDies", inPlace := ["internal/abi.NoEscape", "internal/bytealg.MakeNoZero", "math/bits.Add64"], unfollowed := true, recurses := true, apart := false, narrowed := true }
def SessionDiesUptoSaid : Prop := sessionDiesUptoRow.holds Try.pinned (OpenSpec.upto sessionDiesSpec)

end Rows
end Go.Proofs.Ytbkbcfimpaolmaa
