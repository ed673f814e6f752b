/-
  Own text. ReplayNil is true for every input: of no window nothing comes, and a zero one is of Size 1; no condition is added.
-/
import Derived.Test.YtjnknhgjlllhjaaJ4
namespace Go.Proofs.Ytjnknhgjlllhjaa
open Go.RowKit Go.Proofs
set_option maxRecDepth 100000
theorem replayNil_holds : Rows.ReplayNilSaid := replayNil_said nil_walk
end Go.Proofs.Ytjnknhgjlllhjaa
