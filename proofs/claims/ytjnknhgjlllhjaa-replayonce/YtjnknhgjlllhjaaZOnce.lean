/-
  Own text. ReplayOnce is true for every input: counters that come in any order within blocks of the window's size are each taken once; no condition is added.
-/
import Derived.Test.YtjnknhgjlllhjaaJ3
import Derived.Test.YtjnknhgjlllhjaaJ4
namespace Go.Proofs.Ytjnknhgjlllhjaa
open Go.RowKit Go.Proofs
set_option maxRecDepth 100000
theorem replayOnce_holds : Rows.ReplayOnceSaid := once_of code64
end Go.Proofs.Ytjnknhgjlllhjaa
