/-
  Own text. ReplayLate is true for every input: just what is less than Size behind the greatest and did not come is fresh below it, and a copy is apart; no condition is added.
-/
import Derived.Test.YtjnknhgjlllhjaaJ3
import Derived.Test.YtjnknhgjlllhjaaJ4
namespace Go.Proofs.Ytjnknhgjlllhjaa
open Go.RowKit Go.Proofs
set_option maxRecDepth 100000
theorem replayLate_holds : Rows.ReplayLateSaid := late_of code64
end Go.Proofs.Ytjnknhgjlllhjaa
