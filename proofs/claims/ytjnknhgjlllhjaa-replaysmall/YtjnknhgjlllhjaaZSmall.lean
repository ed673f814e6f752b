/-
  Own text. ReplaySmall is true for every input: a window of numbers of 32 bits answers as the document's window does, whatever size and counters, to 400 as the law itself bounds them; no condition is added.
-/
import Derived.Test.YtjnknhgjlllhjaaJ3
import Derived.Test.YtjnknhgjlllhjaaJ4
namespace Go.Proofs.Ytjnknhgjlllhjaa
open Go.RowKit Go.Proofs
set_option maxRecDepth 100000
theorem replaySmall_holds : Rows.ReplaySmallSaid := small_of code64 code32
end Go.Proofs.Ytjnknhgjlllhjaa
