/-
  Own text. ReplayPlays is true for every input: a window of the program answers every call (Fresh, Take, Copy, Clear, Top, Size, Came) as the document's window does, whatever size and whatever calls, to 400 as the law itself bounds them; no condition is added.
-/
import Derived.Test.YtjnknhgjlllhjaaJ3
import Derived.Test.YtjnknhgjlllhjaaJ4
namespace Go.Proofs.Ytjnknhgjlllhjaa
open Go.RowKit Go.Proofs
set_option maxRecDepth 100000
theorem replayPlays_holds : Rows.ReplayPlaysSaid := plays_of code64
end Go.Proofs.Ytjnknhgjlllhjaa
