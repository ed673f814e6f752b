/-
  Own text. SessionPlays is proved.
-/
import Derived.Test.YtbkbcfimpaolmaaGreatLZPlays
import Derived.Test.YtbkbcfimpaolmaaGreatSDF
namespace Go.Proofs.YtbkbcfimpaolmaaGreat
open Go.RowKit Go.Proofs
set_option maxRecDepth 100000
theorem sessionPlays_holds : Rows.SessionPlaysSaid := sessionPlays_said (fun v n X W h _ => plays_walk v n X W h)
end Go.Proofs.YtbkbcfimpaolmaaGreat
