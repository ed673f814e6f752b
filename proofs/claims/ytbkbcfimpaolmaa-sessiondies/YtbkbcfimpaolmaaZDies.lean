/-
  Own text. SessionDies is proved.
-/
import Derived.Test.YtbkbcfimpaolmaaLZDies
namespace Go.Proofs.Ytbkbcfimpaolmaa
open Go.RowKit Go.Proofs
set_option maxRecDepth 100000
theorem sessionDies_holds : Rows.SessionDiesSaid := sessionDies_said (fun a0 _ a1 _ W => dies_walk a0 a1 W)
end Go.Proofs.Ytbkbcfimpaolmaa
