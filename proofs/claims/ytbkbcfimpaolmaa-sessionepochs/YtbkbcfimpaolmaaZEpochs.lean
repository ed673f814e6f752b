/-
  Own text. SessionEpochs is proved.
-/
import Derived.Test.YtbkbcfimpaolmaaLZEpochs
import Derived.Test.YtbkbcfimpaolmaaSXQ
namespace Go.Proofs.Ytbkbcfimpaolmaa
open Go.RowKit Go.Proofs
set_option maxRecDepth 100000
theorem sessionEpochs_holds : Rows.SessionEpochsSaid := sessionEpochs_said (fun v n X W h _ => epochs_walk v n X W h)
end Go.Proofs.Ytbkbcfimpaolmaa
