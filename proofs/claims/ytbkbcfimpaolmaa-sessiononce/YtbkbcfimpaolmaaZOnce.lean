/-
  Own text. SessionOnce is proved.
-/
import Derived.Test.YtbkbcfimpaolmaaLZOnce
import Derived.Test.YtbkbcfimpaolmaaSYD
namespace Go.Proofs.Ytbkbcfimpaolmaa
open Go.RowKit Go.Proofs
set_option maxRecDepth 100000
theorem sessionOnce_holds : Rows.SessionOnceSaid := sessionOnce_said (fun v n X W h _ => once_walk v n X W h)
end Go.Proofs.Ytbkbcfimpaolmaa
