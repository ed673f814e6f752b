/-
  Own text. SessionNil is proved.
-/
import Derived.Test.YtbkbcfimpaolmaaLZNil
namespace Go.Proofs.Ytbkbcfimpaolmaa
open Go.RowKit Go.Proofs
set_option maxRecDepth 100000
theorem sessionNil_holds : Rows.SessionNilSaid := sessionNil_said (fun a0 _ a1 W => nil_walk a0 a1 W)
end Go.Proofs.Ytbkbcfimpaolmaa
