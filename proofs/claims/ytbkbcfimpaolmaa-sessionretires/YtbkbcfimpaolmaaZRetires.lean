/-
  Own text. SessionRetires is proved.
-/
import Derived.Test.YtbkbcfimpaolmaaLZRetires
namespace Go.Proofs.Ytbkbcfimpaolmaa
open Go.RowKit Go.Proofs
set_option maxRecDepth 100000
theorem sessionRetires_holds : Rows.SessionRetiresSaid := sessionRetires_said (fun a0 h0 a1 W => retires_walk a0 a1 W (by have := bounds_u64 h0; omega))
end Go.Proofs.Ytbkbcfimpaolmaa
