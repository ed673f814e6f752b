/-
  Own text. RouteFull is proved.
-/
import Derived.Test.YtcpnleanjclfjaaLZFull
import Derived.Test.YtcpnleanjclfjaaTCJ
namespace Go.Proofs.Ytcpnleanjclfjaa
open Go.RowKit Go.Proofs
set_option maxRecDepth 100000
theorem routeFull_holds : Rows.RouteFullSaid := routeFull_said (fun u b hb a _ W => full_walk u b a W hb)
end Go.Proofs.Ytcpnleanjclfjaa
