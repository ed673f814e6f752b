/-
  Own text. RoutePlays is proved.
-/
import Derived.Test.YtcpnleanjclfjaaLZPlays
import Derived.Test.YtcpnleanjclfjaaTCM
namespace Go.Proofs.Ytcpnleanjclfjaa
open Go.RowKit Go.Proofs
set_option maxRecDepth 100000
theorem routePlays_holds : Rows.RoutePlaysSaid := routePlays_said (fun v n X W hS hm => plays_walk v n X W hS hm)
end Go.Proofs.Ytcpnleanjclfjaa
