/-
  Own text. RouteHalves is proved.
-/
import Derived.Test.YtcpnleanjclfjaaLZHalves
import Derived.Test.YtcpnleanjclfjaaTDH
namespace Go.Proofs.Ytcpnleanjclfjaa
open Go.RowKit Go.Proofs
set_option maxRecDepth 100000
theorem routeHalves_holds : Rows.RouteHalvesSaid := routeHalves_said (fun v n X a wa va na XA W hS hm hA ha => halves_walk v n X a va na XA W hS hm wa hA ha)
end Go.Proofs.Ytcpnleanjclfjaa
