/-
  Own text. RouteOrder is proved.
-/
import Derived.Test.YtcpnleanjclfjaaLZOrder
import Derived.Test.YtcpnleanjclfjaaTDO
namespace Go.Proofs.Ytcpnleanjclfjaa
open Go.RowKit Go.Proofs
set_option maxRecDepth 100000
theorem routeOrder_holds : Rows.RouteOrderSaid := routeOrder_said (fun v n X va na XA W hS hm hA ha => order_walk v n X va na XA W hS hm hA ha)
end Go.Proofs.Ytcpnleanjclfjaa
