/-
  Own text. RouteNil is proved.
-/
import Derived.Test.YtcpnleanjclfjaaLZNil
namespace Go.Proofs.Ytcpnleanjclfjaa
open Go.RowKit Go.Proofs
set_option maxRecDepth 100000
theorem routeNil_holds : Rows.RouteNilSaid := routeNil_said (fun u b n hb _ W => nil_walk u b n W hb)
end Go.Proofs.Ytcpnleanjclfjaa
