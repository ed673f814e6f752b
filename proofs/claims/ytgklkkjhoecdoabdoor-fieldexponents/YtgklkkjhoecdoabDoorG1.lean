/-
  Own text. What Canon of package field answers, for every 32 bytes: a contract over the translation.
-/
import Derived.Test.YtgklkkjhoecdoabDoorF5
namespace Go.Proofs.YtgklkkjhoecdoabDoor
open Go.RowKit Go.Proofs
theorem limb_V4 {n : Int} (h0 : 0 ≤ n) (h1 : n < W256) : V4 (limb n 0) (limb n 8) (limb n 16) (limb n 24) = n := by
  unfold V4 limb W256 at *
  omega
end Go.Proofs.YtgklkkjhoecdoabDoor
