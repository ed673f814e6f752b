/-
  Own text. PolyCuts: proved as stated: for every key, every text within the reach and every byte: wherever a text is cut in two its mark is the same; by a key whose first half is zero it is the second half; with another second half it is as much more.
-/
import Derived.Test.YtfbeclleeehaaaaQ4
import Derived.Test.YtfbeclleeehaaaaZCuts
namespace Go.Proofs.Ytfbeclleeehaaaa
theorem polyCutsProved : Rows.PolyCutsSaid := polyCuts_said (fun s0 h0 a1 h1 a2 h2 W => cuts_walk s0 a1 a2 W h0 (by omega) (by have := bounds_u8 h2; omega))
end Go.Proofs.Ytfbeclleeehaaaa
