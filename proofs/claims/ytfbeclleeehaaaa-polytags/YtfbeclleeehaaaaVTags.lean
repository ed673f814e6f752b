/-
  Own text. PolyTags: proved as stated: for every key and every text within the reach poly.Tag answers as the document's Tag, and the document's example holds.
-/
import Derived.Test.YtfbeclleeehaaaaQ1
import Derived.Test.YtfbeclleeehaaaaZTags
namespace Go.Proofs.Ytfbeclleeehaaaa
theorem polyTagsProved : Rows.PolyTagsSaid := polyTags_said (fun s0 h0 a1 h1 W => tags_walk s0 a1 W h0 (by omega))
end Go.Proofs.Ytfbeclleeehaaaa
