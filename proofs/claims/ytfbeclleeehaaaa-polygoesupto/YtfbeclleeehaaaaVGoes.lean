/-
  Own text. PolyGoes: proved as stated: for every two keys and every slice of texts, of so many bytes at most as the second form says, a mark that is made piece by piece tells the document's mark of all so far, and two that are made know nothing of each other.
-/
import Derived.Test.YtfbeclleeehaaaaQ3
import Derived.Test.YtfbeclleeehaaaaUGoes
namespace Go.Proofs.Ytfbeclleeehaaaa
theorem polyGoesProved : Rows.PolyGoesUptoSaid := polyGoes_upto (fun s0 h0 s1 h1 v n ts W hS hc hb => goes_walk s0 s1 v n ts W h0 h1 hS hc hb)
end Go.Proofs.Ytfbeclleeehaaaa
