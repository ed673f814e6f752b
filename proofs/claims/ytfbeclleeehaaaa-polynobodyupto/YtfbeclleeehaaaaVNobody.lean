/-
  Own text. PolyNobody: proved as stated: for every slice of texts, of so many bytes at most as the second form says, the nil MAC answers zeros, and one that New did not make answers by the key of zeros.
-/
import Derived.Test.YtfbeclleeehaaaaQ5
import Derived.Test.YtfbeclleeehaaaaUNobody
namespace Go.Proofs.Ytfbeclleeehaaaa
theorem polyNobodyProved : Rows.PolyNobodyUptoSaid := polyNobody_upto (fun v n ts W hS _ hb => nobody_walk v n ts W hS hb)
end Go.Proofs.Ytfbeclleeehaaaa
