/-
  Own text. PolyPieces: proved as stated: for every key and every slice of texts, of so many bytes at most as the second form says, Tag of the pieces is the document's Tag of the joined text, and the slice behind them stays.
-/
import Derived.Test.YtfbeclleeehaaaaQ2
import Derived.Test.YtfbeclleeehaaaaUPieces
namespace Go.Proofs.Ytfbeclleeehaaaa
theorem polyPiecesProved : Rows.PolyPiecesUptoSaid := polyPieces_upto (fun s0 h0 v n ts W hS _ hb => pieces_walk s0 v n ts W h0 hS hb)
end Go.Proofs.Ytfbeclleeehaaaa
