/-
  Own text. The law ChachaPieces, as its lift wants it.
-/
import Derived.Test.YtfgebcemdjplnaaD6
namespace Go.Proofs.Ytfgebcemdjplnaa
open Go.RowKit Go.Proofs
theorem pieces_lift (key : Nat → Int) (hk : Byts 32 key) (c : Int) (hc : (Lit.int .u32 c).wf = true) (s : ByteArray) (hs : s.data.toList.length ≤ reachBytes) (cut : Int) (hu : (Lit.int .i64 cut).wf = true) (w : World) :
    Calls Try.prog 6 #[.agg (WA .u8 32 key), .int .u32 c, .string s, .int .i64 cut] w fun e w' => e = .returned (.bool true) ∧ Below w.heap.size w w' := by
  have h := bounds_i64 hu
  exact pieces_walk key c s cut w hk (w32_wf hc) (reach_size hs) (by omega) (by omega)
end Go.Proofs.Ytfgebcemdjplnaa
