/-
  Own text. The law ChachaStreams, as its lift wants it.
-/
import Derived.Test.YtfgebcemdjplnaaD3
import Derived.SizedLaws
namespace Go.Proofs.Ytfgebcemdjplnaa
open Go.RowKit Go.Proofs
theorem reach_size {s : ByteArray} (h : s.data.toList.length ≤ reachBytes) : s.size ≤ 140737488351232 := by
  have e : s.size = s.data.toList.length := by simp
  rw [e]
  exact h
theorem streams_lift (key : Nat → Int) (hk : Byts 32 key) (c : Int) (hc : (Lit.int .u32 c).wf = true) (s : ByteArray) (hs : s.data.toList.length ≤ reachBytes) (w : World) :
    Calls Try.prog 5 #[.agg (WA .u8 32 key), .int .u32 c, .string s] w fun e w' => e = .returned (.bool true) ∧ Below w.heap.size w w' :=
  streams_walk key c s w hk (w32_wf hc) (Nat.le_trans (reach_size hs) (by decide))
end Go.Proofs.Ytfgebcemdjplnaa
