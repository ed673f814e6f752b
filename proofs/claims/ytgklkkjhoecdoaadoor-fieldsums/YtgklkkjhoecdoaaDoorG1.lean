/-
  Own text. What Canon of package field answers, for every 32 bytes: a contract over the translation.
-/
import Derived.Test.YtgklkkjhoecdoaaDoorF5
namespace Go.Proofs.YtgklkkjhoecdoaaDoor
open Go.RowKit Go.Proofs
theorem limb_V4 {n : Int} (h0 : 0 ≤ n) (h1 : n < W256) : V4 (limb n 0) (limb n 8) (limb n 16) (limb n 24) = n := by
  unfold V4 limb W256 at *
  omega
set_option maxHeartbeats 1000000 in
theorem canon_any (n : Int) (w : World) (h0 : 0 ≤ n) (h1 : n < W256) :
    Calls Tryd.prog 16 #[.agg (BA n)] w fun e w' => e = .returned (.agg (BA (n % P255))) ∧ Below w.heap.size w w' := by
  go_enter Tryd.func16, Tryd.ntmps16
  go_wp2_with (refine ld_bytes rfl _ rfl _ _ rfl (heap_alloc2_old w _ _) (BA_size _) ?_)
  refine (load_any n _).mono ?_
  rintro e w1 ⟨rfl, hb1⟩
  have g1 := bheap hb1 (heap_alloc2_new w _ _) (by simp <;> omega)
  have hB1 : Hid (Below w.heap.size w w1) := by
    refine Below.trans ?_ (hb1.mono (by simp <;> omega))
    repeat first | exact Below.refl _ _ | refine Below.alloc ?_ (by simp <;> omega) _
  clear hb1
  go_wp2_with fail
  refine (store_any _ _ _ _ _ (limb_u64 _ _) (limb_u64 _ _) (limb_u64 _ _) (limb_u64 _ _)).mono ?_
  rintro e w2 ⟨rfl, hb2⟩
  have g2 := bheap hb2 g1 (heap_lt g1)
  have hB2 : Hid (Below w.heap.size w w2) := Below.trans hB1.out (hb2.mono hB1.out.size)
  clear hb2 g1
  go_wp2_with (refine st_bytes rfl _ _ rfl _ _ rfl rfl _ g2 rfl ?_; intro w3 g3 o3)
  refine bodyPost_ret (v := .agg (BA (n % P255))) ?_ rfl ⟨rfl, Below.trans hB2.out (Only.below (b := w.heap.size + 1) (B := w.heap.size) o3 (by omega))⟩
  rw [limb_V4 h0 h1] at g3
  exact results_cell_row rfl _ _ _ _ _ _ _ rfl g3 Tryd.underlying24 rfl (by rw [BA_size]; exact info32)
end Go.Proofs.YtgklkkjhoecdoaaDoor
