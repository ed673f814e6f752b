/-
  Own text. What Less of the document's answer gives: p - 2, as 32 bytes.
-/
import Derived.Test.YtgklkkjhoecdoaaDoorI1
import Derived.Test.YtgklkkjhoecdoaaDoorE1
namespace Go.Proofs.YtgklkkjhoecdoaaDoor
open Go.RowKit Go.Proofs
theorem ones_step (k : Nat) (hk : k < 32) : (BA (256 ^ k - 1)).setIfInBounds k (.int .u8 255) = BA (256 ^ (k + 1) - 1) := by
  have hp : (0 : Int) < 256 ^ k := Int.pow_pos (by decide)
  rw [BA_set (by omega) (by omega) (by unfold Byte; omega) hk]
  congr 1
  rw [Int.pow_succ]
  omega
theorem less_end : ((BA (256 ^ 32 - 1)).setIfInBounds 0 (.int .u8 235)).setIfInBounds 31 (.int .u8 127) = BA (P255 - 2) := by kernel_rfl
set_option maxHeartbeats 1000000 in
set_option maxRecDepth 100000 in
theorem less_any (w : World) :
    Calls Tryd.prog 27 #[] w fun e w' => e = .returned (.agg (BA (P255 - 2))) ∧ Below w.heap.size w w' := by
  go_enter Tryd.func27, Tryd.ntmps27
  go_wp2
  refine wp_gen (fun v => v.heap[w.heap.size]? = some (.cells (BA 0) 24 (0, 0)) ∧ v.heap[w.heap.size + 1]? = some (.cells (BA 0) 24 (0, 0)) ∧ Below w.heap.size w v)
    ⟨heap_alloc2_old w _ _, heap_alloc2_new w _ _, by repeat first | exact Below.refl _ _ | refine Below.alloc ?_ (by simp <;> omega) _⟩ ?_
  rintro v0 ⟨gz, ge, hB⟩
  go_loopw [2] (fun i v => ∃ k : Nat, k ≤ 32 ∧ i = .int .i64 k ∧ v.heap[w.heap.size]? = some (.cells (BA 0) 24 (0, 0)) ∧ v.heap[w.heap.size + 1]? = some (.cells (BA (256 ^ k - 1)) 24 (0, 0)) ∧ Below w.heap.size w v) (fun i _ => 32 - (intOf i).toNat)
  case atStart => exact ⟨0, by omega, rfl, gz, ge, hB⟩
  case round =>
    clear gz ge hB
    obtain ⟨k, hk, rfl, gz, ge, hB⟩ := hrel
    by_cases hlt : k < 32
    · have cs := (cell_of_row wr _ k _ _ _ ge).trans (BA_get _ k hlt)
      have fs := frozen_of_row wr _ k _ _ ge
      go_wp2
      exact ⟨⟨k + 1, by omega, by go_num, (heap_setCell_other _ _ _ _ (by simp <;> omega)).trans gz, by rw [← ones_step k hlt]; exact heap_setCell_same _ _ _ _ _ _ ge,
        Below.setCell hB (by simp) _⟩, by simp [intOf]; omega⟩
    · have hk2 : k = 32 := by omega
      subst hk2
      have cs := (cell_of_row wr _ 0 _ _ _ ge).trans (BA_get _ 0 (by omega))
      have fs := frozen_of_row wr _ 0 _ _ ge
      have cs2 := (cell_of_row wr _ 31 _ _ _ ge).trans (BA_get _ 31 (by omega))
      have fs2 := frozen_of_row wr _ 31 _ _ ge
      go_wp2_with (first | (refine ld_bytes rfl _ rfl _ _ rfl (heap_setCell_same _ _ _ _ _ _ (heap_setCell_same _ _ _ _ _ _ ge)) (by simp [BA_size]) ?_; rw [less_end]) | (refine st_bytes rfl _ _ rfl _ _ rfl rfl _ ((heap_setCell_other _ _ _ _ (by simp)).trans ((heap_setCell_other _ _ _ _ (by simp)).trans gz)) (BA_size _) ?_; intro v3 g3 o3))
      exact bodyPost_ret (v := .agg (BA (P255 - 2))) (results_cell_row rfl _ _ _ _ _ _ _ rfl g3 Tryd.underlying24 rfl (by rw [BA_size]; exact info32)) rfl
        ⟨rfl, Below.trans (Below.setCell (Below.setCell hB (by simp) _) (by simp) _) (Only.below (b := w.heap.size) (B := w.heap.size) o3 (by omega))⟩
end Go.Proofs.YtgklkkjhoecdoaaDoor
