/-
  Own text. What plus of package poly answers: a contract over the translation.
-/
import Derived.Test.YtfbeclleeehaaaaN2
namespace Go.Proofs.Ytfbeclleeehaaaa
open Go.RowKit Go.Proofs
set_option maxHeartbeats 4000000 in
theorem pplus_run (x y : Nat → Int) (w : World) (hx : Dg 4611686018427387904 5 x) (hy : Dg 4611686018427387904 5 y) :
    Calls Try.prog 23 #[.agg (WA .u64 5 x), .agg (WA .u64 5 y)] w fun e w' => e = .returned (.agg (WA .u64 5 fun i => x i + y i)) ∧ Below w.heap.size w w' := by
  have g0 : ArrAt (((w.alloc (.cells (WA .u64 5 x) 40)).alloc (.cells (WA .u64 5 y) 40)).alloc (.cells (WA .u64 5 fun _ => 0) 40)) w.heap.size .u64 40 5 x := heap_a31 w _ _ _
  have g1 : ArrAt (((w.alloc (.cells (WA .u64 5 x) 40)).alloc (.cells (WA .u64 5 y) 40)).alloc (.cells (WA .u64 5 fun _ => 0) 40)) (w.heap.size + 1) .u64 40 5 y := heap_a32 w _ _ _
  have g2 : ArrAt (((w.alloc (.cells (WA .u64 5 x) 40)).alloc (.cells (WA .u64 5 y) 40)).alloc (.cells (WA .u64 5 fun _ => 0) 40)) (w.heap.size + 1 + 1) .u64 40 5 (fun _ => 0) := heap_a3 w _ _ _
  have hB : Below w.heap.size w (((w.alloc (.cells (WA .u64 5 x) 40)).alloc (.cells (WA .u64 5 y) 40)).alloc (.cells (WA .u64 5 fun _ => 0) 40)) := (((Below.refl _ w).alloc (by simp) _).alloc (by simp) _).alloc (by simp; omega) _
  go_enter Try.func23, Try.ntmps23
  go_wp2_with fail
  go_loopg [6] 5 (fun gm iv v => ∃ i : Nat, Hid (gm + i = 5) ∧ iv = .int .i64 (i : Int) ∧ ArrAt v w.heap.size .u64 40 5 (qadd x y i) ∧ ArrAt v (w.heap.size + 1) .u64 40 5 y ∧ ArrAt v (w.heap.size + 1 + 1) .u64 40 5 (fun _ => 0) ∧ Below w.heap.size w v)
  case atStart => exact ⟨0, Hid.mk rfl, rfl, g0.congr (fun j _ => by unfold qadd; rw [if_neg (by omega)]), g1, g2, hB⟩
  case round =>
    clear g0 g1 g2 hB
    obtain ⟨i, HI, rfl, g0, g1, g2, hB⟩ := hrel
    have hi5 : i ≤ 5 := by have := HI.out; omega
    by_cases hil : i < 5
    · have ck := g0.cell i (by omega)
      have fr := g0.free i
      have cy := g1.cell i (by omega)
      have hxi := hx i hil
      have hyi := hy i hil
      have e0 : qadd x y i i = x i := by unfold qadd; rw [if_neg (by omega)]
      rw [e0] at ck
      have hw := w64 (z := x i + y i) (by omega) (by omega)
      have HS := Hid.mk (qadd_step x y i)
      rw [e0] at HS
      clear e0
      go_wp2_with fail
      go_region
      go_wp2_with fail
      go_roundg (5 - (i + 1))
      case rel =>
        refine ⟨i + 1, Hid.mk (by omega), by go_num, ?_, g1.other _ (by omega), g2.other _ (by omega), (Below.setCell hB (by simp) _).drew⟩
        rw [← HS.out]
        exact g0.set i _ hil
      case measure => have := HI.out; omega
    · have hi2 : i = 5 := by omega
      subst hi2
      replace g0 := g0.congr (s' := fun i => x i + y i) (fun j hj => by unfold qadd; rw [if_pos hj])
      go_wp2_with (first | refine ld_arr isL g0 (by rfl) ?_ | (refine st_arr isL g2 (by rfl) (by rfl) ?_; intro w2 g3 o2; refine Hid.out ?_))
      refine Hid.mk ?_
      go_wp2_with fail
      refine bodyPost_ret (v := .agg (WA .u64 5 fun i => x i + y i)) (res_arr Try.results23 isL g3 (by rfl)) rfl ⟨rfl, ?_⟩
      exact hB.trans (o2.below (by omega))
end Go.Proofs.Ytfbeclleeehaaaa
