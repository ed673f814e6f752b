/-
  Own text. What plus of package field answers, for every two numbers of four words: a contract over the translation.
-/
import Derived.Test.YtgklkkjhoecdoaaDoorF4
import Derived.BigRegion
namespace Go.Proofs.YtgklkkjhoecdoaaDoor
open Go.RowKit Go.Proofs
theorem add64_all {x y c : Int} (hx : U64 x) (hy : U64 y) (hc : Bit c) :
    ∃ lo hi, Sum3 x y c lo hi ∧ ∀ w, (callFunc 38 #[.int .u64 x, .int .u64 y, .int .u64 c]).run Tryd.prog w =
      .ok (.value (.tuple #[.int .u64 lo, .int .u64 hi])) w := by
  obtain ⟨lo, hi, hs, _⟩ := add64_run x y c hx hy hc default
  refine ⟨lo, hi, hs, fun w => ?_⟩
  obtain ⟨lo', hi', hs', e⟩ := add64_run x y c hx hy hc w
  have e1 : lo' = lo ∧ hi' = hi := by unfold Sum3 U64 Bit at hs hs'; omega
  rw [e, e1.1, e1.2]
theorem heap_a3 (w : World) (A B C : Obj) : (((w.alloc A).alloc B).alloc C).heap[w.heap.size + 1 + 1]? = some C := by
  have := heap_alloc_new ((w.alloc A).alloc B) C
  simpa using this
theorem bit_range {c : Int} (h : Bit c) : 0 ≤ c ∧ c ≤ 1 := by unfold Bit at h; omega
theorem plus_num {x0 x1 x2 x3 y0 y1 y2 y3 z0 z1 z2 z3 c0 c1 c2 c3 : Int} (s0 : Sum3 x0 y0 0 z0 c0) (s1 : Sum3 x1 y1 c0 z1 c1) (s2 : Sum3 x2 y2 c1 z2 c2) (s3 : Sum3 x3 y3 c2 z3 c3) :
    V4 z0 z1 z2 z3 + W256 * c3 = V4 x0 x1 x2 x3 + V4 y0 y1 y2 y3 := by
  unfold Sum3 at s0 s1 s2 s3
  unfold V4 W256
  omega
set_option maxHeartbeats 1000000 in
theorem plus_any (x0 x1 x2 x3 y0 y1 y2 y3 : Int) (w : World) (h0 : U64 x0) (h1 : U64 x1) (h2 : U64 x2) (h3 : U64 x3) (k0 : U64 y0) (k1 : U64 y1) (k2 : U64 y2) (k3 : U64 y3) :
    Calls Tryd.prog 28 #[.agg #[.int .u64 x0, .int .u64 x1, .int .u64 x2, .int .u64 x3], .agg #[.int .u64 y0, .int .u64 y1, .int .u64 y2, .int .u64 y3]] w fun e w' =>
      ∃ z0 z1 z2 z3, U64 z0 ∧ U64 z1 ∧ U64 z2 ∧ U64 z3 ∧ (∃ k : Int, V4 z0 z1 z2 z3 = V4 x0 x1 x2 x3 + V4 y0 y1 y2 y3 + k * P255) ∧
        e = .returned (.agg #[.int .u64 z0, .int .u64 z1, .int .u64 z2, .int .u64 z3]) ∧ Below w.heap.size w w' := by
  obtain ⟨z0, c0, s0, r0⟩ := add64_all h0 k0 bit0
  obtain ⟨z1, c1, s1, r1⟩ := add64_all h1 k1 s0.hi
  obtain ⟨z2, c2, s2, r2⟩ := add64_all h2 k2 s1.hi
  obtain ⟨z3, c3, s3, r3⟩ := add64_all h3 k3 s2.hi
  go_enter Tryd.func28, Tryd.ntmps28
  go_wp2
  refine wp_loop_rounds 5 ?_
  rw [rounds_succ]
  go_wp2
  go_region
  go_wp2
  rw [rounds_succ]
  go_wp2
  go_region
  go_wp2
  rw [rounds_succ]
  go_wp2
  go_region
  go_wp2
  rw [rounds_succ]
  go_wp2
  go_region
  go_wp2
  rw [rounds_succ]
  clear r0 r1 r2 r3
  have hc := bit_range s3.hi
  have hc0 := hc.1
  have hc1 := hc.2
  go_wp2_with fail
  refine (fold_any _ _ _ _ _ _ s0.lo s1.lo s2.lo s3.lo (by omega) (by omega)).mono ?_
  rintro e w1 ⟨q0, q1, q2, q3, hq0, hq1, hq2, hq3, ⟨k, ek⟩, rfl, hb1⟩
  have g4 := bheap hb1 (heap_a3 w _ _ _) (by simp <;> omega)
  have hB1 : Hid (Below w.heap.size w w1) := by
    refine Below.trans ?_ (hb1.mono (by simp <;> omega))
    repeat first | exact Below.refl _ _ | refine Below.alloc ?_ (by simp <;> omega) _ | refine Below.drew ?_ | refine Below.drewN' ?_ _
  clear hb1
  have EK := Hid.mk ek
  clear ek
  go_wp2_with (refine st_limbs rfl _ _ rfl _ _ _ _ _ rfl rfl _ _ _ _ g4 ?_; intro w2 g5 o5)
  refine bodyPost_ret (v := .agg #[.int .u64 q0, .int .u64 q1, .int .u64 q2, .int .u64 q3]) (results_cell_row rfl _ _ _ _ _ _ _ rfl g5 Tryd.underlying38 rfl (by kernel_rfl)) rfl
    ⟨q0, q1, q2, q3, hq0, hq1, hq2, hq3, ⟨k, ?_⟩, rfl, Below.trans hB1.out (Only.below (b := w.heap.size + 1 + 1) (B := w.heap.size) o5 (by omega))⟩
  rw [EK.out, plus_num s0 s1 s2 s3]
end Go.Proofs.YtgklkkjhoecdoaaDoor
