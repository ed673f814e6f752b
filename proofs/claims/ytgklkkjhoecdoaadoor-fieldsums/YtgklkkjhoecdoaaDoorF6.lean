/-
  Own text. What math/bits.Mul64, math/bits.Sub64 and opposite of package field answer: contracts over the translation.
-/
import Derived.Test.YtgklkkjhoecdoaaDoorF5
import Derived.Shelf.Spec.BitsCarry
namespace Go.Proofs.YtgklkkjhoecdoaaDoor
open Go.RowKit Go.Proofs
theorem mul64_hi (x y : Int) (hx : U64 x) (hy : U64 y) :
    IntKind.u64.wrap
      (IntKind.u64.wrap
          (IntKind.u64.wrap (x / 4294967296 * (y / 4294967296)) +
            IntKind.u64.wrap
                (IntKind.u64.wrap (x / 4294967296 * bits BinOp.and IntKind.u64 y 4294967295) +
                  IntKind.u64.wrap (bits BinOp.and IntKind.u64 x 4294967295 * bits BinOp.and IntKind.u64 y 4294967295) / 4294967296) /
              4294967296) +
        IntKind.u64.wrap
            (bits BinOp.and IntKind.u64
                (IntKind.u64.wrap
                  (IntKind.u64.wrap (x / 4294967296 * bits BinOp.and IntKind.u64 y 4294967295) +
                    IntKind.u64.wrap (bits BinOp.and IntKind.u64 x 4294967295 * bits BinOp.and IntKind.u64 y 4294967295) / 4294967296))
                4294967295 +
              IntKind.u64.wrap (bits BinOp.and IntKind.u64 x 4294967295 * (y / 4294967296))) /
          4294967296) = x * y / 18446744073709551616 := by
  rw [and_low32 x hx.1 hx.2, and_low32 y hy.1 hy.2]
  simp only [IntKind.wrap_u64]
  rw [and_low32 (_ % 18446744073709551616) (by omega) (by omega)]
  exact mul64_arith x y hx.1 hx.2 hy.1 hy.2
theorem ret_two {k : IntKind} {a b c d : Int} (h : a = b) (h' : c = d) : Ending.returned (.tuple #[.int k a, .int k c]) = .returned (.tuple #[.int k b, .int k d]) := by rw [h, h']
set_option maxHeartbeats 1000000 in
theorem mul64_any (x y : Int) (w : World) (hx : U64 x) (hy : U64 y) :
    Calls Tryd.prog 47 #[.int .u64 x, .int .u64 y] w fun e w' => e = .returned (.tuple #[.int .u64 (x * y / 18446744073709551616), .int .u64 (x * y % 18446744073709551616)]) ∧ w' = w := by
  have H := Hid.mk (mul64_hi x y hx hy)
  go_enter Tryd.func47, Tryd.ntmps47
  go_wp2
  go_ret2
  exact ⟨ret_two H.out (IntKind.wrap_u64 _), rfl⟩
/-- lo and hi are the low word and the borrow of x - y - b. -/
def Dif3 (x y b lo hi : Int) : Prop := U64 lo ∧ Bit hi ∧ lo = x - y - b + 18446744073709551616 * hi
theorem Dif3.lo {x y c lo hi : Int} (h : Dif3 x y c lo hi) : U64 lo := h.1
theorem Dif3.hi {x y c lo hi : Int} (h : Dif3 x y c lo hi) : Bit hi := h.2.1
theorem sub64_all {x y b : Int} (hx : U64 x) (hy : U64 y) (hb : Bit b) :
    ∃ lo hi, Dif3 x y b lo hi ∧ ∀ w, (callFunc 45 #[.int .u64 x, .int .u64 y, .int .u64 b]).run Tryd.prog w =
      .ok (.value (.tuple #[.int .u64 lo, .int .u64 hi])) w := by
  unfold U64 at hx hy
  unfold Bit at hb
  obtain ⟨X, rfl⟩ := Int.eq_ofNat_of_zero_le hx.1
  obtain ⟨Y, rfl⟩ := Int.eq_ofNat_of_zero_le hy.1
  obtain ⟨B, rfl⟩ := Int.eq_ofNat_of_zero_le (show 0 ≤ b by omega)
  refine ⟨(((X + 18446744073709551616 - Y - B) % 18446744073709551616 : Nat) : Int), ((if X < Y + B then 1 else 0 : Nat) : Int), ?_, fun w => ?_⟩
  · unfold Dif3 U64 Bit
    split <;> omega
  · rw [run_callFunc_extern Tryd.func45 (by kernel_rfl) (by kernel_rfl) (by kernel_rfl) (e := sub64Entry) (by kernel_rfl), run_sub64 X Y B (by omega)]
    rfl
/-- The cells of the package's variable 'prime'. -/
def PrimeAt (w : World) : Prop := w.cell? ⟨0, 0, none⟩ = some (.int .u64 18446744073709551597) ∧ w.cell? ⟨0, 1, none⟩ = some (.int .u64 18446744073709551615) ∧
  w.cell? ⟨0, 2, none⟩ = some (.int .u64 18446744073709551615) ∧ w.cell? ⟨0, 3, none⟩ = some (.int .u64 9223372036854775807)
theorem primeAt_below {B : Nat} {w w' : World} (h : PrimeAt w) (hb : Below B w w') (hB : 0 < B) : PrimeAt w' :=
  ⟨(hb.cell hB).trans h.1, (hb.cell hB).trans h.2.1, (hb.cell hB).trans h.2.2.1, (hb.cell hB).trans h.2.2.2⟩
theorem primeAt_pos {w : World} (h : PrimeAt w) : 0 < w.heap.size := World.block_lt_of_cell? w _ h.1
theorem opp_num {x0 x1 x2 x3 z0 z1 z2 z3 b0 b1 b2 b3 : Int} (h0 : U64 x0) (h1 : U64 x1) (h2 : U64 x2) (h3 : U64 x3) (hx : V4 x0 x1 x2 x3 ≤ P255)
    (s0 : Dif3 18446744073709551597 x0 0 z0 b0) (s1 : Dif3 18446744073709551615 x1 b0 z1 b1) (s2 : Dif3 18446744073709551615 x2 b1 z2 b2) (s3 : Dif3 9223372036854775807 x3 b2 z3 b3) :
    V4 z0 z1 z2 z3 = P255 - V4 x0 x1 x2 x3 := by
  have hz := V4_range s0.lo s1.lo s2.lo s3.lo
  have hb := s3.hi
  unfold Dif3 at s0 s1 s2 s3
  have e : V4 z0 z1 z2 z3 = P255 - V4 x0 x1 x2 x3 + W256 * b3 := by unfold V4 P255 W256; omega
  have hv := V4_range h0 h1 h2 h3
  unfold Bit at hb
  generalize V4 z0 z1 z2 z3 = Z at *
  generalize V4 x0 x1 x2 x3 = X at *
  unfold P255 W256 at *
  rcases hb with rfl | rfl <;> omega
set_option maxHeartbeats 1000000 in
theorem opposite_any (x0 x1 x2 x3 : Int) (w : World) (hP : PrimeAt w) (h0 : U64 x0) (h1 : U64 x1) (h2 : U64 x2) (h3 : U64 x3) (hx : V4 x0 x1 x2 x3 ≤ P255) :
    Calls Tryd.prog 36 #[.agg #[.int .u64 x0, .int .u64 x1, .int .u64 x2, .int .u64 x3]] w fun e w' =>
      ∃ z0 z1 z2 z3, U64 z0 ∧ U64 z1 ∧ U64 z2 ∧ U64 z3 ∧ V4 z0 z1 z2 z3 = P255 - V4 x0 x1 x2 x3 ∧
        e = .returned (.agg #[.int .u64 z0, .int .u64 z1, .int .u64 z2, .int .u64 z3]) ∧ Below w.heap.size w w' := by
  obtain ⟨z0, c0, s0, r0⟩ := sub64_all (x := 18446744073709551597) (by unfold U64; omega) h0 bit0
  obtain ⟨z1, c1, s1, r1⟩ := sub64_all (x := 18446744073709551615) (by unfold U64; omega) h1 s0.hi
  obtain ⟨z2, c2, s2, r2⟩ := sub64_all (x := 18446744073709551615) (by unfold U64; omega) h2 s1.hi
  obtain ⟨z3, c3, s3, r3⟩ := sub64_all (x := 9223372036854775807) (by unfold U64; omega) h3 s2.hi
  have HX := Hid.mk hx
  clear hx
  have hw0 : 0 < w.heap.size := primeAt_pos hP
  obtain ⟨q0, q1, q2, q3⟩ := hP
  go_enter Tryd.func36, Tryd.ntmps36
  go_wp2
  refine wp_loop_rounds 5 ?_
  rw [rounds_succ]
  go_wp2
  go_region
  go_wp2
  rw [rounds_succ]
  go_wp2
  go_region
  go_wp2
  rw [rounds_succ]
  go_wp2
  go_region
  go_wp2
  rw [rounds_succ]
  go_wp2
  go_region
  go_wp2
  rw [rounds_succ]
  go_wp2
  refine bodyPost_ret (v := .agg #[.int .u64 z0, .int .u64 z1, .int .u64 z2, .int .u64 z3]) (by simp [results, Tryd.results36, go_sem]) rfl
    ⟨z0, z1, z2, z3, s0.lo, s1.lo, s2.lo, s3.lo, opp_num h0 h1 h2 h3 HX.out s0 s1 s2 s3, rfl, ?_⟩
  repeat first | exact Below.refl _ _ | refine Below.alloc ?_ (by simp <;> omega) _ | refine Below.drew ?_ | refine Below.drewN' ?_ _
end Go.Proofs.YtgklkkjhoecdoaaDoor
