/-
  Own text. What plusProduct of package field answers, for every four words: a contract over the translation.
-/
import Derived.Test.YtgklkkjhoecdoaaDoorF6
namespace Go.Proofs.YtgklkkjhoecdoaaDoor
open Go.RowKit Go.Proofs
/-- lo and hi are the low and the high word of a + b + x * y. -/
def Prod4 (a b x y lo hi : Int) : Prop := U64 lo ∧ U64 hi ∧ lo + 18446744073709551616 * hi = a + b + x * y
theorem Prod4.lo {a b x y lo hi : Int} (h : Prod4 a b x y lo hi) : U64 lo := h.1
theorem Prod4.hi {a b x y lo hi : Int} (h : Prod4 a b x y lo hi) : U64 hi := h.2.1
theorem mul_bound {x y : Int} (hx : U64 x) (hy : U64 y) : 0 ≤ x * y ∧ x * y ≤ 340282366920938463426481119284349108225 := by
  unfold U64 at hx hy
  refine ⟨Int.mul_nonneg hx.1 hy.1, ?_⟩
  have := Int.mul_le_mul (show x ≤ 18446744073709551615 by omega) (show y ≤ 18446744073709551615 by omega) hy.1 (by omega)
  omega
set_option maxHeartbeats 1000000 in
theorem plusProduct_all {a b x y : Int} (ha : U64 a) (hb : U64 b) (hx : U64 x) (hy : U64 y) : ∃ lo hi, Prod4 a b x y lo hi ∧ ∀ w,
    Calls Tryd.prog 42 #[.int .u64 a, .int .u64 b, .int .u64 x, .int .u64 y] w fun e w' => e = .returned (.tuple #[.int .u64 lo, .int .u64 hi]) ∧ w' = w := by
  have hm := mul_bound hx hy
  have hH : U64 (x * y / 18446744073709551616) := by unfold U64; omega
  have hL : U64 (x * y % 18446744073709551616) := by unfold U64; omega
  obtain ⟨l1, c1, s1, r1⟩ := add64_all hL ha bit0
  obtain ⟨l2, c2, s2, r2⟩ := add64_all s1.lo hb bit0
  have M := Hid.mk (fun w => mul64_any x y w hx hy)
  have hi : Prod4 a b x y l2 (x * y / 18446744073709551616 + c1 + c2) := by
    unfold Sum3 U64 Bit at *
    unfold Prod4 U64
    generalize x * y = z at *
    omega
  have w1 : IntKind.u64.wrap (x * y / 18446744073709551616 + c1) = x * y / 18446744073709551616 + c1 := by
    rw [IntKind.wrap_u64]; unfold Prod4 Sum3 U64 Bit at *; generalize x * y = z at *; omega
  have w2 : IntKind.u64.wrap (x * y / 18446744073709551616 + c1 + c2) = x * y / 18446744073709551616 + c1 + c2 := by
    rw [IntKind.wrap_u64]; unfold Prod4 Sum3 U64 Bit at *; generalize x * y = z at *; omega
  refine ⟨l2, _, hi, fun w => ?_⟩
  clear hi hm hH hL s1 s2
  generalize x * y / 18446744073709551616 = h at *
  generalize x * y % 18446744073709551616 = l at *
  go_enter Tryd.func42, Tryd.ntmps42
  go_wp2_with (go_at_call 47; refine (M.out _).mono ?_; rintro e w' ⟨rfl, rfl⟩)
  go_ret2
  exact ⟨rfl, rfl⟩
end Go.Proofs.YtgklkkjhoecdoaaDoor
