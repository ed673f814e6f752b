/-
  Own text. What carried of package poly answers: a contract over the translation.
-/
import Derived.Test.YtfbeclleeehaaaaN1
import Derived.Laws.Bits64b
namespace Go.Proofs.Ytfbeclleeehaaaa
open Go.RowKit Go.Proofs
theorem isL : IsArr 40 5 := ⟨_, _, Try.underlying40, by kernel_rfl⟩
theorem isS2 : IsArr 41 2 := ⟨_, _, Try.underlying41, by kernel_rfl⟩
theorem isW10 : IsArr 59 10 := ⟨_, _, Try.underlying59, by kernel_rfl⟩
theorem isM17 : IsArr 62 17 := ⟨_, _, Try.underlying62, by kernel_rfl⟩
theorem w64 {z : Int} (h0 : 0 ≤ z) (h1 : z < 18446744073709551616) : IntKind.u64.wrap z = z := by rw [IntKind.wrap_u64]; omega
theorem and26 {z : Int} (h0 : 0 ≤ z) (h1 : z < 18446744073709551616) : bits BinOp.and IntKind.u64 z 67108863 = z % 67108864 := by
  obtain ⟨n, rfl⟩ := Int.eq_ofNat_of_zero_le h0
  rw [show (67108863 : Int) = ((67108863 : Nat) : Int) from rfl, bits_and_u64_nat _ _ (by omega) (by omega)]
  have := Nat.and_two_pow_sub_one_eq_mod n 26
  rw [show (2 ^ 26 - 1 : Nat) = 67108863 from rfl] at this
  rw [this]
  omega
/-- What carried has done by round i. -/
def cpart (x : Nat → Int) (i j : Nat) : Int := if j < i then cd x j else x j
theorem cpart_step (x : Nat → Int) (i : Nat) : upd (cpart x i) i (cd x i) = cpart x (i + 1) := by
  funext j
  unfold upd cpart
  by_cases e : j = i
  · subst e; simp
  · rw [if_neg e]
    by_cases h : j < i
    · rw [if_pos h, if_pos (by omega)]
    · rw [if_neg h, if_neg (by omega)]
set_option maxHeartbeats 4000000 in
theorem pcarried_run (x : Nat → Int) (w : World) (hx : Dg 9223372036854775808 5 x) :
    Calls Try.prog 28 #[.agg (WA .u64 5 x)] w fun e w' => e = .returned (.tuple #[.agg (WA .u64 5 (cd x)), .int .u64 (cc x 5)]) ∧ Below w.heap.size w w' := by
  have g0 : ArrAt ((w.alloc (.cells (WA .u64 5 x) 40)).alloc (.cells (WA .u64 5 fun _ => 0) 40)) w.heap.size .u64 40 5 x := heap_alloc2_old w _ _
  have g1 : ArrAt ((w.alloc (.cells (WA .u64 5 x) 40)).alloc (.cells (WA .u64 5 fun _ => 0) 40)) (w.heap.size + 1) .u64 40 5 (fun _ => 0) := heap_alloc2_new w _ _
  have hB : Below w.heap.size w ((w.alloc (.cells (WA .u64 5 x) 40)).alloc (.cells (WA .u64 5 fun _ => 0) 40)) := ((Below.refl _ w).alloc (by simp) _).alloc (by simp) _
  go_enter Try.func28, Try.ntmps28
  go_wp2_with fail
  go_loopg [4, 6] 5 (fun gm cv iv v => ∃ i : Nat, Hid (gm + i = 5) ∧ iv = .int .i64 (i : Int) ∧ cv = .int .u64 (cc x i) ∧ ArrAt v w.heap.size .u64 40 5 (cpart x i) ∧ ArrAt v (w.heap.size + 1) .u64 40 5 (fun _ => 0) ∧ Below w.heap.size w v)
  case atStart => exact ⟨0, Hid.mk rfl, rfl, rfl, g0, g1, hB⟩
  case round =>
    clear g0 g1 hB
    obtain ⟨i, HI, rfl, rfl, g0, g1, hB⟩ := hrel
    have hi5 : i ≤ 5 := by have := HI.out; omega
    by_cases hil : i < 5
    · have ck := g0.cell i (by omega)
      have fr := g0.free i
      have hxi := hx i hil
      have hci := cc_b hx i hi5
      have e0 : cpart x i i = x i := by unfold cpart; rw [if_neg (by omega)]
      rw [e0] at ck
      have hw := w64 (z := x i + cc x i) (by omega) (by omega)
      have ha := and26 (z := x i + cc x i) (by omega) (by omega)
      go_wp2_with fail
      go_roundg (5 - (i + 1))
      case rel =>
        refine ⟨i + 1, Hid.mk (by omega), by go_num, rfl, ?_, (g1.other _ (by omega)).other _ (by omega), Below.setCell (Below.setCell hB (by simp) _) (by simp) _⟩
        rw [← cpart_step x i, ← upd_upd _ i (x i + cc x i)]
        exact (g0.set i _ hil).set i _ hil
      case measure => have := HI.out; omega
    · have hi2 : i = 5 := by omega
      subst hi2
      replace g0 := g0.congr (s' := cd x) (fun j hj => by unfold cpart; rw [if_pos hj])
      go_wp2_with (first | refine ld_arr isL g0 (by rfl) ?_ | (refine st_arr isL g1 (by rfl) (by rfl) ?_; intro w2 g2 o2; refine Hid.out ?_))
      refine Hid.mk ?_
      go_wp2_with fail
      refine bodyPost_ret (v := .tuple #[.agg (WA .u64 5 (cd x)), .int .u64 (cc x 5)]) (results_cellt Try.results28 _ _ (w.heap.size + 1) (by rfl) (by rfl) (WA .u64 5 (cd x)) g2 (by kernel_rfl) Try.underlying40 rfl) rfl ⟨rfl, ?_⟩
      exact hB.trans (o2.below (by omega))
end Go.Proofs.Ytfbeclleeehaaaa
