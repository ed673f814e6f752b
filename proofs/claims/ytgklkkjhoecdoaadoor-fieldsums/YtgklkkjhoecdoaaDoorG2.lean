/-
  Own text. What Of of package field answers, for every whole number of 64 bits: a contract over the translation.
-/
import Derived.Test.YtgklkkjhoecdoaaDoorG1
import Derived.Test.YtgklkkjhoecdoaaDoorF6
namespace Go.Proofs.YtgklkkjhoecdoaaDoor
open Go.RowKit Go.Proofs
theorem neg_wrap (n : Int) (h0 : -9223372036854775808 ≤ n) (h1 : n < 0) : IntKind.u64.wrap (-IntKind.u64.wrap n) = -n := by
  rw [IntKind.wrap_u64, IntKind.wrap_u64]; omega
theorem pos_wrap (n : Int) (h0 : 0 ≤ n) (h1 : n < 9223372036854775808) : IntKind.u64.wrap n = n := by
  rw [IntKind.wrap_u64]; omega
theorem V4_one (n : Int) : V4 n 0 0 0 = n := by unfold V4; omega
theorem neg_mod {n z : Int} (h : z = P255 - (-n)) : z % P255 = n % P255 := by
  rw [h, show P255 - (-n) = n + P255 by omega, Int.add_emod_right]
set_option maxHeartbeats 1000000 in
theorem of_any (n : Int) (w : World) (hP : PrimeAt w) (h0 : -9223372036854775808 ≤ n) (h1 : n < 9223372036854775808) :
    Calls Tryd.prog 21 #[.int .i64 n] w fun e w' => e = .returned (.agg (BA (n % P255))) ∧ Below w.heap.size w w' := by
  have hp0 := primeAt_pos hP
  have HP := Hid.mk hP
  clear hP
  by_cases hn : n < 0
  · have hw := neg_wrap n h0 hn
    go_enter Tryd.func21, Tryd.ntmps21
    go_wp2_with fail
    refine (opposite_any _ _ _ _ _ (primeAt_below HP.out ((Below.refl _ _).alloc (Nat.le_refl _) _) hp0) (by unfold U64; omega) u64_0 u64_0 u64_0 (by rw [V4_one]; unfold P255; omega)).mono ?_
    rintro e w1 ⟨z0, z1, z2, z3, hz0, hz1, hz2, hz3, ez, rfl, hb1⟩
    have g1 := bheap hb1 (heap_alloc_new w _) (by simp <;> omega)
    have hB1 : Hid (Below w.heap.size w w1) := Below.trans ((Below.refl _ _).alloc (Nat.le_refl _) _) (hb1.mono (by simp <;> omega))
    have EZ := Hid.mk ez
    clear hb1 ez
    go_wp2_with fail
    refine (store_any _ _ _ _ _ hz0 hz1 hz2 hz3).mono ?_
    rintro e w2 ⟨rfl, hb2⟩
    have g2 := bheap hb2 g1 (heap_lt g1)
    have hB2 : Hid (Below w.heap.size w w2) := Below.trans hB1.out (hb2.mono hB1.out.size)
    clear hb2 g1
    go_wp2_with (refine st_bytes rfl _ _ rfl _ _ rfl rfl _ g2 rfl ?_; intro w3 g3 o3)
    refine bodyPost_ret (v := .agg (BA (n % P255))) ?_ rfl ⟨rfl, Below.trans hB2.out (Only.below (b := w.heap.size) (B := w.heap.size) o3 (by omega))⟩
    have ez := EZ.out
    rw [V4_one] at ez
    rw [neg_mod ez] at g3
    exact results_cell_row rfl _ _ _ _ _ _ _ rfl g3 Tryd.underlying24 rfl (by rw [BA_size]; exact info32)
  · have hw := pos_wrap n (by omega) h1
    go_enter Tryd.func21, Tryd.ntmps21
    go_wp2_with fail
    refine (store_any _ _ _ _ _ (by unfold U64; omega) u64_0 u64_0 u64_0).mono ?_
    rintro e w2 ⟨rfl, hb2⟩
    have g2 := bheap hb2 (heap_alloc_new w _) (by simp <;> omega)
    have hB2 : Hid (Below w.heap.size w w2) := Below.trans ((Below.refl _ _).alloc (Nat.le_refl _) _) (hb2.mono (by simp <;> omega))
    clear hb2
    go_wp2_with (refine st_bytes rfl _ _ rfl _ _ rfl rfl _ g2 rfl ?_; intro w3 g3 o3)
    refine bodyPost_ret (v := .agg (BA (n % P255))) ?_ rfl ⟨rfl, Below.trans hB2.out (Only.below (b := w.heap.size) (B := w.heap.size) o3 (by omega))⟩
    rw [V4_one] at g3
    exact results_cell_row rfl _ _ _ _ _ _ _ rfl g3 Tryd.underlying24 rfl (by rw [BA_size]; exact info32)
end Go.Proofs.YtgklkkjhoecdoaaDoor
