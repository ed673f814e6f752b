/-
  Own text. What Of of the document's answer gives.
-/
import Derived.Test.YtgklkkjhoecdoaaDoorK10
import Derived.Test.YtgklkkjhoecdoaaDoorI3
import Derived.Test.YtgklkkjhoecdoaaDoorP1
namespace Go.Proofs.YtgklkkjhoecdoaaDoor
open Go.RowKit Go.Proofs
theorem dig4 (w : World) (a b c d : Int) : Dig (w.alloc (.cells #[.int .i64 a, .int .i64 b, .int .i64 c, .int .i64 d] 3)) w.heap.size w.heap.size 4 [a, b, c, d] :=
  World.ownsRow_lit (base := w.heap.size) (e := 3) (size := 1) w #[.int .i64 a, .int .i64 b, .int .i64 c, .int .i64 d] 4 (Nat.le_refl _) (by unfold maxLen; omega) rfl
theorem dig41 (w : World) (o : Obj) (a b c d : Int) : Dig ((w.alloc o).alloc (.cells #[.int .i64 a, .int .i64 b, .int .i64 c, .int .i64 d] 3)) (w.heap.size + 1) (w.heap.size + 1) 4 [a, b, c, d] := by
  have h := dig4 (w.alloc o) a b c d
  have e : (w.alloc o).heap.size = w.heap.size + 1 := by simp
  rwa [e] at h
theorem of_neg {n m : Int} (h : m = -(n + 1)) : ((0 - m % P255) % P255 - 1 % P255) % P255 = n % P255 := by
  rw [← Int.sub_emod, Int.emod_def m P255, show 0 - (m - P255 * (m / P255)) - 1 = n + P255 * (m / P255) by generalize P255 * (m / P255) = q; omega, Int.add_mul_emod_self_left]
theorem of_digits {n : Int} (h0 : 0 ≤ n) (h1 : n < 9223372036854775808) : val [n % 65536, n / 65536 % 65536, n / 65536 / 65536 % 65536, n / 65536 / 65536 / 65536] = n ∧
    Dgs 4398046511104 [n % 65536, n / 65536 % 65536, n / 65536 / 65536 % 65536, n / 65536 / 65536 / 65536] := by
  refine ⟨by simp only [val]; omega, ?_⟩
  intro d hd
  simp only [List.mem_cons, List.not_mem_nil, or_false] at hd
  rcases hd with rfl | rfl | rfl | rfl <;> omega
set_option maxHeartbeats 1000000 in
theorem rof_pos (n : Int) (w : World) (h0 : 0 ≤ n) (h1 : n < 9223372036854775808) :
    Calls Tryd.prog 22 #[.int .i64 n] w fun e w' => e = .returned (.agg (BA (n % P255))) ∧ Below w.heap.size w w' := by
  have HV := Hid.mk (of_digits h0 h1).1
  have HD := Hid.mk (of_digits h0 h1).2
  go_enter Tryd.func22, Tryd.ntmps22
  go_wp2_with fail
  refine (Rest_len (m := 4) rfl (by omega) (dig41 w _ _ _ _ _) HD.out).mono ?_
  rintro e v1 ⟨rfl, hb1⟩
  rw [HV.out]
  have gz := bheap hb1 (heap_alloc2_old w _ _) (by simp <;> omega)
  have hB := Below.trans (((Below.refl _ w).alloc (Nat.le_refl _) _).alloc (by simp) _) (hb1.mono (by simp; omega))
  clear hb1
  go_wp2_with (refine st_bytesS (by rfl) (by rfl) gz (by rfl) ?_; intro v3 g3 o3)
  exact bodyPost_ret (v := .agg (BA (n % P255))) (results_cell_row rfl _ _ _ _ _ _ _ rfl g3 Tryd.underlying24 rfl (by rw [BA_size]; exact info32)) rfl
    ⟨rfl, Below.trans hB (Only.below (b := w.heap.size) (B := w.heap.size) o3 (by omega))⟩
set_option maxHeartbeats 1000000 in
theorem rof_any (n : Int) (w : World) (h0 : -9223372036854775808 ≤ n) (h1 : n < 9223372036854775808) :
    Calls Tryd.prog 22 #[.int .i64 n] w fun e w' => e = .returned (.agg (BA (n % P255))) ∧ Below w.heap.size w w' := by
  by_cases hn : 0 ≤ n
  · exact rof_pos n w hn h1
  · obtain ⟨m, hm⟩ : ∃ m, m = -(n + 1) := ⟨_, rfl⟩
    have HN := Hid.mk (of_neg hm)
    have hm0 : 0 ≤ m := by omega
    have hm1 : m < 9223372036854775808 := by omega
    have hnm : n = -m - 1 := by omega
    clear hm
    go_enter Tryd.func22, Tryd.ntmps22
    go_wp2_with (refine wl_value rfl (exec_build0 rfl) ?_)
    refine (rof_pos m _ hm0 hm1).mono ?_
    rintro e v1 ⟨rfl, hb1⟩
    have gz := bheap hb1 (heap_alloc_new w _) (by simp)
    have hB := Below.trans ((Below.refl _ w).alloc (Nat.le_refl _) _) (hb1.mono (by simp))
    clear hb1
    go_wp2_with fail
    refine (rsub_any 0 _ _ N256_0 (N256.mod _)).mono ?_
    rintro e v2 ⟨rfl, hb2⟩
    have gz := bheap hb2 gz (heap_lt gz)
    have hB := Below.trans hB (hb2.mono hB.size)
    clear hb2
    generalize hz : (0 - m % P255) % P255 = z at *
    have NZ : N256 z := hz ▸ N256.mod _
    clear hz
    go_wp2_with fail
    refine (rof_pos 1 _ (by omega) (by omega)).mono ?_
    rintro e v3 ⟨rfl, hb3⟩
    have gz := bheap hb3 gz (heap_lt gz)
    have hB := Below.trans hB (hb3.mono hB.size)
    clear hb3
    go_wp2_with fail
    refine (rsub_any _ _ _ NZ (N256.mod _)).mono ?_
    rintro e v4 ⟨rfl, hb4⟩
    have gz := bheap hb4 gz (heap_lt gz)
    have hB := Below.trans hB (hb4.mono hB.size)
    clear hb4
    rw [HN.out]
    go_wp2_with (refine st_bytesS (by rfl) (by rfl) gz (by rfl) ?_; intro v5 g5 o5)
    rw [← hnm] at g5
    exact bodyPost_ret (v := .agg (BA (n % P255))) (results_cell_row rfl _ _ _ _ _ _ _ rfl g5 Tryd.underlying24 rfl (by rw [BA_size]; exact info32)) rfl
      ⟨rfl, Below.trans hB (Only.below (b := w.heap.size) (B := w.heap.size) o5 (by omega))⟩
end Go.Proofs.YtgklkkjhoecdoaaDoor
