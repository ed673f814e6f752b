/-
  Own text. The law FieldOf answers true at every input, walked over the translation.
-/
import Derived.Test.YtgklkkjhoecdoaaDoorO1
namespace Go.Proofs.YtgklkkjhoecdoaaDoor
open Go.RowKit Go.Proofs
theorem neq_same {a : Act} {o : Oper} {w : World} (x y : Operand) (t : TypeId) (ho : o.op = .binOp .neq 24 x y t) (m : Int) (hx : a.eval x = .agg (BA m)) (hy : a.eval y = .agg (BA m)) :
    (execOp a.eval o).run Tryd.prog w = .ok (.value (.bool false)) w := by
  unfold execOp
  simp only [ho, hx, hy, Sem.run_bind, run_eqGuard_agg w .neq 24 x y _ _ eqg24, Result.andThen_ok, run_neq_struct, equal_bytes m m 9998 w, Sem.run_pure]
  simp
def foF (i : Nat) : Nat := [1, 2, 0, 2].getD i 2
def foT (_i : Nat) : Bool := true
theorem of_next (n : Int) : (n % P255 + 1) % P255 = (n + 1) % P255 := by
  rw [Int.add_emod, Int.emod_emod, ← Int.add_emod]
set_option maxHeartbeats 1000000 in
set_option maxRecDepth 100000 in
theorem ofs_walk (n : Int) (w : World) (hP : PrimeAt w) (h0 : -9223372036854775808 ≤ n) (h1 : n < 9223372036854775808) :
    Calls Tryd.prog 5 #[.int .i64 n] w fun r w' => r = .returned (.bool true) ∧ Below w.heap.size w w' := by
  have hp0 := primeAt_pos hP
  have HP := Hid.mk hP
  have EN := Hid.mk (of_next n)
  clear hP
  go_enter Tryd.func5, Tryd.ntmps5
  go_wp2_with fail
  refine (of_any n _ HP.out h0 h1).mono ?_
  rintro r v1 ⟨rfl, hb1⟩
  have hB1 := hb1
  clear hb1
  generalize hA : n % P255 = A at *
  have NA : N256 A := hA ▸ N256.mod _
  have HA := Hid.mk hA
  clear hA
  go_wp2_with (refine st_bytesS (by rfl) (by rfl) (heap_alloc_new v1 _) (by rfl) ?_; intro v2 ga o2)
  have hB : Below w.heap.size w v2 := Below.trans (hB1.alloc hB1.size _) (Only.below (b := v1.heap.size) (B := w.heap.size) o2 hB1.size)
  clear o2 hB1
  generalize v1.heap.size = ba at *
  refine wp_region_mixS (fun v => v.heap[ba]? = some (.cells (BA A) 24 (0, 0)))
    foF foT [0, 1, 2, 3] rfl (by kernel_rfl) (fun _ _ d _ _ h => by cases d <;> exact h) ga (fun HS => ?_)
  apply mix_look rfl rfl rfl HS
  focus exact fun v h => look_bytes rfl _ _ rfl (BA_size _) h
  simp only [Act.put, List.setIfInBounds_toArray, List.set_cons_zero, List.set_cons_succ]
  apply mix_pure rfl rfl rfl
  focus (intro wq; go_simp; first | done | with_reducible rfl)
  simp only [Act.put, List.setIfInBounds_toArray, List.set_cons_zero, List.set_cons_succ]
  clear HS
  refine mix_act rfl rfl rfl ?_
  intro K hK
  go_simp
  refine (rof_any n _ h0 h1).mono ?_
  rintro r v3 ⟨rfl, hb3⟩
  rw [HA.out]
  have ga3 : v3.heap[ba]? = some (.cells (BA A) 24 (0, 0)) := bheap hb3 ga (heap_lt ga)
  have hB3 := Below.trans (Below.drew hB) (hb3.mono hB.size)
  refine hK _ _ (fun _ h => bheap hb3 h (heap_lt h)) ?_
  clear hK K hb3 ga hB
  apply mix_pure rfl rfl rfl
  focus exact fun v => neq_same _ _ _ rfl A rfl rfl
  simp only [Act.put, List.setIfInBounds_toArray, List.set_cons_zero, List.set_cons_succ]
  refine mix_done ?_
  by_cases hmax : n = 9223372036854775807
  · subst hmax
    go_wp2_with fail
    refine (awake_any _ (primeAt_below HP.out hB3 hp0)).mono ?_
    rintro r v4 ⟨rfl, hb4⟩
    have hB4 := Below.trans hB3 (hb4.mono hB3.size)
    go_wp2_with fail
    go_ret
    exact ⟨rfl, hB4⟩
  · have hmb : (n == 9223372036854775807) = false := by simpa using hmax
    go_wp2_with (first | (refine wl_value rfl (look_bytes rfl _ _ rfl (BA_size _) ga3) ?_) | (refine wl_value rfl (exec_build 0 1 rfl 1 (build1 _)) ?_) | (refine wl_act rfl (act_bs2 _ _ rfl _ _ rfl rfl ?_); intro v4 r4 s4 b4))
    have hB4 := Below.trans hB3 (b4.mono hB3.size)
    refine (add2 _ _ _ _ NA N256_1 r4 s4).mono ?_
    rintro r v5 ⟨rfl, hb5⟩
    rw [EN.out]
    have hB5 := Below.trans hB4 (hb5.mono hB4.size)
    clear hB3 r4 s4 b4 hB4 hb5
    go_wp2_with fail
    refine (of_any (n + 1) _ (primeAt_below HP.out hB5 hp0) (by omega) (by omega)).mono ?_
    rintro r v6 ⟨rfl, hb6⟩
    have hB6 := Below.trans hB5 (hb6.mono hB5.size)
    clear hb6 hB5
    generalize (n + 1) % P255 = z at *
    go_wp2_with (refine wl_value rfl (eql_same _ _ _ rfl z rfl rfl) ?_)
    refine (awake_any _ (primeAt_below HP.out hB6 hp0)).mono ?_
    rintro r v7 ⟨rfl, hb7⟩
    have hB7 := Below.trans hB6 (hb7.mono hB6.size)
    go_wp2_with fail
    go_ret
    exact ⟨rfl, hB7⟩
end Go.Proofs.YtgklkkjhoecdoaaDoor
