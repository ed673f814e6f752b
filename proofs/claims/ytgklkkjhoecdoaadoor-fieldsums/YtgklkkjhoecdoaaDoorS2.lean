/-
  Own text. What Add and Mul of the document's answer give, for every slice of 32 bytes each; Mul of package field of none.
-/
import Derived.Test.YtgklkkjhoecdoaaDoorS1
namespace Go.Proofs.YtgklkkjhoecdoaaDoor
open Go.RowKit Go.Proofs
theorem look_mid {a : Act} {o : Oper} {x : Operand} {w : World} (ho : o.op = .load 24 x) (b off : Nat) (n : Int) (hx : a.eval x = .pointer (some ⟨b, off, none⟩)) (hc : w.rangeAt b off (BA n).toList) :
    (execOp a.eval o).run Tryd.prog w = .ok (.value (.agg (BA n))) w := by
  unfold execOp
  simp only [ho, hx, Instr.loadAt, Instr.sureAddr, Sem.run_bind, Sem.run_pure, Result.andThen_ok, run_loadVar_mid w b off 24 (BA n).toList _ hc Tryd.underlying24 rfl (by rw [Array.length_toList, BA_size]; exact info32), Array.toArray_toList]
theorem rsum_step {ns : List Int} {k : Nat} {n : Int} (hs : (ns.take (k + 1)).sum = (ns.take k).sum + n) : ((ns.take k).sum % P255 + n) % P255 = (ns.take (k + 1)).sum % P255 := by
  rw [hs, Int.add_emod, Int.emod_emod, ← Int.add_emod]
theorem rprod_step {ns : List Int} {k : Nat} {n : Int} (hs : lprod (ns.take (k + 1)) = lprod (ns.take k) * n) : (lprod (ns.take k) % P255 * n) % P255 = lprod (ns.take (k + 1)) % P255 := by
  rw [hs, Int.mul_emod, Int.emod_emod, ← Int.mul_emod]
theorem mod0 : (0 : Int) % P255 = 0 := by decide +kernel
theorem mod1 : (1 : Int) % P255 = 1 := by decide +kernel
def raF (i : Nat) : Nat := [1, 2, 2, 2, 1, 0, 0].getD i 2
def raT (i : Nat) : Bool := i != 6
set_option maxHeartbeats 1000000 in
theorem mul_none (ao : Option Addr) (cap : Nat) (w : World) :
    Calls Tryd.prog 11 #[.slice ao 0 cap] w fun e w' => e = .returned (.agg (BA 1)) ∧ Below w.heap.size w w' := by
  go_enter Tryd.func11, Tryd.ntmps11
  go_wp2_with (first | (refine wl_value rfl (exec_build 0 1 rfl 1 (build1 _)) ?_) | (refine st_bytesS (n := 1) (by rfl) (by rfl) (heap_alloc_new w _) (by rfl) ?_; intro v1 g1 o1))
  exact bodyPost_ret (v := .agg (BA 1)) (results_cell_row rfl _ _ _ _ _ _ _ rfl g1 Tryd.underlying24 rfl (by rw [BA_size]; exact info32)) rfl
    ⟨rfl, Below.trans ((Below.refl _ w).alloc (Nat.le_refl _) _) (Only.below (b := w.heap.size) (B := w.heap.size) o1 (Nat.le_refl _))⟩
set_option maxHeartbeats 1000000 in
set_option maxRecDepth 100000 in
theorem radd_any (v : Value) (ns : List Int) (w : World) (hv : View w v ns) (hr : ∀ n ∈ ns, N256 n) (hlen : ns.length ≤ 4611686018427387904) :
    Calls Tryd.prog 12 #[v] w fun e w' => e = .returned (.agg (BA (ns.sum % P255))) ∧ Below w.heap.size w w' := by
  have HR := Hid.mk hr
  clear hr
  rcases hv with ⟨rfl, ao, cap, rfl, _⟩ | ⟨hpos, b, off, cap, rfl, hrows, hb, _⟩
  · go_enter Tryd.func12, Tryd.ntmps12
    go_wp2_with fail
    refine wp_gen (fun v => v.heap[w.heap.size + 1]? = some (.cells (BA 0) 24 (0, 0)) ∧ Only (w.heap.size + 1) ((w.alloc (.cells (BA 0) 24)).alloc (.cells (BA 0) 24)) v) ⟨heap_alloc2_new w _ _, Only.refl _ _⟩ ?_
    rintro v1 ⟨g1, o1⟩
    have gz := (o1.block _ (by omega)).trans (heap_alloc2_old w _ _)
    have hB : Below w.heap.size w v1 := Below.trans (((Below.refl _ w).alloc (Nat.le_refl _) _).alloc (by simp) _) (Only.below (b := w.heap.size + 1) (B := w.heap.size) o1 (by omega))
    clear o1
    refine wp_loop_rounds 1 ?_
    rw [rounds_succ]
    go_wp2_with (first | (refine ld_bytes rfl _ rfl _ _ rfl g1 (BA_size _) ?_) | (refine st_bytesS (by rfl) (by rfl) gz (by rfl) ?_; intro v6 g6 o6))
    rw [← mod0] at g6
    exact bodyPost_ret (v := .agg (BA (([] : List Int).sum % P255))) (results_cell_row rfl _ _ _ _ _ _ _ rfl g6 Tryd.underlying24 rfl (by rw [BA_size]; exact info32)) rfl
      ⟨rfl, Below.trans hB (Only.below (b := w.heap.size) (B := w.heap.size) o6 (by omega))⟩
  · have HW := Hid.mk hrows
    clear hrows
    go_enter Tryd.func12, Tryd.ntmps12
    go_wp2_with fail
    refine wp_gen (fun v => v.heap[w.heap.size + 1]? = some (.cells (BA 0) 24 (0, 0)) ∧ Only (w.heap.size + 1) ((w.alloc (.cells (BA 0) 24)).alloc (.cells (BA 0) 24)) v) ⟨heap_alloc2_new w _ _, Only.refl _ _⟩ ?_
    rintro v1 ⟨g1, o1⟩
    have gz := (o1.block _ (by omega)).trans (heap_alloc2_old w _ _)
    have hB : Below w.heap.size w v1 := Below.trans (((Below.refl _ w).alloc (Nat.le_refl _) _).alloc (by simp) _) (Only.below (b := w.heap.size + 1) (B := w.heap.size) o1 (by omega))
    clear o1
    go_loopw [4] (fun i v => ∃ k : Nat, k ≤ ns.length ∧ i = .int .i64 k ∧ v.heap[w.heap.size]? = some (.cells (BA 0) 24 (0, 0)) ∧ v.heap[w.heap.size + 1]? = some (.cells (BA ((ns.take k).sum % P255)) 24 (0, 0)) ∧ Below w.heap.size w v) (fun i _ => ns.length - (intOf i).toNat)
    case atStart => exact ⟨0, Nat.zero_le _, rfl, gz, by rw [List.take_zero, List.sum_nil, mod0]; exact g1, hB⟩
    case round =>
      clear gz g1 hB
      obtain ⟨k, hk, rfl, gz, go, hB⟩ := hrel
      by_cases hlt : k < ns.length
      · have hn := HR.out _ (List.getElem_mem hlt)
        have hrow : wr.rangeAt b (off + k * 32) (BA (ns.getD k 0)).toList := fun j v hv => (hB.cell hb).trans (HW.out k hlt j v hv)
        have hgd : ns.getD k 0 = ns[k] := by simp [hlt]
        rw [hgd] at hrow
        have SS := Hid.mk (rsum_step (take_sum ns k hlt))
        clear hgd
        generalize ns[k] = n at *
        have NZ := N256.mod ((ns.take k).sum)
        generalize hzk : (ns.take k).sum % P255 = z at *
        clear hzk
        go_wp2_with fail
        refine wp_region_mixS (fun v => v.heap[w.heap.size + 1]? = some (.cells (BA z) 24 (0, 0)) ∧ v.rangeAt b (off + k * 32) (BA n).toList)
          raF raT [0, 1, 2, 3, 4, 5, 6] rfl (by kernel_rfl) (fun _ _ d _ _ h => by cases d <;> exact h) ⟨go, hrow⟩ (fun HS => ?_)
        apply mix_look rfl rfl rfl HS
        focus exact fun v h => look_bytes rfl _ _ rfl (BA_size _) h.1
        simp only [Act.put, List.setIfInBounds_toArray, List.set_cons_zero, List.set_cons_succ]
        iterate 3
          apply mix_pure rfl rfl rfl
          focus (intro wq; go_simp; first | done | with_reducible rfl)
          simp only [Act.put, List.setIfInBounds_toArray, List.set_cons_zero, List.set_cons_succ]
        apply mix_look rfl rfl rfl HS
        focus exact fun v h => look_mid rfl _ _ n rfl h.2
        simp only [Act.put, List.setIfInBounds_toArray, List.set_cons_zero, List.set_cons_succ]
        clear HS
        refine mix_act rfl rfl rfl ?_
        intro K hK
        go_simp
        refine (rplus_any _ _ _ NZ hn).mono ?_
        rintro e v3 ⟨rfl, hb3⟩
        rw [SS.out]
        have gz3 := bheap hb3 gz (heap_lt gz)
        have go3 := bheap hb3 go (heap_lt go)
        have hB3 := Below.trans (Below.drew hB) (hb3.mono hB.size)
        have hbw : b < wr.heap.size := Nat.lt_of_lt_of_le hb hB.size
        refine hK _ _ (fun _ h => ⟨bheap hb3 h.1 (heap_lt h.1), fun j v hv => (hb3.cell hbw).trans (h.2 j v hv)⟩) ?_
        clear hK K hb3 gz go hB
        refine mix_act rfl rfl rfl ?_
        intro K hK
        refine act_bytes _ _ rfl _ _ rfl rfl _ go3 (BA_size _) ?_
        intro v4 g4 o4
        refine hK _ _ (fun h => by cases h) ?_
        clear hK K
        refine mix_done ?_
        have gz4 := (o4.block _ (by omega)).trans gz3
        have hB4 : Below w.heap.size w v4 := Below.trans hB3 (Only.below (b := w.heap.size + 1) (B := w.heap.size) o4 (by omega))
        go_wp2
        go_roundw
        case rel => exact ⟨k + 1, by omega, by go_num, gz4, g4, hB4⟩
        case measure => simp [intOf]; omega
      · have hk2 : k = ns.length := by omega
        subst hk2
        rw [List.take_length] at go
        go_wp2_with (first | (refine ld_bytes rfl _ rfl _ _ rfl go (BA_size _) ?_) | (refine st_bytesS (by rfl) (by rfl) gz (BA_size _) ?_; intro v6 g6 o6))
        exact bodyPost_ret (v := .agg (BA (ns.sum % P255))) (results_cell_row rfl _ _ _ _ _ _ _ rfl g6 Tryd.underlying24 rfl (by rw [BA_size]; exact info32)) rfl
          ⟨rfl, Below.trans hB (Only.below (b := w.heap.size) (B := w.heap.size) o6 (by omega))⟩
set_option maxHeartbeats 1000000 in
set_option maxRecDepth 100000 in
theorem rmul_any (v : Value) (ns : List Int) (w : World) (hv : View w v ns) (hr : ∀ n ∈ ns, N256 n) (hlen : ns.length ≤ 4611686018427387904) :
    Calls Tryd.prog 13 #[v] w fun e w' => e = .returned (.agg (BA (lprod ns % P255))) ∧ Below w.heap.size w w' := by
  have HR := Hid.mk hr
  clear hr
  rcases hv with ⟨rfl, ao, cap, rfl, _⟩ | ⟨hpos, b, off, cap, rfl, hrows, hb, _⟩
  · go_enter Tryd.func13, Tryd.ntmps13
    go_wp2_with (first | (refine wl_value rfl (exec_build 0 1 rfl 1 (build1 _)) ?_) | (refine st_bytesS (n := 1) (by rfl) (by rfl) (heap_alloc2_new w _ _) (by rfl) ?_; intro v1 g1 o1))
    have gz := (o1.block _ (by omega)).trans (heap_alloc2_old w _ _)
    have hB : Below w.heap.size w v1 := Below.trans (((Below.refl _ w).alloc (Nat.le_refl _) _).alloc (by simp) _) (Only.below (b := w.heap.size + 1) (B := w.heap.size) o1 (by omega))
    clear o1
    refine wp_loop_rounds 1 ?_
    rw [rounds_succ]
    go_wp2_with (first | (refine ld_bytes rfl _ rfl _ _ rfl g1 (BA_size _) ?_) | (refine st_bytesS (by rfl) (by rfl) gz (by rfl) ?_; intro v6 g6 o6))
    rw [← mod1] at g6
    exact bodyPost_ret (v := .agg (BA (lprod [] % P255))) (results_cell_row rfl _ _ _ _ _ _ _ rfl g6 Tryd.underlying24 rfl (by rw [BA_size]; exact info32)) rfl
      ⟨rfl, Below.trans hB (Only.below (b := w.heap.size) (B := w.heap.size) o6 (by omega))⟩
  · have HW := Hid.mk hrows
    clear hrows
    go_enter Tryd.func13, Tryd.ntmps13
    go_wp2_with (first | (refine wl_value rfl (exec_build 0 1 rfl 1 (build1 _)) ?_) | (refine st_bytesS (n := 1) (by rfl) (by rfl) (heap_alloc2_new w _ _) (by rfl) ?_; intro v1 g1 o1))
    have gz := (o1.block _ (by omega)).trans (heap_alloc2_old w _ _)
    have hB : Below w.heap.size w v1 := Below.trans (((Below.refl _ w).alloc (Nat.le_refl _) _).alloc (by simp) _) (Only.below (b := w.heap.size + 1) (B := w.heap.size) o1 (by omega))
    clear o1
    go_loopw [4] (fun i v => ∃ k : Nat, k ≤ ns.length ∧ i = .int .i64 k ∧ v.heap[w.heap.size]? = some (.cells (BA 0) 24 (0, 0)) ∧ v.heap[w.heap.size + 1]? = some (.cells (BA (lprod (ns.take k) % P255)) 24 (0, 0)) ∧ Below w.heap.size w v) (fun i _ => ns.length - (intOf i).toNat)
    case atStart => exact ⟨0, Nat.zero_le _, rfl, gz, by rw [List.take_zero, show lprod [] = 1 from rfl, mod1]; exact g1, hB⟩
    case round =>
      clear gz g1 hB
      obtain ⟨k, hk, rfl, gz, go, hB⟩ := hrel
      by_cases hlt : k < ns.length
      · have hn := HR.out _ (List.getElem_mem hlt)
        have hrow : wr.rangeAt b (off + k * 32) (BA (ns.getD k 0)).toList := fun j v hv => (hB.cell hb).trans (HW.out k hlt j v hv)
        have hgd : ns.getD k 0 = ns[k] := by simp [hlt]
        rw [hgd] at hrow
        have SS := Hid.mk (rprod_step (take_prod ns k hlt))
        clear hgd
        generalize ns[k] = n at *
        have NZ := N256.mod (lprod (ns.take k))
        generalize hzk : lprod (ns.take k) % P255 = z at *
        clear hzk
        go_wp2_with fail
        refine wp_region_mixS (fun v => v.heap[w.heap.size + 1]? = some (.cells (BA z) 24 (0, 0)) ∧ v.rangeAt b (off + k * 32) (BA n).toList)
          raF raT [0, 1, 2, 3, 4, 5, 6] rfl (by kernel_rfl) (fun _ _ d _ _ h => by cases d <;> exact h) ⟨go, hrow⟩ (fun HS => ?_)
        apply mix_look rfl rfl rfl HS
        focus exact fun v h => look_bytes rfl _ _ rfl (BA_size _) h.1
        simp only [Act.put, List.setIfInBounds_toArray, List.set_cons_zero, List.set_cons_succ]
        iterate 3
          apply mix_pure rfl rfl rfl
          focus (intro wq; go_simp; first | done | with_reducible rfl)
          simp only [Act.put, List.setIfInBounds_toArray, List.set_cons_zero, List.set_cons_succ]
        apply mix_look rfl rfl rfl HS
        focus exact fun v h => look_mid rfl _ _ n rfl h.2
        simp only [Act.put, List.setIfInBounds_toArray, List.set_cons_zero, List.set_cons_succ]
        clear HS
        refine mix_act rfl rfl rfl ?_
        intro K hK
        go_simp
        refine (rtimes_any _ _ _ NZ hn).mono ?_
        rintro e v3 ⟨rfl, hb3⟩
        rw [SS.out]
        have gz3 := bheap hb3 gz (heap_lt gz)
        have go3 := bheap hb3 go (heap_lt go)
        have hB3 := Below.trans (Below.drew hB) (hb3.mono hB.size)
        have hbw : b < wr.heap.size := Nat.lt_of_lt_of_le hb hB.size
        refine hK _ _ (fun _ h => ⟨bheap hb3 h.1 (heap_lt h.1), fun j v hv => (hb3.cell hbw).trans (h.2 j v hv)⟩) ?_
        clear hK K hb3 gz go hB
        refine mix_act rfl rfl rfl ?_
        intro K hK
        refine act_bytes _ _ rfl _ _ rfl rfl _ go3 (BA_size _) ?_
        intro v4 g4 o4
        refine hK _ _ (fun h => by cases h) ?_
        clear hK K
        refine mix_done ?_
        have gz4 := (o4.block _ (by omega)).trans gz3
        have hB4 : Below w.heap.size w v4 := Below.trans hB3 (Only.below (b := w.heap.size + 1) (B := w.heap.size) o4 (by omega))
        go_wp2
        go_roundw
        case rel => exact ⟨k + 1, by omega, by go_num, gz4, g4, hB4⟩
        case measure => simp [intOf]; omega
      · have hk2 : k = ns.length := by omega
        subst hk2
        rw [List.take_length] at go
        go_wp2_with (first | (refine ld_bytes rfl _ rfl _ _ rfl go (BA_size _) ?_) | (refine st_bytesS (by rfl) (by rfl) gz (BA_size _) ?_; intro v6 g6 o6))
        exact bodyPost_ret (v := .agg (BA (lprod ns % P255))) (results_cell_row rfl _ _ _ _ _ _ _ rfl g6 Tryd.underlying24 rfl (by rw [BA_size]; exact info32)) rfl
          ⟨rfl, Below.trans hB (Only.below (b := w.heap.size) (B := w.heap.size) o6 (by omega))⟩
end Go.Proofs.YtgklkkjhoecdoaaDoor
