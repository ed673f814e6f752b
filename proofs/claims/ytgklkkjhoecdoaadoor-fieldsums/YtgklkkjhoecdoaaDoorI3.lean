/-
  Own text. The law FieldInverse answers true at every input, walked over the translation.
-/
import Derived.Test.YtgklkkjhoecdoaaDoorH1
import Derived.Test.YtgklkkjhoecdoaaDoorI2
namespace Go.Proofs.YtgklkkjhoecdoaaDoor
open Go.RowKit Go.Proofs
theorem enterInv (args : Array Value) (w : World) : (callFunc 25 args).run Tryd.prog w = .ok (.enter 25 args) w := by kernel_rfl
theorem enterPow (args : Array Value) (w : World) : (callFunc 23 args).run Tryd.prog w = .ok (.enter 23 args) w := by kernel_rfl
theorem enterAwake (args : Array Value) (w : World) : (callFunc 15 args).run Tryd.prog w = .ok (.enter 15 args) w := by kernel_rfl
theorem call0 {f : FuncId} (hc : ∀ args w, (callFunc f args).run Tryd.prog w = .ok (.enter f args) w) (ts : Array TypeId) {o : Oper} {a : Act} {w : World} {K : Act → World → Prop} {Q : Exit → Act → World → Prop}
    (ho : o.op = .call { callee := .value (.func f), args := #[], argTypes := ts }) (v : Value) (hC : Calls Tryd.prog f #[] w fun r w' => r = .returned v ∧ Below w.heap.size w w')
    (h : ∀ w', Below w.heap.size w w' → K (a.put o.dst v) w') : o.wp Tryd.prog a w K Q := by
  refine wp_enter (exec_call hc #[] ts ho) ?_
  simp only [List.map_toArray, List.map_nil]
  exact hC.mono (fun e w' ⟨he, hb⟩ => ⟨v, he, h w' hb⟩)
theorem less_next : (BA (P255 - 2)).setIfInBounds 0 (.int .u8 236) = BA (P255 - 1) := by kernel_rfl
theorem less_first : byt (P255 - 2) 0 = 235 := by kernel_rfl
theorem N256_1 : N256 1 := by unfold N256 W256; omega
theorem N256_0 : N256 0 := by unfold N256 W256; omega
theorem N256_P1 : N256 (P255 - 1) := by unfold N256 W256 P255; omega
theorem heap_a3n (w : World) (A B C : Obj) : (((w.alloc A).alloc B).alloc C).heap[w.heap.size + 1 + 1]? = some C := heap_a3 w A B C
theorem heap_alloc_at (w : World) (o : Obj) (k : Nat) (h : w.heap.size = k) : (w.alloc o).heap[k]? = some o := h ▸ heap_alloc_new w o
def fiF (i : Nat) : Nat := [1, 0, 1, 2].getD i 2
def fiT (_i : Nat) : Bool := true
set_option maxHeartbeats 4000000 in
set_option maxRecDepth 100000 in
theorem inverse_walk (a b : Int) (w : World) (hP : PrimeAt w) (ha : N256 a) (hb : N256 b) :
    Calls Tryd.prog 8 #[.agg (BA a), .agg (BA b)] w fun r w' => r = .returned (.bool true) ∧ Below w.heap.size w w' := by
  have hp0 := primeAt_pos hP
  have HP := Hid.mk hP
  clear hP
  have NX := invN_256 a
  have NY := invN_256 b
  have E0 := Hid.mk (fun h => invN_zero (a := a) h)
  have E1 := Hid.mk (fun h => inv_mul (a := a) h)
  have E2 := Hid.mk (fun h => inv_inv (a := a) h)
  have E3 := Hid.mk (fun h => pow_less a (E := P255 - 1) rfl h)
  have E4 := Hid.mk (inv_prod a b)
  have HI := Hid.mk (fun w' hp => inv_any a w' hp ha)
  have NP := N256_P1
  generalize hz : invN ((a * b) % P255) = z at *
  have E5 := Hid.mk hz
  generalize hy : invN b = y at *
  have EY := Hid.mk hy
  generalize hx : invN a = x at *
  clear hx hy hz
  go_enter Tryd.func8, Tryd.ntmps8
  go_wp2_with (first | (refine wl_value rfl (exec_build0 rfl) ?_) | (refine wl_value rfl (exec_build 0 1 rfl 1 (build1 _)) ?_) | (refine st_bytes rfl _ _ rfl _ 0 rfl rfl _ (heap_a3n w _ _ _) rfl ?_; intro v1 g1 o1; have hs1 : v1.heap.size = w.heap.size + 1 + 1 + 1 := (by have := o1.size; simpa using this); have ga1 := (o1.block _ (by omega)).trans (heap_a31 w _ _ _); have gb1 := (o1.block _ (by omega)).trans (heap_a32 w _ _ _); have hB1 : Below w.heap.size w v1 := Below.trans (by repeat first | exact Below.refl _ _ | refine Below.alloc ?_ (by simp <;> omega) _) (Only.below (B := w.heap.size) o1 (by omega)); clear o1) | (refine st_bytes rfl _ _ rfl _ 1 rfl rfl _ (heap_alloc_at v1 _ _ hs1) rfl ?_; intro v2 g2 o2; have ga2 := (o2.block _ (by omega)).trans ((Below.heap_alloc v1 _ _ (by omega)).trans ga1); have gb2 := (o2.block _ (by omega)).trans ((Below.heap_alloc v1 _ _ (by omega)).trans gb1); have gz2 := (o2.block _ (by omega)).trans ((Below.heap_alloc v1 _ _ (by omega)).trans g1); have hB2 : Below w.heap.size w v2 := Below.trans (hB1.alloc (by omega) _) (Only.below (B := w.heap.size) o2 (by omega)); clear o2) | (refine ld_bytes rfl _ rfl _ _ rfl ga2 (BA_size _) ?_))
  clear g1 hs1 ga1 gb1 hB1
  refine (HI.out _ (primeAt_below HP.out hB2 hp0)).mono ?_
  rintro r v3 ⟨rfl, hb3⟩
  have ga3 := bheap hb3 ga2 (heap_lt ga2)
  have gb3 := bheap hb3 gb2 (heap_lt gb2)
  have gz3 := bheap hb3 gz2 (heap_lt gz2)
  have go3 := bheap hb3 g2 (heap_lt g2)
  have hB3 := Below.trans hB2 (hb3.mono hB2.size)
  have hs3 : w.heap.size + 1 + 1 + 1 < v3.heap.size := heap_lt go3
  clear hb3 ga2 gb2 gz2 g2 hB2 HI
  go_wp2_with (refine st_bytes rfl _ _ rfl _ _ rfl rfl _ (heap_alloc_new v3 _) rfl ?_; intro v4 gx o4)
  have ga := (o4.block _ (by omega)).trans ((Below.heap_alloc v3 _ _ (by omega)).trans ga3)
  have gb := (o4.block _ (by omega)).trans ((Below.heap_alloc v3 _ _ (by omega)).trans gb3)
  have gz := (o4.block _ (by omega)).trans ((Below.heap_alloc v3 _ _ (by omega)).trans gz3)
  have go := (o4.block _ (by omega)).trans ((Below.heap_alloc v3 _ _ (by omega)).trans go3)
  have hB : Below w.heap.size w v4 := Below.trans (hB3.alloc (by omega) _) (Only.below (b := v3.heap.size) (B := w.heap.size) o4 (by omega))
  clear o4 ga3 gb3 gz3 go3 hB3
  generalize v3.heap.size = bx at *
  have NA := N256.mod a
  have NZ := N256_0
  refine wp_region_mixS (fun v => v.heap[w.heap.size]? = some (.cells (BA a) 24 (0, 0)) ∧ v.heap[w.heap.size + 1 + 1]? = some (.cells (BA 0) 24 (0, 0)))
    fiF fiT [0, 2, 1, 3] rfl (by kernel_rfl) (fun _ _ d _ _ h => by cases d <;> exact h) ⟨ga, gz⟩ (fun HS => ?_)
  apply mix_look rfl rfl rfl HS
  focus exact fun v h => look_bytes rfl _ _ rfl (BA_size _) h.1
  simp only [Act.put, List.setIfInBounds_toArray, List.set_cons_zero, List.set_cons_succ]
  apply mix_look rfl rfl rfl HS
  focus exact fun v h => look_bytes rfl _ _ rfl (BA_size _) h.2
  simp only [Act.put, List.setIfInBounds_toArray, List.set_cons_zero, List.set_cons_succ]
  clear HS
  refine mix_act rfl rfl rfl ?_
  intro K hK
  go_simp
  refine (canon_any a _ ha.1 ha.2).mono ?_
  rintro e v5 ⟨rfl, hb⟩
  have hs5 := hb.size
  have ga := bheap hb ga (heap_lt ga)
  have gb := bheap hb gb (heap_lt gb)
  have gz := bheap hb gz (heap_lt gz)
  have go := bheap hb go (heap_lt go)
  have gx := bheap hb gx (heap_lt gx)
  have hB := Below.trans (Below.drew hB) (hb.mono hB.size)
  refine hK _ _ (fun _ h => ⟨bheap hb h.1 (heap_lt h.1), bheap hb h.2 (heap_lt h.2)⟩) ?_
  clear hK K hb
  apply mix_pure rfl rfl rfl
  focus exact fun v => eql_bytes _ _ _ rfl _ _ rfl rfl NA.1 NA.2 NZ.1 NZ.2
  simp only [Act.put, List.setIfInBounds_toArray, List.set_cons_zero, List.set_cons_succ]
  refine mix_done ?_
  by_cases h0 : a % P255 = 0
  · have hx := E0.out h0
    subst hx
    rw [h0]
    simp only [beq_self_eq_true]
    go_wp2_with (first | (refine ld_bytes rfl _ rfl _ _ rfl gx (BA_size _) ?_) | (refine ld_bytes rfl _ rfl _ _ rfl gz (BA_size _) ?_) | (refine wl_value rfl (eql_same _ _ _ rfl _ rfl rfl) ?_))
    refine (awake_any _ (primeAt_below HP.out hB hp0)).mono ?_
    rintro r v7 ⟨rfl, hb7⟩
    go_wp2
    go_ret
    exact ⟨rfl, Below.trans hB (hb7.mono hB.size)⟩
  · have hne : (a % P255 == 0) = false := by simpa using h0
    rw [hne]
    have E1 := Hid.mk (E1.out h0)
    have E2 := Hid.mk (E2.out h0)
    have E3 := Hid.mk (E3.out h0)
    clear hne h0 NA NZ gz E0
    go_wp2_with fail
    refine (less_any _).mono ?_
    rintro r v6 ⟨rfl, hb⟩
    have ga := bheap hb ga (heap_lt ga)
    have gb := bheap hb gb (heap_lt gb)
    have go := bheap hb go (heap_lt go)
    have gx := bheap hb gx (heap_lt gx)
    have hB := Below.trans hB (hb.mono hB.size)
    have hb6 := heap_lt gx
    have ho6 := heap_lt go
    clear hb hs5
    go_wp2_with (refine st_bytes rfl _ _ rfl _ _ rfl rfl _ (heap_alloc_new v6 _) rfl ?_; intro v7 ge o7; have ga := (o7.block _ (by omega)).trans ((Below.heap_alloc v6 _ _ (by omega)).trans ga); have gb := (o7.block _ (by omega)).trans ((Below.heap_alloc v6 _ _ (by omega)).trans gb); have go := (o7.block _ (by omega)).trans ((Below.heap_alloc v6 _ _ (by omega)).trans go); have gx := (o7.block _ (by omega)).trans ((Below.heap_alloc v6 _ _ (by omega)).trans gx); have hB : Below w.heap.size w v7 := Below.trans (hB.alloc (by omega) _) (Only.below (b := v6.heap.size) (B := w.heap.size) o7 (by omega)); clear o7; have ce := (cell_of_row v7 _ 0 _ _ _ ge).trans (BA_get _ 0 (by omega)); have fe := frozen_of_row v7 _ 0 _ _ ge; rw [less_first] at ce)
    refine wp_gen (fun v => v.heap[w.heap.size]? = some (.cells (BA a) 24 (0, 0)) ∧ v.heap[w.heap.size + 1]? = some (.cells (BA b) 24 (0, 0)) ∧ v.heap[w.heap.size + 1 + 1 + 1]? = some (.cells (BA 1) 24 (0, 0)) ∧ v.heap[bx]? = some (.cells (BA x) 24 (0, 0)) ∧ v.heap[v6.heap.size]? = some (.cells (BA (P255 - 1)) 24 (0, 0)) ∧ Below w.heap.size w v) ⟨(heap_setCell_other _ _ _ _ (by simp <;> omega)).trans ga, (heap_setCell_other _ _ _ _ (by simp <;> omega)).trans gb, (heap_setCell_other _ _ _ _ (by simp <;> omega)).trans go, (heap_setCell_other _ _ _ _ (by simp <;> omega)).trans gx, by rw [← less_next]; exact heap_setCell_same _ _ _ _ _ _ ge, Below.setCell hB (by simp <;> omega) _⟩ ?_
    clear ga gb go gx ge hB ce fe hb6 ho6
    generalize v6.heap.size = be at *
    rintro v8 ⟨ga, gb, go, gx, ge, hB⟩
    refine wp_region_steps (fun v => v.heap[w.heap.size]? = some (.cells (BA a) 24 (0, 0)) ∧ v.heap[w.heap.size + 1]? = some (.cells (BA b) 24 (0, 0)) ∧ v.heap[w.heap.size + 1 + 1 + 1]? = some (.cells (BA 1) 24 (0, 0)) ∧ v.heap[bx]? = some (.cells (BA x) 24 (0, 0)) ∧ v.heap[be]? = some (.cells (BA (P255 - 1)) 24 (0, 0)) ∧ Below w.heap.size w v) (fun v v' => Below v.heap.size v v') (known [(none, .agg (BA a)), (none, .agg (BA x)), (some [a, x], undef), (none, .agg (BA 1)), (none, .agg (BA 1)), (none, .bool true), (none, .bool true), (none, .agg (BA x)), (none, .agg (BA (a % P255))), (none, .agg (BA a)), (none, .agg (BA (a % P255))), (none, .bool true), (none, .bool true), (none, .bool true), (none, .agg (BA a)), (none, .agg (BA (P255 - 1))), (none, .agg (BA 1)), (none, .agg (BA 1)), (none, .bool true), (none, .bool true), (none, .bool true), (none, .agg (BA x)), (none, .agg (BA b)), (none, .agg (BA y)), (some [x, y], undef), (none, .agg (BA z)), (none, .agg (BA a)), (none, .agg (BA b)), (some [a, b], undef), (none, .agg (BA ((a * b) % P255))), (none, .agg (BA z)), (none, .bool true), (none, .bool true), (none, .bool true), (none, .bool true), (none, .bool true), (none, .bool true)]) [28, 29, 30, 31, 32, 33, 34, 35, 36, 37, 38, 39, 40, 41, 42, 43, 44, 45, 46, 47, 48, 49, 50, 51, 52, 53, 54, 55, 56, 57, 58, 59, 60, 61, 62, 63, 4]
        [(2, .pointer (some ⟨w.heap.size, 0, none⟩)), (3, .pointer (some ⟨w.heap.size + 1, 0, none⟩)), (6, .pointer (some ⟨w.heap.size + 1 + 1 + 1, 0, none⟩)), (7, .pointer (some ⟨bx, 0, none⟩)), (8, .pointer (some ⟨be, 0, none⟩))] [[], [], [0, 1], [2], [], [3, 4], [5], [6], [6, 7], [6], [6, 9], [6, 8, 10], [6, 11], [12], [13], [13], [13, 14, 15], [13], [13, 16, 17], [13, 18], [19], [20], [20], [20, 22], [20, 21, 23], [20, 24], [20], [20], [20, 26, 27], [20, 28], [20, 29], [20, 25, 30], [20, 31], [32], [33], [33, 34], [35]] rfl (by kernel_rfl) ⟨rfl, rfl, rfl, rfl, rfl, trivial⟩ ⟨ga, gb, go, gx, ge, Below.drew hB⟩ (fun v v' h hb => ⟨bheap hb h.1 (heap_lt h.1), bheap hb h.2.1 (heap_lt h.2.1), bheap hb h.2.2.1 (heap_lt h.2.2.1), bheap hb h.2.2.2.1 (heap_lt h.2.2.2.1), bheap hb h.2.2.2.2.1 (heap_lt h.2.2.2.2.1), Below.trans h.2.2.2.2.2 (hb.mono h.2.2.2.2.2.size)⟩) (known_keeps _)
        ⟨
          -- 0
          (fun Q a1 w hS fr kn => ⟨trivial, fun K hK => wp_value (look_bytes rfl _ _ fr.1 (BA_size _) hS.1) (hK _ _ rfl (Below.refl _ _))⟩),
          -- 1
          (fun Q a1 w hS fr kn => ⟨trivial, fun K hK => wp_value (look_bytes rfl _ _ fr.2.2.2.1 (BA_size _) hS.2.2.2.1) (hK _ _ rfl (Below.refl _ _))⟩),
          -- 2
          (fun Q a1 w hS fr kn => ⟨trivial, fun K hK => act_bs2 _ _ rfl _ _ kn.1 kn.2.1 (fun v hr hs hb => hK _ _ ⟨_, rfl, hr, hs⟩ hb)⟩),
          -- 3
          (fun Q a1 w hS fr kn => ⟨trivial, fun K hK => by
            obtain ⟨bk, ek, hr, hs⟩ := kn.1
            exact call1 enterMul _ _ rfl _ _ ek (mul2 _ _ bk w ha NX hr hs) (fun w' hb => hK _ _ (by rw [E1.out]; rfl) hb)⟩),
          -- 4
          (fun Q a1 w hS fr kn => ⟨trivial, fun K hK => wp_value (look_bytes rfl _ _ fr.2.2.1 (BA_size _) hS.2.2.1) (hK _ _ rfl (Below.refl _ _))⟩),
          -- 5
          (fun Q a1 w hS fr kn => ⟨trivial, fun K hK => wp_value (eql_same _ _ _ rfl _ kn.1 kn.2.1) (hK _ _ rfl (Below.refl _ _))⟩),
          -- 6
          (fun Q a1 w hS fr kn => ⟨trivial, fun K hK => wp_value (exec_move _ rfl) (hK _ _ kn.1 (Below.refl _ _))⟩),
          -- 7
          (fun Q a1 w hS fr kn => ⟨kn.1, fun K hK => wp_value (look_bytes rfl _ _ fr.2.2.2.1 (BA_size _) hS.2.2.2.1) (hK _ _ rfl (Below.refl _ _))⟩),
          -- 8
          (fun Q a1 w hS fr kn => ⟨kn.1, fun K hK => call1 enterInv _ _ rfl _ _ kn.2.1 (inv_any x w (primeAt_below HP.out hS.2.2.2.2.2 hp0) NX) (fun w' hb => hK _ _ (by rw [E2.out]; rfl) hb)⟩),
          -- 9
          (fun Q a1 w hS fr kn => ⟨kn.1, fun K hK => wp_value (look_bytes rfl _ _ fr.1 (BA_size _) hS.1) (hK _ _ rfl (Below.refl _ _))⟩),
          -- 10
          (fun Q a1 w hS fr kn => ⟨kn.1, fun K hK => call1 enterCanon _ _ rfl _ _ kn.2.1 (canon_any a w ha.1 ha.2) (fun w' hb => hK _ _ rfl hb)⟩),
          -- 11
          (fun Q a1 w hS fr kn => ⟨kn.1, fun K hK => wp_value (eql_same _ _ _ rfl _ kn.2.1 kn.2.2.1) (hK _ _ rfl (Below.refl _ _))⟩),
          -- 12
          (fun Q a1 w hS fr kn => ⟨trivial, fun K hK => wp_value (exec_pick _ _ _ rfl kn.1) (hK _ _ kn.2.1 (Below.refl _ _))⟩),
          -- 13
          (fun Q a1 w hS fr kn => ⟨trivial, fun K hK => wp_value (exec_move _ rfl) (hK _ _ kn.1 (Below.refl _ _))⟩),
          -- 14
          (fun Q a1 w hS fr kn => ⟨kn.1, fun K hK => wp_value (look_bytes rfl _ _ fr.1 (BA_size _) hS.1) (hK _ _ rfl (Below.refl _ _))⟩),
          -- 15
          (fun Q a1 w hS fr kn => ⟨kn.1, fun K hK => wp_value (look_bytes rfl _ _ fr.2.2.2.2.1 (BA_size _) hS.2.2.2.2.1) (hK _ _ rfl (Below.refl _ _))⟩),
          -- 16
          (fun Q a1 w hS fr kn => ⟨kn.1, fun K hK => call2 enterPow _ _ _ rfl _ _ _ kn.2.1 kn.2.2.1 (pow_any a (P255 - 1) w ha.1 ha.2 NP.1 NP.2) (fun w' hb => hK _ _ (by rw [E3.out]; rfl) hb)⟩),
          -- 17
          (fun Q a1 w hS fr kn => ⟨kn.1, fun K hK => wp_value (look_bytes rfl _ _ fr.2.2.1 (BA_size _) hS.2.2.1) (hK _ _ rfl (Below.refl _ _))⟩),
          -- 18
          (fun Q a1 w hS fr kn => ⟨kn.1, fun K hK => wp_value (eql_same _ _ _ rfl _ kn.2.1 kn.2.2.1) (hK _ _ rfl (Below.refl _ _))⟩),
          -- 19
          (fun Q a1 w hS fr kn => ⟨trivial, fun K hK => wp_value (exec_pick _ _ _ rfl kn.1) (hK _ _ kn.2.1 (Below.refl _ _))⟩),
          -- 20
          (fun Q a1 w hS fr kn => ⟨trivial, fun K hK => wp_value (exec_move _ rfl) (hK _ _ kn.1 (Below.refl _ _))⟩),
          -- 21
          (fun Q a1 w hS fr kn => ⟨kn.1, fun K hK => wp_value (look_bytes rfl _ _ fr.2.2.2.1 (BA_size _) hS.2.2.2.1) (hK _ _ rfl (Below.refl _ _))⟩),
          -- 22
          (fun Q a1 w hS fr kn => ⟨kn.1, fun K hK => wp_value (look_bytes rfl _ _ fr.2.1 (BA_size _) hS.2.1) (hK _ _ rfl (Below.refl _ _))⟩),
          -- 23
          (fun Q a1 w hS fr kn => ⟨kn.1, fun K hK => call1 enterInv _ _ rfl _ _ kn.2.1 (inv_any b w (primeAt_below HP.out hS.2.2.2.2.2 hp0) hb) (fun w' hb => hK _ _ (by rw [EY.out]; rfl) hb)⟩),
          -- 24
          (fun Q a1 w hS fr kn => ⟨kn.1, fun K hK => act_bs2 _ _ rfl _ _ kn.2.1 kn.2.2.1 (fun v hr hs hb => hK _ _ ⟨_, rfl, hr, hs⟩ hb)⟩),
          -- 25
          (fun Q a1 w hS fr kn => ⟨kn.1, fun K hK => by
            obtain ⟨bk, ek, hr, hs⟩ := kn.2.1
            exact call1 enterMul _ _ rfl _ _ ek (mul2 _ _ bk w NX NY hr hs) (fun w' hb => hK _ _ (by rw [E4.out]; rfl) hb)⟩),
          -- 26
          (fun Q a1 w hS fr kn => ⟨kn.1, fun K hK => wp_value (look_bytes rfl _ _ fr.1 (BA_size _) hS.1) (hK _ _ rfl (Below.refl _ _))⟩),
          -- 27
          (fun Q a1 w hS fr kn => ⟨kn.1, fun K hK => wp_value (look_bytes rfl _ _ fr.2.1 (BA_size _) hS.2.1) (hK _ _ rfl (Below.refl _ _))⟩),
          -- 28
          (fun Q a1 w hS fr kn => ⟨kn.1, fun K hK => act_bs2 _ _ rfl _ _ kn.2.1 kn.2.2.1 (fun v hr hs hb => hK _ _ ⟨_, rfl, hr, hs⟩ hb)⟩),
          -- 29
          (fun Q a1 w hS fr kn => ⟨kn.1, fun K hK => by
            obtain ⟨bk, ek, hr, hs⟩ := kn.2.1
            exact call1 enterMul _ _ rfl _ _ ek (mul2 _ _ bk w ha hb hr hs) (fun w' hb => hK _ _ rfl hb)⟩),
          -- 30
          (fun Q a1 w hS fr kn => ⟨kn.1, fun K hK => call1 enterInv _ _ rfl _ _ kn.2.1 (inv_any _ w (primeAt_below HP.out hS.2.2.2.2.2 hp0) (N256.mod _)) (fun w' hb => hK _ _ (by rw [E5.out]; rfl) hb)⟩),
          -- 31
          (fun Q a1 w hS fr kn => ⟨kn.1, fun K hK => wp_value (eql_same _ _ _ rfl _ kn.2.1 kn.2.2.1) (hK _ _ rfl (Below.refl _ _))⟩),
          -- 32
          (fun Q a1 w hS fr kn => ⟨trivial, fun K hK => wp_value (exec_pick _ _ _ rfl kn.1) (hK _ _ kn.2.1 (Below.refl _ _))⟩),
          -- 33
          (fun Q a1 w hS fr kn => ⟨trivial, fun K hK => wp_value (exec_move _ rfl) (hK _ _ kn.1 (Below.refl _ _))⟩),
          -- 34
          (fun Q a1 w hS fr kn => ⟨kn.1, fun K hK => call0 enterAwake _ rfl _ (awake_any w (primeAt_below HP.out hS.2.2.2.2.2 hp0)) (fun w' hb => hK _ _ rfl hb)⟩),
          -- 35
          (fun Q a1 w hS fr kn => ⟨trivial, fun K hK => wp_value (exec_pick _ _ _ rfl kn.1) (hK _ _ kn.2.1 (Below.refl _ _))⟩),
          -- 36
          (fun Q a1 w hS fr kn => ⟨trivial, fun K hK => wp_value (exec_assign _ rfl) (hK _ _ kn.1 (Below.refl _ _))⟩),
          trivial⟩ ?_
    intro vs v9 hS9 hk9
    have e4 : vs 4 = .bool true := hk9 36 (by decide)
    simp only [putAll, Act.put, List.setIfInBounds_toArray, List.set_cons_zero, List.set_cons_succ, e4]
    clear hk9 e4
    go_wp2
    go_ret
    exact ⟨rfl, hS9.2.2.2.2.2⟩
end Go.Proofs.YtgklkkjhoecdoaaDoor
