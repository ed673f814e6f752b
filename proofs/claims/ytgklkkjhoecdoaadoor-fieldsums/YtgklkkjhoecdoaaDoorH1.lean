/-
  Own text. Calls, picks and copies in a region that leaves its order open; what is known of its slots; what Same of package field answers.
-/
import Derived.Test.YtgklkkjhoecdoaaDoorInv
import Derived.Test.YtgklkkjhoecdoaaDoorG7
namespace Go.Proofs.YtgklkkjhoecdoaaDoor
open Go.RowKit Go.Proofs
theorem enterAdd (args : Array Value) (w : World) : (callFunc 10 args).run Tryd.prog w = .ok (.enter 10 args) w := by kernel_rfl
theorem enterMul (args : Array Value) (w : World) : (callFunc 11 args).run Tryd.prog w = .ok (.enter 11 args) w := by kernel_rfl
theorem enterCanon (args : Array Value) (w : World) : (callFunc 16 args).run Tryd.prog w = .ok (.enter 16 args) w := by kernel_rfl
theorem enterSub (args : Array Value) (w : World) : (callFunc 18 args).run Tryd.prog w = .ok (.enter 18 args) w := by kernel_rfl
theorem enterSame (args : Array Value) (w : World) : (callFunc 20 args).run Tryd.prog w = .ok (.enter 20 args) w := by kernel_rfl
theorem exec_call {f : FuncId} (hc : ∀ args w, (callFunc f args).run Tryd.prog w = .ok (.enter f args) w) (xs : Array Operand) (ts : Array TypeId) {o : Oper} {a : Act} {w : World} (ho : o.op = .call { callee := .value (.func f), args := xs, argTypes := ts }) :
    (execOp a.eval o).run Tryd.prog w = .ok (.enter f (xs.map a.eval)) w := by
  unfold execOp
  rw [ho]
  simp only [resolve, Sem.run_bind]
  generalize xs.map a.eval = args
  simp [Act.eval, Deferred.ofValue, invoke, go_sem, hc]
theorem call1 {f : FuncId} (hc : ∀ args w, (callFunc f args).run Tryd.prog w = .ok (.enter f args) w) (x : Operand) (ts : Array TypeId) {o : Oper} {a : Act} {w : World} {K : Act → World → Prop} {Q : Exit → Act → World → Prop}
    (ho : o.op = .call { callee := .value (.func f), args := #[x], argTypes := ts }) (V v : Value) (hx : a.eval x = V) (hC : Calls Tryd.prog f #[V] w fun r w' => r = .returned v ∧ Below w.heap.size w w')
    (h : ∀ w', Below w.heap.size w w' → K (a.put o.dst v) w') : o.wp Tryd.prog a w K Q := by
  refine wp_enter (exec_call hc #[x] ts ho) ?_
  simp only [List.map_toArray, List.map_cons, List.map_nil, hx]
  exact hC.mono (fun e w' ⟨he, hb⟩ => ⟨v, he, h w' hb⟩)
theorem call2 {f : FuncId} (hc : ∀ args w, (callFunc f args).run Tryd.prog w = .ok (.enter f args) w) (x y : Operand) (ts : Array TypeId) {o : Oper} {a : Act} {w : World} {K : Act → World → Prop} {Q : Exit → Act → World → Prop}
    (ho : o.op = .call { callee := .value (.func f), args := #[x, y], argTypes := ts }) (V V2 v : Value) (hx : a.eval x = V) (hy : a.eval y = V2) (hC : Calls Tryd.prog f #[V, V2] w fun r w' => r = .returned v ∧ Below w.heap.size w w')
    (h : ∀ w', Below w.heap.size w w' → K (a.put o.dst v) w') : o.wp Tryd.prog a w K Q := by
  refine wp_enter (exec_call hc #[x, y] ts ho) ?_
  simp only [List.map_toArray, List.map_cons, List.map_nil, hx, hy]
  exact hC.mono (fun e w' ⟨he, hb⟩ => ⟨v, he, h w' hb⟩)
/-- What is known of a slot: a value; or a slice of its own of these numbers. -/
def known (L : List (Option (List Int) × Value)) (i : Nat) (v : Value) (w : World) : Prop :=
  match (L.getD i (none, undef)).1 with
  | some ns => ∃ b, v = .slice (some ⟨b, 0, none⟩) ns.length ns.length ∧ RowsAt w b 0 ns ∧ b < w.heap.size
  | none => v = (L.getD i (none, undef)).2
theorem known_keeps (L : List (Option (List Int) × Value)) (i : Nat) (v : Value) (w w' : World) (h : known L i v w) (hb : Below w.heap.size w w') : known L i v w' := by
  unfold known at *
  split at h
  · obtain ⟨b, e, hr, hl⟩ := h
    exact ⟨b, e, rows_below hr hb hl, Nat.lt_of_lt_of_le hl hb.size⟩
  · exact h
theorem exec_move {a : Act} {o : Oper} {w : World} (x : Operand) (ho : o.op = .move x) : (execOp a.eval o).run Tryd.prog w = .ok (.value (a.eval x)) w := by unfold execOp; simp only [ho, Sem.run_pure]
theorem exec_assign {a : Act} {o : Oper} {w : World} (x : Operand) (ho : o.op = .assign x) : (execOp a.eval o).run Tryd.prog w = .ok (.value (a.eval x)) w := by unfold execOp; simp only [ho, Sem.run_pure]
theorem exec_pick {a : Act} {o : Oper} {w : World} (c x y : Operand) (ho : o.op = .pick c x y) (hc : a.eval c = .bool true) : (execOp a.eval o).run Tryd.prog w = .ok (.value (a.eval x)) w := by
  unfold execOp; simp [ho, hc, asBool, Sem.run_pure]
theorem run_build0 (w : World) : (Instr.build 24 #[]).run Tryd.prog w = .ok (.agg (BA 0)) w := by kernel_rfl
theorem exec_build0 {a : Act} {o : Oper} {w : World} (ho : o.op = .build 24 #[]) : (execOp a.eval o).run Tryd.prog w = .ok (.value (.agg (BA 0))) w := by
  unfold execOp
  simp only [ho, List.map_toArray, List.map_nil, Sem.run_bind, run_build0, Result.andThen_ok, Sem.run_pure]
theorem run_at31 (b : Nat) (w : World) : (Instr.indexAt 24 (.pointer (some ⟨b, 0, none⟩)) (.int .i64 31)).run Tryd.prog w = .ok (.pointer (some ⟨b, 31, none⟩)) w := by kernel_rfl
theorem exec_at31 {a : Act} {o : Oper} {w : World} {x : Operand} (ho : o.op = .indexAddr 24 x (.const (.int .i64 31))) (b : Nat) (hx : a.eval x = .pointer (some ⟨b, 0, none⟩)) : (execOp a.eval o).run Tryd.prog w = .ok (.value (.pointer (some ⟨b, 31, none⟩))) w := by
  have h := run_at31 b w
  unfold execOp
  simp only [ho, hx, Sem.run_bind]
  simp only [Act.eval, h, Result.andThen_ok, Sem.run_pure]
theorem exec_ld5 {a : Act} {o : Oper} {w : World} (x : Operand) (ho : o.op = .load 5 x) (b i : Nat) (hx : a.eval x = .pointer (some ⟨b, i, none⟩)) (v : Value) (hc : w.cell? ⟨b, i, none⟩ = some v) : (execOp a.eval o).run Tryd.prog w = .ok (.value v) w := by
  unfold execOp
  simp only [ho, hx]
  simp [go_sem, hc]
theorem exec_lss128 {a : Act} {o : Oper} {w : World} (x : Operand) (ho : o.op = .binOp .lss 5 x (.const (.int .u8 128)) 5) (n : Int) (hx : a.eval x = .int .u8 n) (h : n < 128) : (execOp a.eval o).run Tryd.prog w = .ok (.value (.bool true)) w := by
  unfold execOp
  simp only [ho, hx]
  simp [Act.eval, go_sem, h]
def sameF (i : Nat) : Nat := [1, 0, 1, 0].getD i 2
def sameT (_i : Nat) : Bool := true
set_option maxHeartbeats 1000000 in
theorem same_any (a b : Int) (w : World) (ha : N256 a) (hb : N256 b) :
    Calls Tryd.prog 20 #[.agg (BA a), .agg (BA b)] w fun r w' => r = .returned (.bool (a % P255 == b % P255)) ∧ Below w.heap.size w w' := by
  have na := N256.mod a
  have nb := N256.mod b
  go_enter Tryd.func20, Tryd.ntmps20
  go_wp2
  refine wp_gen (fun v => v.heap[w.heap.size]? = some (.cells (BA a) 24 (0, 0)) ∧ v.heap[w.heap.size + 1]? = some (.cells (BA b) 24 (0, 0)) ∧ Below w.heap.size w v)
    ⟨heap_alloc2_old w _ _, heap_alloc2_new w _ _, by repeat first | exact Below.refl _ _ | refine Below.alloc ?_ (by simp <;> omega) _⟩ ?_
  rintro v0 ⟨ga, gb, hB⟩
  refine wp_region_mixS (fun v => v.heap[w.heap.size]? = some (.cells (BA a) 24 (0, 0)) ∧ v.heap[w.heap.size + 1]? = some (.cells (BA b) 24 (0, 0)))
    sameF sameT [0, 2, 1, 3, 4, 5] rfl (by kernel_rfl) (fun _ _ d _ _ h => by cases d <;> exact h) ⟨ga, gb⟩ (fun HS => ?_)
  apply mix_look rfl rfl rfl HS
  focus exact fun v h => look_bytes rfl _ _ rfl (BA_size _) h.1
  simp only [Act.put, List.setIfInBounds_toArray, List.set_cons_zero, List.set_cons_succ]
  apply mix_look rfl rfl rfl HS
  focus exact fun v h => look_bytes rfl _ _ rfl (BA_size _) h.2
  simp only [Act.put, List.setIfInBounds_toArray, List.set_cons_zero, List.set_cons_succ]
  clear HS ga gb
  refine mix_act rfl rfl rfl ?_
  intro K hK
  go_simp
  refine (canon_any a _ ha.1 ha.2).mono ?_
  rintro e v1 ⟨rfl, hb1⟩
  have hB1 := Below.trans (Below.drew hB) (hb1.mono hB.size)
  refine hK _ _ (fun _ h => ⟨bheap hb1 h.1 (heap_lt h.1), bheap hb1 h.2 (heap_lt h.2)⟩) ?_
  clear hK K hb1 hB
  refine mix_act rfl rfl rfl ?_
  intro K hK
  go_simp
  refine (canon_any b _ hb.1 hb.2).mono ?_
  rintro e v2 ⟨rfl, hb2⟩
  have hB2 := Below.trans hB1 (hb2.mono hB1.size)
  refine hK _ _ (fun _ h => ⟨bheap hb2 h.1 (heap_lt h.1), bheap hb2 h.2 (heap_lt h.2)⟩) ?_
  clear hK K hb2 hB1
  apply mix_pure rfl rfl rfl
  focus exact fun v => eql_bytes _ _ _ rfl _ _ rfl rfl na.1 na.2 nb.1 nb.2
  simp only [Act.put, List.setIfInBounds_toArray, List.set_cons_zero, List.set_cons_succ]
  apply mix_pure rfl rfl rfl
  focus (intro wq; go_simp; first | done | with_reducible rfl)
  simp only [Act.put, List.setIfInBounds_toArray, List.set_cons_zero, List.set_cons_succ]
  refine mix_done ?_
  go_wp2
  go_ret
  exact ⟨rfl, hB2⟩
end Go.Proofs.YtgklkkjhoecdoaaDoor
