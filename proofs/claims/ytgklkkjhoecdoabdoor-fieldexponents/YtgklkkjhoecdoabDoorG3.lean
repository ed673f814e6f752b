/-
  Own text. What Sub of package field answers, for every two times 32 bytes: a contract over the translation; whole rows in a region that leaves its order open.
-/
import Derived.Test.YtgklkkjhoecdoabDoorG2
import Derived.Test.YtgklkkjhoecdoabDoorMix
namespace Go.Proofs.YtgklkkjhoecdoabDoor
open Go.RowKit Go.Proofs
/-- A whole row of 32 bytes, looked at. -/
theorem look_bytes {a : Act} {o : Oper} {x : Operand} {w : World} (ho : o.op = .load 22 x) (g : Nat) (cs : Array Value) (hx : a.eval x = .pointer (some ⟨g, 0, none⟩)) (hs : cs.size = 32)
    (hg : w.heap[g]? = some (.cells cs 22 (0, 0))) : (execOp a.eval o).run Tryd.prog w = .ok (.value (.agg cs)) w := by
  unfold execOp
  simp only [ho, hx, Instr.loadAt, Instr.sureAddr, Sem.run_bind, Sem.run_pure, Result.andThen_ok, run_loadVar_row w g 22 22 cs (0, 0) _ hg Tryd.underlying22 rfl (by rw [hs]; exact info32)]
theorem look_limbs {a : Act} {o : Oper} {x : Operand} {w : World} (ho : o.op = .load 30 x) (g : Nat) (v0 v1 v2 v3 : Value) (hx : a.eval x = .pointer (some ⟨g, 0, none⟩))
    (hg : w.heap[g]? = some (.cells #[v0, v1, v2, v3] 30 (0, 0))) : (execOp a.eval o).run Tryd.prog w = .ok (.value (.agg #[v0, v1, v2, v3])) w := by
  unfold execOp
  simp only [ho, hx, Instr.loadAt, Instr.sureAddr, Sem.run_bind, Sem.run_pure, Result.andThen_ok, run_loadVar_row w g 30 30 _ (0, 0) _ hg Tryd.underlying30 rfl (by kernel_rfl)]
/-- A store of a whole row, as an act. -/
theorem act_bytes {a : Act} {o : Oper} {w : World} {K : Act → World → Prop} {Q : Exit → Act → World → Prop} (x y : Operand) (ho : o.op = .store 22 x y)
    (g : Nat) (n : Int) (hx : a.eval x = .pointer (some ⟨g, 0, none⟩)) (hy : a.eval y = .agg (BA n)) (old : Array Value) (hg : w.heap[g]? = some (.cells old 22 (0, 0))) (hold : old.size = 32)
    (h : ∀ w2, w2.heap[g]? = some (.cells (BA n) 22 (0, 0)) → Only g w w2 → K (a.put o.dst undef) w2) : o.wp Tryd.prog a w K Q :=
  wp_store_row 22 x y ho g _ hx hy 22 old hg (by rw [BA_size]; exact info32) (by rw [BA_size]; exact hold) (BA_one n) (h _ (setRow_heap w g old _ 22 (0, 0) hg) (only_setRow w g _))
theorem act_limbs {a : Act} {o : Oper} {w : World} {K : Act → World → Prop} {Q : Exit → Act → World → Prop} (x y : Operand) (ho : o.op = .store 30 x y)
    (g : Nat) (y0 y1 y2 y3 : Int) (hx : a.eval x = .pointer (some ⟨g, 0, none⟩)) (hy : a.eval y = .agg #[.int .u64 y0, .int .u64 y1, .int .u64 y2, .int .u64 y3]) (v0 v1 v2 v3 : Value) (hg : w.heap[g]? = some (.cells #[v0, v1, v2, v3] 30 (0, 0)))
    (h : ∀ w2, w2.heap[g]? = some (.cells #[.int .u64 y0, .int .u64 y1, .int .u64 y2, .int .u64 y3] 30 (0, 0)) → Only g w w2 → K (a.put o.dst undef) w2) : o.wp Tryd.prog a w K Q :=
  wp_store_row 30 x y ho g _ hx hy 30 _ hg (by kernel_rfl) rfl (by simp [Value.oneCell']) (h _ (setRow_heap w g _ _ 30 (0, 0) hg) (only_setRow w g _))
theorem heap_a32 (w : World) (A B C : Obj) : (((w.alloc A).alloc B).alloc C).heap[w.heap.size + 1]? = some B := by
  rw [Below.heap_alloc _ _ _ (by simp <;> omega)]
  exact heap_alloc2_new w A B
theorem heap_a31 (w : World) (A B C : Obj) : (((w.alloc A).alloc B).alloc C).heap[w.heap.size]? = some A := by
  rw [Below.heap_alloc _ _ _ (by simp <;> omega)]
  exact heap_alloc2_old w A B
theorem mod_lt_P (n : Int) : 0 ≤ n % P255 ∧ n % P255 < P255 := ⟨Int.emod_nonneg _ (by unfold P255; decide), Int.emod_lt_of_pos _ (by unfold P255; decide)⟩
theorem sub_num {z a b y o k : Int} (e1 : y = b % P255) (e2 : o = P255 - y) (e3 : z = a + o + k * P255) : z % P255 = (a - b) % P255 := by
  have hb : b = P255 * (b / P255) + b % P255 := (Int.mul_ediv_add_emod b P255).symm
  have : z = (a - b) + P255 * (1 + k + b / P255) := by rw [e3, e2, e1]; rw [Int.mul_add, Int.mul_add, Int.mul_one, Int.mul_comm P255 k]; omega
  rw [this, Int.add_mul_emod_self_left]
end Go.Proofs.YtgklkkjhoecdoabDoor
