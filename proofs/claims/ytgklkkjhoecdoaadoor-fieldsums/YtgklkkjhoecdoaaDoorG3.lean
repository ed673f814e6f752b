/-
  Own text. What Sub of package field answers, for every two times 32 bytes: a contract over the translation; whole rows in a region that leaves its order open.
-/
import Derived.Test.YtgklkkjhoecdoaaDoorG2
import Derived.Test.YtgklkkjhoecdoaaDoorMix
namespace Go.Proofs.YtgklkkjhoecdoaaDoor
open Go.RowKit Go.Proofs
/-- A whole row of 32 bytes, looked at. -/
theorem look_bytes {a : Act} {o : Oper} {x : Operand} {w : World} (ho : o.op = .load 24 x) (g : Nat) (cs : Array Value) (hx : a.eval x = .pointer (some ⟨g, 0, none⟩)) (hs : cs.size = 32)
    (hg : w.heap[g]? = some (.cells cs 24 (0, 0))) : (execOp a.eval o).run Tryd.prog w = .ok (.value (.agg cs)) w := by
  unfold execOp
  simp only [ho, hx, Instr.loadAt, Instr.sureAddr, Sem.run_bind, Sem.run_pure, Result.andThen_ok, run_loadVar_row w g 24 24 cs (0, 0) _ hg Tryd.underlying24 rfl (by rw [hs]; exact info32)]
theorem look_limbs {a : Act} {o : Oper} {x : Operand} {w : World} (ho : o.op = .load 38 x) (g : Nat) (v0 v1 v2 v3 : Value) (hx : a.eval x = .pointer (some ⟨g, 0, none⟩))
    (hg : w.heap[g]? = some (.cells #[v0, v1, v2, v3] 38 (0, 0))) : (execOp a.eval o).run Tryd.prog w = .ok (.value (.agg #[v0, v1, v2, v3])) w := by
  unfold execOp
  simp only [ho, hx, Instr.loadAt, Instr.sureAddr, Sem.run_bind, Sem.run_pure, Result.andThen_ok, run_loadVar_row w g 38 38 _ (0, 0) _ hg Tryd.underlying38 rfl (by kernel_rfl)]
/-- A store of a whole row, as an act. -/
theorem act_bytes {a : Act} {o : Oper} {w : World} {K : Act → World → Prop} {Q : Exit → Act → World → Prop} (x y : Operand) (ho : o.op = .store 24 x y)
    (g : Nat) (n : Int) (hx : a.eval x = .pointer (some ⟨g, 0, none⟩)) (hy : a.eval y = .agg (BA n)) (old : Array Value) (hg : w.heap[g]? = some (.cells old 24 (0, 0))) (hold : old.size = 32)
    (h : ∀ w2, w2.heap[g]? = some (.cells (BA n) 24 (0, 0)) → Only g w w2 → K (a.put o.dst undef) w2) : o.wp Tryd.prog a w K Q :=
  wp_store_row 24 x y ho g _ hx hy 24 old hg (by rw [BA_size]; exact info32) (by rw [BA_size]; exact hold) (BA_one n) (h _ (setRow_heap w g old _ 24 (0, 0) hg) (only_setRow w g _))
theorem act_limbs {a : Act} {o : Oper} {w : World} {K : Act → World → Prop} {Q : Exit → Act → World → Prop} (x y : Operand) (ho : o.op = .store 38 x y)
    (g : Nat) (y0 y1 y2 y3 : Int) (hx : a.eval x = .pointer (some ⟨g, 0, none⟩)) (hy : a.eval y = .agg #[.int .u64 y0, .int .u64 y1, .int .u64 y2, .int .u64 y3]) (v0 v1 v2 v3 : Value) (hg : w.heap[g]? = some (.cells #[v0, v1, v2, v3] 38 (0, 0)))
    (h : ∀ w2, w2.heap[g]? = some (.cells #[.int .u64 y0, .int .u64 y1, .int .u64 y2, .int .u64 y3] 38 (0, 0)) → Only g w w2 → K (a.put o.dst undef) w2) : o.wp Tryd.prog a w K Q :=
  wp_store_row 38 x y ho g _ hx hy 38 _ hg (by kernel_rfl) rfl (by simp [Value.oneCell']) (h _ (setRow_heap w g _ _ 38 (0, 0) hg) (only_setRow w g _))
theorem heap_a32 (w : World) (A B C : Obj) : (((w.alloc A).alloc B).alloc C).heap[w.heap.size + 1]? = some B := by
  rw [Below.heap_alloc _ _ _ (by simp <;> omega)]
  exact heap_alloc2_new w A B
theorem heap_a31 (w : World) (A B C : Obj) : (((w.alloc A).alloc B).alloc C).heap[w.heap.size]? = some A := by
  rw [Below.heap_alloc _ _ _ (by simp <;> omega)]
  exact heap_alloc2_old w A B
theorem mod_lt_P (n : Int) : 0 ≤ n % P255 ∧ n % P255 < P255 := ⟨Int.emod_nonneg _ (by unfold P255; decide), Int.emod_lt_of_pos _ (by unfold P255; decide)⟩
theorem sub_num {z a b y o k : Int} (e1 : y = b % P255) (e2 : o = P255 - y) (e3 : z = a + o + k * P255) : z % P255 = (a - b) % P255 := by
  have hb : b = P255 * (b / P255) + b % P255 := (Int.mul_ediv_add_emod b P255).symm
  have : z = (a - b) + P255 * (1 + k + b / P255) := by rw [e3, e2, e1]; rw [Int.mul_add, Int.mul_add, Int.mul_one, Int.mul_comm P255 k]; omega
  rw [this, Int.add_mul_emod_self_left]
def subF (i : Nat) : Nat := [1, 0, 1].getD i 0
def subT (i : Nat) : Bool := i != 8
set_option maxHeartbeats 1000000 in
theorem sub_any (a b : Int) (w : World) (hP : PrimeAt w) (ha0 : 0 ≤ a) (ha1 : a < W256) (hb0 : 0 ≤ b) (hb1 : b < W256) :
    Calls Tryd.prog 18 #[.agg (BA a), .agg (BA b)] w fun e w' => e = .returned (.agg (BA ((a - b) % P255))) ∧ Below w.heap.size w w' := by
  have hp0 := primeAt_pos hP
  have HP := Hid.mk hP
  clear hP
  go_enter Tryd.func18, Tryd.ntmps18
  go_wp2
  refine wp_gen (fun v => v.heap[w.heap.size]? = some (.cells (BA a) 24 (0, 0)) ∧ v.heap[w.heap.size + 1]? = some (.cells (BA b) 24 (0, 0)) ∧
    (∃ z : Array Value, v.heap[w.heap.size + 1 + 1]? = some (.cells z 24 (0, 0)) ∧ z.size = 32) ∧ Below w.heap.size w v)
    ⟨heap_a31 w _ _ _, heap_a32 w _ _ _, ⟨_, heap_a3 w _ _ _, rfl⟩, by repeat first | exact Below.refl _ _ | refine Below.alloc ?_ (by simp <;> omega) _⟩ ?_
  rintro v0 ⟨ga, gb, ⟨z, gz, sz⟩, hB⟩
  refine wp_region_mixS (fun v => v.heap[w.heap.size]? = some (.cells (BA a) 24 (0, 0)) ∧ v.heap[w.heap.size + 1]? = some (.cells (BA b) 24 (0, 0)))
    subF subT [0, 2, 1, 3, 4, 5, 6, 7, 8] rfl (by kernel_rfl) (fun _ _ d _ _ h => by cases d <;> exact h) ⟨ga, gb⟩ (fun HS => ?_)
  apply mix_look rfl rfl rfl HS
  focus exact fun v h => look_bytes rfl _ _ rfl (BA_size _) h.1
  simp only [Act.put, List.setIfInBounds_toArray, List.set_cons_zero, List.set_cons_succ]
  apply mix_look rfl rfl rfl HS
  focus exact fun v h => look_bytes rfl _ _ rfl (BA_size _) h.2
  simp only [Act.put, List.setIfInBounds_toArray, List.set_cons_zero, List.set_cons_succ]
  clear HS ga gb
  refine mix_act rfl rfl rfl ?_
  intro K hK
  go_simp
  refine (load_any a _).mono ?_
  rintro e v1 ⟨rfl, hb⟩
  have gz := bheap hb gz (heap_lt gz)
  have hB := Below.trans (Below.drew hB) (hb.mono hB.size)
  refine hK _ _ (fun _ h => ⟨bheap hb h.1 (heap_lt h.1), bheap hb h.2 (heap_lt h.2)⟩) ?_
  clear hK K hb
  refine mix_act rfl rfl rfl ?_
  intro K hK
  go_simp
  refine (load_any b _).mono ?_
  rintro e v2 ⟨rfl, hb⟩
  have gz := bheap hb gz (heap_lt gz)
  have hB := Below.trans hB (hb.mono hB.size)
  refine hK _ _ (fun _ h => ⟨bheap hb h.1 (heap_lt h.1), bheap hb h.2 (heap_lt h.2)⟩) ?_
  clear hK K hb
  refine mix_act rfl rfl rfl ?_
  intro K hK
  go_simp
  refine (least_any _ _ _ _ _ (limb_u64 _ _) (limb_u64 _ _) (limb_u64 _ _) (limb_u64 _ _)).mono ?_
  rintro e v3 ⟨y0, y1, y2, y3, hy0, hy1, hy2, hy3, ey, rfl, hb⟩
  have gz := bheap hb gz (heap_lt gz)
  have hB := Below.trans hB (hb.mono hB.size)
  refine hK _ _ (fun _ h => ⟨bheap hb h.1 (heap_lt h.1), bheap hb h.2 (heap_lt h.2)⟩) ?_
  clear hK K hb
  rw [limb_V4 hb0 hb1] at ey
  have hy := (mod_lt_P b).2
  have EY := Hid.mk ey
  have hle : V4 y0 y1 y2 y3 ≤ P255 := by rw [ey]; omega
  clear ey hy
  have HL := Hid.mk hle
  clear hle
  refine mix_act rfl rfl rfl ?_
  intro K hK
  go_simp
  refine (opposite_any _ _ _ _ _ (primeAt_below HP.out hB hp0) hy0 hy1 hy2 hy3 HL.out).mono ?_
  rintro e v4 ⟨o0, o1, o2, o3, ho0, ho1, ho2, ho3, eo, rfl, hb⟩
  have gz := bheap hb gz (heap_lt gz)
  have hB := Below.trans hB (hb.mono hB.size)
  refine hK _ _ (fun _ h => ⟨bheap hb h.1 (heap_lt h.1), bheap hb h.2 (heap_lt h.2)⟩) ?_
  clear hK K hb
  have EO := Hid.mk eo
  clear eo
  refine mix_act rfl rfl rfl ?_
  intro K hK
  go_simp
  refine (plus_any _ _ _ _ _ _ _ _ _ (limb_u64 _ _) (limb_u64 _ _) (limb_u64 _ _) (limb_u64 _ _) ho0 ho1 ho2 ho3).mono ?_
  rintro e v5 ⟨q0, q1, q2, q3, hq0, hq1, hq2, hq3, ⟨k, ek⟩, rfl, hb⟩
  have gz := bheap hb gz (heap_lt gz)
  have hB := Below.trans hB (hb.mono hB.size)
  refine hK _ _ (fun _ h => ⟨bheap hb h.1 (heap_lt h.1), bheap hb h.2 (heap_lt h.2)⟩) ?_
  clear hK K hb
  rw [limb_V4 ha0 ha1] at ek
  have EK := Hid.mk (sub_num EY.out EO.out ek)
  clear ek
  refine mix_act rfl rfl rfl ?_
  intro K hK
  go_simp
  refine (store_any _ _ _ _ _ hq0 hq1 hq2 hq3).mono ?_
  rintro e v6 ⟨rfl, hb⟩
  have gz := bheap hb gz (heap_lt gz)
  have hB := Below.trans hB (hb.mono hB.size)
  refine hK _ _ (fun _ h => ⟨bheap hb h.1 (heap_lt h.1), bheap hb h.2 (heap_lt h.2)⟩) ?_
  clear hK K hb
  refine mix_act rfl rfl rfl ?_
  intro K hK
  refine act_bytes _ _ rfl _ _ rfl rfl _ gz sz ?_
  intro v7 g7 o7
  refine hK _ _ (fun h => by cases h) ?_
  clear hK K
  refine mix_done ?_
  go_wp2
  rw [EK.out] at g7
  exact bodyPost_ret (v := .agg (BA ((a - b) % P255))) (results_cell_row rfl _ _ _ _ _ _ _ rfl g7 Tryd.underlying24 rfl (by rw [BA_size]; exact info32)) rfl
    ⟨rfl, Below.trans hB (Only.below (b := w.heap.size + 1 + 1) (B := w.heap.size) o7 (by omega))⟩
end Go.Proofs.YtgklkkjhoecdoaaDoor
