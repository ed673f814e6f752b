/-
  Own text. What Sub of package field answers, for every two times 32 bytes: a contract over the translation; whole rows in a region that leaves its order open.
-/
import Derived.Test.YtpcpcgfljffkeaaDoorJ1
import Derived.Deep.MidRow
import Derived.ChangeKeysEq
import Derived.Deep.QuietTactic
import Derived.BigQuiet
import Derived.Laws.OwnMore
import Derived.OwnWalk
import Derived.Deep.OwnRows
import Derived.Deep.LoopGhost
namespace Go.Proofs.YtpcpcgfljffkeaaDoor
open Go.RowKit Go.Proofs
/-- A whole row of 32 bytes, looked at. -/
theorem look_bytes {a : Act} {o : Oper} {x : Operand} {w : World} (ho : o.op = .load 22 x) (g : Nat) (cs : Array Value) (hx : a.eval x = .pointer (some ⟨g, 0, none⟩)) (hs : cs.size = 32)
    (hg : w.heap[g]? = some (.cells cs 22 (0, 0))) : (execOp a.eval o).run Tryd.prog w = .ok (.value (.agg cs)) w := by
  unfold execOp
  simp only [ho, hx, Instr.loadAt, Instr.sureAddr, Sem.run_bind, Sem.run_pure, Result.andThen_ok, run_loadVar_row w g 22 22 cs (0, 0) _ hg Tryd.underlying22 rfl (by rw [hs]; exact info32)]
theorem look_limbs {a : Act} {o : Oper} {x : Operand} {w : World} (ho : o.op = .load 43 x) (g : Nat) (v0 v1 v2 v3 : Value) (hx : a.eval x = .pointer (some ⟨g, 0, none⟩))
    (hg : w.heap[g]? = some (.cells #[v0, v1, v2, v3] 43 (0, 0))) : (execOp a.eval o).run Tryd.prog w = .ok (.value (.agg #[v0, v1, v2, v3])) w := by
  unfold execOp
  simp only [ho, hx, Instr.loadAt, Instr.sureAddr, Sem.run_bind, Sem.run_pure, Result.andThen_ok, run_loadVar_row w g 43 43 _ (0, 0) _ hg Tryd.underlying43 rfl (by kernel_rfl)]
/-- A store of a whole row, as an act. -/
theorem act_bytes {a : Act} {o : Oper} {w : World} {K : Act → World → Prop} {Q : Exit → Act → World → Prop} (x y : Operand) (ho : o.op = .store 22 x y)
    (g : Nat) (n : Int) (hx : a.eval x = .pointer (some ⟨g, 0, none⟩)) (hy : a.eval y = .agg (BA n)) (old : Array Value) (hg : w.heap[g]? = some (.cells old 22 (0, 0))) (hold : old.size = 32)
    (h : ∀ w2, w2.heap[g]? = some (.cells (BA n) 22 (0, 0)) → Only g w w2 → K (a.put o.dst undef) w2) : o.wp Tryd.prog a w K Q :=
  wp_store_row 22 x y ho g _ hx hy 22 old hg (by rw [BA_size]; exact info32) (by rw [BA_size]; exact hold) (BA_one n) (h _ (setRow_heap w g old _ 22 (0, 0) hg) (only_setRow w g _))
theorem act_limbs {a : Act} {o : Oper} {w : World} {K : Act → World → Prop} {Q : Exit → Act → World → Prop} (x y : Operand) (ho : o.op = .store 43 x y)
    (g : Nat) (y0 y1 y2 y3 : Int) (hx : a.eval x = .pointer (some ⟨g, 0, none⟩)) (hy : a.eval y = .agg #[.int .u64 y0, .int .u64 y1, .int .u64 y2, .int .u64 y3]) (v0 v1 v2 v3 : Value) (hg : w.heap[g]? = some (.cells #[v0, v1, v2, v3] 43 (0, 0)))
    (h : ∀ w2, w2.heap[g]? = some (.cells #[.int .u64 y0, .int .u64 y1, .int .u64 y2, .int .u64 y3] 43 (0, 0)) → Only g w w2 → K (a.put o.dst undef) w2) : o.wp Tryd.prog a w K Q :=
  wp_store_row 43 x y ho g _ hx hy 43 _ hg (by kernel_rfl) rfl (by simp [Value.oneCell']) (h _ (setRow_heap w g _ _ 43 (0, 0) hg) (only_setRow w g _))
theorem heap_a32 (w : World) (A B C : Obj) : (((w.alloc A).alloc B).alloc C).heap[w.heap.size + 1]? = some B := by
  rw [Below.heap_alloc _ _ _ (by simp <;> omega)]
  exact heap_alloc2_new w A B
theorem heap_a31 (w : World) (A B C : Obj) : (((w.alloc A).alloc B).alloc C).heap[w.heap.size]? = some A := by
  rw [Below.heap_alloc _ _ _ (by simp <;> omega)]
  exact heap_alloc2_old w A B
theorem mod_lt_P (n : Int) : 0 ≤ n % P255 ∧ n % P255 < P255 := ⟨Int.emod_nonneg _ (by unfold P255; decide), Int.emod_lt_of_pos _ (by unfold P255; decide)⟩
theorem sub_num {z a b y o k : Int} (e1 : y = b % P255) (e2 : o = P255 - y) (e3 : z = a + o + k * P255) : z % P255 = (a - b) % P255 := by
  have hb : b = P255 * (b / P255) + b % P255 := (Int.mul_ediv_add_emod b P255).symm
  have : z = (a - b) + P255 * (1 + k + b / P255) := by rw [e3, e2, e1]; rw [Int.mul_add, Int.mul_add, Int.mul_one, Int.mul_comm P255 k]; omega
  rw [this, Int.add_mul_emod_self_left]
def subF (i : Nat) : Nat := [1, 0, 1].getD i 0
def subT (i : Nat) : Bool := i != 8
set_option maxHeartbeats 1000000 in
theorem sub_any (a b : Int) (w : World) (hP : PrimeAt w) (ha0 : 0 ≤ a) (ha1 : a < W256) (hb0 : 0 ≤ b) (hb1 : b < W256) :
    Calls Tryd.prog 49 #[.agg (BA a), .agg (BA b)] w fun e w' => e = .returned (.agg (BA ((a - b) % P255))) ∧ Below w.heap.size w w' := by
  have hp0 := primeAt_pos hP
  have HP := Hid.mk hP
  clear hP
  go_enter Tryd.func49, Tryd.ntmps49
  go_wp2
  refine wp_gen (fun v => v.heap[w.heap.size]? = some (.cells (BA a) 22 (0, 0)) ∧ v.heap[w.heap.size + 1]? = some (.cells (BA b) 22 (0, 0)) ∧
    (∃ z : Array Value, v.heap[w.heap.size + 1 + 1]? = some (.cells z 22 (0, 0)) ∧ z.size = 32) ∧ Below w.heap.size w v)
    ⟨heap_a31 w _ _ _, heap_a32 w _ _ _, ⟨_, heap_a3 w _ _ _, rfl⟩, by repeat first | exact Below.refl _ _ | refine Below.alloc ?_ (by simp <;> omega) _⟩ ?_
  rintro v0 ⟨ga, gb, ⟨z, gz, sz⟩, hB⟩
  refine wp_region_mixS (fun v => v.heap[w.heap.size]? = some (.cells (BA a) 22 (0, 0)) ∧ v.heap[w.heap.size + 1]? = some (.cells (BA b) 22 (0, 0)))
    subF subT [0, 2, 1, 3, 4, 5, 6, 7, 8] rfl (by kernel_rfl) (fun _ _ d _ _ h => by cases d <;> exact h) ⟨ga, gb⟩ (fun HS => ?_)
  apply mix_look rfl rfl rfl HS
  focus exact fun v h => look_bytes rfl _ _ rfl (BA_size _) h.1
  simp only [Act.put, List.setIfInBounds_toArray, List.set_cons_zero, List.set_cons_succ]
  apply mix_look rfl rfl rfl HS
  focus exact fun v h => look_bytes rfl _ _ rfl (BA_size _) h.2
  simp only [Act.put, List.setIfInBounds_toArray, List.set_cons_zero, List.set_cons_succ]
  clear HS ga gb
  refine mix_act rfl rfl rfl ?_
  intro K hK
  go_simp
  refine (load_any a _).mono ?_
  rintro e v1 ⟨rfl, hb⟩
  have gz := bheap hb gz (heap_lt gz)
  have hB := Below.trans (Below.drew hB) (hb.mono hB.size)
  refine hK _ _ (fun _ h => ⟨bheap hb h.1 (heap_lt h.1), bheap hb h.2 (heap_lt h.2)⟩) ?_
  clear hK K hb
  refine mix_act rfl rfl rfl ?_
  intro K hK
  go_simp
  refine (load_any b _).mono ?_
  rintro e v2 ⟨rfl, hb⟩
  have gz := bheap hb gz (heap_lt gz)
  have hB := Below.trans hB (hb.mono hB.size)
  refine hK _ _ (fun _ h => ⟨bheap hb h.1 (heap_lt h.1), bheap hb h.2 (heap_lt h.2)⟩) ?_
  clear hK K hb
  refine mix_act rfl rfl rfl ?_
  intro K hK
  go_simp
  refine (least_any _ _ _ _ _ (limb_u64 _ _) (limb_u64 _ _) (limb_u64 _ _) (limb_u64 _ _)).mono ?_
  rintro e v3 ⟨y0, y1, y2, y3, hy0, hy1, hy2, hy3, ey, rfl, hb⟩
  have gz := bheap hb gz (heap_lt gz)
  have hB := Below.trans hB (hb.mono hB.size)
  refine hK _ _ (fun _ h => ⟨bheap hb h.1 (heap_lt h.1), bheap hb h.2 (heap_lt h.2)⟩) ?_
  clear hK K hb
  rw [limb_V4 hb0 hb1] at ey
  have hy := (mod_lt_P b).2
  have EY := Hid.mk ey
  have hle : V4 y0 y1 y2 y3 ≤ P255 := by rw [ey]; omega
  clear ey hy
  have HL := Hid.mk hle
  clear hle
  refine mix_act rfl rfl rfl ?_
  intro K hK
  go_simp
  refine (opposite_any _ _ _ _ _ (primeAt_below HP.out hB hp0) hy0 hy1 hy2 hy3 HL.out).mono ?_
  rintro e v4 ⟨o0, o1, o2, o3, ho0, ho1, ho2, ho3, eo, rfl, hb⟩
  have gz := bheap hb gz (heap_lt gz)
  have hB := Below.trans hB (hb.mono hB.size)
  refine hK _ _ (fun _ h => ⟨bheap hb h.1 (heap_lt h.1), bheap hb h.2 (heap_lt h.2)⟩) ?_
  clear hK K hb
  have EO := Hid.mk eo
  clear eo
  refine mix_act rfl rfl rfl ?_
  intro K hK
  go_simp
  refine (plus_any _ _ _ _ _ _ _ _ _ (limb_u64 _ _) (limb_u64 _ _) (limb_u64 _ _) (limb_u64 _ _) ho0 ho1 ho2 ho3).mono ?_
  rintro e v5 ⟨q0, q1, q2, q3, hq0, hq1, hq2, hq3, ⟨k, ek⟩, rfl, hb⟩
  have gz := bheap hb gz (heap_lt gz)
  have hB := Below.trans hB (hb.mono hB.size)
  refine hK _ _ (fun _ h => ⟨bheap hb h.1 (heap_lt h.1), bheap hb h.2 (heap_lt h.2)⟩) ?_
  clear hK K hb
  rw [limb_V4 ha0 ha1] at ek
  have EK := Hid.mk (sub_num EY.out EO.out ek)
  clear ek
  refine mix_act rfl rfl rfl ?_
  intro K hK
  go_simp
  refine (store_any _ _ _ _ _ hq0 hq1 hq2 hq3).mono ?_
  rintro e v6 ⟨rfl, hb⟩
  have gz := bheap hb gz (heap_lt gz)
  have hB := Below.trans hB (hb.mono hB.size)
  refine hK _ _ (fun _ h => ⟨bheap hb h.1 (heap_lt h.1), bheap hb h.2 (heap_lt h.2)⟩) ?_
  clear hK K hb
  refine mix_act rfl rfl rfl ?_
  intro K hK
  refine act_bytes _ _ rfl _ _ rfl rfl _ gz sz ?_
  intro v7 g7 o7
  refine hK _ _ (fun h => by cases h) ?_
  clear hK K
  refine mix_done ?_
  go_wp2
  rw [EK.out] at g7
  exact bodyPost_ret (v := .agg (BA ((a - b) % P255))) (results_cell_row rfl _ _ _ _ _ _ _ rfl g7 Tryd.underlying22 rfl (by rw [BA_size]; exact info32)) rfl
    ⟨rfl, Below.trans hB (Only.below (b := w.heap.size + 1 + 1) (B := w.heap.size) o7 (by omega))⟩
end Go.Proofs.YtpcpcgfljffkeaaDoor
/-
  Own text. What Add of package field answers, for every slice of 32 bytes each that is not nil: a contract over the translation.
-/
namespace Go.Proofs.YtpcpcgfljffkeaaDoor
open Go.RowKit Go.Proofs
/-- The numbers ns lie in block b from off on, 32 cells each. -/
def RowsAt (w : World) (b off : Nat) (ns : List Int) : Prop := ∀ k, k < ns.length → w.rangeAt b (off + k * 32) (BA (ns.getD k 0)).toList
theorem ld_mid {ops : Array Oper} {rest : List Oper} {o : Oper} {a : Act} {w : World} {Q : Exit → Act → World → Prop} (hgd : o.guard = none) (x : Operand) (ho : o.op = .load 22 x)
    (b off : Nat) (n : Int) (hx : a.eval x = .pointer (some ⟨b, off, none⟩)) (hc : w.rangeAt b off (BA n).toList)
    (h : wpList Tryd.prog ops Q rest (a.put o.dst (.agg (BA n))) w) : wpList Tryd.prog ops Q (o :: rest) a w :=
  wpList_load_mid hgd 22 x ho b off hx _ _ hc Tryd.underlying22 rfl (by rw [Array.length_toList, BA_size]; exact info32) (by rw [Array.toArray_toList]; exact h)
theorem ld_limbs {ops : Array Oper} {rest : List Oper} {o : Oper} {a : Act} {w : World} {Q : Exit → Act → World → Prop} (hgd : o.guard = none) (x : Operand) (ho : o.op = .load 43 x)
    (g : Nat) (v0 v1 v2 v3 : Value) (hx : a.eval x = .pointer (some ⟨g, 0, none⟩)) (hg : w.heap[g]? = some (.cells #[v0, v1, v2, v3] 43 (0, 0)))
    (h : wpList Tryd.prog ops Q rest (a.put o.dst (.agg #[v0, v1, v2, v3])) w) : wpList Tryd.prog ops Q (o :: rest) a w :=
  wpList_load_row hgd 43 x ho g hx 43 _ (0, 0) _ hg Tryd.underlying43 rfl (by kernel_rfl) h
theorem take_sum (ns : List Int) (k : Nat) (h : k < ns.length) : (ns.take (k + 1)).sum = (ns.take k).sum + ns[k] := by
  rw [List.take_succ_eq_append_getElem h, List.sum_append]; simp
theorem add_step {ns : List Int} {k : Nat} {Z Q c n : Int} (hz : ∃ c : Int, Z = (ns.take k).sum + c * P255) (e : Q = Z + n + c * P255) (hs : (ns.take (k + 1)).sum = (ns.take k).sum + n) :
    ∃ c : Int, Q = (ns.take (k + 1)).sum + c * P255 := by
  obtain ⟨d, rfl⟩ := hz
  exact ⟨d + c, by rw [e, hs, Int.add_mul]; omega⟩
theorem add_last {ns : List Int} {Z : Int} (hz : ∃ c : Int, Z = (ns.take ns.length).sum + c * P255) : Z % P255 = ns.sum % P255 := by
  obtain ⟨d, rfl⟩ := hz
  rw [List.take_length, Int.mul_comm, Int.add_mul_emod_self_left]
def addF (i : Nat) : Nat := [1, 1].getD i 0
def addT (i : Nat) : Bool := i != 4
set_option maxHeartbeats 1000000 in
theorem add_walk (b off cap : Nat) (ns : List Int) (w : World) (hr : ∀ n ∈ ns, 0 ≤ n ∧ n < W256) (hrows : RowsAt w b off ns) (hb : b < w.heap.size) (hlen : ns.length ≤ 4611686018427387904) :
    Calls Tryd.prog 48 #[.slice (some ⟨b, off, none⟩) ns.length cap] w fun e w' => e = .returned (.agg (BA (ns.sum % P255))) ∧ Below w.heap.size w w' := by
  have HR := Hid.mk hr
  have HW := Hid.mk hrows
  clear hr hrows
  go_enter Tryd.func48, Tryd.ntmps48
  go_wp2
  go_loopw [8] (fun i v => ∃ k : Nat, k ≤ ns.length ∧ i = .int .i64 k ∧ ∃ z0 z1 z2 z3, U64 z0 ∧ U64 z1 ∧ U64 z2 ∧ U64 z3 ∧ (∃ c : Int, V4 z0 z1 z2 z3 = (ns.take k).sum + c * P255) ∧
      v.heap[w.heap.size + 1]? = some (.cells #[.int .u64 z0, .int .u64 z1, .int .u64 z2, .int .u64 z3] 43 (0, 0)) ∧ (∃ z : Array Value, v.heap[w.heap.size]? = some (.cells z 22 (0, 0)) ∧ z.size = 32) ∧ Below w.heap.size w v)
    (fun i _ => ns.length - (intOf i).toNat)
  case atStart =>
    exact ⟨0, Nat.zero_le _, rfl, 0, 0, 0, 0, u64_0, u64_0, u64_0, u64_0, ⟨0, by simp [V4]⟩, heap_alloc2_new w _ _, ⟨_, heap_alloc2_old w _ _, rfl⟩, by repeat first | exact Below.refl _ _ | refine Below.alloc ?_ (by simp <;> omega) _⟩
  case round =>
    obtain ⟨k, hk, rfl, z0, z1, z2, z3, hz0, hz1, hz2, hz3, hz, gs, ⟨z, gz, sz⟩, hB⟩ := hrel
    have HZ := Hid.mk hz
    clear hz
    by_cases hlt : k < ns.length
    · have hn := HR.out _ (List.getElem_mem hlt)
      have hrow : wr.rangeAt b (off + k * 32) (BA (ns.getD k 0)).toList := fun j v hv => (hB.cell hb).trans (HW.out k hlt j v hv)
      have hgd : ns.getD k 0 = ns[k] := by simp [hlt]
      rw [hgd] at hrow
      have hsn := Hid.mk (take_sum ns k hlt)
      clear hgd
      generalize ns[k] = n at *
      have HROW := Hid.mk hrow
      clear hrow
      go_wp2_with (first | (refine ld_mid rfl _ rfl _ _ n rfl HROW.out ?_) | (refine st_bytes rfl _ _ rfl _ n rfl rfl _ (heap_alloc_new wr _) rfl ?_; intro v1 g1 o1))
      have hsz : w.heap.size + 1 < wr.heap.size := heap_lt gs
      have gs1 := (o1.block _ (by omega)).trans ((Below.heap_alloc wr _ _ hsz).trans gs)
      have gz1 := (o1.block _ (by omega)).trans ((Below.heap_alloc wr _ _ (by omega)).trans gz)
      have hB1 : Below w.heap.size w v1 := Below.trans (hB.alloc (by omega) _) (Only.below (b := wr.heap.size) (B := w.heap.size) o1 (by omega))
      clear o1 gs gz hB
      generalize wr.heap.size = bw at *
      refine wp_region_mixS (fun v => v.heap[w.heap.size + 1]? = some (.cells #[.int .u64 z0, .int .u64 z1, .int .u64 z2, .int .u64 z3] 43 (0, 0)) ∧ v.heap[bw]? = some (.cells (BA n) 22 (0, 0)))
        addF addT [0, 1, 2, 3, 4] rfl (by kernel_rfl) (fun _ _ d _ _ h => by cases d <;> exact h) ⟨gs1, g1⟩ (fun HS => ?_)
      apply mix_look rfl rfl rfl HS
      focus exact fun v h => look_limbs rfl _ _ _ _ _ rfl h.1
      simp only [Act.put, List.setIfInBounds_toArray, List.set_cons_zero, List.set_cons_succ]
      apply mix_look rfl rfl rfl HS
      focus exact fun v h => look_bytes rfl _ _ rfl (BA_size _) h.2
      simp only [Act.put, List.setIfInBounds_toArray, List.set_cons_zero, List.set_cons_succ]
      clear HS g1
      refine mix_act rfl rfl rfl ?_
      intro K hK
      go_simp
      refine (load_any n _).mono ?_
      rintro e v2 ⟨rfl, hb2⟩
      have gs2 := bheap hb2 gs1 (heap_lt gs1)
      have gz2 := bheap hb2 gz1 (heap_lt gz1)
      have hB2 := Below.trans (Below.drew hB1) (hb2.mono hB1.size)
      refine hK _ _ (fun _ h => ⟨bheap hb2 h.1 (heap_lt h.1), bheap hb2 h.2 (heap_lt h.2)⟩) ?_
      clear hK K hb2 gs1 gz1 hB1
      refine mix_act rfl rfl rfl ?_
      intro K hK
      go_simp
      refine (plus_any _ _ _ _ _ _ _ _ _ hz0 hz1 hz2 hz3 (limb_u64 _ _) (limb_u64 _ _) (limb_u64 _ _) (limb_u64 _ _)).mono ?_
      rintro e v3 ⟨q0, q1, q2, q3, hq0, hq1, hq2, hq3, ⟨c, ec⟩, rfl, hb3⟩
      rw [limb_V4 hn.1 hn.2] at ec
      have EC := Hid.mk ec
      clear ec
      have gs3 := bheap hb3 gs2 (heap_lt gs2)
      have gz3 := bheap hb3 gz2 (heap_lt gz2)
      have hB3 := Below.trans hB2 (hb3.mono hB2.size)
      refine hK _ _ (fun _ h => ⟨bheap hb3 h.1 (heap_lt h.1), bheap hb3 h.2 (heap_lt h.2)⟩) ?_
      clear hK K hb3 gs2 gz2 hB2
      refine mix_act rfl rfl rfl ?_
      intro K hK
      refine act_limbs _ _ rfl _ _ _ _ _ rfl rfl _ _ _ _ gs3 ?_
      intro v4 g4 o4
      refine hK _ _ (fun h => by cases h) ?_
      clear hK K
      refine mix_done ?_
      have gz4 := (o4.block _ (by omega)).trans gz3
      have hB4 : Below w.heap.size w v4 := Below.trans hB3 (Only.below (b := w.heap.size + 1) (B := w.heap.size) o4 (by omega))
      clear o4 gs3 gz3 hB3
      go_wp2
      go_roundw
      case rel => exact ⟨k + 1, by omega, by go_num, q0, q1, q2, q3, hq0, hq1, hq2, hq3, add_step HZ.out EC.out hsn.out, g4, ⟨z, gz4, sz⟩, hB4⟩
      case measure => simp [intOf]; omega
    · have hk2 : k = ns.length := by omega
      subst hk2
      go_wp2_with (refine ld_limbs rfl _ rfl _ _ _ _ _ rfl gs ?_)
      refine (store_any _ _ _ _ _ hz0 hz1 hz2 hz3).mono ?_
      rintro e v2 ⟨rfl, hb2⟩
      have gz2 := bheap hb2 gz (heap_lt gz)
      have hB2 := Below.trans hB (hb2.mono hB.size)
      clear hb2
      go_wp2_with (refine st_bytes rfl _ _ rfl _ _ rfl rfl _ gz2 sz ?_; intro v3 g3 o3)
      rw [add_last HZ.out] at g3
      exact bodyPost_ret (v := .agg (BA (ns.sum % P255))) (results_cell_row rfl _ _ _ _ _ _ _ rfl g3 Tryd.underlying22 rfl (by rw [BA_size]; exact info32)) rfl
        ⟨rfl, Below.trans hB2 (Only.below (b := w.heap.size) (B := w.heap.size) o3 (by omega))⟩
end Go.Proofs.YtpcpcgfljffkeaaDoor
/-
  Own text. What plusProduct of package field answers, for every four words: a contract over the translation.
-/
namespace Go.Proofs.YtpcpcgfljffkeaaDoor
open Go.RowKit Go.Proofs
/-- lo and hi are the low and the high word of a + b + x * y. -/
def Prod4 (a b x y lo hi : Int) : Prop := U64 lo ∧ U64 hi ∧ lo + 18446744073709551616 * hi = a + b + x * y
theorem Prod4.lo {a b x y lo hi : Int} (h : Prod4 a b x y lo hi) : U64 lo := h.1
theorem Prod4.hi {a b x y lo hi : Int} (h : Prod4 a b x y lo hi) : U64 hi := h.2.1
theorem mul_bound {x y : Int} (hx : U64 x) (hy : U64 y) : 0 ≤ x * y ∧ x * y ≤ 340282366920938463426481119284349108225 := by
  unfold U64 at hx hy
  refine ⟨Int.mul_nonneg hx.1 hy.1, ?_⟩
  have := Int.mul_le_mul (show x ≤ 18446744073709551615 by omega) (show y ≤ 18446744073709551615 by omega) hy.1 (by omega)
  omega
set_option maxHeartbeats 1000000 in
theorem plusProduct_all {a b x y : Int} (ha : U64 a) (hb : U64 b) (hx : U64 x) (hy : U64 y) : ∃ lo hi, Prod4 a b x y lo hi ∧ ∀ w,
    Calls Tryd.prog 50 #[.int .u64 a, .int .u64 b, .int .u64 x, .int .u64 y] w fun e w' => e = .returned (.tuple #[.int .u64 lo, .int .u64 hi]) ∧ w' = w := by
  have hm := mul_bound hx hy
  have hH : U64 (x * y / 18446744073709551616) := by unfold U64; omega
  have hL : U64 (x * y % 18446744073709551616) := by unfold U64; omega
  obtain ⟨l1, c1, s1, r1⟩ := add64_all hL ha bit0
  obtain ⟨l2, c2, s2, r2⟩ := add64_all s1.lo hb bit0
  have M := Hid.mk (fun w => mul64_any x y w hx hy)
  have hi : Prod4 a b x y l2 (x * y / 18446744073709551616 + c1 + c2) := by
    unfold Sum3 U64 Bit at *
    unfold Prod4 U64
    generalize x * y = z at *
    omega
  have w1 : IntKind.u64.wrap (x * y / 18446744073709551616 + c1) = x * y / 18446744073709551616 + c1 := by
    rw [IntKind.wrap_u64]; unfold Prod4 Sum3 U64 Bit at *; generalize x * y = z at *; omega
  have w2 : IntKind.u64.wrap (x * y / 18446744073709551616 + c1 + c2) = x * y / 18446744073709551616 + c1 + c2 := by
    rw [IntKind.wrap_u64]; unfold Prod4 Sum3 U64 Bit at *; generalize x * y = z at *; omega
  refine ⟨l2, _, hi, fun w => ?_⟩
  clear hi hm hH hL s1 s2
  generalize x * y / 18446744073709551616 = h at *
  generalize x * y % 18446744073709551616 = l at *
  go_enter Tryd.func50, Tryd.ntmps50
  go_wp2_with (go_at_call 54; refine (M.out _).mono ?_; rintro e w' ⟨rfl, rfl⟩)
  go_ret2
  exact ⟨rfl, rfl⟩
end Go.Proofs.YtpcpcgfljffkeaaDoor
/-
  Own text. What times of package field answers, for every two numbers of four words: a contract over the translation.
-/
namespace Go.Proofs.YtpcpcgfljffkeaaDoor
open Go.RowKit Go.Proofs
theorem wrap64_1 : IntKind.i64.wrap 1 = 1 := by decide +kernel
theorem wrap64_2 : IntKind.i64.wrap 2 = 2 := by decide +kernel
theorem wrap64_3 : IntKind.i64.wrap 3 = 3 := by decide +kernel
theorem wrap64_4 : IntKind.i64.wrap 4 = 4 := by decide +kernel
theorem wrap64_5 : IntKind.i64.wrap 5 = 5 := by decide +kernel
theorem wrap64_6 : IntKind.i64.wrap 6 = 6 := by decide +kernel
theorem wrap64_7 : IntKind.i64.wrap 7 = 7 := by decide +kernel
attribute [local go_sem] wrap_0 wrap64_1 wrap64_2 wrap64_3 wrap64_4 wrap64_5 wrap64_6 wrap64_7
theorem mul_V4 (x a b c d : Int) : x * V4 a b c d = V4 (x * a) (x * b) (x * c) (x * d) := by unfold V4; grind
theorem V4_mul (x a b c d : Int) : V4 a b c d * x = V4 (a * x) (b * x) (c * x) (d * x) := by unfold V4; grind
theorem row_num {x y0 y1 y2 y3 w0 w1 w2 w3 p0 p1 p2 p3 c0 c1 c2 c3 : Int} (s0 : Prod4 w0 0 x y0 p0 c0) (s1 : Prod4 w1 c0 x y1 p1 c1) (s2 : Prod4 w2 c1 x y2 p2 c2) (s3 : Prod4 w3 c2 x y3 p3 c3) :
    V4 p0 p1 p2 p3 + W256 * c3 = V4 w0 w1 w2 w3 + x * V4 y0 y1 y2 y3 := by
  rw [mul_V4]
  unfold Prod4 at s0 s1 s2 s3
  unfold V4 W256
  omega
theorem times_num {X0 X1 X2 X3 Y p00 p01 p02 p03 c03 p10 p11 p12 p13 c13 p20 p21 p22 p23 c23 p30 p31 p32 p33 c33 : Int}
    (r0 : V4 p00 p01 p02 p03 + W256 * c03 = V4 0 0 0 0 + X0 * Y) (r1 : V4 p10 p11 p12 p13 + W256 * c13 = V4 p01 p02 p03 c03 + X1 * Y)
    (r2 : V4 p20 p21 p22 p23 + W256 * c23 = V4 p11 p12 p13 c13 + X2 * Y) (r3 : V4 p30 p31 p32 p33 + W256 * c33 = V4 p21 p22 p23 c23 + X3 * Y) :
    V4 p00 p10 p20 p30 + W256 * V4 p31 p32 p33 c33 = V4 X0 X1 X2 X3 * Y := by
  rw [V4_mul]
  generalize X0 * Y = a0 at *
  generalize X1 * Y = a1 at *
  generalize X2 * Y = a2 at *
  generalize X3 * Y = a3 at *
  unfold V4 W256 at *
  omega
theorem low_num {a0 a1 a2 a3 b0 b1 b2 b3 l0 l1 l2 l3 d0 d1 d2 d3 : Int} (s0 : Prod4 a0 0 b0 38 l0 d0) (s1 : Prod4 a1 d0 b1 38 l1 d1) (s2 : Prod4 a2 d1 b2 38 l2 d2) (s3 : Prod4 a3 d2 b3 38 l3 d3) :
    V4 l0 l1 l2 l3 + W256 * d3 = V4 a0 a1 a2 a3 + 38 * V4 b0 b1 b2 b3 := by
  unfold Prod4 at s0 s1 s2 s3
  unfold V4 W256
  omega
theorem carry_le {L A B d : Int} (hL : 0 ≤ L ∧ L < W256) (hA : 0 ≤ A ∧ A < W256) (hB : 0 ≤ B ∧ B < W256) (e : L + W256 * d = A + 38 * B) : 0 ≤ d ∧ d ≤ 38 := by
  unfold W256 at *; omega
theorem times_end {Z L A B d XY k : Int} (e1 : A + W256 * B = XY) (e2 : L + W256 * d = A + 38 * B) (e3 : Z = L + W256 * d + k * P255) : Z = XY + (k - 2 * B) * P255 := by
  unfold W256 P255 at *; omega
theorem u64_38 : U64 38 := by unfold U64; omega
def tF9 (i : Nat) : Nat := [2, 2, 2, 2, 2, 2, 2, 1, 2, 2, 2, 1, 2, 2, 1, 0, 2, 2, 2, 2, 0, 2].getD i 2
def tT9 (i : Nat) : Bool := i != 20
def tF18 (i : Nat) : Nat := [2, 2, 2, 1, 2, 2, 2, 2, 1, 0, 2, 2, 2, 2, 0, 2].getD i 2
def tT18 (i : Nat) : Bool := i != 14
theorem heap_a35 (w : World) (A B C D E : Obj) : (((((w.alloc A).alloc B).alloc C).alloc D).alloc E).heap[w.heap.size + 1 + 1]? = some C := by
  rw [Below.heap_alloc _ _ _ (by simp <;> omega), Below.heap_alloc _ _ _ (by simp <;> omega)]
  exact heap_a3 w A B C
set_option maxHeartbeats 8000000 in
theorem times_any (x0 x1 x2 x3 y0 y1 y2 y3 : Int) (w : World) (h0 : U64 x0) (h1 : U64 x1) (h2 : U64 x2) (h3 : U64 x3) (k0 : U64 y0) (k1 : U64 y1) (k2 : U64 y2) (k3 : U64 y3) :
    Calls Tryd.prog 33 #[.agg #[.int .u64 x0, .int .u64 x1, .int .u64 x2, .int .u64 x3], .agg #[.int .u64 y0, .int .u64 y1, .int .u64 y2, .int .u64 y3]] w fun e w' =>
      ∃ z0 z1 z2 z3, U64 z0 ∧ U64 z1 ∧ U64 z2 ∧ U64 z3 ∧ (∃ k : Int, V4 z0 z1 z2 z3 = V4 x0 x1 x2 x3 * V4 y0 y1 y2 y3 + k * P255) ∧
        e = .returned (.agg #[.int .u64 z0, .int .u64 z1, .int .u64 z2, .int .u64 z3]) ∧ Below w.heap.size w w' := by
  obtain ⟨p00, c00, s00, r00⟩ := plusProduct_all u64_0 u64_0 h0 k0
  have R00 := Hid.mk r00
  clear r00
  obtain ⟨p01, c01, s01, r01⟩ := plusProduct_all u64_0 s00.hi h0 k1
  have R01 := Hid.mk r01
  clear r01
  obtain ⟨p02, c02, s02, r02⟩ := plusProduct_all u64_0 s01.hi h0 k2
  have R02 := Hid.mk r02
  clear r02
  obtain ⟨p03, c03, s03, r03⟩ := plusProduct_all u64_0 s02.hi h0 k3
  have R03 := Hid.mk r03
  clear r03
  obtain ⟨p10, c10, s10, r10⟩ := plusProduct_all s01.lo u64_0 h1 k0
  have R10 := Hid.mk r10
  clear r10
  obtain ⟨p11, c11, s11, r11⟩ := plusProduct_all s02.lo s10.hi h1 k1
  have R11 := Hid.mk r11
  clear r11
  obtain ⟨p12, c12, s12, r12⟩ := plusProduct_all s03.lo s11.hi h1 k2
  have R12 := Hid.mk r12
  clear r12
  obtain ⟨p13, c13, s13, r13⟩ := plusProduct_all s03.hi s12.hi h1 k3
  have R13 := Hid.mk r13
  clear r13
  obtain ⟨p20, c20, s20, r20⟩ := plusProduct_all s11.lo u64_0 h2 k0
  have R20 := Hid.mk r20
  clear r20
  obtain ⟨p21, c21, s21, r21⟩ := plusProduct_all s12.lo s20.hi h2 k1
  have R21 := Hid.mk r21
  clear r21
  obtain ⟨p22, c22, s22, r22⟩ := plusProduct_all s13.lo s21.hi h2 k2
  have R22 := Hid.mk r22
  clear r22
  obtain ⟨p23, c23, s23, r23⟩ := plusProduct_all s13.hi s22.hi h2 k3
  have R23 := Hid.mk r23
  clear r23
  obtain ⟨p30, c30, s30, r30⟩ := plusProduct_all s21.lo u64_0 h3 k0
  have R30 := Hid.mk r30
  clear r30
  obtain ⟨p31, c31, s31, r31⟩ := plusProduct_all s22.lo s30.hi h3 k1
  have R31 := Hid.mk r31
  clear r31
  obtain ⟨p32, c32, s32, r32⟩ := plusProduct_all s23.lo s31.hi h3 k2
  have R32 := Hid.mk r32
  clear r32
  obtain ⟨p33, c33, s33, r33⟩ := plusProduct_all s23.hi s32.hi h3 k3
  have R33 := Hid.mk r33
  clear r33
  obtain ⟨l0, d0, t0, q0⟩ := plusProduct_all s00.lo u64_0 s31.lo u64_38
  have T0 := Hid.mk q0
  clear q0
  obtain ⟨l1, d1, t1, q1⟩ := plusProduct_all s10.lo t0.hi s32.lo u64_38
  have T1 := Hid.mk q1
  clear q1
  obtain ⟨l2, d2, t2, q2⟩ := plusProduct_all s20.lo t1.hi s33.lo u64_38
  have T2 := Hid.mk q2
  clear q2
  obtain ⟨l3, d3, t3, q3⟩ := plusProduct_all s30.lo t2.hi s33.hi u64_38
  have T3 := Hid.mk q3
  clear q3
  have e1 := times_num (row_num s00 s01 s02 s03) (row_num s10 s11 s12 s13) (row_num s20 s21 s22 s23) (row_num s30 s31 s32 s33)
  have e2 := low_num t0 t1 t2 t3
  have hc := carry_le (V4_range t0.lo t1.lo t2.lo t3.lo) (V4_range s00.lo s10.lo s20.lo s30.lo) (V4_range s31.lo s32.lo s33.lo s33.hi) e2
  have hc0 := hc.1
  have hc1 := hc.2
  have E1 := Hid.mk e1
  have E2 := Hid.mk e2
  clear e1 e2 hc
  go_enter Tryd.func33, Tryd.ntmps33
  go_wp2
  refine wp_loop_rounds 5 ?_
  rw [rounds_succ]
  go_wp2
  refine wp_loop_rounds 5 ?_
  rw [rounds_succ]
  go_wp2
  refine wp_region_mixS (fun w' => w'.cell? ⟨w.heap.size + 1 + 1 + 1, 0, none⟩ = some (.int .u64 0) ∧ w'.cell? ⟨w.heap.size, 0, none⟩ = some (.int .u64 x0) ∧ w'.cell? ⟨w.heap.size + 1, 0, none⟩ = some (.int .u64 y0))
    tF9 tT9 [0, 1, 2, 3, 4, 5, 6, 7, 8, 9, 10, 11, 12, 13, 14, 15, 16, 17, 18, 19, 20, 21] rfl (by kernel_rfl) (fun _ _ d _ _ h => by cases d <;> exact h) (by refine ⟨?_, ?_, ?_⟩ <;> go_simp) (fun HS => ?_)
  iterate 15
    first
      | (apply mix_pure rfl rfl rfl; focus (intro wq; go_simp; first | done | with_reducible rfl))
      | (apply mix_look rfl rfl rfl HS; focus (intro wq hq; go_simp; first | done | with_reducible rfl))
    simp only [Act.put, List.setIfInBounds_toArray, List.set_cons_zero, List.set_cons_succ]
  refine mix_act rfl rfl rfl ?_
  intro K hK
  go_simp
  refine (R00.out _).mono ?_
  rintro e w' ⟨rfl, rfl⟩
  refine hK _ _ (fun _ h => h) ?_
  clear hK K HS
  iterate 4
    apply mix_pure rfl rfl rfl
    focus (intro wq; go_simp; first | done | with_reducible rfl)
    simp only [Act.put, List.setIfInBounds_toArray, List.set_cons_zero, List.set_cons_succ]
  refine mix_act rfl rfl rfl ?_
  intro K hK
  go_simp
  refine hK _ _ (fun h => by cases h) ?_
  clear hK K
  apply mix_pure rfl rfl rfl
  focus (intro wq; go_simp; first | done | with_reducible rfl)
  simp only [Act.put, List.setIfInBounds_toArray, List.set_cons_zero, List.set_cons_succ]
  refine mix_done ?_
  go_wp2
  rw [rounds_succ]
  go_wp2
  refine wp_region_mixS (fun w' => w'.cell? ⟨w.heap.size + 1 + 1 + 1, 1, none⟩ = some (.int .u64 0) ∧ w'.cell? ⟨w.heap.size, 0, none⟩ = some (.int .u64 x0) ∧ w'.cell? ⟨w.heap.size + 1, 1, none⟩ = some (.int .u64 y1))
    tF9 tT9 [0, 1, 2, 3, 4, 5, 6, 7, 8, 9, 10, 11, 12, 13, 14, 15, 16, 17, 18, 19, 20, 21] rfl (by kernel_rfl) (fun _ _ d _ _ h => by cases d <;> exact h) (by refine ⟨?_, ?_, ?_⟩ <;> go_simp) (fun HS => ?_)
  iterate 15
    first
      | (apply mix_pure rfl rfl rfl; focus (intro wq; go_simp; first | done | with_reducible rfl))
      | (apply mix_look rfl rfl rfl HS; focus (intro wq hq; go_simp; first | done | with_reducible rfl))
    simp only [Act.put, List.setIfInBounds_toArray, List.set_cons_zero, List.set_cons_succ]
  refine mix_act rfl rfl rfl ?_
  intro K hK
  go_simp
  refine (R01.out _).mono ?_
  rintro e w' ⟨rfl, rfl⟩
  refine hK _ _ (fun _ h => h) ?_
  clear hK K HS
  iterate 4
    apply mix_pure rfl rfl rfl
    focus (intro wq; go_simp; first | done | with_reducible rfl)
    simp only [Act.put, List.setIfInBounds_toArray, List.set_cons_zero, List.set_cons_succ]
  refine mix_act rfl rfl rfl ?_
  intro K hK
  go_simp
  refine hK _ _ (fun h => by cases h) ?_
  clear hK K
  apply mix_pure rfl rfl rfl
  focus (intro wq; go_simp; first | done | with_reducible rfl)
  simp only [Act.put, List.setIfInBounds_toArray, List.set_cons_zero, List.set_cons_succ]
  refine mix_done ?_
  go_wp2
  rw [rounds_succ]
  go_wp2
  refine wp_region_mixS (fun w' => w'.cell? ⟨w.heap.size + 1 + 1 + 1, 2, none⟩ = some (.int .u64 0) ∧ w'.cell? ⟨w.heap.size, 0, none⟩ = some (.int .u64 x0) ∧ w'.cell? ⟨w.heap.size + 1, 2, none⟩ = some (.int .u64 y2))
    tF9 tT9 [0, 1, 2, 3, 4, 5, 6, 7, 8, 9, 10, 11, 12, 13, 14, 15, 16, 17, 18, 19, 20, 21] rfl (by kernel_rfl) (fun _ _ d _ _ h => by cases d <;> exact h) (by refine ⟨?_, ?_, ?_⟩ <;> go_simp) (fun HS => ?_)
  iterate 15
    first
      | (apply mix_pure rfl rfl rfl; focus (intro wq; go_simp; first | done | with_reducible rfl))
      | (apply mix_look rfl rfl rfl HS; focus (intro wq hq; go_simp; first | done | with_reducible rfl))
    simp only [Act.put, List.setIfInBounds_toArray, List.set_cons_zero, List.set_cons_succ]
  refine mix_act rfl rfl rfl ?_
  intro K hK
  go_simp
  refine (R02.out _).mono ?_
  rintro e w' ⟨rfl, rfl⟩
  refine hK _ _ (fun _ h => h) ?_
  clear hK K HS
  iterate 4
    apply mix_pure rfl rfl rfl
    focus (intro wq; go_simp; first | done | with_reducible rfl)
    simp only [Act.put, List.setIfInBounds_toArray, List.set_cons_zero, List.set_cons_succ]
  refine mix_act rfl rfl rfl ?_
  intro K hK
  go_simp
  refine hK _ _ (fun h => by cases h) ?_
  clear hK K
  apply mix_pure rfl rfl rfl
  focus (intro wq; go_simp; first | done | with_reducible rfl)
  simp only [Act.put, List.setIfInBounds_toArray, List.set_cons_zero, List.set_cons_succ]
  refine mix_done ?_
  go_wp2
  rw [rounds_succ]
  go_wp2
  refine wp_region_mixS (fun w' => w'.cell? ⟨w.heap.size + 1 + 1 + 1, 3, none⟩ = some (.int .u64 0) ∧ w'.cell? ⟨w.heap.size, 0, none⟩ = some (.int .u64 x0) ∧ w'.cell? ⟨w.heap.size + 1, 3, none⟩ = some (.int .u64 y3))
    tF9 tT9 [0, 1, 2, 3, 4, 5, 6, 7, 8, 9, 10, 11, 12, 13, 14, 15, 16, 17, 18, 19, 20, 21] rfl (by kernel_rfl) (fun _ _ d _ _ h => by cases d <;> exact h) (by refine ⟨?_, ?_, ?_⟩ <;> go_simp) (fun HS => ?_)
  iterate 15
    first
      | (apply mix_pure rfl rfl rfl; focus (intro wq; go_simp; first | done | with_reducible rfl))
      | (apply mix_look rfl rfl rfl HS; focus (intro wq hq; go_simp; first | done | with_reducible rfl))
    simp only [Act.put, List.setIfInBounds_toArray, List.set_cons_zero, List.set_cons_succ]
  refine mix_act rfl rfl rfl ?_
  intro K hK
  go_simp
  refine (R03.out _).mono ?_
  rintro e w' ⟨rfl, rfl⟩
  refine hK _ _ (fun _ h => h) ?_
  clear hK K HS
  iterate 4
    apply mix_pure rfl rfl rfl
    focus (intro wq; go_simp; first | done | with_reducible rfl)
    simp only [Act.put, List.setIfInBounds_toArray, List.set_cons_zero, List.set_cons_succ]
  refine mix_act rfl rfl rfl ?_
  intro K hK
  go_simp
  refine hK _ _ (fun h => by cases h) ?_
  clear hK K
  apply mix_pure rfl rfl rfl
  focus (intro wq; go_simp; first | done | with_reducible rfl)
  simp only [Act.put, List.setIfInBounds_toArray, List.set_cons_zero, List.set_cons_succ]
  refine mix_done ?_
  go_wp2
  rw [rounds_succ]
  go_wp2
  rw [rounds_succ]
  go_wp2
  refine wp_loop_rounds 5 ?_
  rw [rounds_succ]
  go_wp2
  refine wp_region_mixS (fun w' => w'.cell? ⟨w.heap.size + 1 + 1 + 1, 1, none⟩ = some (.int .u64 p01) ∧ w'.cell? ⟨w.heap.size, 1, none⟩ = some (.int .u64 x1) ∧ w'.cell? ⟨w.heap.size + 1, 0, none⟩ = some (.int .u64 y0))
    tF9 tT9 [0, 1, 2, 3, 4, 5, 6, 7, 8, 9, 10, 11, 12, 13, 14, 15, 16, 17, 18, 19, 20, 21] rfl (by kernel_rfl) (fun _ _ d _ _ h => by cases d <;> exact h) (by refine ⟨?_, ?_, ?_⟩ <;> go_simp) (fun HS => ?_)
  iterate 15
    first
      | (apply mix_pure rfl rfl rfl; focus (intro wq; go_simp; first | done | with_reducible rfl))
      | (apply mix_look rfl rfl rfl HS; focus (intro wq hq; go_simp; first | done | with_reducible rfl))
    simp only [Act.put, List.setIfInBounds_toArray, List.set_cons_zero, List.set_cons_succ]
  refine mix_act rfl rfl rfl ?_
  intro K hK
  go_simp
  refine (R10.out _).mono ?_
  rintro e w' ⟨rfl, rfl⟩
  refine hK _ _ (fun _ h => h) ?_
  clear hK K HS
  iterate 4
    apply mix_pure rfl rfl rfl
    focus (intro wq; go_simp; first | done | with_reducible rfl)
    simp only [Act.put, List.setIfInBounds_toArray, List.set_cons_zero, List.set_cons_succ]
  refine mix_act rfl rfl rfl ?_
  intro K hK
  go_simp
  refine hK _ _ (fun h => by cases h) ?_
  clear hK K
  apply mix_pure rfl rfl rfl
  focus (intro wq; go_simp; first | done | with_reducible rfl)
  simp only [Act.put, List.setIfInBounds_toArray, List.set_cons_zero, List.set_cons_succ]
  refine mix_done ?_
  go_wp2
  rw [rounds_succ]
  go_wp2
  refine wp_region_mixS (fun w' => w'.cell? ⟨w.heap.size + 1 + 1 + 1, 2, none⟩ = some (.int .u64 p02) ∧ w'.cell? ⟨w.heap.size, 1, none⟩ = some (.int .u64 x1) ∧ w'.cell? ⟨w.heap.size + 1, 1, none⟩ = some (.int .u64 y1))
    tF9 tT9 [0, 1, 2, 3, 4, 5, 6, 7, 8, 9, 10, 11, 12, 13, 14, 15, 16, 17, 18, 19, 20, 21] rfl (by kernel_rfl) (fun _ _ d _ _ h => by cases d <;> exact h) (by refine ⟨?_, ?_, ?_⟩ <;> go_simp) (fun HS => ?_)
  iterate 15
    first
      | (apply mix_pure rfl rfl rfl; focus (intro wq; go_simp; first | done | with_reducible rfl))
      | (apply mix_look rfl rfl rfl HS; focus (intro wq hq; go_simp; first | done | with_reducible rfl))
    simp only [Act.put, List.setIfInBounds_toArray, List.set_cons_zero, List.set_cons_succ]
  refine mix_act rfl rfl rfl ?_
  intro K hK
  go_simp
  refine (R11.out _).mono ?_
  rintro e w' ⟨rfl, rfl⟩
  refine hK _ _ (fun _ h => h) ?_
  clear hK K HS
  iterate 4
    apply mix_pure rfl rfl rfl
    focus (intro wq; go_simp; first | done | with_reducible rfl)
    simp only [Act.put, List.setIfInBounds_toArray, List.set_cons_zero, List.set_cons_succ]
  refine mix_act rfl rfl rfl ?_
  intro K hK
  go_simp
  refine hK _ _ (fun h => by cases h) ?_
  clear hK K
  apply mix_pure rfl rfl rfl
  focus (intro wq; go_simp; first | done | with_reducible rfl)
  simp only [Act.put, List.setIfInBounds_toArray, List.set_cons_zero, List.set_cons_succ]
  refine mix_done ?_
  go_wp2
  rw [rounds_succ]
  go_wp2
  refine wp_region_mixS (fun w' => w'.cell? ⟨w.heap.size + 1 + 1 + 1, 3, none⟩ = some (.int .u64 p03) ∧ w'.cell? ⟨w.heap.size, 1, none⟩ = some (.int .u64 x1) ∧ w'.cell? ⟨w.heap.size + 1, 2, none⟩ = some (.int .u64 y2))
    tF9 tT9 [0, 1, 2, 3, 4, 5, 6, 7, 8, 9, 10, 11, 12, 13, 14, 15, 16, 17, 18, 19, 20, 21] rfl (by kernel_rfl) (fun _ _ d _ _ h => by cases d <;> exact h) (by refine ⟨?_, ?_, ?_⟩ <;> go_simp) (fun HS => ?_)
  iterate 15
    first
      | (apply mix_pure rfl rfl rfl; focus (intro wq; go_simp; first | done | with_reducible rfl))
      | (apply mix_look rfl rfl rfl HS; focus (intro wq hq; go_simp; first | done | with_reducible rfl))
    simp only [Act.put, List.setIfInBounds_toArray, List.set_cons_zero, List.set_cons_succ]
  refine mix_act rfl rfl rfl ?_
  intro K hK
  go_simp
  refine (R12.out _).mono ?_
  rintro e w' ⟨rfl, rfl⟩
  refine hK _ _ (fun _ h => h) ?_
  clear hK K HS
  iterate 4
    apply mix_pure rfl rfl rfl
    focus (intro wq; go_simp; first | done | with_reducible rfl)
    simp only [Act.put, List.setIfInBounds_toArray, List.set_cons_zero, List.set_cons_succ]
  refine mix_act rfl rfl rfl ?_
  intro K hK
  go_simp
  refine hK _ _ (fun h => by cases h) ?_
  clear hK K
  apply mix_pure rfl rfl rfl
  focus (intro wq; go_simp; first | done | with_reducible rfl)
  simp only [Act.put, List.setIfInBounds_toArray, List.set_cons_zero, List.set_cons_succ]
  refine mix_done ?_
  go_wp2
  rw [rounds_succ]
  go_wp2
  refine wp_region_mixS (fun w' => w'.cell? ⟨w.heap.size + 1 + 1 + 1, 4, none⟩ = some (.int .u64 c03) ∧ w'.cell? ⟨w.heap.size, 1, none⟩ = some (.int .u64 x1) ∧ w'.cell? ⟨w.heap.size + 1, 3, none⟩ = some (.int .u64 y3))
    tF9 tT9 [0, 1, 2, 3, 4, 5, 6, 7, 8, 9, 10, 11, 12, 13, 14, 15, 16, 17, 18, 19, 20, 21] rfl (by kernel_rfl) (fun _ _ d _ _ h => by cases d <;> exact h) (by refine ⟨?_, ?_, ?_⟩ <;> go_simp) (fun HS => ?_)
  iterate 15
    first
      | (apply mix_pure rfl rfl rfl; focus (intro wq; go_simp; first | done | with_reducible rfl))
      | (apply mix_look rfl rfl rfl HS; focus (intro wq hq; go_simp; first | done | with_reducible rfl))
    simp only [Act.put, List.setIfInBounds_toArray, List.set_cons_zero, List.set_cons_succ]
  refine mix_act rfl rfl rfl ?_
  intro K hK
  go_simp
  refine (R13.out _).mono ?_
  rintro e w' ⟨rfl, rfl⟩
  refine hK _ _ (fun _ h => h) ?_
  clear hK K HS
  iterate 4
    apply mix_pure rfl rfl rfl
    focus (intro wq; go_simp; first | done | with_reducible rfl)
    simp only [Act.put, List.setIfInBounds_toArray, List.set_cons_zero, List.set_cons_succ]
  refine mix_act rfl rfl rfl ?_
  intro K hK
  go_simp
  refine hK _ _ (fun h => by cases h) ?_
  clear hK K
  apply mix_pure rfl rfl rfl
  focus (intro wq; go_simp; first | done | with_reducible rfl)
  simp only [Act.put, List.setIfInBounds_toArray, List.set_cons_zero, List.set_cons_succ]
  refine mix_done ?_
  go_wp2
  rw [rounds_succ]
  go_wp2
  rw [rounds_succ]
  go_wp2
  refine wp_loop_rounds 5 ?_
  rw [rounds_succ]
  go_wp2
  refine wp_region_mixS (fun w' => w'.cell? ⟨w.heap.size + 1 + 1 + 1, 2, none⟩ = some (.int .u64 p11) ∧ w'.cell? ⟨w.heap.size, 2, none⟩ = some (.int .u64 x2) ∧ w'.cell? ⟨w.heap.size + 1, 0, none⟩ = some (.int .u64 y0))
    tF9 tT9 [0, 1, 2, 3, 4, 5, 6, 7, 8, 9, 10, 11, 12, 13, 14, 15, 16, 17, 18, 19, 20, 21] rfl (by kernel_rfl) (fun _ _ d _ _ h => by cases d <;> exact h) (by refine ⟨?_, ?_, ?_⟩ <;> go_simp) (fun HS => ?_)
  iterate 15
    first
      | (apply mix_pure rfl rfl rfl; focus (intro wq; go_simp; first | done | with_reducible rfl))
      | (apply mix_look rfl rfl rfl HS; focus (intro wq hq; go_simp; first | done | with_reducible rfl))
    simp only [Act.put, List.setIfInBounds_toArray, List.set_cons_zero, List.set_cons_succ]
  refine mix_act rfl rfl rfl ?_
  intro K hK
  go_simp
  refine (R20.out _).mono ?_
  rintro e w' ⟨rfl, rfl⟩
  refine hK _ _ (fun _ h => h) ?_
  clear hK K HS
  iterate 4
    apply mix_pure rfl rfl rfl
    focus (intro wq; go_simp; first | done | with_reducible rfl)
    simp only [Act.put, List.setIfInBounds_toArray, List.set_cons_zero, List.set_cons_succ]
  refine mix_act rfl rfl rfl ?_
  intro K hK
  go_simp
  refine hK _ _ (fun h => by cases h) ?_
  clear hK K
  apply mix_pure rfl rfl rfl
  focus (intro wq; go_simp; first | done | with_reducible rfl)
  simp only [Act.put, List.setIfInBounds_toArray, List.set_cons_zero, List.set_cons_succ]
  refine mix_done ?_
  go_wp2
  rw [rounds_succ]
  go_wp2
  refine wp_region_mixS (fun w' => w'.cell? ⟨w.heap.size + 1 + 1 + 1, 3, none⟩ = some (.int .u64 p12) ∧ w'.cell? ⟨w.heap.size, 2, none⟩ = some (.int .u64 x2) ∧ w'.cell? ⟨w.heap.size + 1, 1, none⟩ = some (.int .u64 y1))
    tF9 tT9 [0, 1, 2, 3, 4, 5, 6, 7, 8, 9, 10, 11, 12, 13, 14, 15, 16, 17, 18, 19, 20, 21] rfl (by kernel_rfl) (fun _ _ d _ _ h => by cases d <;> exact h) (by refine ⟨?_, ?_, ?_⟩ <;> go_simp) (fun HS => ?_)
  iterate 15
    first
      | (apply mix_pure rfl rfl rfl; focus (intro wq; go_simp; first | done | with_reducible rfl))
      | (apply mix_look rfl rfl rfl HS; focus (intro wq hq; go_simp; first | done | with_reducible rfl))
    simp only [Act.put, List.setIfInBounds_toArray, List.set_cons_zero, List.set_cons_succ]
  refine mix_act rfl rfl rfl ?_
  intro K hK
  go_simp
  refine (R21.out _).mono ?_
  rintro e w' ⟨rfl, rfl⟩
  refine hK _ _ (fun _ h => h) ?_
  clear hK K HS
  iterate 4
    apply mix_pure rfl rfl rfl
    focus (intro wq; go_simp; first | done | with_reducible rfl)
    simp only [Act.put, List.setIfInBounds_toArray, List.set_cons_zero, List.set_cons_succ]
  refine mix_act rfl rfl rfl ?_
  intro K hK
  go_simp
  refine hK _ _ (fun h => by cases h) ?_
  clear hK K
  apply mix_pure rfl rfl rfl
  focus (intro wq; go_simp; first | done | with_reducible rfl)
  simp only [Act.put, List.setIfInBounds_toArray, List.set_cons_zero, List.set_cons_succ]
  refine mix_done ?_
  go_wp2
  rw [rounds_succ]
  go_wp2
  refine wp_region_mixS (fun w' => w'.cell? ⟨w.heap.size + 1 + 1 + 1, 4, none⟩ = some (.int .u64 p13) ∧ w'.cell? ⟨w.heap.size, 2, none⟩ = some (.int .u64 x2) ∧ w'.cell? ⟨w.heap.size + 1, 2, none⟩ = some (.int .u64 y2))
    tF9 tT9 [0, 1, 2, 3, 4, 5, 6, 7, 8, 9, 10, 11, 12, 13, 14, 15, 16, 17, 18, 19, 20, 21] rfl (by kernel_rfl) (fun _ _ d _ _ h => by cases d <;> exact h) (by refine ⟨?_, ?_, ?_⟩ <;> go_simp) (fun HS => ?_)
  iterate 15
    first
      | (apply mix_pure rfl rfl rfl; focus (intro wq; go_simp; first | done | with_reducible rfl))
      | (apply mix_look rfl rfl rfl HS; focus (intro wq hq; go_simp; first | done | with_reducible rfl))
    simp only [Act.put, List.setIfInBounds_toArray, List.set_cons_zero, List.set_cons_succ]
  refine mix_act rfl rfl rfl ?_
  intro K hK
  go_simp
  refine (R22.out _).mono ?_
  rintro e w' ⟨rfl, rfl⟩
  refine hK _ _ (fun _ h => h) ?_
  clear hK K HS
  iterate 4
    apply mix_pure rfl rfl rfl
    focus (intro wq; go_simp; first | done | with_reducible rfl)
    simp only [Act.put, List.setIfInBounds_toArray, List.set_cons_zero, List.set_cons_succ]
  refine mix_act rfl rfl rfl ?_
  intro K hK
  go_simp
  refine hK _ _ (fun h => by cases h) ?_
  clear hK K
  apply mix_pure rfl rfl rfl
  focus (intro wq; go_simp; first | done | with_reducible rfl)
  simp only [Act.put, List.setIfInBounds_toArray, List.set_cons_zero, List.set_cons_succ]
  refine mix_done ?_
  go_wp2
  rw [rounds_succ]
  go_wp2
  refine wp_region_mixS (fun w' => w'.cell? ⟨w.heap.size + 1 + 1 + 1, 5, none⟩ = some (.int .u64 c13) ∧ w'.cell? ⟨w.heap.size, 2, none⟩ = some (.int .u64 x2) ∧ w'.cell? ⟨w.heap.size + 1, 3, none⟩ = some (.int .u64 y3))
    tF9 tT9 [0, 1, 2, 3, 4, 5, 6, 7, 8, 9, 10, 11, 12, 13, 14, 15, 16, 17, 18, 19, 20, 21] rfl (by kernel_rfl) (fun _ _ d _ _ h => by cases d <;> exact h) (by refine ⟨?_, ?_, ?_⟩ <;> go_simp) (fun HS => ?_)
  iterate 15
    first
      | (apply mix_pure rfl rfl rfl; focus (intro wq; go_simp; first | done | with_reducible rfl))
      | (apply mix_look rfl rfl rfl HS; focus (intro wq hq; go_simp; first | done | with_reducible rfl))
    simp only [Act.put, List.setIfInBounds_toArray, List.set_cons_zero, List.set_cons_succ]
  refine mix_act rfl rfl rfl ?_
  intro K hK
  go_simp
  refine (R23.out _).mono ?_
  rintro e w' ⟨rfl, rfl⟩
  refine hK _ _ (fun _ h => h) ?_
  clear hK K HS
  iterate 4
    apply mix_pure rfl rfl rfl
    focus (intro wq; go_simp; first | done | with_reducible rfl)
    simp only [Act.put, List.setIfInBounds_toArray, List.set_cons_zero, List.set_cons_succ]
  refine mix_act rfl rfl rfl ?_
  intro K hK
  go_simp
  refine hK _ _ (fun h => by cases h) ?_
  clear hK K
  apply mix_pure rfl rfl rfl
  focus (intro wq; go_simp; first | done | with_reducible rfl)
  simp only [Act.put, List.setIfInBounds_toArray, List.set_cons_zero, List.set_cons_succ]
  refine mix_done ?_
  go_wp2
  rw [rounds_succ]
  go_wp2
  rw [rounds_succ]
  go_wp2
  refine wp_loop_rounds 5 ?_
  rw [rounds_succ]
  go_wp2
  refine wp_region_mixS (fun w' => w'.cell? ⟨w.heap.size + 1 + 1 + 1, 3, none⟩ = some (.int .u64 p21) ∧ w'.cell? ⟨w.heap.size, 3, none⟩ = some (.int .u64 x3) ∧ w'.cell? ⟨w.heap.size + 1, 0, none⟩ = some (.int .u64 y0))
    tF9 tT9 [0, 1, 2, 3, 4, 5, 6, 7, 8, 9, 10, 11, 12, 13, 14, 15, 16, 17, 18, 19, 20, 21] rfl (by kernel_rfl) (fun _ _ d _ _ h => by cases d <;> exact h) (by refine ⟨?_, ?_, ?_⟩ <;> go_simp) (fun HS => ?_)
  iterate 15
    first
      | (apply mix_pure rfl rfl rfl; focus (intro wq; go_simp; first | done | with_reducible rfl))
      | (apply mix_look rfl rfl rfl HS; focus (intro wq hq; go_simp; first | done | with_reducible rfl))
    simp only [Act.put, List.setIfInBounds_toArray, List.set_cons_zero, List.set_cons_succ]
  refine mix_act rfl rfl rfl ?_
  intro K hK
  go_simp
  refine (R30.out _).mono ?_
  rintro e w' ⟨rfl, rfl⟩
  refine hK _ _ (fun _ h => h) ?_
  clear hK K HS
  iterate 4
    apply mix_pure rfl rfl rfl
    focus (intro wq; go_simp; first | done | with_reducible rfl)
    simp only [Act.put, List.setIfInBounds_toArray, List.set_cons_zero, List.set_cons_succ]
  refine mix_act rfl rfl rfl ?_
  intro K hK
  go_simp
  refine hK _ _ (fun h => by cases h) ?_
  clear hK K
  apply mix_pure rfl rfl rfl
  focus (intro wq; go_simp; first | done | with_reducible rfl)
  simp only [Act.put, List.setIfInBounds_toArray, List.set_cons_zero, List.set_cons_succ]
  refine mix_done ?_
  go_wp2
  rw [rounds_succ]
  go_wp2
  refine wp_region_mixS (fun w' => w'.cell? ⟨w.heap.size + 1 + 1 + 1, 4, none⟩ = some (.int .u64 p22) ∧ w'.cell? ⟨w.heap.size, 3, none⟩ = some (.int .u64 x3) ∧ w'.cell? ⟨w.heap.size + 1, 1, none⟩ = some (.int .u64 y1))
    tF9 tT9 [0, 1, 2, 3, 4, 5, 6, 7, 8, 9, 10, 11, 12, 13, 14, 15, 16, 17, 18, 19, 20, 21] rfl (by kernel_rfl) (fun _ _ d _ _ h => by cases d <;> exact h) (by refine ⟨?_, ?_, ?_⟩ <;> go_simp) (fun HS => ?_)
  iterate 15
    first
      | (apply mix_pure rfl rfl rfl; focus (intro wq; go_simp; first | done | with_reducible rfl))
      | (apply mix_look rfl rfl rfl HS; focus (intro wq hq; go_simp; first | done | with_reducible rfl))
    simp only [Act.put, List.setIfInBounds_toArray, List.set_cons_zero, List.set_cons_succ]
  refine mix_act rfl rfl rfl ?_
  intro K hK
  go_simp
  refine (R31.out _).mono ?_
  rintro e w' ⟨rfl, rfl⟩
  refine hK _ _ (fun _ h => h) ?_
  clear hK K HS
  iterate 4
    apply mix_pure rfl rfl rfl
    focus (intro wq; go_simp; first | done | with_reducible rfl)
    simp only [Act.put, List.setIfInBounds_toArray, List.set_cons_zero, List.set_cons_succ]
  refine mix_act rfl rfl rfl ?_
  intro K hK
  go_simp
  refine hK _ _ (fun h => by cases h) ?_
  clear hK K
  apply mix_pure rfl rfl rfl
  focus (intro wq; go_simp; first | done | with_reducible rfl)
  simp only [Act.put, List.setIfInBounds_toArray, List.set_cons_zero, List.set_cons_succ]
  refine mix_done ?_
  go_wp2
  rw [rounds_succ]
  go_wp2
  refine wp_region_mixS (fun w' => w'.cell? ⟨w.heap.size + 1 + 1 + 1, 5, none⟩ = some (.int .u64 p23) ∧ w'.cell? ⟨w.heap.size, 3, none⟩ = some (.int .u64 x3) ∧ w'.cell? ⟨w.heap.size + 1, 2, none⟩ = some (.int .u64 y2))
    tF9 tT9 [0, 1, 2, 3, 4, 5, 6, 7, 8, 9, 10, 11, 12, 13, 14, 15, 16, 17, 18, 19, 20, 21] rfl (by kernel_rfl) (fun _ _ d _ _ h => by cases d <;> exact h) (by refine ⟨?_, ?_, ?_⟩ <;> go_simp) (fun HS => ?_)
  iterate 15
    first
      | (apply mix_pure rfl rfl rfl; focus (intro wq; go_simp; first | done | with_reducible rfl))
      | (apply mix_look rfl rfl rfl HS; focus (intro wq hq; go_simp; first | done | with_reducible rfl))
    simp only [Act.put, List.setIfInBounds_toArray, List.set_cons_zero, List.set_cons_succ]
  refine mix_act rfl rfl rfl ?_
  intro K hK
  go_simp
  refine (R32.out _).mono ?_
  rintro e w' ⟨rfl, rfl⟩
  refine hK _ _ (fun _ h => h) ?_
  clear hK K HS
  iterate 4
    apply mix_pure rfl rfl rfl
    focus (intro wq; go_simp; first | done | with_reducible rfl)
    simp only [Act.put, List.setIfInBounds_toArray, List.set_cons_zero, List.set_cons_succ]
  refine mix_act rfl rfl rfl ?_
  intro K hK
  go_simp
  refine hK _ _ (fun h => by cases h) ?_
  clear hK K
  apply mix_pure rfl rfl rfl
  focus (intro wq; go_simp; first | done | with_reducible rfl)
  simp only [Act.put, List.setIfInBounds_toArray, List.set_cons_zero, List.set_cons_succ]
  refine mix_done ?_
  go_wp2
  rw [rounds_succ]
  go_wp2
  refine wp_region_mixS (fun w' => w'.cell? ⟨w.heap.size + 1 + 1 + 1, 6, none⟩ = some (.int .u64 c23) ∧ w'.cell? ⟨w.heap.size, 3, none⟩ = some (.int .u64 x3) ∧ w'.cell? ⟨w.heap.size + 1, 3, none⟩ = some (.int .u64 y3))
    tF9 tT9 [0, 1, 2, 3, 4, 5, 6, 7, 8, 9, 10, 11, 12, 13, 14, 15, 16, 17, 18, 19, 20, 21] rfl (by kernel_rfl) (fun _ _ d _ _ h => by cases d <;> exact h) (by refine ⟨?_, ?_, ?_⟩ <;> go_simp) (fun HS => ?_)
  iterate 15
    first
      | (apply mix_pure rfl rfl rfl; focus (intro wq; go_simp; first | done | with_reducible rfl))
      | (apply mix_look rfl rfl rfl HS; focus (intro wq hq; go_simp; first | done | with_reducible rfl))
    simp only [Act.put, List.setIfInBounds_toArray, List.set_cons_zero, List.set_cons_succ]
  refine mix_act rfl rfl rfl ?_
  intro K hK
  go_simp
  refine (R33.out _).mono ?_
  rintro e w' ⟨rfl, rfl⟩
  refine hK _ _ (fun _ h => h) ?_
  clear hK K HS
  iterate 4
    apply mix_pure rfl rfl rfl
    focus (intro wq; go_simp; first | done | with_reducible rfl)
    simp only [Act.put, List.setIfInBounds_toArray, List.set_cons_zero, List.set_cons_succ]
  refine mix_act rfl rfl rfl ?_
  intro K hK
  go_simp
  refine hK _ _ (fun h => by cases h) ?_
  clear hK K
  apply mix_pure rfl rfl rfl
  focus (intro wq; go_simp; first | done | with_reducible rfl)
  simp only [Act.put, List.setIfInBounds_toArray, List.set_cons_zero, List.set_cons_succ]
  refine mix_done ?_
  go_wp2
  rw [rounds_succ]
  go_wp2
  rw [rounds_succ]
  go_wp2
  refine wp_loop_rounds 5 ?_
  rw [rounds_succ]
  go_wp2
  refine wp_region_mixS (fun w' => w'.cell? ⟨w.heap.size + 1 + 1 + 1, 0, none⟩ = some (.int .u64 p00) ∧ w'.cell? ⟨w.heap.size + 1 + 1 + 1, 4, none⟩ = some (.int .u64 p31))
    tF18 tT18 [0, 1, 2, 3, 4, 5, 6, 7, 8, 9, 10, 11, 12, 13, 14, 15] rfl (by kernel_rfl) (fun _ _ d _ _ h => by cases d <;> exact h) (by refine ⟨?_, ?_⟩ <;> go_simp) (fun HS => ?_)
  iterate 9
    first
      | (apply mix_pure rfl rfl rfl; focus (intro wq; go_simp; first | done | with_reducible rfl))
      | (apply mix_look rfl rfl rfl HS; focus (intro wq hq; go_simp; first | done | with_reducible rfl))
    simp only [Act.put, List.setIfInBounds_toArray, List.set_cons_zero, List.set_cons_succ]
  refine mix_act rfl rfl rfl ?_
  intro K hK
  go_simp
  refine (T0.out _).mono ?_
  rintro e w' ⟨rfl, rfl⟩
  refine hK _ _ (fun _ h => h) ?_
  clear hK K HS
  iterate 4
    apply mix_pure rfl rfl rfl
    focus (intro wq; go_simp; first | done | with_reducible rfl)
    simp only [Act.put, List.setIfInBounds_toArray, List.set_cons_zero, List.set_cons_succ]
  refine mix_act rfl rfl rfl ?_
  intro K hK
  go_simp
  refine hK _ _ (fun h => by cases h) ?_
  clear hK K
  apply mix_pure rfl rfl rfl
  focus (intro wq; go_simp; first | done | with_reducible rfl)
  simp only [Act.put, List.setIfInBounds_toArray, List.set_cons_zero, List.set_cons_succ]
  refine mix_done ?_
  go_wp2
  rw [rounds_succ]
  go_wp2
  refine wp_region_mixS (fun w' => w'.cell? ⟨w.heap.size + 1 + 1 + 1, 1, none⟩ = some (.int .u64 p10) ∧ w'.cell? ⟨w.heap.size + 1 + 1 + 1, 5, none⟩ = some (.int .u64 p32))
    tF18 tT18 [0, 1, 2, 3, 4, 5, 6, 7, 8, 9, 10, 11, 12, 13, 14, 15] rfl (by kernel_rfl) (fun _ _ d _ _ h => by cases d <;> exact h) (by refine ⟨?_, ?_⟩ <;> go_simp) (fun HS => ?_)
  iterate 9
    first
      | (apply mix_pure rfl rfl rfl; focus (intro wq; go_simp; first | done | with_reducible rfl))
      | (apply mix_look rfl rfl rfl HS; focus (intro wq hq; go_simp; first | done | with_reducible rfl))
    simp only [Act.put, List.setIfInBounds_toArray, List.set_cons_zero, List.set_cons_succ]
  refine mix_act rfl rfl rfl ?_
  intro K hK
  go_simp
  refine (T1.out _).mono ?_
  rintro e w' ⟨rfl, rfl⟩
  refine hK _ _ (fun _ h => h) ?_
  clear hK K HS
  iterate 4
    apply mix_pure rfl rfl rfl
    focus (intro wq; go_simp; first | done | with_reducible rfl)
    simp only [Act.put, List.setIfInBounds_toArray, List.set_cons_zero, List.set_cons_succ]
  refine mix_act rfl rfl rfl ?_
  intro K hK
  go_simp
  refine hK _ _ (fun h => by cases h) ?_
  clear hK K
  apply mix_pure rfl rfl rfl
  focus (intro wq; go_simp; first | done | with_reducible rfl)
  simp only [Act.put, List.setIfInBounds_toArray, List.set_cons_zero, List.set_cons_succ]
  refine mix_done ?_
  go_wp2
  rw [rounds_succ]
  go_wp2
  refine wp_region_mixS (fun w' => w'.cell? ⟨w.heap.size + 1 + 1 + 1, 2, none⟩ = some (.int .u64 p20) ∧ w'.cell? ⟨w.heap.size + 1 + 1 + 1, 6, none⟩ = some (.int .u64 p33))
    tF18 tT18 [0, 1, 2, 3, 4, 5, 6, 7, 8, 9, 10, 11, 12, 13, 14, 15] rfl (by kernel_rfl) (fun _ _ d _ _ h => by cases d <;> exact h) (by refine ⟨?_, ?_⟩ <;> go_simp) (fun HS => ?_)
  iterate 9
    first
      | (apply mix_pure rfl rfl rfl; focus (intro wq; go_simp; first | done | with_reducible rfl))
      | (apply mix_look rfl rfl rfl HS; focus (intro wq hq; go_simp; first | done | with_reducible rfl))
    simp only [Act.put, List.setIfInBounds_toArray, List.set_cons_zero, List.set_cons_succ]
  refine mix_act rfl rfl rfl ?_
  intro K hK
  go_simp
  refine (T2.out _).mono ?_
  rintro e w' ⟨rfl, rfl⟩
  refine hK _ _ (fun _ h => h) ?_
  clear hK K HS
  iterate 4
    apply mix_pure rfl rfl rfl
    focus (intro wq; go_simp; first | done | with_reducible rfl)
    simp only [Act.put, List.setIfInBounds_toArray, List.set_cons_zero, List.set_cons_succ]
  refine mix_act rfl rfl rfl ?_
  intro K hK
  go_simp
  refine hK _ _ (fun h => by cases h) ?_
  clear hK K
  apply mix_pure rfl rfl rfl
  focus (intro wq; go_simp; first | done | with_reducible rfl)
  simp only [Act.put, List.setIfInBounds_toArray, List.set_cons_zero, List.set_cons_succ]
  refine mix_done ?_
  go_wp2
  rw [rounds_succ]
  go_wp2
  refine wp_region_mixS (fun w' => w'.cell? ⟨w.heap.size + 1 + 1 + 1, 3, none⟩ = some (.int .u64 p30) ∧ w'.cell? ⟨w.heap.size + 1 + 1 + 1, 7, none⟩ = some (.int .u64 c33))
    tF18 tT18 [0, 1, 2, 3, 4, 5, 6, 7, 8, 9, 10, 11, 12, 13, 14, 15] rfl (by kernel_rfl) (fun _ _ d _ _ h => by cases d <;> exact h) (by refine ⟨?_, ?_⟩ <;> go_simp) (fun HS => ?_)
  iterate 9
    first
      | (apply mix_pure rfl rfl rfl; focus (intro wq; go_simp; first | done | with_reducible rfl))
      | (apply mix_look rfl rfl rfl HS; focus (intro wq hq; go_simp; first | done | with_reducible rfl))
    simp only [Act.put, List.setIfInBounds_toArray, List.set_cons_zero, List.set_cons_succ]
  refine mix_act rfl rfl rfl ?_
  intro K hK
  go_simp
  refine (T3.out _).mono ?_
  rintro e w' ⟨rfl, rfl⟩
  refine hK _ _ (fun _ h => h) ?_
  clear hK K HS
  iterate 4
    apply mix_pure rfl rfl rfl
    focus (intro wq; go_simp; first | done | with_reducible rfl)
    simp only [Act.put, List.setIfInBounds_toArray, List.set_cons_zero, List.set_cons_succ]
  refine mix_act rfl rfl rfl ?_
  intro K hK
  go_simp
  refine hK _ _ (fun h => by cases h) ?_
  clear hK K
  apply mix_pure rfl rfl rfl
  focus (intro wq; go_simp; first | done | with_reducible rfl)
  simp only [Act.put, List.setIfInBounds_toArray, List.set_cons_zero, List.set_cons_succ]
  refine mix_done ?_
  go_wp2
  rw [rounds_succ]
  go_wp2_with fail
  refine (fold_any _ _ _ _ _ _ t0.lo t1.lo t2.lo t3.lo hc0 hc1).mono ?_
  rintro e w1 ⟨q0, q1, q2, q3, hq0, hq1, hq2, hq3, ⟨k, ek⟩, rfl, hb1⟩
  have g4 := bheap hb1 (heap_a35 w _ _ _ _ _) (by simp <;> omega)
  have hB1 : Hid (Below w.heap.size w w1) := by
    refine Below.trans ?_ (hb1.mono (by simp <;> omega))
    repeat first | exact Below.refl _ _ | refine Below.alloc ?_ (by simp <;> omega) _ | refine Below.drew ?_ | refine Below.drewN' ?_ _
  clear hb1
  have EK := Hid.mk (times_end E1.out E2.out ek)
  clear ek
  go_wp2_with (refine st_limbs rfl _ _ rfl _ _ _ _ _ rfl rfl _ _ _ _ g4 ?_; intro w2 g5 o5)
  exact bodyPost_ret (v := .agg #[.int .u64 q0, .int .u64 q1, .int .u64 q2, .int .u64 q3]) (results_cell_row rfl _ _ _ _ _ _ _ rfl g5 Tryd.underlying43 rfl (by kernel_rfl)) rfl
    ⟨q0, q1, q2, q3, hq0, hq1, hq2, hq3, ⟨_, EK.out⟩, rfl, Below.trans hB1.out (Only.below (b := w.heap.size + 1 + 1) (B := w.heap.size) o5 (by omega))⟩
end Go.Proofs.YtpcpcgfljffkeaaDoor
/-
  Own text. What Mul of package field answers, for every slice of 32 bytes each that is not empty: a contract over the translation.
-/
namespace Go.Proofs.YtpcpcgfljffkeaaDoor
open Go.RowKit Go.Proofs
/-- The product of all. -/
def lprod : List Int → Int
  | [] => 1
  | x :: l => x * lprod l
theorem lprod_append (l m : List Int) : lprod (l ++ m) = lprod l * lprod m := by
  induction l with
  | nil => simp [lprod]
  | cons x l ih => simp only [List.cons_append, lprod, ih, Int.mul_assoc]
theorem take_prod (ns : List Int) (k : Nat) (h : k < ns.length) : lprod (ns.take (k + 1)) = lprod (ns.take k) * ns[k] := by
  rw [List.take_succ_eq_append_getElem h, lprod_append]; simp [lprod]
theorem mul_step {ns : List Int} {k : Nat} {Z Q c n : Int} (hz : ∃ c : Int, Z = lprod (ns.take k) + c * P255) (e : Q = Z * n + c * P255) (hs : lprod (ns.take (k + 1)) = lprod (ns.take k) * n) :
    ∃ c : Int, Q = lprod (ns.take (k + 1)) + c * P255 := by
  obtain ⟨d, rfl⟩ := hz
  exact ⟨d * n + c, by rw [e, hs, Int.add_mul, Int.add_mul, Int.mul_assoc, Int.mul_comm P255 n, ← Int.mul_assoc]; omega⟩
theorem mul_last {ns : List Int} {Z : Int} (hz : ∃ c : Int, Z = lprod (ns.take ns.length) + c * P255) : Z % P255 = lprod ns % P255 := by
  obtain ⟨d, rfl⟩ := hz
  rw [List.take_length, Int.mul_comm, Int.add_mul_emod_self_left]
set_option maxHeartbeats 1000000 in
theorem mul_walk (b off cap : Nat) (ns : List Int) (w : World) (hr : ∀ n ∈ ns, 0 ≤ n ∧ n < W256) (hrows : RowsAt w b off ns) (hb : b < w.heap.size) (hlen : ns.length ≤ 4611686018427387904) (hcap : ns.length ≤ cap) (h1 : 1 ≤ ns.length) :
    Calls Tryd.prog 21 #[.slice (some ⟨b, off, none⟩) ns.length cap] w fun e w' => e = .returned (.agg (BA (lprod ns % P255))) ∧ Below w.heap.size w w' := by
  have hz : ((ns.length : Int) == 0) = false := by simp; intro h; simp [h] at h1
  have hn0 := hr _ (List.getElem_mem (show 0 < ns.length by omega))
  have r0 := hrows 0 (by omega)
  have hgd : ns.getD 0 0 = ns[0] := by simp [show 0 < ns.length by omega]
  rw [hgd] at r0
  have E0 := Hid.mk (take_prod ns 0 (by omega))
  have HR := Hid.mk hr
  have HW := Hid.mk hrows
  clear hr hrows hgd
  simp only [Nat.zero_mul, Nat.add_zero] at r0
  generalize ns[0] = n0 at *
  have R0 : Hid (∀ v, Below w.heap.size w v → v.rangeAt b off (BA n0).toList) := fun v hB j x hx => (hB.cell hb).trans (r0 j x hx)
  clear r0
  rcases Nat.eq_or_lt_of_le (show 1 ≤ cap by omega) with hc | hc
  · subst hc
    go_enter Tryd.func21, Tryd.ntmps21
    go_wp2_with (refine ld_mid rfl _ rfl _ _ n0 rfl (R0.out _ ((Below.refl _ _).alloc (Nat.le_refl _) _)) ?_)
    refine (load_any n0 _).mono ?_
    rintro e v0 ⟨rfl, hb0⟩
    have gz := bheap hb0 (heap_alloc_new w _) (by simp <;> omega)
    have hB := Below.trans ((Below.refl _ w).alloc (Nat.le_refl _) _) (hb0.mono (by simp <;> omega))
    clear hb0
    go_wp2_with (refine st_limbs rfl _ _ rfl _ _ _ _ _ rfl rfl _ _ _ _ (heap_alloc_new v0 _) ?_; intro v1 g1 o1)
    have hsz : w.heap.size < v0.heap.size := heap_lt gz
    have gz1 := (o1.block _ (by omega)).trans ((Below.heap_alloc v0 _ _ hsz).trans gz)
    have hB1 : Below w.heap.size w v1 := Below.trans (hB.alloc (by omega) _) (Only.below (b := v0.heap.size) (B := w.heap.size) o1 (by omega))
    clear o1 gz hB
    generalize v0.heap.size = bs at *
    refine wp_loop_rounds 1 ?_
    rw [rounds_succ]
    have e1 : ns.length = 1 := by omega
    have Z1 : Hid (∃ c : Int, V4 (limb n0 0) (limb n0 8) (limb n0 16) (limb n0 24) = lprod (ns.take ns.length) + c * P255) := ⟨0, by rw [limb_V4 hn0.1 hn0.2, e1, E0.out]; simp [lprod]⟩
    have e2 : ((ns.length - 1 : Nat) : Int) = 0 := by omega
    clear e1
    go_wp2_with (refine ld_limbs rfl _ rfl _ _ _ _ _ rfl g1 ?_)
    refine (store_any _ _ _ _ _ (limb_u64 _ _) (limb_u64 _ _) (limb_u64 _ _) (limb_u64 _ _)).mono ?_
    rintro e v2 ⟨rfl, hb2⟩
    have gz2 := bheap hb2 gz1 (heap_lt gz1)
    have hB2 := Below.trans hB1 (hb2.mono hB1.size)
    clear hb2
    go_wp2_with (refine st_bytes rfl _ _ rfl _ _ rfl rfl _ gz2 rfl ?_; intro v3 g3 o3)
    rw [mul_last Z1.out] at g3
    exact bodyPost_ret (v := .agg (BA (lprod ns % P255))) (results_cell_row rfl _ _ _ _ _ _ _ rfl g3 Tryd.underlying22 rfl (by rw [BA_size]; exact info32)) rfl
      ⟨rfl, Below.trans hB2 (Only.below (b := w.heap.size) (B := w.heap.size) o3 (by omega))⟩
  · have hc' : ¬ cap = 1 := by omega
    go_enter Tryd.func21, Tryd.ntmps21
    go_wp2_with (refine ld_mid rfl _ rfl _ _ n0 rfl (R0.out _ ((Below.refl _ _).alloc (Nat.le_refl _) _)) ?_)
    refine (load_any n0 _).mono ?_
    rintro e v0 ⟨rfl, hb0⟩
    have gz := bheap hb0 (heap_alloc_new w _) (by simp <;> omega)
    have hB := Below.trans ((Below.refl _ w).alloc (Nat.le_refl _) _) (hb0.mono (by simp <;> omega))
    clear hb0
    go_wp2_with (refine st_limbs rfl _ _ rfl _ _ _ _ _ rfl rfl _ _ _ _ (heap_alloc_new v0 _) ?_; intro v1 g1 o1)
    have hsz : w.heap.size < v0.heap.size := heap_lt gz
    have gz1 := (o1.block _ (by omega)).trans ((Below.heap_alloc v0 _ _ hsz).trans gz)
    have hB1 : Below w.heap.size w v1 := Below.trans (hB.alloc (by omega) _) (Only.below (b := v0.heap.size) (B := w.heap.size) o1 (by omega))
    clear o1 gz hB
    generalize v0.heap.size = bs at *
    go_loopw [17] (fun i v => ∃ k : Nat, k + 1 ≤ ns.length ∧ i = .int .i64 k ∧ ∃ z0 z1 z2 z3, U64 z0 ∧ U64 z1 ∧ U64 z2 ∧ U64 z3 ∧ (∃ c : Int, V4 z0 z1 z2 z3 = lprod (ns.take (k + 1)) + c * P255) ∧
        v.heap[bs]? = some (.cells #[.int .u64 z0, .int .u64 z1, .int .u64 z2, .int .u64 z3] 43 (0, 0)) ∧ (∃ z : Array Value, v.heap[w.heap.size]? = some (.cells z 22 (0, 0)) ∧ z.size = 32) ∧ Below w.heap.size w v)
      (fun i _ => ns.length - (intOf i).toNat)
    case atStart =>
      exact ⟨0, h1, rfl, _, _, _, _, limb_u64 _ _, limb_u64 _ _, limb_u64 _ _, limb_u64 _ _, ⟨0, by rw [limb_V4 hn0.1 hn0.2, E0.out]; simp [lprod]⟩, g1, ⟨_, gz1, rfl⟩, hB1⟩
    case round =>
      clear g1 gz1 hB1
      obtain ⟨k, hk, rfl, z0, z1, z2, z3, hz0, hz1, hz2, hz3, hzz, gs, ⟨z, gz, sz⟩, hB⟩ := hrel
      have HZ := Hid.mk hzz
      clear hzz
      by_cases hlt : k + 1 < ns.length
      · have hn := HR.out _ (List.getElem_mem hlt)
        have hrow : wr.rangeAt b (off + 32 + k * 32) (BA (ns.getD (k + 1) 0)).toList := fun j v hv => by
          have h2 := HW.out (k + 1) hlt j v hv
          rw [show off + (k + 1) * 32 = off + 32 + k * 32 by omega] at h2
          exact (hB.cell hb).trans h2
        have hgd : ns.getD (k + 1) 0 = ns[k + 1] := by simp [hlt]
        rw [hgd] at hrow
        have hsn := Hid.mk (take_prod ns (k + 1) hlt)
        clear hgd
        generalize ns[k + 1] = n at *
        have HROW := Hid.mk hrow
        clear hrow
        have hlt2 : (k : Int) < ((ns.length - 1 : Nat) : Int) := by omega
        have hlt3 : k < ns.length - 1 := by omega
        go_wp2_with (first | (refine ld_mid rfl _ rfl _ _ n rfl HROW.out ?_) | (refine st_bytes rfl _ _ rfl _ n rfl rfl _ (heap_alloc_new wr _) rfl ?_; intro v1 g1 o1))
        have hsz2 : bs < wr.heap.size := heap_lt gs
        have gs1 := (o1.block _ (by omega)).trans ((Below.heap_alloc wr _ _ hsz2).trans gs)
        have gz1 := (o1.block _ (by omega)).trans ((Below.heap_alloc wr _ _ (by omega)).trans gz)
        have hB1 : Below w.heap.size w v1 := Below.trans (hB.alloc (by omega) _) (Only.below (b := wr.heap.size) (B := w.heap.size) o1 (by omega))
        clear o1 gs gz hB
        generalize wr.heap.size = bw at *
        refine wp_region_mixS (fun v => v.heap[bs]? = some (.cells #[.int .u64 z0, .int .u64 z1, .int .u64 z2, .int .u64 z3] 43 (0, 0)) ∧ v.heap[bw]? = some (.cells (BA n) 22 (0, 0)))
          addF addT [0, 1, 2, 3, 4] rfl (by kernel_rfl) (fun _ _ d _ _ h => by cases d <;> exact h) ⟨gs1, g1⟩ (fun HS => ?_)
        apply mix_look rfl rfl rfl HS
        focus exact fun v h => look_limbs rfl _ _ _ _ _ rfl h.1
        simp only [Act.put, List.setIfInBounds_toArray, List.set_cons_zero, List.set_cons_succ]
        apply mix_look rfl rfl rfl HS
        focus exact fun v h => look_bytes rfl _ _ rfl (BA_size _) h.2
        simp only [Act.put, List.setIfInBounds_toArray, List.set_cons_zero, List.set_cons_succ]
        clear HS g1
        refine mix_act rfl rfl rfl ?_
        intro K hK
        go_simp
        refine (load_any n _).mono ?_
        rintro e v2 ⟨rfl, hb2⟩
        have gs2 := bheap hb2 gs1 (heap_lt gs1)
        have gz2 := bheap hb2 gz1 (heap_lt gz1)
        have hB2 := Below.trans (Below.drew hB1) (hb2.mono hB1.size)
        refine hK _ _ (fun _ h => ⟨bheap hb2 h.1 (heap_lt h.1), bheap hb2 h.2 (heap_lt h.2)⟩) ?_
        clear hK K hb2 gs1 gz1 hB1
        refine mix_act rfl rfl rfl ?_
        intro K hK
        go_simp
        refine (times_any _ _ _ _ _ _ _ _ _ hz0 hz1 hz2 hz3 (limb_u64 _ _) (limb_u64 _ _) (limb_u64 _ _) (limb_u64 _ _)).mono ?_
        rintro e v3 ⟨q0, q1, q2, q3, hq0, hq1, hq2, hq3, ⟨c, ec⟩, rfl, hb3⟩
        rw [limb_V4 hn.1 hn.2] at ec
        have EC := Hid.mk ec
        clear ec
        have gs3 := bheap hb3 gs2 (heap_lt gs2)
        have gz3 := bheap hb3 gz2 (heap_lt gz2)
        have hB3 := Below.trans hB2 (hb3.mono hB2.size)
        refine hK _ _ (fun _ h => ⟨bheap hb3 h.1 (heap_lt h.1), bheap hb3 h.2 (heap_lt h.2)⟩) ?_
        clear hK K hb3 gs2 gz2 hB2
        refine mix_act rfl rfl rfl ?_
        intro K hK
        refine act_limbs _ _ rfl _ _ _ _ _ rfl rfl _ _ _ _ gs3 ?_
        intro v4 g4 o4
        refine hK _ _ (fun h => by cases h) ?_
        clear hK K
        refine mix_done ?_
        have gz4 := (o4.block _ (by omega)).trans gz3
        have hB4 : Below w.heap.size w v4 := Below.trans hB3 (Only.below (b := bs) (B := w.heap.size) o4 (by omega))
        clear o4 gs3 gz3 hB3
        go_wp2
        go_roundw
        case rel => exact ⟨k + 1, by omega, by go_num, q0, q1, q2, q3, hq0, hq1, hq2, hq3, mul_step HZ.out EC.out hsn.out, g4, ⟨z, gz4, sz⟩, hB4⟩
        case measure => simp [intOf]; omega
      · have hk2 : k + 1 = ns.length := by omega
        have HZ2 := HZ.out
        rw [hk2] at HZ2
        have HZ3 := Hid.mk HZ2
        have hk3 : ¬ (k : Int) < ((ns.length - 1 : Nat) : Int) := by omega
        clear hk2 HZ2
        go_wp2_with (refine ld_limbs rfl _ rfl _ _ _ _ _ rfl gs ?_)
        refine (store_any _ _ _ _ _ hz0 hz1 hz2 hz3).mono ?_
        rintro e v2 ⟨rfl, hb2⟩
        have gz2 := bheap hb2 gz (heap_lt gz)
        have hB2 := Below.trans hB (hb2.mono hB.size)
        clear hb2
        go_wp2_with (refine st_bytes rfl _ _ rfl _ _ rfl rfl _ gz2 sz ?_; intro v3 g3 o3)
        rw [mul_last HZ3.out] at g3
        exact bodyPost_ret (v := .agg (BA (lprod ns % P255))) (results_cell_row rfl _ _ _ _ _ _ _ rfl g3 Tryd.underlying22 rfl (by rw [BA_size]; exact info32)) rfl
          ⟨rfl, Below.trans hB2 (Only.below (b := w.heap.size) (B := w.heap.size) o3 (by omega))⟩
end Go.Proofs.YtpcpcgfljffkeaaDoor
/-
  Own text. What Pow of package field answers, for every two times 32 bytes: a contract over the translation.
-/
namespace Go.Proofs.YtpcpcgfljffkeaaDoor
open Go.RowKit Go.Proofs
theorem heap_a45 (w : World) (A B : Obj) : ((w.alloc A).alloc B).heap[w.heap.size]? = some A := heap_alloc2_old w A B
theorem u64_1 : U64 1 := by unfold U64; omega
/-- The k highest bits of a number of 256. -/
def topBits (e : Int) (k : Nat) : Nat := e.toNat / 2 ^ (256 - k)
theorem pow_start {a e : Int} (h1 : e < W256) : V4 1 0 0 0 = a ^ topBits e 0 + 0 * P255 := by
  unfold topBits
  have : e.toNat / 2 ^ 256 = 0 := Nat.div_eq_of_lt (by unfold W256 at h1; omega)
  rw [V4_one, show 256 - 0 = 256 from rfl, this]
  simp
theorem and_one_u8 (x : Int) (h0 : 0 ≤ x) (h1 : x < 256) : bits BinOp.and IntKind.u8 x 1 = x % 2 := by go_bits2
theorem byt_bit (e : Int) (m : Nat) (he : 0 ≤ e) : (byt e (m / 8) / 2 ^ (m % 8)) % 2 = ((e.toNat / 2 ^ m % 2 : Nat) : Int) := by
  obtain ⟨E, rfl⟩ := Int.eq_ofNat_of_zero_le he
  rw [Int.toNat_natCast]
  have e1 : E / 2 ^ m = E / 256 ^ (m / 8) / 2 ^ (m % 8) := by
    rw [Nat.div_div_eq_div_mul]
    congr 1
    rw [show (256 : Nat) = 2 ^ 8 from rfl, ← Nat.pow_mul, ← Nat.pow_add]
    congr 1
    omega
  have e2 : byt (E : Int) (m / 8) = ((E / 256 ^ (m / 8) % 256 : Nat) : Int) := by
    unfold byt
    rw [show ((256 : Int) ^ (m / 8)) = ((256 ^ (m / 8) : Nat) : Int) from by rw [Int.natCast_pow]; rfl]
    omega
  rw [e1, e2]
  generalize E / 256 ^ (m / 8) = G
  have hj : m % 8 < 8 := by omega
  generalize m % 8 = j at *
  have : j = 0 ∨ j = 1 ∨ j = 2 ∨ j = 3 ∨ j = 4 ∨ j = 5 ∨ j = 6 ∨ j = 7 := by omega
  rcases this with rfl | rfl | rfl | rfl | rfl | rfl | rfl | rfl <;> omega
theorem topBits_succ (e : Int) (k : Nat) (h : k < 256) (he : 0 ≤ e) :
    topBits e (k + 1) = 2 * topBits e k + (if (bits BinOp.and IntKind.u8 (byt e ((255 - k) / 8) / 2 ^ ((255 - k) % 8)) 1 == 1) = true then 1 else 0) := by
  have hb := byt_byte e ((255 - k) / 8)
  unfold Byte at hb
  have hp : (0 : Int) < 2 ^ ((255 - k) % 8) := Int.pow_pos (by decide)
  have h0 : 0 ≤ byt e ((255 - k) / 8) / 2 ^ ((255 - k) % 8) := Int.ediv_nonneg hb.1 (by omega)
  have h1 : byt e ((255 - k) / 8) / 2 ^ ((255 - k) % 8) < 256 := by
    have := Int.ediv_le_self (2 ^ ((255 - k) % 8)) hb.1
    omega
  rw [and_one_u8 _ h0 h1, byt_bit e (255 - k) he]
  unfold topBits
  rw [show 256 - (k + 1) = 255 - k by omega, show 256 - k = (255 - k) + 1 by omega, Nat.pow_succ, ← Nat.div_div_eq_div_mul]
  generalize e.toNat / 2 ^ (255 - k) = G
  have hG : G % 2 = 0 ∨ G % 2 = 1 := by omega
  rcases hG with hG | hG <;> simp [hG] <;> omega
theorem pow_sq {A Z Q c : Int} (hz : ∃ c : Int, Z = A + c * P255) (e : Q = Z * Z + c * P255) : ∃ c : Int, Q = A * A + c * P255 := by
  obtain ⟨d, rfl⟩ := hz
  exact ⟨2 * A * d + d * d * P255 + c, by rw [e]; grind⟩
theorem pow_even {a Q : Int} {t : Nat} (h : ∃ c : Int, Q = a ^ t * a ^ t + c * P255) : ∃ c : Int, Q = a ^ (2 * t + (if false = true then 1 else 0)) + c * P255 := by
  obtain ⟨c, h⟩ := h
  exact ⟨c, by rw [h, ← Int.pow_add]; simp; rw [Nat.two_mul]⟩
theorem pow_odd {a Q S d : Int} {t : Nat} (h : ∃ c : Int, Q = a ^ t * a ^ t + c * P255) (e : S = Q * a + d * P255) : ∃ c : Int, S = a ^ (2 * t + (if true = true then 1 else 0)) + c * P255 := by
  obtain ⟨c, rfl⟩ := h
  refine ⟨c * a + d, ?_⟩
  rw [e]
  simp only [if_true, Int.pow_succ, Nat.two_mul, Int.pow_add]
  grind
theorem pow_last {a e Z : Int} (hz : ∃ c : Int, Z = a ^ topBits e 256 + c * P255) : Z % P255 = a ^ e.toNat % P255 := by
  obtain ⟨d, rfl⟩ := hz
  rw [Int.mul_comm, Int.add_mul_emod_self_left]
  simp [topBits]
set_option maxHeartbeats 1000000 in
set_option maxRecDepth 100000 in
theorem pow_any (a e : Int) (w : World) (ha0 : 0 ≤ a) (ha1 : a < W256) (he0 : 0 ≤ e) (he1 : e < W256) :
    Calls Tryd.prog 34 #[.agg (BA a), .agg (BA e)] w fun r w' => r = .returned (.agg (BA (a ^ e.toNat % P255))) ∧ Below w.heap.size w w' := by
  go_enter Tryd.func34, Tryd.ntmps34
  go_wp2_with (refine ld_bytes rfl _ rfl _ _ rfl (heap_a31 w _ _ _) (BA_size _) ?_)
  refine (load_any a _).mono ?_
  rintro r v0 ⟨rfl, hb0⟩
  have ge := bheap hb0 (heap_a32 w _ _ _) (by simp <;> omega)
  have gz := bheap hb0 (heap_a3 w _ _ _) (by simp <;> omega)
  have hB : Below w.heap.size w v0 := by
    refine Below.trans ?_ (hb0.mono (by simp <;> omega))
    repeat first | exact Below.refl _ _ | refine Below.alloc ?_ (by simp <;> omega) _
  clear hb0
  go_wp2_with (first | (refine st_limbs rfl _ _ rfl _ _ _ _ _ rfl rfl _ _ _ _ (heap_a45 v0 _ _) ?_; intro v1 g1 o1; have g2 := (o1.block _ (by omega)).trans (heap_alloc2_new v0 _ _)) | (refine st_limbs rfl _ _ rfl _ _ _ _ _ rfl rfl _ _ _ _ g2 ?_; intro v2 g3 o2))
  have hs0 : w.heap.size + 1 + 1 < v0.heap.size := heap_lt gz
  have ge2 := (o2.block _ (by omega)).trans ((o1.block _ (by omega)).trans ((Below.heap_alloc _ _ _ (by simp <;> omega)).trans ((Below.heap_alloc _ _ _ (by omega)).trans ge)))
  have gz2 := (o2.block _ (by omega)).trans ((o1.block _ (by omega)).trans ((Below.heap_alloc _ _ _ (by simp <;> omega)).trans ((Below.heap_alloc _ _ _ (by omega)).trans gz)))
  have gb2 := (o2.block _ (by omega)).trans g1
  have hB2 : Below w.heap.size w v2 := Below.trans ((hB.alloc (by omega) _).alloc (by simp <;> omega) _) (Below.trans (Only.below (b := v0.heap.size) (B := w.heap.size) o1 (by omega)) (Only.below (b := v0.heap.size + 1) (B := w.heap.size) o2 (by omega)))
  clear o1 o2 g1 g2 ge gz hB
  generalize v0.heap.size = bs at *
  go_loopw [12] (fun i v => ∃ k : Nat, k ≤ 256 ∧ i = .int .i64 k ∧ ∃ z0 z1 z2 z3, U64 z0 ∧ U64 z1 ∧ U64 z2 ∧ U64 z3 ∧ (∃ c : Int, V4 z0 z1 z2 z3 = a ^ topBits e k + c * P255) ∧
      v.heap[bs + 1]? = some (.cells #[.int .u64 z0, .int .u64 z1, .int .u64 z2, .int .u64 z3] 43 (0, 0)) ∧
      v.heap[bs]? = some (.cells #[.int .u64 (limb a 0), .int .u64 (limb a 8), .int .u64 (limb a 16), .int .u64 (limb a 24)] 43 (0, 0)) ∧
      v.heap[w.heap.size + 1]? = some (.cells (BA e) 22 (0, 0)) ∧ (∃ z : Array Value, v.heap[w.heap.size + 1 + 1]? = some (.cells z 22 (0, 0)) ∧ z.size = 32) ∧ Below w.heap.size w v)
    (fun i _ => 256 - (intOf i).toNat)
  case atStart =>
    exact ⟨0, by omega, rfl, 1, 0, 0, 0, u64_1, u64_0, u64_0, u64_0, ⟨0, pow_start he1⟩, g3, gb2, ge2, ⟨_, gz2, rfl⟩, hB2⟩
  case round =>
    clear g3 gb2 ge2 gz2 hB2
    obtain ⟨k, hk, rfl, z0, z1, z2, z3, hz0, hz1, hz2, hz3, hz, gp, gb, ge, ⟨z, gz, sz⟩, hB⟩ := hrel
    have HZ := Hid.mk hz
    clear hz
    by_cases hlt : k < 256
    · have hbit := topBits_succ e k hlt he0
      cases hbv : (bits BinOp.and IntKind.u8 (byt e ((255 - k) / 8) / 2 ^ ((255 - k) % 8)) 1 == 1)
      all_goals
        rw [hbv] at hbit
        have HBIT := Hid.mk hbit
        clear hbit
        go_wp2_with (refine ld_limbs rfl _ rfl _ _ _ _ _ rfl gp ?_)
        refine (times_any _ _ _ _ _ _ _ _ _ hz0 hz1 hz2 hz3 hz0 hz1 hz2 hz3).mono ?_
        rintro r v1 ⟨q0, q1, q2, q3, hq0, hq1, hq2, hq3, ⟨c, ec⟩, rfl, hb1⟩
        have EC := Hid.mk (pow_sq HZ.out ec)
        clear ec
        have gp1 := bheap hb1 gp (heap_lt gp)
        have gb1 := bheap hb1 gb (heap_lt gb)
        have ge1 := bheap hb1 ge (heap_lt ge)
        have gz1 := bheap hb1 gz (heap_lt gz)
        have hB1 := Below.trans hB (hb1.mono hB.size)
        clear hb1 gp gb ge gz hB
        go_wp2_with (first | (refine st_limbs rfl _ _ rfl _ _ _ _ _ rfl rfl _ _ _ _ gp1 ?_; intro v2 gp2 o2; have gb2 := (o2.block _ (by omega)).trans gb1; have ge2 := (o2.block _ (by omega)).trans ge1; have gz2 := (o2.block _ (by omega)).trans gz1; have hB2 := Below.trans hB1 (Only.below (b := bs + 1) (B := w.heap.size) o2 (by omega)); have ce := (cell_of_row v2 (w.heap.size + 1) ((255 - k) / 8) _ _ _ ge2).trans (BA_get e _ (by omega))) | (refine ld_limbs rfl _ rfl _ _ _ _ _ rfl gp2 ?_) | (refine ld_limbs rfl _ rfl _ _ _ _ _ rfl gb2 ?_))
      · exact ⟨⟨k + 1, by omega, by go_num, q0, q1, q2, q3, hq0, hq1, hq2, hq3, by rw [HBIT.out]; exact pow_even EC.out, gp2, gb2, ge2, ⟨z, gz2, sz⟩, hB2⟩, by simp [intOf]; omega⟩
      · refine (times_any _ _ _ _ _ _ _ _ _ hq0 hq1 hq2 hq3 (limb_u64 _ _) (limb_u64 _ _) (limb_u64 _ _) (limb_u64 _ _)).mono ?_
        rintro r v3 ⟨p0, p1, p2, p3, hp0, hp1, hp2, hp3, ⟨d, ed⟩, rfl, hb3⟩
        rw [limb_V4 ha0 ha1] at ed
        have ED := Hid.mk (pow_odd EC.out ed)
        clear ed
        have gp3 := bheap hb3 gp2 (heap_lt gp2)
        have gb3 := bheap hb3 gb2 (heap_lt gb2)
        have ge3 := bheap hb3 ge2 (heap_lt ge2)
        have gz3 := bheap hb3 gz2 (heap_lt gz2)
        have hB3 := Below.trans hB2 (hb3.mono hB2.size)
        clear hb3 gp2 gb2 ge2 gz2 hB2 ce gp1 gb1 ge1 gz1 hB1
        go_wp2_with (refine st_limbs rfl _ _ rfl _ _ _ _ _ rfl rfl _ _ _ _ gp3 ?_; intro v4 gp4 o4)
        have gb4 := (o4.block _ (by omega)).trans gb3
        have ge4 := (o4.block _ (by omega)).trans ge3
        have gz4 := (o4.block _ (by omega)).trans gz3
        have hB4 := Below.trans hB3 (Only.below (b := bs + 1) (B := w.heap.size) o4 (by omega))
        exact ⟨⟨k + 1, by omega, by go_num, p0, p1, p2, p3, hp0, hp1, hp2, hp3, by rw [HBIT.out]; exact ED.out, gp4, gb4, ge4, ⟨z, gz4, sz⟩, hB4⟩, by simp [intOf]; omega⟩
    · have hk2 : k = 256 := by omega
      subst hk2
      go_wp2_with (refine ld_limbs rfl _ rfl _ _ _ _ _ rfl gp ?_)
      refine (store_any _ _ _ _ _ hz0 hz1 hz2 hz3).mono ?_
      rintro r v2 ⟨rfl, hb2⟩
      have gz2 := bheap hb2 gz (heap_lt gz)
      have hB2 := Below.trans hB (hb2.mono hB.size)
      clear hb2
      go_wp2_with (refine st_bytes rfl _ _ rfl _ _ rfl rfl _ gz2 sz ?_; intro v3 g3 o3)
      rw [pow_last HZ.out] at g3
      exact bodyPost_ret (v := .agg (BA (a ^ e.toNat % P255))) (results_cell_row rfl _ _ _ _ _ _ _ rfl g3 Tryd.underlying22 rfl (by rw [BA_size]; exact info32)) rfl
        ⟨rfl, Below.trans hB2 (Only.below (b := w.heap.size + 1 + 1) (B := w.heap.size) o3 (by omega))⟩
end Go.Proofs.YtpcpcgfljffkeaaDoor
/-
  Own text. '==' on 32 bytes, the slices of a call's arguments, and what the law's own 'awake' answers: contracts over the translation.
-/
namespace Go.Proofs.YtpcpcgfljffkeaaDoor
open Go.RowKit Go.Proofs
theorem eqItems_BA (x y : Int) (d : Nat) (w : World) : ∀ (is : List Nat), (∀ i ∈ is, i < 32) → (Op.eqItems (d + 1) 5 1 (BA x) (BA y) is).run Tryd.prog w = .ok (is.all fun i => byt x i == byt y i) w
  | [], _ => by simp [Op.eqItems]
  | i :: is, h => by
    have hi : i < 32 := h i (by simp)
    have ih := eqItems_BA x y d w is (fun j hj => h j (by simp [hj]))
    have e1 : (part 5 (BA x) (i * 1)).run Tryd.prog w = .ok (.int .u8 (byt x i)) w := by
      simp [part, BA_get, hi, go_sem]
    have e2 : (part 5 (BA y) (i * 1)).run Tryd.prog w = .ok (.int .u8 (byt y i)) w := by
      simp [part, BA_get, hi, go_sem]
    simp only [Op.eqItems, Sem.run_bind, e1, e2, Result.andThen_ok, run_equalIn_int w d 5 .u8 .u8 _ _ Tryd.underlying5, List.all_cons]
    cases hb : (byt x i == byt y i)
    · simp
    · simpa using ih
theorem byt_inj {x y : Int} (hx0 : 0 ≤ x) (hx1 : x < W256) (hy0 : 0 ≤ y) (hy1 : y < W256) (h : ∀ i, i < 32 → byt x i = byt y i) : x = y := by
  rw [← limb_V4 hx0 hx1, ← limb_V4 hy0 hy1]
  simp only [← limb_eq]
  simp only [h 0 (by omega), h (0 + 1) (by omega), h (0 + 2) (by omega), h (0 + 3) (by omega), h (0 + 4) (by omega), h (0 + 5) (by omega), h (0 + 6) (by omega), h (0 + 7) (by omega),
    h 8 (by omega), h (8 + 1) (by omega), h (8 + 2) (by omega), h (8 + 3) (by omega), h (8 + 4) (by omega), h (8 + 5) (by omega), h (8 + 6) (by omega), h (8 + 7) (by omega),
    h 16 (by omega), h (16 + 1) (by omega), h (16 + 2) (by omega), h (16 + 3) (by omega), h (16 + 4) (by omega), h (16 + 5) (by omega), h (16 + 6) (by omega), h (16 + 7) (by omega),
    h 24 (by omega), h (24 + 1) (by omega), h (24 + 2) (by omega), h (24 + 3) (by omega), h (24 + 4) (by omega), h (24 + 5) (by omega), h (24 + 6) (by omega), h (24 + 7) (by omega)]
theorem all_beq {x y : Int} (hx0 : 0 ≤ x) (hx1 : x < W256) (hy0 : 0 ≤ y) (hy1 : y < W256) : ((List.range 32).all fun i => byt x i == byt y i) = (x == y) := by
  by_cases h : x = y
  · subst h; simp
  · have h1 : (x == y) = false := by simpa using h
    rw [h1]
    cases hb : (List.range 32).all fun i => byt x i == byt y i with
    | false => rfl
    | true =>
      exfalso
      apply h
      refine byt_inj hx0 hx1 hy0 hy1 (fun i hi => ?_)
      have := List.all_eq_true.1 hb i (List.mem_range.2 hi)
      simpa using this
theorem cells5 : Tryd.prog.cellsOf 5 = 1 := by kernel_rfl
theorem info5 : (Tryd.prog.info? 5).isSome = true := by kernel_rfl
theorem equal_bytes (x y : Int) (d : Nat) (w : World) : (Op.equalIn (d + 1 + 1) 22 (.agg (BA x)) (.agg (BA y))).run Tryd.prog w = .ok ((List.range 32).all fun i => byt x i == byt y i) w := by
  obtain ⟨i, hi⟩ := Option.isSome_iff_exists.1 info5
  rw [run_equalIn_array w (d + 1) (BA x) (BA y) Tryd.underlying22 hi, cells5]
  exact eqItems_BA x y d w _ (fun i hi => List.mem_range.1 hi)
theorem eqg24 : Tryd.prog.eqGuardType Tryd.prog.depth 22 = false := by kernel_rfl
/-- '==' on 32 bytes. -/
theorem eql_bytes {a : Act} {o : Oper} {w : World} (x y : Operand) (t : TypeId) (ho : o.op = .binOp .eql 22 x y t) (m n : Int) (hx : a.eval x = .agg (BA m)) (hy : a.eval y = .agg (BA n))
    (hm0 : 0 ≤ m) (hm1 : m < W256) (hn0 : 0 ≤ n) (hn1 : n < W256) : (execOp a.eval o).run Tryd.prog w = .ok (.value (.bool (m == n))) w := by
  unfold execOp
  simp only [ho, hx, hy, Sem.run_bind, run_eqGuard_agg w .eql 22 x y _ _ eqg24, Result.andThen_ok, run_eql_struct, equal_bytes m n 9998 w, all_beq hm0 hm1 hn0 hn1, Sem.run_pure]
theorem eql_same {a : Act} {o : Oper} {w : World} (x y : Operand) (t : TypeId) (ho : o.op = .binOp .eql 22 x y t) (m : Int) (hx : a.eval x = .agg (BA m)) (hy : a.eval y = .agg (BA m)) :
    (execOp a.eval o).run Tryd.prog w = .ok (.value (.bool true)) w := by
  unfold execOp
  simp only [ho, hx, hy, Sem.run_bind, run_eqGuard_agg w .eql 22 x y _ _ eqg24, Result.andThen_ok, run_eql_struct, equal_bytes m m 9998 w, Sem.run_pure]
  simp
theorem run_bs1 (m : Int) (w : World) : (Instr.buildSlice 51 1 #[(0, .agg (BA m))]).run Tryd.prog w = .ok (.slice (some ⟨w.heap.size, 0, none⟩) 1 1) (w.alloc (.cells (BA m) 22)) := by kernel_rfl
theorem run_bs2 (m n : Int) (w : World) : (Instr.buildSlice 51 2 #[(0, .agg (BA m)), (1, .agg (BA n))]).run Tryd.prog w = .ok (.slice (some ⟨w.heap.size, 0, none⟩) 2 2) (w.alloc (.cells (BA m ++ BA n) 22)) := by kernel_rfl
theorem run_bs3 (m n k : Int) (w : World) : (Instr.buildSlice 51 3 #[(0, .agg (BA m)), (1, .agg (BA n)), (2, .agg (BA k))]).run Tryd.prog w = .ok (.slice (some ⟨w.heap.size, 0, none⟩) 3 3) (w.alloc (.cells (BA m ++ BA n ++ BA k) 22)) := by kernel_rfl
theorem rows_of {w : World} {b : Nat} {cs : Array Value} {ns : List Int} (hg : w.heap[b]? = some (.cells cs 22 (0, 0))) (h : ∀ k, k < ns.length → ∀ j v, (BA (ns.getD k 0)).toList[j]? = some v → cs[k * 32 + j]? = some v) : RowsAt w b 0 ns :=
  fun k hk j v hv => by rw [cell_of_row w b _ _ _ _ hg, Nat.zero_add]; exact h k hk j v hv
theorem rows1 {w : World} {b : Nat} {x : Int} (hg : w.heap[b]? = some (.cells (BA x) 22 (0, 0))) : RowsAt w b 0 [x] :=
  rows_of hg (fun k hk j v hv => by
    have : k = 0 := by simpa using hk
    subst this
    simpa using hv)
theorem rows2 {w : World} {b : Nat} {x y : Int} (hg : w.heap[b]? = some (.cells (BA x ++ BA y) 22 (0, 0))) : RowsAt w b 0 [x, y] :=
  rows_of hg (fun k hk j v hv => by
    have hj : j < 32 := by have := (List.getElem?_eq_some_iff.1 hv).1; rwa [Array.length_toList, BA_size] at this
    have hk2 : k = 0 ∨ k = 1 := by simp at hk; omega
    rcases hk2 with rfl | rfl
    · rw [Array.getElem?_append_left (by rw [BA_size]; omega)]; simpa using hv
    · rw [Array.getElem?_append_right (by rw [BA_size]; omega), BA_size, show 1 * 32 + j - 32 = j by omega]; simpa using hv)
theorem rows3 {w : World} {b : Nat} {x y z : Int} (hg : w.heap[b]? = some (.cells (BA x ++ BA y ++ BA z) 22 (0, 0))) : RowsAt w b 0 [x, y, z] :=
  rows_of hg (fun k hk j v hv => by
    have hj : j < 32 := by have := (List.getElem?_eq_some_iff.1 hv).1; rwa [Array.length_toList, BA_size] at this
    have hk2 : k = 0 ∨ k = 1 ∨ k = 2 := by simp at hk; omega
    rcases hk2 with rfl | rfl | rfl
    · rw [Array.getElem?_append_left (by rw [Array.size_append, BA_size, BA_size]; omega), Array.getElem?_append_left (by rw [BA_size]; omega)]; simpa using hv
    · rw [Array.getElem?_append_left (by rw [Array.size_append, BA_size, BA_size]; omega), Array.getElem?_append_right (by rw [BA_size]; omega), BA_size, show 1 * 32 + j - 32 = j by omega]; simpa using hv
    · rw [Array.getElem?_append_right (by rw [Array.size_append, BA_size, BA_size]; omega), Array.size_append, BA_size, BA_size, show 2 * 32 + j - (32 + 32) = j by omega]; simpa using hv)
/-- A number of 32 bytes. -/
def N256 (x : Int) : Prop := 0 ≤ x ∧ x < W256
theorem N256.mod (x : Int) : N256 (x % P255) := ⟨(mod_lt_P x).1, by have := (mod_lt_P x).2; unfold P255 at this; unfold W256; unfold P255; omega⟩
theorem add1 (x : Int) (b : Nat) (w : World) (hx : N256 x) (hr : RowsAt w b 0 [x]) (hb : b < w.heap.size) : Calls Tryd.prog 48 #[.slice (some ⟨b, 0, none⟩) 1 1] w fun r w' => r = .returned (.agg (BA (x % P255))) ∧ Below w.heap.size w w' := by
  have := add_walk b 0 1 [x] w (by intro n hn; simp at hn; subst hn; exact hx) hr hb (by simp)
  simpa using this
theorem add2 (x y : Int) (b : Nat) (w : World) (hx : N256 x) (hy : N256 y) (hr : RowsAt w b 0 [x, y]) (hb : b < w.heap.size) : Calls Tryd.prog 48 #[.slice (some ⟨b, 0, none⟩) 2 2] w fun r w' => r = .returned (.agg (BA ((x + y) % P255))) ∧ Below w.heap.size w w' := by
  have := add_walk b 0 2 [x, y] w (by simpa using ⟨hx, hy⟩) hr hb (by simp)
  simpa using this
theorem add3 (x y z : Int) (b : Nat) (w : World) (hx : N256 x) (hy : N256 y) (hz : N256 z) (hr : RowsAt w b 0 [x, y, z]) (hb : b < w.heap.size) : Calls Tryd.prog 48 #[.slice (some ⟨b, 0, none⟩) 3 3] w fun r w' => r = .returned (.agg (BA ((x + (y + z)) % P255))) ∧ Below w.heap.size w w' := by
  have := add_walk b 0 3 [x, y, z] w (by simpa using ⟨hx, hy, hz⟩) hr hb (by simp)
  simpa using this
theorem mul1 (x : Int) (b : Nat) (w : World) (hx : N256 x) (hr : RowsAt w b 0 [x]) (hb : b < w.heap.size) : Calls Tryd.prog 21 #[.slice (some ⟨b, 0, none⟩) 1 1] w fun r w' => r = .returned (.agg (BA (x % P255))) ∧ Below w.heap.size w w' := by
  have := mul_walk b 0 1 [x] w (by intro n hn; simp at hn; subst hn; exact hx) hr hb (by simp) (by simp) (by simp)
  simpa [lprod] using this
theorem mul2 (x y : Int) (b : Nat) (w : World) (hx : N256 x) (hy : N256 y) (hr : RowsAt w b 0 [x, y]) (hb : b < w.heap.size) : Calls Tryd.prog 21 #[.slice (some ⟨b, 0, none⟩) 2 2] w fun r w' => r = .returned (.agg (BA ((x * y) % P255))) ∧ Below w.heap.size w w' := by
  have := mul_walk b 0 2 [x, y] w (by simpa using ⟨hx, hy⟩) hr hb (by simp) (by simp) (by simp)
  simpa [lprod] using this
theorem mul3 (x y z : Int) (b : Nat) (w : World) (hx : N256 x) (hy : N256 y) (hz : N256 z) (hr : RowsAt w b 0 [x, y, z]) (hb : b < w.heap.size) : Calls Tryd.prog 21 #[.slice (some ⟨b, 0, none⟩) 3 3] w fun r w' => r = .returned (.agg (BA ((x * (y * z)) % P255))) ∧ Below w.heap.size w w' := by
  have := mul_walk b 0 3 [x, y, z] w (by simpa using ⟨hx, hy, hz⟩) hr hb (by simp) (by simp) (by simp)
  simpa [lprod] using this
/-- The slice that a call's arguments are laid into. -/
theorem act_bs2 {o : Oper} {a : Act} {w : World} {K : Act → World → Prop} {Q : Exit → Act → World → Prop} (x y : Operand) (ho : o.op = .buildSlice 51 2 #[(0, x), (1, y)]) (m n : Int) (hx : a.eval x = .agg (BA m)) (hy : a.eval y = .agg (BA n))
    (h : ∀ v, RowsAt v w.heap.size 0 [m, n] → w.heap.size < v.heap.size → Below w.heap.size w v → K (a.put o.dst (.slice (some ⟨w.heap.size, 0, none⟩) 2 2)) v) : o.wp Tryd.prog a w K Q := by
  have hr := run_bs2 m n w
  unfold Oper.wp execOp
  simp only [ho, List.map_toArray, List.map_cons, List.map_nil, hx, hy, Sem.run_bind, hr, Result.andThen_ok, Sem.run_pure, Oper.upon]
  exact h _ (rows2 (heap_alloc_new w _)) (by simp) ((Below.refl _ _).alloc (Nat.le_refl _) _)
theorem act_bs1 {o : Oper} {a : Act} {w : World} {K : Act → World → Prop} {Q : Exit → Act → World → Prop} (x : Operand) (ho : o.op = .buildSlice 51 1 #[(0, x)]) (m : Int) (hx : a.eval x = .agg (BA m))
    (h : ∀ v, RowsAt v w.heap.size 0 [m] → w.heap.size < v.heap.size → Below w.heap.size w v → K (a.put o.dst (.slice (some ⟨w.heap.size, 0, none⟩) 1 1)) v) : o.wp Tryd.prog a w K Q := by
  have hr := run_bs1 m w
  unfold Oper.wp execOp
  simp only [ho, List.map_toArray, List.map_cons, List.map_nil, hx, Sem.run_bind, hr, Result.andThen_ok, Sem.run_pure, Oper.upon]
  exact h _ (rows1 (heap_alloc_new w _)) (by simp) ((Below.refl _ _).alloc (Nat.le_refl _) _)
theorem act_bs3 {o : Oper} {a : Act} {w : World} {K : Act → World → Prop} {Q : Exit → Act → World → Prop} (x y z : Operand) (ho : o.op = .buildSlice 51 3 #[(0, x), (1, y), (2, z)]) (m n k : Int) (hx : a.eval x = .agg (BA m)) (hy : a.eval y = .agg (BA n)) (hz : a.eval z = .agg (BA k))
    (h : ∀ v, RowsAt v w.heap.size 0 [m, n, k] → w.heap.size < v.heap.size → Below w.heap.size w v → K (a.put o.dst (.slice (some ⟨w.heap.size, 0, none⟩) 3 3)) v) : o.wp Tryd.prog a w K Q := by
  have hr := run_bs3 m n k w
  unfold Oper.wp execOp
  simp only [ho, List.map_toArray, List.map_cons, List.map_nil, hx, hy, hz, Sem.run_bind, hr, Result.andThen_ok, Sem.run_pure, Oper.upon]
  exact h _ (rows3 (heap_alloc_new w _)) (by simp) ((Below.refl _ _).alloc (Nat.le_refl _) _)
theorem rows_below {B : Nat} {w w' : World} {b off : Nat} {ns : List Int} (h : RowsAt w b off ns) (hb : Below B w w') (hB : b < B) : RowsAt w' b off ns :=
  fun k hk j v hv => (hb.cell hB).trans (h k hk j v hv)
theorem exec_build {a : Act} {o : Oper} {w : World} (i : Nat) (c : Int) (ho : o.op = .build 22 #[(i, .const (.int .u8 c))]) (n : Int) (h : (Instr.build 22 #[(i, .int .u8 c)]).run Tryd.prog w = .ok (.agg (BA n)) w) :
    (execOp a.eval o).run Tryd.prog w = .ok (.value (.agg (BA n))) w := by
  unfold execOp
  simp only [ho, List.map_toArray, List.map_cons, List.map_nil, Act.eval, Sem.run_bind, h, Result.andThen_ok, Sem.run_pure]
theorem wl_value {P : Program} {ops : Array Oper} {Q : Exit → Act → World → Prop} {a : Act} {w : World} {rest : List Oper} {o : Oper} {v : Value} (hw : Region.wanted o (yielded ops a.tmps) = true)
    (hr : (execOp a.eval o).run P w = .ok (.value v) w) (h : wpList P ops Q rest (a.put o.dst v) w) : wpList P ops Q (o :: rest) a w := by
  unfold wpList
  rw [if_pos hw]
  exact .inl (by unfold Oper.wp; rw [hr]; exact h)
theorem wl_act {P : Program} {ops : Array Oper} {Q : Exit → Act → World → Prop} {a : Act} {w : World} {rest : List Oper} {o : Oper} (hw : Region.wanted o (yielded ops a.tmps) = true)
    (h : o.wp P a w (wpList P ops Q rest) Q) : wpList P ops Q (o :: rest) a w := by
  unfold wpList
  rw [if_pos hw]
  exact .inl h
theorem build19 (w : World) : (Instr.build 22 #[(0, .int .u8 19)]).run Tryd.prog w = .ok (.agg (BA 19)) w := by kernel_rfl
theorem build2 (w : World) : (Instr.build 22 #[(0, .int .u8 2)]).run Tryd.prog w = .ok (.agg (BA 2)) w := by kernel_rfl
theorem build1 (w : World) : (Instr.build 22 #[(0, .int .u8 1)]).run Tryd.prog w = .ok (.agg (BA 1)) w := by kernel_rfl
theorem build4 (w : World) : (Instr.build 22 #[(0, .int .u8 4)]).run Tryd.prog w = .ok (.agg (BA 4)) w := by kernel_rfl
theorem build38 (w : World) : (Instr.build 22 #[(0, .int .u8 38)]).run Tryd.prog w = .ok (.agg (BA 38)) w := by kernel_rfl
theorem build64 (w : World) : (Instr.build 22 #[(31, .int .u8 64)]).run Tryd.prog w = .ok (.agg (BA 28948022309329048855892746252171976963317496166410141009864396001978282409984)) w := by kernel_rfl
end Go.Proofs.YtpcpcgfljffkeaaDoor
/-
  Own text. Bytes of numbers: a byte laid at its place; the highest bit struck.
-/
namespace Go.Proofs.YtpcpcgfljffkeaaDoor
open Go.RowKit Go.Proofs
/-- 2^255 -/
def W255 : Int := 57896044618658097711785492504343953926634992332820282019728792003956564819968
theorem byt_mod (n : Int) (i k : Nat) (h : i < k) : byt (n % 256 ^ k) i = byt n i := by
  unfold byt
  obtain ⟨m, rfl⟩ : ∃ m, k = i + 1 + m := ⟨k - (i + 1), by omega⟩
  have hp : (0 : Int) < 256 ^ i := Int.pow_pos (by decide)
  have e : (256 : Int) ^ (i + 1 + m) = 256 ^ i * (256 * 256 ^ m) := by rw [Int.pow_add, Int.pow_add]; simp [Int.mul_assoc]
  rw [e]
  have hq : n % (256 ^ i * (256 * 256 ^ m)) = n - 256 ^ i * (256 * 256 ^ m) * (n / (256 ^ i * (256 * 256 ^ m))) := by
    have := Int.emod_add_mul_ediv n (256 ^ i * (256 * 256 ^ m)); omega
  rw [hq, show n - 256 ^ i * (256 * 256 ^ m) * (n / (256 ^ i * (256 * 256 ^ m))) = n + 256 ^ i * (-(256 * 256 ^ m * (n / (256 ^ i * (256 * 256 ^ m))))) by
    rw [Int.mul_neg, ← Int.mul_assoc, ← Int.mul_assoc, Int.mul_assoc (256 ^ i) 256 (256 ^ m)]; omega]
  rw [Int.add_mul_ediv_left _ _ (by omega)]
  generalize n / 256 ^ i = A
  rw [Int.mul_assoc]
  generalize 256 ^ m * (n / (256 ^ i * (256 * 256 ^ m))) = B
  omega
theorem BA_ext {cs : Array Value} {n : Int} (hs : cs.size = 32) (h : ∀ i, i < 32 → cs[i]? = some (.int .u8 (byt n i))) : cs = BA n := by
  apply Array.ext_getElem?
  intro i
  by_cases hi : i < 32
  · rw [h i hi, BA_get _ _ hi]
  · rw [Array.getElem?_eq_none (by omega), Array.getElem?_eq_none (by rw [BA_size]; omega)]
theorem byt_top {n : Int} (i : Nat) (hi : i < 31) : byt (n % W255) i = byt n i := by
  have e : n % W255 = (n % W255) % 256 ^ 31 + 256 ^ 31 * ((n % W255) / 256 ^ 31) := by have := Int.emod_add_mul_ediv (n % W255) (256 ^ 31); omega
  rw [← byt_mod (n % W255) i 31 (by omega), ← byt_mod n i 31 (by omega)]
  congr 1
  unfold W255
  omega
theorem byt_31 {n : Int} : byt (n % W255) 31 = byt n 31 % 128 := by
  unfold byt W255
  omega
theorem BA_low (n : Int) : (BA n).setIfInBounds 31 (.int .u8 (byt n 31 % 128)) = BA (n % W255) := by
  apply BA_ext
  · simp [BA_size]
  · intro i hi
    rw [Array.getElem?_setIfInBounds]
    by_cases h : 31 = i
    · subst h; simp [BA_size, byt_31]
    · rw [if_neg h, BA_get _ _ hi, byt_top i (by omega)]
/-- One byte laid at place k above what is below 256^k. -/
theorem BA_set {X b : Int} {k : Nat} (hX0 : 0 ≤ X) (hX : X < 256 ^ k) (hb : Byte b) (hk : k < 32) : (BA X).setIfInBounds k (.int .u8 b) = BA (X + b * 256 ^ k) := by
  have hp : ∀ j : Nat, (0 : Int) < 256 ^ j := fun j => Int.pow_pos (by decide)
  unfold Byte at hb
  apply BA_ext
  · simp [BA_size]
  · intro i hi
    rw [Array.getElem?_setIfInBounds]
    by_cases h : k = i
    · subst h
      simp only [BA_size, hk, if_true]
      congr 2
      unfold byt
      rw [Int.add_mul_ediv_right _ _ (by have := hp k; omega), Int.ediv_eq_zero_of_lt hX0 hX]
      omega
    · rw [if_neg h, BA_get _ _ hi]
      congr 2
      by_cases hlt : i < k
      · rw [← byt_mod X i k hlt, ← byt_mod (X + b * 256 ^ k) i k hlt, Int.mul_comm, Int.add_mul_emod_self_left]
      · obtain ⟨m, rfl⟩ : ∃ m, i = k + (m + 1) := ⟨i - k - 1, by omega⟩
        unfold byt
        rw [Int.pow_add, ← Int.ediv_ediv_of_nonneg (by have := hp k; omega), ← Int.ediv_ediv_of_nonneg (by have := hp k; omega), Int.add_mul_ediv_right _ _ (by have := hp k; omega), Int.ediv_eq_zero_of_lt hX0 hX, Int.zero_add]
        have : b / 256 ^ (m + 1) = 0 := by
          rw [Int.pow_succ, Int.mul_comm, ← Int.ediv_ediv_of_nonneg (by decide), show b / 256 = 0 by omega]
          simp
        rw [this]
        simp
end Go.Proofs.YtpcpcgfljffkeaaDoor
/-
  Own text. Digits to the base 65536: the number of a list of digits, and what the document's answer does to it.
-/
namespace Go.Proofs.YtpcpcgfljffkeaaDoor
open Go.RowKit Go.Proofs
/-- The number of a list of digits to the base 65536, the lowest first. -/
def val : List Int → Int
  | [] => 0
  | d :: ds => d + 65536 * val ds
theorem pow_pos16 (k : Nat) : (0 : Int) < 65536 ^ k := Int.pow_pos (by decide)
theorem val_append (xs ys : List Int) : val (xs ++ ys) = val xs + 65536 ^ xs.length * val ys := by
  induction xs with
  | nil => simp [val]
  | cons x xs ih =>
    simp only [List.cons_append, val, ih, List.length_cons, Int.pow_succ]
    rw [Int.mul_add, Int.mul_comm (65536 ^ xs.length) 65536, Int.mul_assoc]
    omega
theorem val_snoc (xs : List Int) (d : Int) : val (xs ++ [d]) = val xs + 65536 ^ xs.length * d := by
  rw [val_append]; simp [val]
theorem val_nonneg {ds : List Int} (h : ∀ d ∈ ds, 0 ≤ d) : 0 ≤ val ds := by
  induction ds with
  | nil => simp [val]
  | cons x xs ih =>
    have h1 := h x (by simp)
    have h2 := ih (fun d hd => h d (by simp [hd]))
    simp only [val]; omega
theorem val_lt {ds : List Int} (h : ∀ d ∈ ds, 0 ≤ d ∧ d < 65536) : val ds < 65536 ^ ds.length := by
  induction ds with
  | nil => simp [val]
  | cons x xs ih =>
    have h1 := h x (by simp)
    have h2 := ih (fun d hd => h d (by simp [hd]))
    simp only [val, List.length_cons, Int.pow_succ]; omega
theorem val_zeros (n : Nat) : val (List.replicate n 0) = 0 := by
  induction n with
  | zero => rfl
  | succ n ih => simp [List.replicate_succ, val, ih]
theorem val_take (ds : List Int) (k : Nat) (h : k < ds.length) : val (ds.take (k + 1)) = val (ds.take k) + 65536 ^ k * ds.getD k 0 := by
  rw [List.take_succ_eq_append_getElem h, val_snoc, List.length_take, Nat.min_eq_left (by omega)]; simp [h]
theorem val_set (ds : List Int) (k : Nat) (d : Int) (h : k < ds.length) : val (ds.set k d) = val ds + 65536 ^ k * (d - ds.getD k 0) := by
  induction ds generalizing k with
  | nil => simp at h
  | cons x xs ih =>
    cases k with
    | zero => simp [val]; omega
    | succ k =>
      have hk : k < xs.length := by simpa using h
      simp only [List.set_cons_succ, val, ih k hk, List.getD_cons_succ, Int.pow_succ]
      rw [Int.mul_add, Int.mul_comm (65536 ^ k) 65536, Int.mul_assoc]
      omega
theorem getD_mem {ds : List Int} {k : Nat} (h : k < ds.length) : ds.getD k 0 ∈ ds := by
  simp [h]
theorem getD_set (ds : List Int) (k j : Nat) (d : Int) (h : k < ds.length) : (ds.set k d).getD j 0 = if j = k then d else ds.getD j 0 := by
  by_cases e : j = k
  · subst e; simp [h]
  · have : k ≠ j := fun h => e h.symm
    simp [List.getD, e, List.getElem?_set_ne this]
theorem val_split (ds : List Int) (k : Nat) (h : k ≤ ds.length) : val ds = val (ds.take k) + 65536 ^ k * val (ds.drop k) := by
  conv => lhs; rw [← List.take_append_drop k ds]
  rw [val_append, List.length_take, Nat.min_eq_left h]
/-- All digits are below m, and none below 0. -/
def Dgs (m : Int) (ds : List Int) : Prop := ∀ d ∈ ds, 0 ≤ d ∧ d < m
theorem Dgs.at {m : Int} {ds : List Int} (h : Dgs m ds) (hm : 0 < m) (k : Nat) : 0 ≤ ds.getD k 0 ∧ ds.getD k 0 < m := by
  by_cases hk : k < ds.length
  · exact h _ (getD_mem hk)
  · simp [List.getD, List.getElem?_eq_none (Nat.le_of_not_lt hk), hm]
theorem Dgs.of {m : Int} {ds : List Int} (h : ∀ k, k < ds.length → 0 ≤ ds.getD k 0 ∧ ds.getD k 0 < m) : Dgs m ds := by
  intro d hd
  obtain ⟨k, hk, rfl⟩ := List.getElem_of_mem hd
  simpa [hk] using h k hk
theorem Dgs.snoc {m : Int} {ds : List Int} (h : Dgs m ds) {d : Int} (h0 : 0 ≤ d) (h1 : d < m) : Dgs m (ds ++ [d]) := by
  intro x hx
  rcases List.mem_append.1 hx with hx | hx
  · exact h x hx
  · simp at hx; subst hx; exact ⟨h0, h1⟩
theorem Dgs.mono {m n : Int} {ds : List Int} (h : Dgs m ds) (hmn : m ≤ n) : Dgs n ds := fun d hd => ⟨(h d hd).1, by have := (h d hd).2; omega⟩
theorem Dgs.take {m : Int} {ds : List Int} (h : Dgs m ds) (k : Nat) : Dgs m (ds.take k) := fun d hd => h d (List.mem_of_mem_take hd)
theorem Dgs.drop {m : Int} {ds : List Int} (h : Dgs m ds) (k : Nat) : Dgs m (ds.drop k) := fun d hd => h d (List.mem_of_mem_drop hd)
theorem Dgs.nonneg {m : Int} {ds : List Int} (h : Dgs m ds) : 0 ≤ val ds := val_nonneg (fun d hd => (h d hd).1)
theorem Dgs.lt {ds : List Int} (h : Dgs 65536 ds) : val ds < 65536 ^ ds.length := val_lt h
theorem pow_mono16 {a b : Nat} (h : a ≤ b) : (65536 : Int) ^ a ≤ 65536 ^ b := by
  obtain ⟨c, rfl⟩ := Nat.exists_eq_add_of_le h
  have h1 := pow_pos16 c
  have h2 := pow_pos16 a
  rw [Int.pow_add]
  calc (65536 : Int) ^ a = 65536 ^ a * 1 := by rw [Int.mul_one]
    _ ≤ 65536 ^ a * 65536 ^ c := Int.mul_le_mul_of_nonneg_left (by omega) (Int.le_of_lt h2)
theorem pow_lt16 {a b : Nat} (h : (65536 : Int) ^ a < 65536 ^ b) : a < b := by
  by_cases hb : b ≤ a
  · have := pow_mono16 hb; omega
  · omega
/-- What 'carried' has done by round k: the digits so far, and what is carried on. -/
structure Car (ds : List Int) (k : Nat) (c : Int) (es : List Int) : Prop where
  len : es.length = k
  dgs : Dgs 65536 es
  c0 : 0 ≤ c
  c1 : c < 4398046511104
  num : val es + 65536 ^ k * c = val (ds.take k)
  top : k ≤ ds.length ∨ 65536 ^ (k - 1) ≤ val ds
  k44 : k ≤ 44
theorem Car.start (ds : List Int) : Car ds 0 0 [] := ⟨rfl, fun d hd => by simp at hd, by omega, by omega, by simp [val], .inl (Nat.zero_le _), by omega⟩
theorem Car.step {ds : List Int} {k : Nat} {c : Int} {es : List Int} (h : Car ds k c es) (hd : Dgs 4398046511104 ds) (hl : ds.length ≤ 44) (hk : k < ds.length) :
    Car ds (k + 1) ((c + ds.getD k 0) / 65536) (es ++ [(c + ds.getD k 0) % 65536]) := by
  have hx := hd.at (by omega) k
  have h0 := h.c0
  have h1 := h.c1
  refine ⟨by simp [h.len], h.dgs.snoc (by omega) (by omega), by omega, by omega, ?_, .inl hk, by omega⟩
  rw [val_snoc, val_take ds k hk, ← h.num, h.len, Int.pow_succ]
  have e : c + ds.getD k 0 = (c + ds.getD k 0) % 65536 + 65536 * ((c + ds.getD k 0) / 65536) := by omega
  rw [Int.add_assoc, Int.add_assoc, Int.mul_assoc, ← Int.mul_add, ← Int.mul_add, ← e]
theorem Car.over {ds : List Int} {k : Nat} {c : Int} {es : List Int} (h : Car ds k c es) (hv : val ds < 65536 ^ 44) (hk : ds.length ≤ k) (hc : 0 < c) :
    Car ds (k + 1) (c / 65536) (es ++ [c % 65536]) := by
  have h0 := h.c0
  have h1 := h.c1
  have hval := h.num
  rw [List.take_of_length_le hk] at hval
  have hp := pow_pos16 k
  have hes := h.dgs.nonneg
  have hle : (65536 : Int) ^ k ≤ val ds := by
    have : (65536 : Int) ^ k * 1 ≤ 65536 ^ k * c := Int.mul_le_mul_of_nonneg_left (by omega) (Int.le_of_lt hp)
    omega
  have hk44 : k < 44 := pow_lt16 (Int.lt_of_le_of_lt hle hv)
  refine ⟨by simp [h.len], h.dgs.snoc (by omega) (by omega), by omega, by omega, ?_, .inr (by simpa using hle), by omega⟩
  rw [val_snoc, List.take_of_length_le (by omega), ← hval, h.len, Int.pow_succ]
  have e : c = c % 65536 + 65536 * (c / 65536) := by omega
  rw [Int.add_assoc, Int.mul_assoc, ← Int.mul_add, ← e]
/-- What 'carried' answers. -/
structure Cared (ds es : List Int) : Prop where
  dgs : Dgs 65536 es
  num : val es = val ds
  l16 : 16 ≤ es.length
  l44 : es.length ≤ 44
  top : es.length ≤ max 16 ds.length ∨ 65536 ^ (es.length - 1) ≤ val ds
/-- Behind the first loop. -/
structure Pad (ds es : List Int) : Prop where
  dgs : Dgs 65536 es
  num : val es = val ds
  l44 : es.length ≤ 44
  top : es.length ≤ max 16 ds.length ∨ 65536 ^ (es.length - 1) ≤ val ds
theorem Car.done {ds : List Int} {k : Nat} {es : List Int} (h : Car ds k 0 es) (hk : ds.length ≤ k) : Pad ds es := by
  have hval := h.num
  rw [List.take_of_length_le hk] at hval
  refine ⟨h.dgs, by simpa using hval, by rw [h.len]; exact h.k44, ?_⟩
  rw [h.len]
  rcases h.top with h | h
  · exact .inl (by omega)
  · exact .inr h
theorem Pad.zero {ds es : List Int} (h : Pad ds es) (hl : es.length < 16) : Pad ds (es ++ [0]) :=
  ⟨h.dgs.snoc (by omega) (by omega), by rw [val_snoc, h.num]; omega, by simp; omega, .inl (by simp; omega)⟩
theorem Pad.done {ds es : List Int} (h : Pad ds es) (hl : 16 ≤ es.length) : Cared ds es := ⟨h.dgs, h.num, hl, h.l44, h.top⟩
end Go.Proofs.YtpcpcgfljffkeaaDoor
/-
  Own text. What Rest of the document's answer does to a number: folded at 2^256, then at 2^255, then once p less.
-/
namespace Go.Proofs.YtpcpcgfljffkeaaDoor
open Go.RowKit Go.Proofs
/-- The digits from the sixteenth on are laid, 38 times, onto the first ones: so far j of them. -/
structure Fold (X : List Int) (j m : Nat) (ys : List Int) : Prop where
  l16 : 16 ≤ ys.length
  lj : j ≤ ys.length
  lm : ys.length ≤ max 16 m
  num : val ys = val (X.take 16) + 38 * val ((X.drop 16).take j)
  lo : ∀ k, 0 ≤ ys.getD k 0 ∧ ys.getD k 0 < 2621440
  hi : ∀ k, j ≤ k → ys.getD k 0 < 65536
theorem Fold.start {X : List Int} (hd : Dgs 65536 X) (hl : 16 ≤ X.length) : Fold X 0 0 (X.take 16) :=
  ⟨by simp; omega, Nat.zero_le _, by simp; omega, by simp [val], fun k => ((hd.take 16).mono (by omega : (65536 : Int) ≤ 2621440)).at (by omega) k, fun k _ => ((hd.take 16).at (by omega) k).2⟩
theorem Fold.wide {X : List Int} {j : Nat} {ys : List Int} (h : Fold X j j ys) : Fold X j (j + 1) ys := ⟨h.l16, h.lj, by have := h.lm; omega, h.num, h.lo, h.hi⟩
theorem getD_snoc0 (ys : List Int) (k : Nat) : (ys ++ [0]).getD k 0 = ys.getD k 0 := by
  simp only [List.getD, List.getElem?_append]
  by_cases h : k < ys.length
  · simp [h]
  · rw [if_neg h, List.getElem?_eq_none (Nat.le_of_not_lt h)]
    cases e : k - ys.length <;> simp
theorem Fold.zero {X : List Int} {j : Nat} {ys : List Int} (h : Fold X j (j + 1) ys) (hl : ys.length ≤ j) : Fold X j (j + 1) (ys ++ [0]) := by
  have h1 := h.lj
  have h2 := h.l16
  refine ⟨by simp; omega, by simp; omega, by simp; omega, by rw [val_snoc, h.num]; omega, fun k => by rw [getD_snoc0]; exact h.lo k, fun k hk => by rw [getD_snoc0]; exact h.hi k hk⟩
theorem Fold.step {X : List Int} {j : Nat} {ys : List Int} (h : Fold X j (j + 1) ys) (hd : Dgs 65536 X) (hl : j < ys.length) (hj : j + 16 < X.length) :
    Fold X (j + 1) (j + 1) (ys.set j (ys.getD j 0 + 38 * X.getD (16 + j) 0)) := by
  have hx := hd.at (by omega) (16 + j)
  have h0 := h.lo j
  have h1 := h.hi j (Nat.le_refl _)
  have h2 := h.l16
  have h3 := h.lm
  have eX : (X.drop 16).getD j 0 = X.getD (16 + j) 0 := by simp [List.getD]
  refine ⟨by simp; omega, by simp; omega, by simp; omega, ?_, fun k => ?_, fun k hk => ?_⟩
  · rw [val_set _ _ _ hl, h.num, val_take _ j (by simp; omega), eX, Int.mul_add 38, Int.add_comm (ys.getD j 0), Int.add_sub_cancel, ← Int.mul_assoc 38, Int.mul_comm 38 (65536 ^ j), Int.mul_assoc, Int.add_assoc]
  · rw [getD_set _ _ _ _ hl]
    split
    · omega
    · exact h.lo k
  · rw [getD_set _ _ _ _ hl, if_neg (by omega)]
    exact h.hi k (by omega)
theorem two256 : (65536 : Int) ^ 16 = 38 + 2 * P255 := by decide +kernel
/-- What stands in x, in Rest of n. -/
structure Rst (n : Int) (X : List Int) : Prop where
  dgs : Dgs 65536 X
  l16 : 16 ≤ X.length
  l44 : X.length ≤ 44
  num : val X % P255 = n % P255
theorem Rst.start {ds es : List Int} (h : Cared ds es) : Rst (val ds) es := ⟨h.dgs, h.l16, h.l44, by rw [h.num]⟩
theorem Rst.lt44 {n : Int} {X : List Int} (h : Rst n X) : val X < 65536 ^ 44 := Int.lt_of_lt_of_le h.dgs.lt (pow_mono16 h.l44)
theorem Fold.val_end {X ys : List Int} (h : Fold X (X.length - 16) (X.length - 16) ys) (hl : 16 ≤ X.length) :
    val X = val ys + 2 * P255 * val (X.drop 16) := by
  rw [val_split X 16 hl, h.num, List.take_of_length_le (l := X.drop 16) (i := X.length - 16) (by simp), two256, Int.add_mul]; omega
theorem Rst.fold_pre {n : Int} {X ys : List Int} (h : Rst n X) (f : Fold X (X.length - 16) (X.length - 16) ys) : Dgs 4398046511104 ys ∧ ys.length ≤ 44 ∧ val ys < 65536 ^ 44 := by
  have h1 := f.lm
  have h2 := h.l44
  have h3 := f.val_end h.l16
  have h4 := (h.dgs.drop 16).nonneg
  have h5 := h.lt44
  have hP : (0 : Int) ≤ 2 * P255 := by decide +kernel
  have h6 := Int.mul_nonneg hP h4
  exact ⟨Dgs.of fun k _ => ⟨(f.lo k).1, by have := (f.lo k).2; omega⟩, by omega, by omega⟩
theorem Rst.fold {n : Int} {X ys es : List Int} (h : Rst n X) (hl : 16 < X.length) (f : Fold X (X.length - 16) (X.length - 16) ys) (c : Cared ys es) :
    Rst n es ∧ (val es).toNat * 100 + es.length < (val X).toNat * 100 + X.length := by
  have h3 := f.val_end h.l16
  have h4 := (h.dgs.drop 16).nonneg
  have h5 := h.l44
  have h6 := c.l44
  refine ⟨⟨c.dgs, c.l16, c.l44, ?_⟩, ?_⟩
  · rw [← h.num, c.num, h3, Int.mul_comm 2 P255, Int.mul_assoc, Int.add_mul_emod_self_left]
  · by_cases hz : val (X.drop 16) = 0
    · rw [hz, Int.mul_zero, Int.add_zero] at h3
      have ht : val X < 65536 ^ 16 := by
        rw [val_split X 16 h.l16, hz, Int.mul_zero, Int.add_zero]
        have := (h.dgs.take 16).lt
        rwa [List.length_take, Nat.min_eq_left h.l16] at this
      have hs : es.length < X.length := by
        rcases c.top with t | t
        · have := f.lm; omega
        · have := pow_lt16 (Int.lt_of_le_of_lt t (by rw [← h3]; exact ht)); omega
      rw [c.num, ← h3]; omega
    · have h7 : 2 * P255 * 1 ≤ 2 * P255 * val (X.drop 16) := Int.mul_le_mul_of_nonneg_left (by omega) (by decide +kernel)
      have h8 : (1 : Int) ≤ 2 * P255 * 1 := by decide +kernel
      have h9 := c.dgs.nonneg
      have h10 : val es < val X := by rw [c.num]; omega
      omega
/-- p less, while the highest digit is great. -/
def fold15 (X : List Int) : List Int := (X.set 0 (X.getD 0 0 + 19 * (X.getD 15 0 / 32768))).set 15 (X.getD 15 0 % 32768)
theorem p15 : (65536 : Int) ^ 15 * 32768 = P255 + 19 := by decide +kernel
theorem fold15_len (X : List Int) : (fold15 X).length = X.length := by simp [fold15]
theorem fold15_val {X : List Int} (hd : Dgs 65536 X) (hl : X.length = 16) (h : 32768 ≤ X.getD 15 0) : val (fold15 X) = val X - P255 := by
  have h1 := hd.at (by omega) 15
  have hq : X.getD 15 0 / 32768 = 1 := by omega
  have hr : X.getD 15 0 % 32768 = X.getD 15 0 - 32768 := by omega
  unfold fold15
  rw [val_set _ _ _ (by simp; omega), val_set _ _ _ (by omega), getD_set _ _ _ _ (by omega), if_neg (by omega), hq, hr]
  have e : X.getD 15 0 - 32768 - X.getD 15 0 = -32768 := by omega
  rw [e, Int.mul_neg, p15]; omega
theorem fold15_pre {n : Int} {X : List Int} (r : Rst n X) (hl : X.length = 16) (h : 32768 ≤ X.getD 15 0) : Dgs 4398046511104 (fold15 X) ∧ val (fold15 X) < 65536 ^ 44 := by
  have h0 := r.dgs.at (by omega) 0
  have h1 := r.dgs.at (by omega) 15
  have h2 := fold15_val r.dgs hl h
  have h3 := r.lt44
  have hP : (0 : Int) ≤ P255 := by decide +kernel
  refine ⟨Dgs.of fun k _ => ?_, by omega⟩
  unfold fold15
  rw [getD_set _ _ _ _ (by simp; omega), getD_set _ _ _ _ (by omega)]
  have h4 := r.dgs.at (by omega) k
  split
  · omega
  · split
    · omega
    · omega
theorem Rst.fold15 {n : Int} {X es : List Int} (r : Rst n X) (hl : X.length = 16) (h : 32768 ≤ X.getD 15 0) (c : Cared (fold15 X) es) : Rst n es ∧ es.length = 16 ∧ (val es).toNat < (val X).toNat := by
  have h2 := fold15_val r.dgs hl h
  have hP : (0 : Int) < P255 := by decide +kernel
  have h3 := r.dgs.lt
  have h9 := c.dgs.nonneg
  have hc := c.num
  have h16 := c.l16
  rw [hl] at h3
  refine ⟨⟨c.dgs, c.l16, c.l44, ?_⟩, ?_, by omega⟩
  · rw [c.num, h2, ← r.num, Int.sub_emod_right]
  · rcases c.top with t | t
    · rw [fold15_len] at t; omega
    · have := pow_lt16 (Int.lt_of_le_of_lt t (by omega : val (Proofs.YtpcpcgfljffkeaaDoor.fold15 X) < 65536 ^ 16)); omega
end Go.Proofs.YtpcpcgfljffkeaaDoor
/-
  Own text. The end of Rest (is it p at least, then p less; the bytes), and the digits of 32 bytes.
-/
namespace Go.Proofs.YtpcpcgfljffkeaaDoor
open Go.RowKit Go.Proofs
theorem map_set {f g : Nat → Int} {n i : Nat} (_hi : i < n) (h : ∀ j, j < n → j ≠ i → f j = g j) : ((List.range n).map f).set i (g i) = (List.range n).map g := by
  apply List.ext_getElem
  · simp
  · intro j h1 h2
    simp at h1 h2
    rw [List.getElem_set]
    split
    · rename_i e; subst e; simp
    · rename_i e; simp; exact h j h2 (fun h => e h.symm)
theorem getD_map (f : Nat → Int) {n i : Nat} (hi : i < n) : ((List.range n).map f).getD i 0 = f i := by
  simp [List.getD, hi]
theorem map_getD {X : List Int} {n : Nat} (hl : X.length = n) : (List.range n).map (fun j => X.getD j 0) = X := by
  subst hl
  apply List.ext_getElem
  · simp
  · intro j h1 h2; simp [List.getD, h2]
theorem sixteen {X : List Int} (h : X.length = 16) : ∃ d0 d1 d2 d3 d4 d5 d6 d7 d8 d9 d10 d11 d12 d13 d14 d15, X = [d0, d1, d2, d3, d4, d5, d6, d7, d8, d9, d10, d11, d12, d13, d14, d15] := by
  match X, h with
  | [d0, d1, d2, d3, d4, d5, d6, d7, d8, d9, d10, d11, d12, d13, d14, d15], _ => exact ⟨d0, d1, d2, d3, d4, d5, d6, d7, d8, d9, d10, d11, d12, d13, d14, d15, rfl⟩
theorem least_no {X : List Int} (hd : Dgs 65536 X) (hl : X.length = 16) (h15 : X.getD 15 0 < 32768) (j : Nat) (hj1 : 1 ≤ j) (hj : j < 15) (hx : X.getD j 0 ≠ 65535) : val X < P255 := by
  -- what lies above j is at most as great as p's
  have hs := val_split X (j + 1) (by omega)
  have ht := val_take X j (by omega)
  have hlo := (hd.take j).lt
  rw [List.length_take, hl, Nat.min_eq_left (by omega)] at hlo
  have hjb := hd.at (by omega) j
  have hup : val (X.drop (j + 1)) + 1 ≤ 65536 ^ (14 - j) * 32768 := by
    have h1 := val_split (X.drop (j + 1)) (14 - j) (by simp; omega)
    have h2 := ((hd.drop (j + 1)).take (14 - j)).lt
    rw [List.length_take, List.length_drop, hl, Nat.min_eq_left (by omega)] at h2
    rw [List.drop_drop, show j + 1 + (14 - j) = 15 by omega] at h1
    have h3 : X.drop 15 = [X.getD 15 0] := by
      apply List.ext_getElem
      · simp; omega
      · intro i a b
        simp at a b
        have : i = 0 := by omega
        subst this
        simp [List.getD, hl]
    rw [h3] at h1
    simp only [val, Int.mul_zero, Int.add_zero] at h1
    have h4 : (65536 : Int) ^ (14 - j) * X.getD 15 0 ≤ 65536 ^ (14 - j) * 32767 := Int.mul_le_mul_of_nonneg_left (by omega) (Int.le_of_lt (pow_pos16 _))
    omega
  have hp1 := pow_pos16 (j + 1)
  have hm : (65536 : Int) ^ (j + 1) * (val (X.drop (j + 1)) + 1) ≤ 65536 ^ (j + 1) * (65536 ^ (14 - j) * 32768) := Int.mul_le_mul_of_nonneg_left hup (Int.le_of_lt hp1)
  rw [← Int.mul_assoc, ← Int.pow_add, show j + 1 + (14 - j) = 15 by omega, p15, Int.mul_add, Int.mul_one] at hm
  have hpj := pow_pos16 j
  have hm2 : (65536 : Int) ^ j * X.getD j 0 ≤ 65536 ^ j * 65534 := Int.mul_le_mul_of_nonneg_left (by omega) (Int.le_of_lt hpj)
  have e1 : (65536 : Int) ^ (j + 1) = 65536 ^ j * 65536 := Int.pow_succ _ _
  have hj1' : (65536 : Int) ^ 1 ≤ 65536 ^ j := pow_mono16 hj1
  omega
theorem least_all {X : List Int} (hl : X.length = 16) (h : ∀ j, 1 ≤ j → j < 15 → X.getD j 0 = 65535) : val X = X.getD 0 0 - 65536 + 65536 ^ 15 * (1 + X.getD 15 0) := by
  obtain ⟨d0, d1, d2, d3, d4, d5, d6, d7, d8, d9, d10, d11, d12, d13, d14, d15, rfl⟩ := sixteen hl
  have h1 := h 1 (by omega) (by omega)
  have h2 := h 2 (by omega) (by omega)
  have h3 := h 3 (by omega) (by omega)
  have h4 := h 4 (by omega) (by omega)
  have h5 := h 5 (by omega) (by omega)
  have h6 := h 6 (by omega) (by omega)
  have h7 := h 7 (by omega) (by omega)
  have h8 := h 8 (by omega) (by omega)
  have h9 := h 9 (by omega) (by omega)
  have h10 := h 10 (by omega) (by omega)
  have h11 := h 11 (by omega) (by omega)
  have h12 := h 12 (by omega) (by omega)
  have h13 := h 13 (by omega) (by omega)
  have h14 := h 14 (by omega) (by omega)
  simp [List.getD] at h1 h2 h3 h4 h5 h6 h7 h8 h9 h10 h11 h12 h13 h14
  subst h1 h2 h3 h4 h5 h6 h7 h8 h9 h10 h11 h12 h13 h14
  simp only [val, List.getD, List.getElem?_cons_zero, List.getElem?_cons_succ, Option.getD_some, Int.reducePow]
  omega
theorem least_yes {X : List Int} (hd : Dgs 65536 X) (hl : X.length = 16) (h15 : X.getD 15 0 < 32768) (h : ∀ j, 1 ≤ j → j < 15 → X.getD j 0 = 65535) :
    (X.getD 15 0 = 32767 ∧ 65517 ≤ X.getD 0 0) ↔ P255 ≤ val X := by
  have e := least_all hl h
  have h0 := hd.at (by omega) 0
  have h1 := hd.at (by omega) 15
  simp only [Int.reducePow] at e
  unfold P255
  omega
/-- p less: the first i digits are done. -/
def minus (X : List Int) (i : Nat) : List Int := (List.range 16).map fun j => if j < i then (if j = 0 then X.getD 0 0 - 65517 else 0) else X.getD j 0
theorem minus_len (X : List Int) (i : Nat) : (minus X i).length = 16 := by simp [minus]
theorem minus_zero {X : List Int} (hl : X.length = 16) : minus X 0 = X := by
  unfold minus; simp only [Nat.not_lt_zero, if_false]; exact map_getD hl
theorem minus_get (X : List Int) {i : Nat} (hi : i < 16) : (minus X i).getD i 0 = X.getD i 0 := by
  unfold minus; rw [getD_map _ hi]; simp
theorem minus_set (X : List Int) {i : Nat} (hi : i < 16) : (minus X i).set i (if i = 0 then X.getD 0 0 - 65517 else 0) = minus X (i + 1) := by
  unfold minus
  have := @map_set (fun j => if j < i then (if j = 0 then X.getD 0 0 - 65517 else 0) else X.getD j 0) (fun j => if j < i + 1 then (if j = 0 then X.getD 0 0 - 65517 else 0) else X.getD j 0) 16 i hi
    (fun j _ hne => by by_cases h : j < i <;> simp [h, show j < i + 1 ↔ j < i by omega])
  simpa using this
theorem minus_val (X : List Int) : val (minus X 16) = X.getD 0 0 - 65517 := by
  simp [minus, List.range, List.range.loop, val]
theorem minus_end {X : List Int} (hd : Dgs 65536 X) (hl : X.length = 16) (h15 : X.getD 15 0 < 32768) (h : P255 ≤ val X) : val (minus X 16) = val X - P255 ∧ Dgs 65536 (minus X 16) := by
  have ha : ∀ j, 1 ≤ j → j < 15 → X.getD j 0 = 65535 := fun j h1 h2 => by
    by_cases e : X.getD j 0 = 65535
    · exact e
    · have := least_no hd hl h15 j h1 h2 e; omega
  have hy := (least_yes hd hl h15 ha).2 h
  have e := least_all hl ha
  have h0 := hd.at (by omega) 0
  refine ⟨?_, Dgs.of fun k hk => ?_⟩
  · rw [minus_val, e, hy.1]; simp only [Int.reducePow]; unfold P255; omega
  · rw [minus_len] at hk
    unfold minus
    rw [getD_map _ hk, if_pos hk]
    split <;> omega
theorem below_p {X : List Int} (hd : Dgs 65536 X) (hl : X.length = 16) (h15 : X.getD 15 0 < 32768) : val X < P255 + 19 := by
  have h1 := val_split X 15 (by omega)
  have h2 := (hd.take 15).lt
  rw [List.length_take, hl, Nat.min_eq_left (by omega)] at h2
  have h3 : X.drop 15 = [X.getD 15 0] := by
    apply List.ext_getElem
    · simp; omega
    · intro i a b
      simp at a b
      have : i = 0 := by omega
      subst this
      simp [List.getD, hl]
  rw [h3] at h1
  simp only [val, Int.mul_zero, Int.add_zero] at h1
  simp only [Int.reducePow] at h1 h2
  unfold P255
  omega
theorem pow2 (i : Nat) : (256 : Int) ^ (2 * i) = 65536 ^ i := by rw [Int.pow_mul]; rfl
theorem bytes_step {X : List Int} (hd : Dgs 65536 X) {i : Nat} (hl : X.length = 16) (hi : i < 16) :
    ((BA (val (X.take i))).setIfInBounds (2 * i) (.int .u8 (X.getD i 0 % 256))).setIfInBounds (2 * i + 1) (.int .u8 (X.getD i 0 / 256)) = BA (val (X.take (i + 1))) := by
  have h1 := (hd.take i).lt
  rw [List.length_take, hl, Nat.min_eq_left (by omega)] at h1
  have h0 := (hd.take i).nonneg
  have hx := hd.at (by omega) i
  have hp := pow_pos16 i
  have hpx : 0 ≤ X.getD i 0 % 256 * 65536 ^ i := Int.mul_nonneg (by omega) (Int.le_of_lt hp)
  have hpx2 : X.getD i 0 % 256 * 65536 ^ i ≤ 255 * 65536 ^ i := Int.mul_le_mul_of_nonneg_right (by omega) (Int.le_of_lt hp)
  rw [BA_set h0 (by rw [pow2]; exact h1) (by unfold Byte; omega) (by omega), pow2]
  rw [BA_set (by omega) (by rw [Int.pow_succ, pow2]; omega) (by unfold Byte; omega) (by omega)]
  congr 1
  rw [val_take X i (by omega), Int.pow_succ, pow2, Int.add_assoc]
  congr 1
  have e : X.getD i 0 = X.getD i 0 % 256 + X.getD i 0 / 256 * 256 := by omega
  conv => rhs; rw [e]
  rw [Int.mul_add, Int.mul_comm (65536 ^ i) (X.getD i 0 % 256), Int.mul_left_comm (65536 ^ i) (X.getD i 0 / 256) 256]
/-- The digits of 32 bytes: the first i of them. -/
def LD (n : Int) (i : Nat) : List Int := (List.range 16).map fun j => if j < i then n / 65536 ^ j % 65536 else 0
theorem LD_len (n : Int) (i : Nat) : (LD n i).length = 16 := by simp [LD]
theorem LD_set (n : Int) {i : Nat} (hi : i < 16) : (LD n i).set i (byt n (2 * i) + 256 * byt n (2 * i + 1)) = LD n (i + 1) := by
  have e : byt n (2 * i) + 256 * byt n (2 * i + 1) = n / 65536 ^ i % 65536 := by
    unfold byt
    rw [Int.pow_succ, pow2, ← Int.ediv_ediv_of_nonneg (Int.le_of_lt (pow_pos16 i))]
    omega
  rw [e]
  unfold LD
  have := @map_set (fun j => if j < i then n / 65536 ^ j % 65536 else 0) (fun j => if j < i + 1 then n / 65536 ^ j % 65536 else 0) 16 i hi
    (fun j _ hne => by by_cases h : j < i <;> simp [h, show j < i + 1 ↔ j < i by omega])
  simpa using this
theorem LD_dgs (n : Int) (i : Nat) : Dgs 65536 (LD n i) := Dgs.of fun k hk => by
  rw [LD_len] at hk
  unfold LD
  rw [getD_map _ hk]
  split <;> omega
theorem val_range (n : Int) (k : Nat) : val ((List.range k).map fun j => n / 65536 ^ j % 65536) = n % 65536 ^ k := by
  induction k with
  | zero => simp [val, Int.emod_one]
  | succ k ih =>
    rw [List.range_succ, List.map_append, List.map_cons, List.map_nil, val_snoc, ih, List.length_map, List.length_range, Int.pow_succ]
    rw [Int.emod_def n (65536 ^ k), Int.emod_def n (65536 ^ k * 65536), ← Int.ediv_ediv_of_nonneg (Int.le_of_lt (pow_pos16 k)), Int.emod_def (n / 65536 ^ k) 65536, Int.mul_sub, ← Int.mul_assoc (65536 ^ k) 65536]
    omega
theorem LD_val {n : Int} (h0 : 0 ≤ n) (h1 : n < W256) : val (LD n 16) = n := by
  have e : LD n 16 = (List.range 16).map fun j => n / 65536 ^ j % 65536 := by
    unfold LD
    apply List.map_congr_left
    intro j hj
    rw [if_pos (List.mem_range.1 hj)]
  rw [e, val_range]
  exact Int.emod_eq_of_lt h0 (by simp only [Int.reducePow]; unfold W256 at h1; exact h1)
end Go.Proofs.YtpcpcgfljffkeaaDoor
/-
  Own text. Sums, products and differences, digit by digit.
-/
namespace Go.Proofs.YtpcpcgfljffkeaaDoor
open Go.RowKit Go.Proofs
/-- Plus: the first i digits of Y are added to X. -/
structure Sum (X Y : List Int) (i : Nat) (ds : List Int) : Prop where
  len : ds.length = 16
  num : val ds = val X + val (Y.take i)
  lo : ∀ k, 0 ≤ ds.getD k 0 ∧ ds.getD k 0 < 131072
  hi : ∀ k, i ≤ k → ds.getD k 0 < 65536
theorem Sum.start {X Y : List Int} (hX : Dgs 65536 X) (hl : X.length = 16) : Sum X Y 0 X :=
  ⟨hl, by simp [val], fun k => ⟨(hX.at (by omega) k).1, by have := (hX.at (by omega) k).2; omega⟩, fun k _ => (hX.at (by omega) k).2⟩
theorem Sum.step {X Y : List Int} {i : Nat} {ds : List Int} (h : Sum X Y i ds) (hY : Dgs 65536 Y) (hl : Y.length = 16) (hi : i < 16) : Sum X Y (i + 1) (ds.set i (ds.getD i 0 + Y.getD i 0)) := by
  have hn := h.len
  have hy := hY.at (by omega) i
  have h0 := h.lo i
  have h1 := h.hi i (Nat.le_refl _)
  refine ⟨by simp [hn], ?_, fun k => ?_, fun k hk => ?_⟩
  · rw [val_set _ _ _ (by omega), h.num, val_take Y i (by omega), Int.add_comm (ds.getD i 0), Int.add_sub_cancel]; omega
  · rw [getD_set _ _ _ _ (by omega)]
    split
    · omega
    · exact h.lo k
  · rw [getD_set _ _ _ _ (by omega), if_neg (by omega)]
    exact h.hi k (by omega)
theorem Sum.done {X Y ds : List Int} (h : Sum X Y 16 ds) (hY : Y.length = 16) : val ds = val X + val Y ∧ Dgs 4398046511104 ds := by
  refine ⟨by rw [h.num, List.take_of_length_le (by omega)], Dgs.of fun k _ => ⟨(h.lo k).1, by have := (h.lo k).2; omega⟩⟩
/-- Times: rows 0 to i - 1 are done, and of row i the first k. -/
structure Prd (X Y : List Int) (i k : Nat) (ds : List Int) : Prop where
  len : ds.length = 31
  num : val ds = val (X.take i) * val Y + 65536 ^ i * X.getD i 0 * val (Y.take k)
  lo : ∀ m, 0 ≤ ds.getD m 0 ∧ ds.getD m 0 ≤ 4294967296 * (i + 1 : Nat)
  hi : ∀ m, i + k ≤ m → ds.getD m 0 ≤ 4294967296 * (i : Nat)
theorem zeros_getD (n m : Nat) : (List.replicate n (0 : Int)).getD m 0 = 0 := by
  by_cases h : m < n <;> simp [List.getD, h]
theorem Prd.start (X Y : List Int) : Prd X Y 0 0 (List.replicate 31 0) :=
  ⟨List.length_replicate, by rw [val_zeros]; simp [val], fun m => by rw [zeros_getD]; omega, fun m _ => by rw [zeros_getD]; omega⟩
theorem mul_lt32 {a b : Int} (ha : 0 ≤ a ∧ a < 65536) (hb : 0 ≤ b ∧ b < 65536) : 0 ≤ a * b ∧ a * b < 4294967296 := by
  refine ⟨Int.mul_nonneg ha.1 hb.1, ?_⟩
  have h1 : a * b ≤ 65535 * b := Int.mul_le_mul_of_nonneg_right (by omega) hb.1
  omega
theorem Prd.step {X Y : List Int} {i k : Nat} {ds : List Int} (h : Prd X Y i k ds) (hX : Dgs 65536 X) (hY : Dgs 65536 Y) (hl : Y.length = 16) (hi : i < 16) (hk : k < 16) :
    Prd X Y i (k + 1) (ds.set (i + k) (ds.getD (i + k) 0 + X.getD i 0 * Y.getD k 0)) := by
  have hn := h.len
  have hm := mul_lt32 (hX.at (by omega) i) (hY.at (by omega) k)
  have h0 := h.lo (i + k)
  have h1 := h.hi (i + k) (Nat.le_refl _)
  refine ⟨by simp [hn], ?_, fun m => ?_, fun m hm => ?_⟩
  · rw [val_set _ _ _ (by omega), h.num, val_take Y k (by omega), Int.add_comm (ds.getD (i + k) 0), Int.add_sub_cancel, Int.mul_add, Int.pow_add]
    have e : (65536 : Int) ^ i * 65536 ^ k * (X.getD i 0 * Y.getD k 0) = 65536 ^ i * X.getD i 0 * (65536 ^ k * Y.getD k 0) := by
      rw [Int.mul_assoc, Int.mul_assoc, Int.mul_left_comm (65536 ^ k)]
    rw [e]; omega
  · rw [getD_set _ _ _ _ (by omega)]
    split
    · omega
    · exact h.lo m
  · rw [getD_set _ _ _ _ (by omega), if_neg (by omega)]
    exact h.hi m (by omega)
theorem Prd.next {X Y : List Int} {i : Nat} {ds : List Int} (h : Prd X Y i 16 ds) (hl : Y.length = 16) (hX : X.length = 16) (hi : i < 16) : Prd X Y (i + 1) 0 ds := by
  refine ⟨h.len, ?_, fun m => ⟨(h.lo m).1, by have := (h.lo m).2; omega⟩, fun m _ => (h.lo m).2⟩
  rw [h.num, List.take_of_length_le (l := Y) (by omega), val_take X i (by omega), Int.add_mul]
  simp [val]
theorem Prd.done {X Y ds : List Int} (h : Prd X Y 16 0 ds) (hX : X.length = 16) : val ds = val X * val Y ∧ Dgs 4398046511104 ds := by
  refine ⟨by rw [h.num, List.take_of_length_le (by omega)]; simp [val], Dgs.of fun k _ => ⟨(h.lo k).1, by have := (h.lo k).2; omega⟩⟩
/-- A bound for the number of digits that are below 2^42. -/
theorem val_lt42 {ds : List Int} (h : Dgs 4398046511104 ds) : val ds ≤ 4398046511103 * 65536 ^ ds.length - 4398046511103 := by
  induction ds with
  | nil => simp [val]
  | cons x xs ih =>
    have h1 := h x (by simp)
    have h2 := ih (fun d hd => h d (by simp [hd]))
    simp only [val, List.length_cons, Int.pow_succ]; omega
theorem val_44 {ds : List Int} (h : Dgs 4398046511104 ds) (hl : ds.length ≤ 40) : val ds < 65536 ^ 44 := by
  have h1 := val_lt42 h
  have h2 := pow_mono16 hl
  have e : (65536 : Int) ^ 44 = 65536 ^ 40 * 65536 ^ 4 := by rw [← Int.pow_add]
  rw [e]
  have h3 := pow_pos16 40
  simp only [Int.reducePow] at *
  omega
/-- p's digits. -/
def pd (i : Nat) : Int := if i = 15 then 32767 else if i = 0 then 65517 else 65535
/-- Sub, the first loop: i digits of p are added, and of Y taken away. -/
def Dif (X Y : List Int) (i : Nat) : List Int := (List.range 16).map fun j => if j < i then X.getD j 0 + pd j - Y.getD j 0 else X.getD j 0
theorem Dif_len (X Y : List Int) (i : Nat) : (Dif X Y i).length = 16 := by simp [Dif]
theorem Dif_zero {X Y : List Int} (hl : X.length = 16) : Dif X Y 0 = X := by
  unfold Dif; simp only [Nat.not_lt_zero, if_false]; exact map_getD hl
theorem Dif_get (X Y : List Int) {i : Nat} (hi : i < 16) : (Dif X Y i).getD i 0 = X.getD i 0 := by
  unfold Dif; rw [getD_map _ hi]; simp
theorem Dif_set (X Y : List Int) {i : Nat} (hi : i < 16) : (Dif X Y i).set i (X.getD i 0 + pd i - Y.getD i 0) = Dif X Y (i + 1) := by
  unfold Dif
  have := @map_set (fun j => if j < i then X.getD j 0 + pd j - Y.getD j 0 else X.getD j 0) (fun j => if j < i + 1 then X.getD j 0 + pd j - Y.getD j 0 else X.getD j 0) 16 i hi
    (fun j _ hne => by by_cases h : j < i <;> simp [h, show j < i + 1 ↔ j < i by omega])
  simpa using this
theorem pd_all : (List.range 16).map pd = [65517, 65535, 65535, 65535, 65535, 65535, 65535, 65535, 65535, 65535, 65535, 65535, 65535, 65535, 65535, 32767] := by decide
theorem Dif_val {X Y : List Int} (hX : X.length = 16) (hY : Y.length = 16) : val (Dif X Y 16) = val X + P255 - val Y := by
  obtain ⟨a0, a1, a2, a3, a4, a5, a6, a7, a8, a9, a10, a11, a12, a13, a14, a15, rfl⟩ := sixteen hX
  obtain ⟨b0, b1, b2, b3, b4, b5, b6, b7, b8, b9, b10, b11, b12, b13, b14, b15, rfl⟩ := sixteen hY
  simp [Dif, List.range, List.range.loop, val, pd]
  unfold P255
  omega
theorem Dif_dig {X Y : List Int} {j : Nat} (hj : j < 16) : (Dif X Y 16).getD j 0 = X.getD j 0 + pd j - Y.getD j 0 := by
  unfold Dif; rw [getD_map _ hj, if_pos hj]
/-- Sub, the second loop: below i nothing is below 0; t is 1 where the digit i has lent one. -/
structure Bor (X Y : List Int) (i : Nat) (t : Int) (ds : List Int) : Prop where
  len : ds.length = 16
  num : val ds = val X + P255 - val Y
  lo : ∀ k, k < i → 0 ≤ ds.getD k 0 ∧ ds.getD k 0 < 131072
  at' : i < 16 → ds.getD i 0 = X.getD i 0 + pd i - Y.getD i 0 - t
  hi : ∀ k, i < k → k < 16 → ds.getD k 0 = X.getD k 0 + pd k - Y.getD k 0
  t01 : t = 0 ∨ (t = 1 ∧ 0 < i ∧ 65517 < Y.getD 0 0 ∧ ∀ k, 1 ≤ k → k < i → Y.getD k 0 = 65535)
theorem Bor.start {X Y : List Int} (hX : X.length = 16) (hY : Y.length = 16) : Bor X Y 0 0 (Dif X Y 16) :=
  ⟨Dif_len _ _ _, Dif_val hX hY, fun k hk => by omega, fun h => by rw [Dif_dig h]; omega, fun k _ h => by rw [Dif_dig h], .inl rfl⟩
theorem Bor.keep {X Y : List Int} {i : Nat} {t : Int} {ds : List Int} (h : Bor X Y i t ds) (hX : Dgs 65536 X) (hY : Dgs 65536 Y) (hi : i < 15) (h0 : 0 ≤ ds.getD i 0) : Bor X Y (i + 1) 0 ds := by
  refine ⟨h.len, h.num, fun k hk => ?_, fun h2 => by rw [h.hi (i + 1) (by omega) h2]; omega, fun k hk h2 => h.hi k (by omega) h2, .inl rfl⟩
  by_cases e : k = i
  · subst e
    have h1 := h.at' (by omega)
    have hx := hX.at (by omega) k
    have hy := hY.at (by omega) k
    have hp : pd k ≤ 65535 := by unfold pd; split <;> (try split) <;> omega
    rcases h.t01 with ht | ht <;> omega
  · exact h.lo k (by omega)
theorem Bor.lend {X Y : List Int} {i : Nat} {t : Int} {ds : List Int} (h : Bor X Y i t ds) (hX : Dgs 65536 X) (hY : Dgs 65536 Y) (hi : i < 15) (h0 : ds.getD i 0 < 0) :
    0 ≤ ds.getD i 0 + 65536 ∧ Bor X Y (i + 1) 1 ((ds.set i (ds.getD i 0 + 65536)).set (i + 1) (ds.getD (i + 1) 0 - 1)) := by
  have hn := h.len
  have h1 := h.at' (by omega)
  have hx := hX.at (by omega) i
  have hy := hY.at (by omega) i
  have hp : pd i ≤ 65535 ∧ 65517 ≤ pd i := by unfold pd; rw [if_neg (by omega)]; split <;> omega
  have hge : 0 ≤ ds.getD i 0 + 65536 := by rcases h.t01 with ht | ht <;> omega
  refine ⟨hge, by simp [hn], ?_, fun k hk => ?_, fun h2 => ?_, fun k hk h2 => ?_, .inr ⟨rfl, by omega, ?_⟩⟩
  · rw [val_set _ _ _ (by simp; omega), val_set _ _ _ (by omega), getD_set _ _ _ _ (by omega), if_neg (by omega), h.num, Int.pow_succ]
    have e1 : ds.getD i 0 + 65536 - ds.getD i 0 = 65536 := by omega
    have e2 : ds.getD (i + 1) 0 - 1 - ds.getD (i + 1) 0 = -1 := by omega
    rw [e1, e2]; omega
  · rw [getD_set _ _ _ _ (by simp; omega), if_neg (by omega), getD_set _ _ _ _ (by omega)]
    split
    · omega
    · exact h.lo k (by omega)
  · rw [getD_set _ _ _ _ (by simp; omega), if_pos rfl, h.hi (i + 1) (by omega) h2]
  · rw [getD_set _ _ _ _ (by simp; omega), if_neg (by omega), getD_set _ _ _ _ (by omega), if_neg (by omega)]
    exact h.hi k (by omega) h2
  · by_cases e : i = 0
    · subst e
      have hp0 : pd 0 = 65517 := rfl
      refine ⟨?_, fun k h1 h2 => by omega⟩
      rcases h.t01 with ht | ht <;> omega
    · have hpi : pd i = 65535 := by unfold pd; rw [if_neg (by omega), if_neg e]
      rcases h.t01 with ht | ⟨ht, _, h5, h6⟩
      · omega
      · refine ⟨h5, fun k h7 h8 => ?_⟩
        by_cases ek : k = i
        · subst ek; omega
        · exact h6 k h7 (by omega)
theorem Bor.done {X Y : List Int} {t : Int} {ds : List Int} (h : Bor X Y 15 t ds) (hX : Dgs 65536 X) (hY : Dgs 65536 Y) (hYl : Y.length = 16) (hp : val Y < P255) :
    val ds = val X + P255 - val Y ∧ Dgs 4398046511104 ds := by
  refine ⟨h.num, Dgs.of fun k hk => ?_⟩
  rw [h.len] at hk
  by_cases e : k = 15
  · subst e
    have h1 := h.at' (by omega)
    have hx := hX.at (by omega) 15
    have hy := hY.at (by omega) 15
    have hy0 := hY.at (by omega) 0
    have hp15 : pd 15 = 32767 := rfl
    have hs : 65536 ^ 15 * Y.getD 15 0 ≤ val Y := by
      have s1 := val_take Y 15 (by omega)
      rw [List.take_of_length_le (l := Y) (i := 15 + 1) (by omega)] at s1
      have s2 := (hY.take 15).nonneg
      omega
    have h15 : Y.getD 15 0 ≤ 32767 := by
      simp only [Int.reducePow] at hs
      unfold P255 at hp
      omega
    rcases h.t01 with ht | ⟨ht, _, h5, h6⟩
    · omega
    · have := least_all hYl (fun j a b => h6 j a b)
      simp only [Int.reducePow] at this
      unfold P255 at hp
      omega
  · have := h.lo k (by omega); omega
end Go.Proofs.YtpcpcgfljffkeaaDoor
/-
  Own text. Slices of ints that hold digits; what Load and carried of the document's answer give: contracts over the translation.
-/
namespace Go.Proofs.YtpcpcgfljffkeaaDoor
open Go.RowKit Go.Proofs
/-- The slice at the head of block g, of the capacity cap, holds the digits ds; the block is of number B at least. -/
def Dig (w : World) (B g cap : Nat) (ds : List Int) : Prop := w.ownsRow B 3 1 (.slice (some ⟨g, 0, none⟩) ds.length cap) ds.length (ds.map (Value.int .i64))
theorem Dig.raw {w : World} {B g cap : Nat} {ds : List Int} (h : Dig w B g cap ds) : B ≤ g ∧ ds.length ≤ cap ∧ ∃ cur, w.heap[g]? = some (.cells cur 3 (0, 0)) := by
  rcases h.2 with ⟨h', _⟩ | ⟨g', cap', cur, h', hb, hg, hn, _⟩
  · simp at h'
  · simp only [Value.slice.injEq, Option.some.injEq, Addr.mk.injEq, and_true, true_and] at h'
    obtain ⟨rfl, rfl⟩ := h'
    exact ⟨hb, hn, cur, hg⟩
theorem Dig.lt {w : World} {B g cap : Nat} {ds : List Int} (h : Dig w B g cap ds) : g < w.heap.size := by
  obtain ⟨_, _, cur, hg⟩ := h.raw
  exact heap_lt hg
theorem Dig.cell {w : World} {B g cap : Nat} {ds : List Int} (h : Dig w B g cap ds) (i : Nat) (hi : i < ds.length) : w.cell? ⟨g, i, none⟩ = some (.int .i64 (ds.getD i 0)) := by
  rw [World.ownsRow.cellAt h i (by omega)]; simp [hi]
theorem Dig.free {w : World} {B g cap : Nat} {ds : List Int} (h : Dig w B g cap ds) (i : Nat) : w.frozen? ⟨g, i, none⟩ = false := World.ownsRow.frozenAt h i
theorem Dig.set {w : World} {B g cap : Nat} {ds : List Int} (h : Dig w B g cap ds) (i : Nat) (d : Int) : Dig (w.setCell ⟨g, i, none⟩ (.int .i64 d)) B g cap (ds.set i d) := by
  have := (World.ownsRow.stored h i (.int .i64 d)).1
  unfold Dig
  rw [List.length_set, List.map_set]
  exact this
theorem Dig.of_block {w w' : World} {B g cap : Nat} {ds : List Int} (h : Dig w B g cap ds) (e : w'.heap[g]? = w.heap[g]?) : Dig w' B g cap ds := by
  refine ⟨h.1, ?_⟩
  rcases h.2 with hn | ⟨g', cap', cur, h', hb, hg, rest⟩
  · exact .inl hn
  · refine .inr ⟨g', cap', cur, h', hb, ?_, rest⟩
    simp only [Value.slice.injEq, Option.some.injEq, Addr.mk.injEq, and_true, true_and] at h'
    obtain ⟨rfl, rfl⟩ := h'
    exact e.trans hg
theorem Dig.below {w w' : World} {B C g cap : Nat} {ds : List Int} (h : Dig w B g cap ds) (hb : Below C w w') (hC : g < C) : Dig w' B g cap ds := h.of_block (hb.block g hC)
theorem Dig.only {w w' : World} {B b g cap : Nat} {ds : List Int} (h : Dig w B g cap ds) (o : Only b w w') (hC : g ≠ b) : Dig w' B g cap ds := h.of_block (o.block g hC)
theorem Dig.alloc {w : World} {B g cap : Nat} {ds : List Int} (h : Dig w B g cap ds) (o : Obj) : Dig (w.alloc o) B g cap ds := h.of_block (Below.heap_alloc _ _ _ h.lt)
theorem Dig.setOther {w : World} {B b i g cap : Nat} {ds : List Int} (h : Dig w B g cap ds) (v : Value) (hne : g ≠ b) : Dig (w.setCell ⟨b, i, none⟩ v) B g cap ds := h.of_block (heap_setCell_other _ _ _ _ (by simpa using hne))
theorem Dig.drewN {w : World} {B g cap : Nat} {ds : List Int} (h : Dig w B g cap ds) (n : Nat) : Dig (w.drewN n) B g cap ds := h.of_block rfl
theorem Dig.any {w : World} {B C g cap : Nat} {ds : List Int} (h : Dig w B g cap ds) (hC : C ≤ g) : Dig w C g cap ds := by
  refine ⟨h.1, ?_⟩
  rcases h.2 with hn | ⟨g', cap', cur, h', hb, rest⟩
  · exact .inl hn
  · have e := h'
    simp only [Value.slice.injEq, Option.some.injEq, Addr.mk.injEq, and_true, true_and] at e
    obtain ⟨rfl, rfl⟩ := e
    exact .inr ⟨g, cap, cur, h', hC, rest⟩
theorem infoInt : (Tryd.prog.info? 3).map (fun i => (i.zero, i.size, i.bytes)) = some (some (.int .i64 0), 1, 8) := by kernel_rfl
theorem Below.grow {B : Nat} {w w' : World} {row : Option Nat} (hg : w.grownBy w' row) (hB : B ≤ w.heap.size) (hr : ∀ k, row = some k → B ≤ k) : Below B w w' :=
  ⟨hg.os, hg.tape, hg.output, hg.size, fun k hk => hg.block k (by omega) (fun e => by have := hr k e.symm; omega)⟩
/-- 'x = append(x, d)'. -/
theorem ap_dig {ops : Array Oper} {rest : List Oper} {o : Oper} {a : Act} {w : World} {Q : Exit → Act → World → Prop} (hgd : o.guard = none) (s x : Operand)
    (ho : o.op = .call { callee := .builtin .append, args := #[s, x], argTypes := #[38, 38] })
    {B g cap : Nat} {ds : List Int} (hs : a.eval s = .slice (some ⟨g, 0, none⟩) ds.length cap) (hD : Dig w B g cap ds) (b : Nat) (d : Int) (hx : a.eval x = .slice (some ⟨b, 0, none⟩) 1 1)
    (hc : w.cell? ⟨b, 0, none⟩ = some (.int .i64 d)) (hl : ds.length < 1000000) (hB : B ≤ w.heap.size)
    (h : ∀ g' cap' w', Dig w' B g' cap' (ds ++ [d]) → Below B w w' → wpList Tryd.prog ops Q rest (a.put o.dst (.slice (some ⟨g', 0, none⟩) (ds.length + 1) cap')) w') : wpList Tryd.prog ops Q (o :: rest) a w := by
  obtain ⟨i0, hi, hz0, hz1, hz2⟩ := info_parts infoInt
  refine wpList_append_own w hgd s x 38 ho B 3 i0 (.int .i64 0) 1 8 Tryd.underlying38 hi hz0 hz1 hz2 rfl (by decide) _ ds.length _ hs hD ⟨b, 0, none⟩ 1 1 [.int .i64 d] hx rfl ?_ ?_ ?_ ?_ hB ?_
  · intro j u hj
    match j, hj with
    | 0, hj => simp at hj; subst hj; simpa [Addr.add] using hc
  · intro u hu; simp at hu; subst hu; rfl
  · unfold maxLen; omega
  · omega
  · intro v' w1 hown hgrow hnil
    have hne : v' ≠ .slice none 0 0 := fun e => by have := (hnil.1 e).1; simp at this
    have hbl := hD.raw.1
    rcases hown.2 with ⟨e, _⟩ | ⟨g', cap', cur, rfl, hr⟩
    · exact absurd e hne
    · exact h g' cap' w1 (by unfold Dig; rw [List.length_append, List.map_append]; exact hown) (Below.grow hgrow hB (fun k hk => by simp [Value.ownBlock] at hk; omega))
theorem dig_made (w : World) (n : Nat) (hn : n ≤ 1000000) : Dig (w.alloc (.cells (madeCells #[.int .i64 0] n) 3)) w.heap.size w.heap.size n (List.replicate n 0) := by
  have h := World.ownsRow_lit (base := w.heap.size) (e := 3) (size := 1) w (madeCells #[.int .i64 0] n) n (Nat.le_refl _) (by unfold maxLen; omega) (by rw [← Array.length_toList, toList_madeCells_one]; simp)
  rw [toList_madeCells_one] at h
  unfold Dig
  simp only [List.length_replicate, List.map_replicate]
  exact h
theorem dig_made1 (w : World) (o : Obj) (n : Nat) (hn : n ≤ 1000000) : Dig ((w.alloc o).alloc (.cells (madeCells #[.int .i64 0] n) 3)) w.heap.size (w.heap.size + 1) n (List.replicate n 0) := by
  have h := dig_made (w.alloc o) n hn
  have e : (w.alloc o).heap.size = w.heap.size + 1 := by simp
  rw [e] at h
  exact h.any (by omega)
theorem mk16 (w : World) : (Instr.makeSlice 38 (.int .i64 16) (.int .i64 16)).run Tryd.prog w = .ok (.slice (some ⟨w.heap.size, 0, none⟩) 16 16) (w.alloc (.cells (madeCells #[.int .i64 0] 16) 3)) :=
  run_make_row' 38 3 (.int .i64 0) 8 Tryd.underlying38 infoInt rfl .i64 .i64 16 (by omega) (by omega) w
theorem LD_zero (n : Int) : LD n 0 = List.replicate 16 0 := by
  unfold LD; simp only [Nat.not_lt_zero, if_false]; rfl
theorem LD_get (n : Int) {i : Nat} (hi : i < 16) : (LD n i).getD i 0 = 0 := by
  unfold LD; rw [getD_map _ hi]; simp
set_option maxHeartbeats 1000000 in
set_option maxRecDepth 100000 in
theorem Load_any (n : Int) (w : World) :
    Calls Tryd.prog 24 #[.agg (BA n)] w fun e w' => ∃ g, e = .returned (.slice (some ⟨g, 0, none⟩) 16 16) ∧ Dig w' w.heap.size g 16 (LD n 16) ∧ Below w.heap.size w w' := by
  have hmk := mk16
  go_enter Tryd.func24, Tryd.ntmps24
  go_wp2
  refine wp_gen (fun v => v.heap[w.heap.size]? = some (.cells (BA n) 22 (0, 0)) ∧ Dig v w.heap.size (w.heap.size + 1) 16 (LD n 0) ∧ Below w.heap.size w v)
    ⟨(Below.heap_alloc _ _ _ (by simp)).trans (heap_alloc_new w _), by rw [LD_zero]; exact dig_made1 w _ 16 (by omega),
      by repeat first | exact Below.refl _ _ | refine Below.alloc ?_ (by simp <;> omega) _⟩ ?_
  rintro v0 ⟨ga, hd, hB⟩
  go_loopw [4] (fun i v => ∃ k : Nat, k ≤ 16 ∧ i = .int .i64 k ∧ v.heap[w.heap.size]? = some (.cells (BA n) 22 (0, 0)) ∧ Dig v w.heap.size (w.heap.size + 1) 16 (LD n k) ∧ Below w.heap.size w v) (fun i _ => 16 - (intOf i).toNat)
  case atStart => exact ⟨0, by omega, rfl, ga, hd, hB⟩
  case round =>
    clear ga hd hB
    obtain ⟨k, hk, rfl, ga, hd, hB⟩ := hrel
    by_cases hlt : k < 16
    · have c0 := (cell_of_row wr _ (2 * k) _ _ _ ga).trans (BA_get n (2 * k) (by omega))
      have c1 := (cell_of_row wr _ (2 * k + 1) _ _ _ ga).trans (BA_get n (2 * k + 1) (by omega))
      have cs := hd.cell k (by rw [LD_len]; exact hlt)
      have fs := hd.free k
      have hb0 := byt_byte n (2 * k)
      have hb1 := byt_byte n (2 * k + 1)
      unfold Byte at hb0 hb1
      obtain ⟨hb00, hb01⟩ := hb0
      obtain ⟨hb10, hb11⟩ := hb1
      have HS := Hid.mk (LD_set n hlt)
      generalize byt n (2 * k) = x at *
      generalize byt n (2 * k + 1) = y at *
      go_wp2
      go_region
      go_wp2
      go_roundw
      case rel => exact ⟨k + 1, by omega, by go_num, (heap_setCell_other _ _ _ _ (by simp)).trans ga, by rw [← HS.out]; exact (hd.set k _).drewN 1, Below.drew (Below.setCell hB (by simp) _)⟩
      case measure => simp [intOf]; omega
    · have hk2 : k = 16 := by omega
      subst hk2
      go_wp2
      go_ret
      exact ⟨_, rfl, hd, hB⟩
end Go.Proofs.YtpcpcgfljffkeaaDoor
/-
  Own text. What carried of the document's answer gives, for all digits that are not too great: a contract over the translation.
-/
namespace Go.Proofs.YtpcpcgfljffkeaaDoor
open Go.RowKit Go.Proofs
theorem cell_one (w : World) (d : Int) : (w.alloc (.cells #[.int .i64 d] 3)).cell? ⟨w.heap.size, 0, none⟩ = some (.int .i64 d) := by simp
theorem szb {w : World} {B g cap : Nat} {ds : List Int} {o : Obj} (h : Dig w B g cap ds) : B ≤ (w.alloc o).heap.size := by
  have h1 := h.lt
  have h2 := h.raw.1
  simp; omega
def lenOf : Value → Nat
  | .slice _ n _ => n
  | _ => 0
set_option maxHeartbeats 1000000 in
set_option maxRecDepth 100000 in
theorem carried_any (B b cap : Nat) (ds : List Int) (w : World) (hD : Dig w B b cap ds) (hd : Dgs 4398046511104 ds) (hl : ds.length ≤ 44) (hv : val ds < 65536 ^ 44) :
    Calls Tryd.prog 35 #[.slice (some ⟨b, 0, none⟩) ds.length cap] w fun e w' => ∃ g c es, e = .returned (.slice (some ⟨g, 0, none⟩) es.length c) ∧ Cared ds es ∧ Dig w' w.heap.size g c es ∧ Below w.heap.size w w' := by
  obtain ⟨i0, hi, hz0, hz1, hz2⟩ := info_parts infoInt
  have HD := Hid.mk hd
  have HV := Hid.mk hv
  have hb := hD.lt
  clear hd hv
  go_enter Tryd.func35, Tryd.ntmps35
  go_wp2_with (at_make; refine wpList_make_own _ rfl _ _ 38 rfl w.heap.size 3 i0 (.int .i64 0) 1 Tryd.underlying38 hi hz0 hz1 _ _ _ (ds.length + 4) rfl rfl (by omega) (by rw [hz2]; omega) (by unfold maxLen; omega) (Nat.le_refl _) ?_; intro w1 hown hgrow)
  have hd1 : Dig w1 w.heap.size w.heap.size (ds.length + 4) [] := hown
  have hB1 : Below w.heap.size w w1 := Below.grow hgrow (Nat.le_refl _) (fun k hk => by cases hk)
  clear hown hgrow
  go_loopw [3, 4, 5] (fun v c i wr => ∃ (k : Nat) (c' : Int) (es : List Int) (g cp : Nat), v = .slice (some ⟨g, 0, none⟩) es.length cp ∧ c = .int .i64 c' ∧ i = .int .i64 k ∧ Car ds k c' es ∧ Dig wr w.heap.size g cp es ∧ Below w.heap.size w wr) (fun _ _ i _ => 44 - (intOf i).toNat)
  case atStart => exact ⟨0, 0, [], _, _, rfl, rfl, rfl, Car.start ds, hd1, hB1⟩
  case round =>
    clear hd1 hB1
    obtain ⟨k, c', es, g, cp, rfl, rfl, rfl, car, hdg, hB⟩ := hrel
    have hk44 := car.k44
    have hc0 := car.c0
    have hc1 := car.c1
    have hel := car.len
    have HEL := Hid.mk hel
    have hls : es.length < 1000000 := by omega
    clear hel
    by_cases hlt : k < ds.length
    · have cx := (hD.below hB hb).cell k hlt
      have hx := HD.out.at (by omega) k
      have hx0 := hx.1
      have hx1 := hx.2
      clear hx
      have CS := Hid.mk (car.step HD.out hl hlt)
      clear car
      generalize ds.getD k 0 = x at *
      go_wp2_with (at_builtin; refine ap_dig rfl (.tmp 30) (.tmp 33) rfl rfl (hdg.alloc _) wr.heap.size ((c' + x) % 65536) rfl (cell_one _ _) hls (szb hdg) ?_; intro g' cp' w2 hdg' hb2)
      go_roundw
      case rel => exact ⟨k + 1, _, _, g', cp', by simp, rfl, by go_num, CS.out, hdg', Below.trans (hB.alloc hB.size _) hb2⟩
      case measure => simp [intOf]; omega
    · by_cases hc : 0 < c'
      · have CS := Hid.mk (car.over HV.out (by omega) hc)
        clear car
        have h44 : k < 44 := by have := CS.out.k44; omega
        go_wp2_with (at_builtin; refine ap_dig rfl (.tmp 30) (.tmp 33) rfl rfl (hdg.alloc _) wr.heap.size (c' % 65536) rfl (cell_one _ _) hls (szb hdg) ?_; intro g' cp' w2 hdg' hb2)
        go_roundw
        case rel => exact ⟨k + 1, _, _, g', cp', by simp, rfl, by go_num, CS.out, hdg', Below.trans (hB.alloc hB.size _) hb2⟩
        case measure => simp [intOf]; omega
      · have hc2 : c' = 0 := by omega
        subst hc2
        have pad := car.done (by omega)
        clear car hk44 hc0 hc1 HEL hls hc
        go_wp2
        go_loopw [3] (fun v wr => ∃ (es : List Int) (g cp : Nat), v = .slice (some ⟨g, 0, none⟩) es.length cp ∧ Pad ds es ∧ Dig wr w.heap.size g cp es ∧ Below w.heap.size w wr) (fun v _ => 16 - lenOf v)
        case atStart => exact ⟨es, g, cp, rfl, pad, hdg, hB⟩
        case round =>
          clear pad hdg hB
          obtain ⟨es, g, cp, rfl, pad, hdg, hB⟩ := hrel
          by_cases h16 : es.length < 16
          · have PS := Hid.mk (pad.zero h16)
            clear pad
            go_wp2_with (at_builtin; refine ap_dig rfl (.tmp 40) (.tmp 41) rfl rfl (hdg.alloc _) wr.heap.size 0 rfl (cell_one _ _) (by omega) (szb hdg) ?_; intro g' cp' w2 hdg' hb2)
            go_roundw
            case rel => exact ⟨_, g', cp', by simp, PS.out, hdg', Below.trans (hB.alloc hB.size _) hb2⟩
            case measure => simp [lenOf]; omega
          · have PS := Hid.mk (pad.done (by omega))
            clear pad
            go_wp2
            go_ret
            exact ⟨g, cp, es, rfl, PS.out, hdg, hB⟩
end Go.Proofs.YtpcpcgfljffkeaaDoor
