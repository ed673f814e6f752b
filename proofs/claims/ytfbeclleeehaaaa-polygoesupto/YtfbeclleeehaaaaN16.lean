/-
  Own text. What Tag of package poly answers; a slice of texts that is made anew; the statements' awake.
-/
import Derived.Test.YtfbeclleeehaaaaN13
import Derived.Test.YtfbeclleeehaaaaN14
import Derived.Test.YtfbeclleeehaaaaN15
namespace Go.Proofs.Ytfbeclleeehaaaa
open Go.RowKit Go.Proofs
theorem Strs.kept {w w' : World} {v : Value} {n : Nat} {ts : Nat → ByteArray} (h : Strs w v n ts) (hk : ∀ k, k < w.heap.size → w'.heap[k]? = w.heap[k]?) : Strs w' v n ts := by
  obtain ⟨a, c, rfl, hp⟩ := h
  refine ⟨a, c, rfl, fun hn => ?_⟩
  obtain ⟨p, rfl, hc⟩ := hp hn
  refine ⟨p, rfl, fun j hj => ?_⟩
  have h0 := hc j hj
  rw [← h0]
  exact World.cell?_of_block (w := w) (hk _ (World.block_lt_of_cell? _ _ h0))
theorem Strs.below {w w' : World} {v : Value} {n : Nat} {ts : Nat → ByteArray} (h : Strs w v n ts) (hb : Below w.heap.size w w') : Strs w' v n ts := h.kept (fun k hk => hb.block k hk)
theorem belowT {B b : Nat} {u v w : World} (h : Below B u v) (ht : Touch (fun x => x = b) v w) (hb : B ≤ b) (hB : B ≤ u.heap.size) : Below B u w :=
  ⟨ht.os.trans h.os, ht.tape.trans h.tape, ht.output.trans h.output, Nat.le_trans h.size ht.size, fun k hk => (ht.block k (by have := h.size; omega) (by omega)).trans (h.block k hk)⟩
theorem ArrAt.touch {w w' : World} {g b : Nat} {k : IntKind} {t : TypeId} {n : Nat} {s : Nat → Int} (h : ArrAt w g k t n s) (ht : Touch (fun x => x = b) w w') (hg : g ≠ b) : ArrAt w' g k t n s := h.block (ht.block g h.lt hg)
theorem cat0 (f r : Nat → Int) : cat 0 f r = r := by
  funext i
  unfold cat
  rw [if_neg (by omega), Nat.sub_zero]
set_option maxHeartbeats 4000000 in
theorem Tag_run (key : Nat → Int) (v : Value) (cnt : Nat) (ts : Nat → ByteArray) (w : World) (hk : Byts 32 key) (hv : Strs w v cnt ts) (hn : cnt < 4611686018427387904) :
    Calls Try.prog 8 #[.agg (WA .u8 32 key), v] w fun e w' => e = .returned (.agg (WA .u8 16 (digN (markN key (txt (joinB ts cnt)) (joinB ts cnt).size)))) ∧ Below w.heap.size w w' := by
  have g0 : ArrAt ((w.alloc (.cells (WA .u8 32 key) 22)).alloc (.cells (WA .u8 16 fun _ => 0) 23)) w.heap.size .u8 22 32 key := heap_alloc2_old w _ _
  have g1 : ArrAt ((w.alloc (.cells (WA .u8 32 key) 22)).alloc (.cells (WA .u8 16 fun _ => 0) 23)) (w.heap.size + 1) .u8 23 16 (fun _ => 0) := heap_alloc2_new w _ _
  have hB : Below w.heap.size w ((w.alloc (.cells (WA .u8 32 key) 22)).alloc (.cells (WA .u8 16 fun _ => 0) 23)) := ((Below.refl _ w).alloc (by simp) _).alloc (by simp) _
  go_enter Try.func8, Try.ntmps8
  go_wp2_with (refine ld_arr isArr32 g0 (by rfl) ?_)
  refine (New_run key (fun _ => 0) _ hk).mono ?_
  rintro e v1 ⟨b, hb, rfl, hM, hb1⟩
  have hz1 := g1.lt
  replace g1 := g1.kept hb1
  replace hB := hB.trans (hb1.mono hB.size)
  have hzb : w.heap.size + 1 + 1 ≤ b := by simpa using hb
  have hv1 : ∀ w', Touch (fun x => x = b) v1 w' → Strs w' v cnt ts := fun w' ht => hv.kept (fun k hk => (ht.block k (by have := hB.size; omega) (by omega)).trans (hB.block k hk))
  clear hb1 g0 hb hz1
  go_wp2_with fail
  refine (Write_run b key (fun _ => 0) 0 v cnt ts v1 hM hv1 hn).mono ?_
  rintro e v2 ⟨rfl, hM2, ht2⟩
  rw [cat0, Nat.zero_add] at hM2
  replace g1 := g1.touch ht2 (by omega)
  replace hB := belowT hB ht2 (by omega) (Nat.le_refl _)
  clear ht2 hM hv1
  go_wp2_with fail
  refine (Sum_run b key _ _ v2 hM2).mono ?_
  rintro e v3 ⟨rfl, hb3⟩
  replace g1 := g1.kept hb3
  replace hB := hB.trans (hb3.mono hB.size)
  clear hb3 hM2
  go_wp2_with (refine st_arr isArr16 g1 (by rfl) (by rfl) ?_; intro v4 g4 o4; refine Hid.out ?_)
  refine Hid.mk ?_
  go_wp2_with fail
  exact bodyPost_ret (res_arr Try.results8 isArr16 g4 (by rfl)) rfl ⟨rfl, hB.trans (o4.below (by omega))⟩
-- slices of texts that are made anew
theorem run_bs1 (s : ByteArray) (w : World) : (Instr.buildSlice 28 1 #[(0, .string s)]).run Try.prog w = .ok (.slice (some ⟨w.heap.size, 0, none⟩) 1 1) (w.alloc (.cells #[.string s] 9)) := by simp [go_sem]
theorem run_bs2 (s t : ByteArray) (w : World) : (Instr.buildSlice 28 2 #[(0, .string s), (1, .string t)]).run Try.prog w = .ok (.slice (some ⟨w.heap.size, 0, none⟩) 2 2) (w.alloc (.cells #[.string s, .string t] 9)) := by simp [go_sem]
def one1 (s : ByteArray) : Nat → ByteArray := fun _ => s
def two2 (s t : ByteArray) : Nat → ByteArray
  | 0 => s
  | _ => t
theorem join1 (s : ByteArray) : joinB (one1 s) 1 = s := by simp [joinB, one1]
theorem join2 (s t : ByteArray) : joinB (two2 s t) 2 = s ++ t := by simp [joinB, two2]
theorem strs1 {w : World} {b : Nat} {s : ByteArray} (h : w.heap[b]? = some (.cells #[.string s] 9 (0, 0))) : Strs w (.slice (some ⟨b, 0, none⟩) 1 1) 1 (one1 s) :=
  ⟨_, _, rfl, fun _ => ⟨_, rfl, fun j hj => by
    obtain rfl : j = 0 := by omega
    rw [Addr.add_lit, cell_of_row w b _ _ _ _ h]
    rfl⟩⟩
theorem strs2 {w : World} {b : Nat} {s t : ByteArray} (h : w.heap[b]? = some (.cells #[.string s, .string t] 9 (0, 0))) : Strs w (.slice (some ⟨b, 0, none⟩) 2 2) 2 (two2 s t) :=
  ⟨_, _, rfl, fun _ => ⟨_, rfl, fun j hj => by
    rw [Addr.add_lit, cell_of_row w b _ _ _ _ h]
    match j, hj with
    | 0, _ => rfl
    | 1, _ => rfl⟩⟩
theorem act_bs1 {o : Oper} {a : Act} {w : World} {K : Act → World → Prop} {Q : Exit → Act → World → Prop} {x : Operand} (ho : o.op = .buildSlice 28 1 #[(0, x)]) {s : ByteArray} (hx : a.eval x = .string s)
    (h : ∀ v, v.heap[w.heap.size]? = some (.cells #[.string s] 9 (0, 0)) → Below w.heap.size w v → K (a.put o.dst (.slice (some ⟨w.heap.size, 0, none⟩) 1 1)) v) : o.wp Try.prog a w K Q := by
  have hr := run_bs1 s w
  unfold Oper.wp execOp
  simp only [ho, List.map_toArray, List.map_cons, List.map_nil, hx, Sem.run_bind, hr, Result.andThen_ok, Sem.run_pure, Oper.upon]
  exact h _ (heap_alloc_new w _) ((Below.refl _ _).alloc (Nat.le_refl _) _)
theorem act_bs2 {o : Oper} {a : Act} {w : World} {K : Act → World → Prop} {Q : Exit → Act → World → Prop} {x y : Operand} (ho : o.op = .buildSlice 28 2 #[(0, x), (1, y)]) {s t : ByteArray} (hx : a.eval x = .string s) (hy : a.eval y = .string t)
    (h : ∀ v, v.heap[w.heap.size]? = some (.cells #[.string s, .string t] 9 (0, 0)) → Below w.heap.size w v → K (a.put o.dst (.slice (some ⟨w.heap.size, 0, none⟩) 2 2)) v) : o.wp Try.prog a w K Q := by
  have hr := run_bs2 s t w
  unfold Oper.wp execOp
  simp only [ho, List.map_toArray, List.map_cons, List.map_nil, hx, hy, Sem.run_bind, hr, Result.andThen_ok, Sem.run_pure, Oper.upon]
  exact h _ (heap_alloc_new w _) ((Below.refl _ _).alloc (Nat.le_refl _) _)
-- awake
def awK (i : Nat) : Int := [133, 214, 190, 120, 87, 85, 109, 51, 127, 68, 82, 254, 66, 213, 6, 168, 1, 3, 128, 138, 251, 13, 178, 253, 74, 191, 246, 175, 65, 73, 245, 27].getD i 0
def awT (i : Nat) : Int := [168, 6, 29, 193, 48, 81, 54, 198, 194, 43, 139, 175, 12, 1, 39, 169].getD i 0
def awA : ByteArray := ⟨#[67, 114, 121, 112, 116, 111, 103, 114, 97, 112, 104, 105, 99, 32, 70, 111, 114, 117, 109, 32]⟩
def awB : ByteArray := ⟨#[82, 101, 115, 101, 97, 114, 99, 104, 32, 71, 114, 111, 117, 112]⟩
theorem awK_b : Byts 32 awK := by unfold Byts; decide +kernel
theorem aw_mark : ∀ i, i < 16 → digN (markN awK (txt (awA ++ awB)) (awA ++ awB).size) i = awT i := by decide +kernel
theorem run_awK (w : World) : (Instr.build 22 #[(0, .int .u8 133), (1, .int .u8 214), (2, .int .u8 190), (3, .int .u8 120), (4, .int .u8 87), (5, .int .u8 85), (6, .int .u8 109), (7, .int .u8 51), (8, .int .u8 127), (9, .int .u8 68), (10, .int .u8 82), (11, .int .u8 254), (12, .int .u8 66), (13, .int .u8 213), (14, .int .u8 6), (15, .int .u8 168), (16, .int .u8 1), (17, .int .u8 3), (18, .int .u8 128), (19, .int .u8 138), (20, .int .u8 251), (21, .int .u8 13), (22, .int .u8 178), (23, .int .u8 253), (24, .int .u8 74), (25, .int .u8 191), (26, .int .u8 246), (27, .int .u8 175), (28, .int .u8 65), (29, .int .u8 73), (30, .int .u8 245), (31, .int .u8 27)]).run Try.prog w = .ok (.agg (WA .u8 32 awK)) w := by kernel_rfl
theorem run_awT (w : World) : (Instr.build 23 #[(0, .int .u8 168), (1, .int .u8 6), (2, .int .u8 29), (3, .int .u8 193), (4, .int .u8 48), (5, .int .u8 81), (6, .int .u8 54), (7, .int .u8 198), (8, .int .u8 194), (9, .int .u8 43), (10, .int .u8 139), (11, .int .u8 175), (12, .int .u8 12), (13, .int .u8 1), (14, .int .u8 39), (15, .int .u8 169)]).run Try.prog w = .ok (.agg (WA .u8 16 awT)) w := by kernel_rfl
theorem exec_awK {a : Act} {o : Oper} {w : World} (ho : o.op = .build 22 #[(0, .const (.int .u8 133)), (1, .const (.int .u8 214)), (2, .const (.int .u8 190)), (3, .const (.int .u8 120)), (4, .const (.int .u8 87)), (5, .const (.int .u8 85)), (6, .const (.int .u8 109)), (7, .const (.int .u8 51)), (8, .const (.int .u8 127)), (9, .const (.int .u8 68)), (10, .const (.int .u8 82)), (11, .const (.int .u8 254)), (12, .const (.int .u8 66)), (13, .const (.int .u8 213)), (14, .const (.int .u8 6)), (15, .const (.int .u8 168)), (16, .const (.int .u8 1)), (17, .const (.int .u8 3)), (18, .const (.int .u8 128)), (19, .const (.int .u8 138)), (20, .const (.int .u8 251)), (21, .const (.int .u8 13)), (22, .const (.int .u8 178)), (23, .const (.int .u8 253)), (24, .const (.int .u8 74)), (25, .const (.int .u8 191)), (26, .const (.int .u8 246)), (27, .const (.int .u8 175)), (28, .const (.int .u8 65)), (29, .const (.int .u8 73)), (30, .const (.int .u8 245)), (31, .const (.int .u8 27))]) : (execOp a.eval o).run Try.prog w = .ok (.value (.agg (WA .u8 32 awK))) w := by
  have h := run_awK w
  unfold execOp
  simp only [ho, List.map_toArray, List.map_cons, List.map_nil, Act.eval, Sem.run_bind, h, Result.andThen_ok, Sem.run_pure]
theorem exec_awT {a : Act} {o : Oper} {w : World} (ho : o.op = .build 23 #[(0, .const (.int .u8 168)), (1, .const (.int .u8 6)), (2, .const (.int .u8 29)), (3, .const (.int .u8 193)), (4, .const (.int .u8 48)), (5, .const (.int .u8 81)), (6, .const (.int .u8 54)), (7, .const (.int .u8 198)), (8, .const (.int .u8 194)), (9, .const (.int .u8 43)), (10, .const (.int .u8 139)), (11, .const (.int .u8 175)), (12, .const (.int .u8 12)), (13, .const (.int .u8 1)), (14, .const (.int .u8 39)), (15, .const (.int .u8 169))]) : (execOp a.eval o).run Try.prog w = .ok (.value (.agg (WA .u8 16 awT))) w := by
  have h := run_awT w
  unfold execOp
  simp only [ho, List.map_toArray, List.map_cons, List.map_nil, Act.eval, Sem.run_bind, h, Result.andThen_ok, Sem.run_pure]
theorem eqG16 : Try.prog.eqGuardType Try.prog.depth 23 = false := by kernel_rfl
set_option maxHeartbeats 4000000 in
theorem awake_run (w : World) : Calls Try.prog 10 #[] w fun e w' => e = .returned (.bool true) ∧ Below w.heap.size w w' := by
  have g0 : ArrAt (w.alloc (.cells (WA .u8 32 fun _ => 0) 22)) w.heap.size .u8 22 32 (fun _ => 0) := heap_alloc_new w _
  have hB : Below w.heap.size w (w.alloc (.cells (WA .u8 32 fun _ => 0) 22)) := (Below.refl _ w).alloc (Nat.le_refl _) _
  go_enter Try.func10, Try.ntmps10
  go_wp2_with (first | (refine wl_value rfl (exec_awK rfl) ?_) | (refine st_arr isArr32 g0 (by rfl) (by rfl) ?_; intro v1 g1 o1; refine Hid.out ?_))
  replace hB := hB.trans (o1.below (Nat.le_refl _))
  clear o1 g0
  have hz1 := g1.lt
  refine Hid.mk ?_
  go_wp2_with (refine ld_arr isArr32 g1 (by rfl) ?_)
  refine (Tag_run awK _ 2 (two2 awA awB) _ awK_b (strs2 (heap_alloc_new v1 _)) (by decide)).mono ?_
  rintro e v2 ⟨he, hb2⟩
  rw [join2, WA_congr aw_mark] at he
  subst he
  have hBS := hB.size
  replace hB := (hB.alloc hBS _).trans (hb2.mono (by simp; omega))
  clear hb2
  go_wp2_with (first | (refine wl_value rfl (exec_awT rfl) ?_) | (refine wl_value rfl (eql_WA rfl Try.underlying23 eqG16 (by rfl) (by rfl)) ?_))
  go_ret
  exact ⟨rfl, hB⟩
end Go.Proofs.Ytfbeclleeehaaaa
