/-
  Own text. '==' on 32 bytes, the slices of a call's arguments, and what the law's own 'awake' answers: contracts over the translation.
-/
import Derived.Test.YtgklkkjhoecdoaaDoorG6
import Derived.ChangeKeysEq
namespace Go.Proofs.YtgklkkjhoecdoaaDoor
open Go.RowKit Go.Proofs
theorem eqItems_BA (x y : Int) (d : Nat) (w : World) : ∀ (is : List Nat), (∀ i ∈ is, i < 32) → (Op.eqItems (d + 1) 5 1 (BA x) (BA y) is).run Tryd.prog w = .ok (is.all fun i => byt x i == byt y i) w
  | [], _ => by simp [Op.eqItems]
  | i :: is, h => by
    have hi : i < 32 := h i (by simp)
    have ih := eqItems_BA x y d w is (fun j hj => h j (by simp [hj]))
    have e1 : (part 5 (BA x) (i * 1)).run Tryd.prog w = .ok (.int .u8 (byt x i)) w := by
      simp [part, BA_get, hi, go_sem]
    have e2 : (part 5 (BA y) (i * 1)).run Tryd.prog w = .ok (.int .u8 (byt y i)) w := by
      simp [part, BA_get, hi, go_sem]
    simp only [Op.eqItems, Sem.run_bind, e1, e2, Result.andThen_ok, run_equalIn_int w d 5 .u8 .u8 _ _ Tryd.underlying5, List.all_cons]
    cases hb : (byt x i == byt y i)
    · simp
    · simpa using ih
theorem byt_inj {x y : Int} (hx0 : 0 ≤ x) (hx1 : x < W256) (hy0 : 0 ≤ y) (hy1 : y < W256) (h : ∀ i, i < 32 → byt x i = byt y i) : x = y := by
  rw [← limb_V4 hx0 hx1, ← limb_V4 hy0 hy1]
  simp only [← limb_eq]
  simp only [h 0 (by omega), h (0 + 1) (by omega), h (0 + 2) (by omega), h (0 + 3) (by omega), h (0 + 4) (by omega), h (0 + 5) (by omega), h (0 + 6) (by omega), h (0 + 7) (by omega),
    h 8 (by omega), h (8 + 1) (by omega), h (8 + 2) (by omega), h (8 + 3) (by omega), h (8 + 4) (by omega), h (8 + 5) (by omega), h (8 + 6) (by omega), h (8 + 7) (by omega),
    h 16 (by omega), h (16 + 1) (by omega), h (16 + 2) (by omega), h (16 + 3) (by omega), h (16 + 4) (by omega), h (16 + 5) (by omega), h (16 + 6) (by omega), h (16 + 7) (by omega),
    h 24 (by omega), h (24 + 1) (by omega), h (24 + 2) (by omega), h (24 + 3) (by omega), h (24 + 4) (by omega), h (24 + 5) (by omega), h (24 + 6) (by omega), h (24 + 7) (by omega)]
theorem all_beq {x y : Int} (hx0 : 0 ≤ x) (hx1 : x < W256) (hy0 : 0 ≤ y) (hy1 : y < W256) : ((List.range 32).all fun i => byt x i == byt y i) = (x == y) := by
  by_cases h : x = y
  · subst h; simp
  · have h1 : (x == y) = false := by simpa using h
    rw [h1]
    cases hb : (List.range 32).all fun i => byt x i == byt y i with
    | false => rfl
    | true =>
      exfalso
      apply h
      refine byt_inj hx0 hx1 hy0 hy1 (fun i hi => ?_)
      have := List.all_eq_true.1 hb i (List.mem_range.2 hi)
      simpa using this
theorem cells5 : Tryd.prog.cellsOf 5 = 1 := by kernel_rfl
theorem info5 : (Tryd.prog.info? 5).isSome = true := by kernel_rfl
theorem equal_bytes (x y : Int) (d : Nat) (w : World) : (Op.equalIn (d + 1 + 1) 24 (.agg (BA x)) (.agg (BA y))).run Tryd.prog w = .ok ((List.range 32).all fun i => byt x i == byt y i) w := by
  obtain ⟨i, hi⟩ := Option.isSome_iff_exists.1 info5
  rw [run_equalIn_array w (d + 1) (BA x) (BA y) Tryd.underlying24 hi, cells5]
  exact eqItems_BA x y d w _ (fun i hi => List.mem_range.1 hi)
theorem eqg24 : Tryd.prog.eqGuardType Tryd.prog.depth 24 = false := by kernel_rfl
/-- '==' on 32 bytes. -/
theorem eql_bytes {a : Act} {o : Oper} {w : World} (x y : Operand) (t : TypeId) (ho : o.op = .binOp .eql 24 x y t) (m n : Int) (hx : a.eval x = .agg (BA m)) (hy : a.eval y = .agg (BA n))
    (hm0 : 0 ≤ m) (hm1 : m < W256) (hn0 : 0 ≤ n) (hn1 : n < W256) : (execOp a.eval o).run Tryd.prog w = .ok (.value (.bool (m == n))) w := by
  unfold execOp
  simp only [ho, hx, hy, Sem.run_bind, run_eqGuard_agg w .eql 24 x y _ _ eqg24, Result.andThen_ok, run_eql_struct, equal_bytes m n 9998 w, all_beq hm0 hm1 hn0 hn1, Sem.run_pure]
theorem eql_same {a : Act} {o : Oper} {w : World} (x y : Operand) (t : TypeId) (ho : o.op = .binOp .eql 24 x y t) (m : Int) (hx : a.eval x = .agg (BA m)) (hy : a.eval y = .agg (BA m)) :
    (execOp a.eval o).run Tryd.prog w = .ok (.value (.bool true)) w := by
  unfold execOp
  simp only [ho, hx, hy, Sem.run_bind, run_eqGuard_agg w .eql 24 x y _ _ eqg24, Result.andThen_ok, run_eql_struct, equal_bytes m m 9998 w, Sem.run_pure]
  simp
theorem run_bs1 (m : Int) (w : World) : (Instr.buildSlice 22 1 #[(0, .agg (BA m))]).run Tryd.prog w = .ok (.slice (some ⟨w.heap.size, 0, none⟩) 1 1) (w.alloc (.cells (BA m) 24)) := by kernel_rfl
theorem run_bs2 (m n : Int) (w : World) : (Instr.buildSlice 22 2 #[(0, .agg (BA m)), (1, .agg (BA n))]).run Tryd.prog w = .ok (.slice (some ⟨w.heap.size, 0, none⟩) 2 2) (w.alloc (.cells (BA m ++ BA n) 24)) := by kernel_rfl
theorem run_bs3 (m n k : Int) (w : World) : (Instr.buildSlice 22 3 #[(0, .agg (BA m)), (1, .agg (BA n)), (2, .agg (BA k))]).run Tryd.prog w = .ok (.slice (some ⟨w.heap.size, 0, none⟩) 3 3) (w.alloc (.cells (BA m ++ BA n ++ BA k) 24)) := by kernel_rfl
theorem rows_of {w : World} {b : Nat} {cs : Array Value} {ns : List Int} (hg : w.heap[b]? = some (.cells cs 24 (0, 0))) (h : ∀ k, k < ns.length → ∀ j v, (BA (ns.getD k 0)).toList[j]? = some v → cs[k * 32 + j]? = some v) : RowsAt w b 0 ns :=
  fun k hk j v hv => by rw [cell_of_row w b _ _ _ _ hg, Nat.zero_add]; exact h k hk j v hv
theorem rows1 {w : World} {b : Nat} {x : Int} (hg : w.heap[b]? = some (.cells (BA x) 24 (0, 0))) : RowsAt w b 0 [x] :=
  rows_of hg (fun k hk j v hv => by
    have : k = 0 := by simpa using hk
    subst this
    simpa using hv)
theorem rows2 {w : World} {b : Nat} {x y : Int} (hg : w.heap[b]? = some (.cells (BA x ++ BA y) 24 (0, 0))) : RowsAt w b 0 [x, y] :=
  rows_of hg (fun k hk j v hv => by
    have hj : j < 32 := by have := (List.getElem?_eq_some_iff.1 hv).1; rwa [Array.length_toList, BA_size] at this
    have hk2 : k = 0 ∨ k = 1 := by simp at hk; omega
    rcases hk2 with rfl | rfl
    · rw [Array.getElem?_append_left (by rw [BA_size]; omega)]; simpa using hv
    · rw [Array.getElem?_append_right (by rw [BA_size]; omega), BA_size, show 1 * 32 + j - 32 = j by omega]; simpa using hv)
theorem rows3 {w : World} {b : Nat} {x y z : Int} (hg : w.heap[b]? = some (.cells (BA x ++ BA y ++ BA z) 24 (0, 0))) : RowsAt w b 0 [x, y, z] :=
  rows_of hg (fun k hk j v hv => by
    have hj : j < 32 := by have := (List.getElem?_eq_some_iff.1 hv).1; rwa [Array.length_toList, BA_size] at this
    have hk2 : k = 0 ∨ k = 1 ∨ k = 2 := by simp at hk; omega
    rcases hk2 with rfl | rfl | rfl
    · rw [Array.getElem?_append_left (by rw [Array.size_append, BA_size, BA_size]; omega), Array.getElem?_append_left (by rw [BA_size]; omega)]; simpa using hv
    · rw [Array.getElem?_append_left (by rw [Array.size_append, BA_size, BA_size]; omega), Array.getElem?_append_right (by rw [BA_size]; omega), BA_size, show 1 * 32 + j - 32 = j by omega]; simpa using hv
    · rw [Array.getElem?_append_right (by rw [Array.size_append, BA_size, BA_size]; omega), Array.size_append, BA_size, BA_size, show 2 * 32 + j - (32 + 32) = j by omega]; simpa using hv)
/-- A number of 32 bytes. -/
def N256 (x : Int) : Prop := 0 ≤ x ∧ x < W256
theorem N256.mod (x : Int) : N256 (x % P255) := ⟨(mod_lt_P x).1, by have := (mod_lt_P x).2; unfold P255 at this; unfold W256; unfold P255; omega⟩
theorem add1 (x : Int) (b : Nat) (w : World) (hx : N256 x) (hr : RowsAt w b 0 [x]) (hb : b < w.heap.size) : Calls Tryd.prog 10 #[.slice (some ⟨b, 0, none⟩) 1 1] w fun r w' => r = .returned (.agg (BA (x % P255))) ∧ Below w.heap.size w w' := by
  have := add_walk b 0 1 [x] w (by intro n hn; simp at hn; subst hn; exact hx) hr hb (by simp)
  simpa using this
theorem add2 (x y : Int) (b : Nat) (w : World) (hx : N256 x) (hy : N256 y) (hr : RowsAt w b 0 [x, y]) (hb : b < w.heap.size) : Calls Tryd.prog 10 #[.slice (some ⟨b, 0, none⟩) 2 2] w fun r w' => r = .returned (.agg (BA ((x + y) % P255))) ∧ Below w.heap.size w w' := by
  have := add_walk b 0 2 [x, y] w (by simpa using ⟨hx, hy⟩) hr hb (by simp)
  simpa using this
theorem add3 (x y z : Int) (b : Nat) (w : World) (hx : N256 x) (hy : N256 y) (hz : N256 z) (hr : RowsAt w b 0 [x, y, z]) (hb : b < w.heap.size) : Calls Tryd.prog 10 #[.slice (some ⟨b, 0, none⟩) 3 3] w fun r w' => r = .returned (.agg (BA ((x + (y + z)) % P255))) ∧ Below w.heap.size w w' := by
  have := add_walk b 0 3 [x, y, z] w (by simpa using ⟨hx, hy, hz⟩) hr hb (by simp)
  simpa using this
theorem mul1 (x : Int) (b : Nat) (w : World) (hx : N256 x) (hr : RowsAt w b 0 [x]) (hb : b < w.heap.size) : Calls Tryd.prog 11 #[.slice (some ⟨b, 0, none⟩) 1 1] w fun r w' => r = .returned (.agg (BA (x % P255))) ∧ Below w.heap.size w w' := by
  have := mul_walk b 0 1 [x] w (by intro n hn; simp at hn; subst hn; exact hx) hr hb (by simp) (by simp) (by simp)
  simpa [lprod] using this
theorem mul2 (x y : Int) (b : Nat) (w : World) (hx : N256 x) (hy : N256 y) (hr : RowsAt w b 0 [x, y]) (hb : b < w.heap.size) : Calls Tryd.prog 11 #[.slice (some ⟨b, 0, none⟩) 2 2] w fun r w' => r = .returned (.agg (BA ((x * y) % P255))) ∧ Below w.heap.size w w' := by
  have := mul_walk b 0 2 [x, y] w (by simpa using ⟨hx, hy⟩) hr hb (by simp) (by simp) (by simp)
  simpa [lprod] using this
theorem mul3 (x y z : Int) (b : Nat) (w : World) (hx : N256 x) (hy : N256 y) (hz : N256 z) (hr : RowsAt w b 0 [x, y, z]) (hb : b < w.heap.size) : Calls Tryd.prog 11 #[.slice (some ⟨b, 0, none⟩) 3 3] w fun r w' => r = .returned (.agg (BA ((x * (y * z)) % P255))) ∧ Below w.heap.size w w' := by
  have := mul_walk b 0 3 [x, y, z] w (by simpa using ⟨hx, hy, hz⟩) hr hb (by simp) (by simp) (by simp)
  simpa [lprod] using this
/-- The slice that a call's arguments are laid into. -/
theorem act_bs2 {o : Oper} {a : Act} {w : World} {K : Act → World → Prop} {Q : Exit → Act → World → Prop} (x y : Operand) (ho : o.op = .buildSlice 22 2 #[(0, x), (1, y)]) (m n : Int) (hx : a.eval x = .agg (BA m)) (hy : a.eval y = .agg (BA n))
    (h : ∀ v, RowsAt v w.heap.size 0 [m, n] → w.heap.size < v.heap.size → Below w.heap.size w v → K (a.put o.dst (.slice (some ⟨w.heap.size, 0, none⟩) 2 2)) v) : o.wp Tryd.prog a w K Q := by
  have hr := run_bs2 m n w
  unfold Oper.wp execOp
  simp only [ho, List.map_toArray, List.map_cons, List.map_nil, hx, hy, Sem.run_bind, hr, Result.andThen_ok, Sem.run_pure, Oper.upon]
  exact h _ (rows2 (heap_alloc_new w _)) (by simp) ((Below.refl _ _).alloc (Nat.le_refl _) _)
theorem act_bs1 {o : Oper} {a : Act} {w : World} {K : Act → World → Prop} {Q : Exit → Act → World → Prop} (x : Operand) (ho : o.op = .buildSlice 22 1 #[(0, x)]) (m : Int) (hx : a.eval x = .agg (BA m))
    (h : ∀ v, RowsAt v w.heap.size 0 [m] → w.heap.size < v.heap.size → Below w.heap.size w v → K (a.put o.dst (.slice (some ⟨w.heap.size, 0, none⟩) 1 1)) v) : o.wp Tryd.prog a w K Q := by
  have hr := run_bs1 m w
  unfold Oper.wp execOp
  simp only [ho, List.map_toArray, List.map_cons, List.map_nil, hx, Sem.run_bind, hr, Result.andThen_ok, Sem.run_pure, Oper.upon]
  exact h _ (rows1 (heap_alloc_new w _)) (by simp) ((Below.refl _ _).alloc (Nat.le_refl _) _)
theorem act_bs3 {o : Oper} {a : Act} {w : World} {K : Act → World → Prop} {Q : Exit → Act → World → Prop} (x y z : Operand) (ho : o.op = .buildSlice 22 3 #[(0, x), (1, y), (2, z)]) (m n k : Int) (hx : a.eval x = .agg (BA m)) (hy : a.eval y = .agg (BA n)) (hz : a.eval z = .agg (BA k))
    (h : ∀ v, RowsAt v w.heap.size 0 [m, n, k] → w.heap.size < v.heap.size → Below w.heap.size w v → K (a.put o.dst (.slice (some ⟨w.heap.size, 0, none⟩) 3 3)) v) : o.wp Tryd.prog a w K Q := by
  have hr := run_bs3 m n k w
  unfold Oper.wp execOp
  simp only [ho, List.map_toArray, List.map_cons, List.map_nil, hx, hy, hz, Sem.run_bind, hr, Result.andThen_ok, Sem.run_pure, Oper.upon]
  exact h _ (rows3 (heap_alloc_new w _)) (by simp) ((Below.refl _ _).alloc (Nat.le_refl _) _)
theorem rows_below {B : Nat} {w w' : World} {b off : Nat} {ns : List Int} (h : RowsAt w b off ns) (hb : Below B w w') (hB : b < B) : RowsAt w' b off ns :=
  fun k hk j v hv => (hb.cell hB).trans (h k hk j v hv)
theorem exec_build {a : Act} {o : Oper} {w : World} (i : Nat) (c : Int) (ho : o.op = .build 24 #[(i, .const (.int .u8 c))]) (n : Int) (h : (Instr.build 24 #[(i, .int .u8 c)]).run Tryd.prog w = .ok (.agg (BA n)) w) :
    (execOp a.eval o).run Tryd.prog w = .ok (.value (.agg (BA n))) w := by
  unfold execOp
  simp only [ho, List.map_toArray, List.map_cons, List.map_nil, Act.eval, Sem.run_bind, h, Result.andThen_ok, Sem.run_pure]
theorem wl_value {P : Program} {ops : Array Oper} {Q : Exit → Act → World → Prop} {a : Act} {w : World} {rest : List Oper} {o : Oper} {v : Value} (hw : Region.wanted o (yielded ops a.tmps) = true)
    (hr : (execOp a.eval o).run P w = .ok (.value v) w) (h : wpList P ops Q rest (a.put o.dst v) w) : wpList P ops Q (o :: rest) a w := by
  unfold wpList
  rw [if_pos hw]
  exact .inl (by unfold Oper.wp; rw [hr]; exact h)
theorem wl_act {P : Program} {ops : Array Oper} {Q : Exit → Act → World → Prop} {a : Act} {w : World} {rest : List Oper} {o : Oper} (hw : Region.wanted o (yielded ops a.tmps) = true)
    (h : o.wp P a w (wpList P ops Q rest) Q) : wpList P ops Q (o :: rest) a w := by
  unfold wpList
  rw [if_pos hw]
  exact .inl h
theorem build19 (w : World) : (Instr.build 24 #[(0, .int .u8 19)]).run Tryd.prog w = .ok (.agg (BA 19)) w := by kernel_rfl
theorem build2 (w : World) : (Instr.build 24 #[(0, .int .u8 2)]).run Tryd.prog w = .ok (.agg (BA 2)) w := by kernel_rfl
theorem build1 (w : World) : (Instr.build 24 #[(0, .int .u8 1)]).run Tryd.prog w = .ok (.agg (BA 1)) w := by kernel_rfl
theorem build4 (w : World) : (Instr.build 24 #[(0, .int .u8 4)]).run Tryd.prog w = .ok (.agg (BA 4)) w := by kernel_rfl
theorem build38 (w : World) : (Instr.build 24 #[(0, .int .u8 38)]).run Tryd.prog w = .ok (.agg (BA 38)) w := by kernel_rfl
theorem build64 (w : World) : (Instr.build 24 #[(31, .int .u8 64)]).run Tryd.prog w = .ok (.agg (BA 28948022309329048855892746252171976963317496166410141009864396001978282409984)) w := by kernel_rfl
set_option maxHeartbeats 1000000 in
theorem awake_any (w : World) (hP : PrimeAt w) :
    Calls Tryd.prog 15 #[] w fun r w' => r = .returned (.bool true) ∧ Below w.heap.size w w' := by
  have hp0 := primeAt_pos hP
  have m19 : (19 : Int) % P255 = 19 := by decide +kernel
  have m2 : (-1 % P255 + 3 % P255) % P255 = 2 := by decide +kernel
  have m1 : (-1 % P255 * (-1 % P255)) % P255 = 1 := by decide +kernel
  have m38 : ((28948022309329048855892746252171976963317496166410141009864396001978282409984 : Int) * 4) % P255 = 38 := by decide +kernel
  have M2 := Hid.mk m2
  have M1 := Hid.mk m1
  have M38 := Hid.mk m38
  have M19 := Hid.mk m19
  have HP := Hid.mk hP
  clear m2 m1 m38 m19 hP
  go_enter Tryd.func15, Tryd.ntmps15
  go_wp2_with fail
  refine (of_any 19 _ HP.out (by omega) (by omega)).mono ?_
  rintro r v1 ⟨rfl, hb1⟩
  rw [M19.out]
  have hs1 := hb1.size
  go_wp2_with (first | (refine wl_value rfl (eql_same _ _ _ rfl 19 rfl rfl) ?_) | (refine wl_value rfl (exec_build _ _ rfl _ (build19 _)) ?_))
  refine (of_any (-1) _ (primeAt_below HP.out hb1 hp0) (by omega) (by omega)).mono ?_
  rintro r v2 ⟨rfl, hb2⟩
  have hB2 := Below.trans hb1 (hb2.mono hb1.size)
  go_wp2_with fail
  refine (of_any 3 _ (primeAt_below HP.out hB2 hp0) (by omega) (by omega)).mono ?_
  rintro r v3 ⟨rfl, hb3⟩
  have hB3 := Below.trans hB2 (hb3.mono hB2.size)
  clear hb1 hb2 hb3 hB2 hs1
  go_wp2_with (refine wl_act rfl (act_bs2 _ _ rfl _ _ rfl rfl ?_); intro v4 r4 s4 b4)
  have hB4 := Below.trans hB3 (b4.mono hB3.size)
  refine (add2 _ _ _ _ (N256.mod _) (N256.mod _) r4 s4).mono ?_
  rintro r v5 ⟨rfl, hb5⟩
  have hB5 := Below.trans hB4 (hb5.mono hB4.size)
  clear hB3 r4 s4 b4 hB4 hb5
  rw [M2.out]
  go_wp2_with (first | (refine wl_value rfl (eql_same _ _ _ rfl 2 rfl rfl) ?_) | (refine wl_value rfl (exec_build _ _ rfl _ (build2 _)) ?_))
  refine (of_any (-1) _ (primeAt_below HP.out hB5 hp0) (by omega) (by omega)).mono ?_
  rintro r v6 ⟨rfl, hb6⟩
  have hB6 := Below.trans hB5 (hb6.mono hB5.size)
  go_wp2_with fail
  refine (of_any (-1) _ (primeAt_below HP.out hB6 hp0) (by omega) (by omega)).mono ?_
  rintro r v7 ⟨rfl, hb7⟩
  have hB7 := Below.trans hB6 (hb7.mono hB6.size)
  clear hB5 hb6 hB6 hb7
  go_wp2_with (refine wl_act rfl (act_bs2 _ _ rfl _ _ rfl rfl ?_); intro v8 r8 s8 b8)
  have hB8 := Below.trans hB7 (b8.mono hB7.size)
  refine (mul2 _ _ _ _ (N256.mod _) (N256.mod _) r8 s8).mono ?_
  rintro r v9 ⟨rfl, hb9⟩
  have hB9 := Below.trans hB8 (hb9.mono hB8.size)
  clear hB7 r8 s8 b8 hB8 hb9
  rw [M1.out]
  go_wp2_with (first | (refine wl_value rfl (eql_same _ _ _ rfl 1 rfl rfl) ?_) | (refine wl_value rfl (exec_build _ _ rfl _ (build1 _)) ?_) | (refine wl_value rfl (exec_build _ _ rfl _ (build64 _)) ?_) | (refine wl_value rfl (exec_build _ _ rfl _ (build4 _)) ?_) | (refine wl_act rfl (act_bs2 _ _ rfl _ _ rfl rfl ?_); intro v10 r10 s10 b10))
  have hB10 := Below.trans hB9 (b10.mono hB9.size)
  refine (mul2 _ _ _ _ (by unfold N256 W256; omega) (by unfold N256 W256; omega) r10 s10).mono ?_
  rintro r v11 ⟨rfl, hb11⟩
  have hB11 := Below.trans hB10 (hb11.mono hB10.size)
  clear hB9 r10 s10 b10 hB10 hb11
  rw [M38.out]
  go_wp2_with (first | (refine wl_value rfl (eql_same _ _ _ rfl 38 rfl rfl) ?_) | (refine wl_value rfl (exec_build _ _ rfl _ (build38 _)) ?_))
  go_ret
  exact ⟨rfl, hB11⟩
end Go.Proofs.YtgklkkjhoecdoaaDoor
