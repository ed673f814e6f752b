/-
  Own text. What store of package field answers, for every four words: a contract over the translation; and laws for whole rows in whatever world.
-/
import Derived.Test.YtgklkkjhoecdoaaDoorF3
namespace Go.Proofs.YtgklkkjhoecdoaaDoor
open Go.RowKit Go.Proofs
theorem byt_V4_0 {y0 y1 y2 y3 : Int} (_h0 : U64 y0) (_h1 : U64 y1) (_h2 : U64 y2) (_h3 : U64 y3) : byt (V4 y0 y1 y2 y3) 0 = y0 % 256 := by
  unfold U64 at *; unfold byt V4; omega
theorem byt_V4_1 {y0 y1 y2 y3 : Int} (_h0 : U64 y0) (_h1 : U64 y1) (_h2 : U64 y2) (_h3 : U64 y3) : byt (V4 y0 y1 y2 y3) 1 = y0 / 256 % 256 := by
  unfold U64 at *; unfold byt V4; omega
theorem byt_V4_2 {y0 y1 y2 y3 : Int} (_h0 : U64 y0) (_h1 : U64 y1) (_h2 : U64 y2) (_h3 : U64 y3) : byt (V4 y0 y1 y2 y3) 2 = y0 / 65536 % 256 := by
  unfold U64 at *; unfold byt V4; omega
theorem byt_V4_3 {y0 y1 y2 y3 : Int} (_h0 : U64 y0) (_h1 : U64 y1) (_h2 : U64 y2) (_h3 : U64 y3) : byt (V4 y0 y1 y2 y3) 3 = y0 / 16777216 % 256 := by
  unfold U64 at *; unfold byt V4; omega
theorem byt_V4_4 {y0 y1 y2 y3 : Int} (_h0 : U64 y0) (_h1 : U64 y1) (_h2 : U64 y2) (_h3 : U64 y3) : byt (V4 y0 y1 y2 y3) 4 = y0 / 4294967296 % 256 := by
  unfold U64 at *; unfold byt V4; omega
theorem byt_V4_5 {y0 y1 y2 y3 : Int} (_h0 : U64 y0) (_h1 : U64 y1) (_h2 : U64 y2) (_h3 : U64 y3) : byt (V4 y0 y1 y2 y3) 5 = y0 / 1099511627776 % 256 := by
  unfold U64 at *; unfold byt V4; omega
theorem byt_V4_6 {y0 y1 y2 y3 : Int} (_h0 : U64 y0) (_h1 : U64 y1) (_h2 : U64 y2) (_h3 : U64 y3) : byt (V4 y0 y1 y2 y3) 6 = y0 / 281474976710656 % 256 := by
  unfold U64 at *; unfold byt V4; omega
theorem byt_V4_7 {y0 y1 y2 y3 : Int} (_h0 : U64 y0) (_h1 : U64 y1) (_h2 : U64 y2) (_h3 : U64 y3) : byt (V4 y0 y1 y2 y3) 7 = y0 / 72057594037927936 % 256 := by
  unfold U64 at *; unfold byt V4; omega
theorem byt_V4_8 {y0 y1 y2 y3 : Int} (_h0 : U64 y0) (_h1 : U64 y1) (_h2 : U64 y2) (_h3 : U64 y3) : byt (V4 y0 y1 y2 y3) 8 = y1 % 256 := by
  unfold U64 at *; unfold byt V4; omega
theorem byt_V4_9 {y0 y1 y2 y3 : Int} (_h0 : U64 y0) (_h1 : U64 y1) (_h2 : U64 y2) (_h3 : U64 y3) : byt (V4 y0 y1 y2 y3) 9 = y1 / 256 % 256 := by
  unfold U64 at *; unfold byt V4; omega
theorem byt_V4_10 {y0 y1 y2 y3 : Int} (_h0 : U64 y0) (_h1 : U64 y1) (_h2 : U64 y2) (_h3 : U64 y3) : byt (V4 y0 y1 y2 y3) 10 = y1 / 65536 % 256 := by
  unfold U64 at *; unfold byt V4; omega
theorem byt_V4_11 {y0 y1 y2 y3 : Int} (_h0 : U64 y0) (_h1 : U64 y1) (_h2 : U64 y2) (_h3 : U64 y3) : byt (V4 y0 y1 y2 y3) 11 = y1 / 16777216 % 256 := by
  unfold U64 at *; unfold byt V4; omega
theorem byt_V4_12 {y0 y1 y2 y3 : Int} (_h0 : U64 y0) (_h1 : U64 y1) (_h2 : U64 y2) (_h3 : U64 y3) : byt (V4 y0 y1 y2 y3) 12 = y1 / 4294967296 % 256 := by
  unfold U64 at *; unfold byt V4; omega
theorem byt_V4_13 {y0 y1 y2 y3 : Int} (_h0 : U64 y0) (_h1 : U64 y1) (_h2 : U64 y2) (_h3 : U64 y3) : byt (V4 y0 y1 y2 y3) 13 = y1 / 1099511627776 % 256 := by
  unfold U64 at *; unfold byt V4; omega
theorem byt_V4_14 {y0 y1 y2 y3 : Int} (_h0 : U64 y0) (_h1 : U64 y1) (_h2 : U64 y2) (_h3 : U64 y3) : byt (V4 y0 y1 y2 y3) 14 = y1 / 281474976710656 % 256 := by
  unfold U64 at *; unfold byt V4; omega
theorem byt_V4_15 {y0 y1 y2 y3 : Int} (_h0 : U64 y0) (_h1 : U64 y1) (_h2 : U64 y2) (_h3 : U64 y3) : byt (V4 y0 y1 y2 y3) 15 = y1 / 72057594037927936 % 256 := by
  unfold U64 at *; unfold byt V4; omega
theorem byt_V4_16 {y0 y1 y2 y3 : Int} (_h0 : U64 y0) (_h1 : U64 y1) (_h2 : U64 y2) (_h3 : U64 y3) : byt (V4 y0 y1 y2 y3) 16 = y2 % 256 := by
  unfold U64 at *; unfold byt V4; omega
theorem byt_V4_17 {y0 y1 y2 y3 : Int} (_h0 : U64 y0) (_h1 : U64 y1) (_h2 : U64 y2) (_h3 : U64 y3) : byt (V4 y0 y1 y2 y3) 17 = y2 / 256 % 256 := by
  unfold U64 at *; unfold byt V4; omega
theorem byt_V4_18 {y0 y1 y2 y3 : Int} (_h0 : U64 y0) (_h1 : U64 y1) (_h2 : U64 y2) (_h3 : U64 y3) : byt (V4 y0 y1 y2 y3) 18 = y2 / 65536 % 256 := by
  unfold U64 at *; unfold byt V4; omega
theorem byt_V4_19 {y0 y1 y2 y3 : Int} (_h0 : U64 y0) (_h1 : U64 y1) (_h2 : U64 y2) (_h3 : U64 y3) : byt (V4 y0 y1 y2 y3) 19 = y2 / 16777216 % 256 := by
  unfold U64 at *; unfold byt V4; omega
theorem byt_V4_20 {y0 y1 y2 y3 : Int} (_h0 : U64 y0) (_h1 : U64 y1) (_h2 : U64 y2) (_h3 : U64 y3) : byt (V4 y0 y1 y2 y3) 20 = y2 / 4294967296 % 256 := by
  unfold U64 at *; unfold byt V4; omega
theorem byt_V4_21 {y0 y1 y2 y3 : Int} (_h0 : U64 y0) (_h1 : U64 y1) (_h2 : U64 y2) (_h3 : U64 y3) : byt (V4 y0 y1 y2 y3) 21 = y2 / 1099511627776 % 256 := by
  unfold U64 at *; unfold byt V4; omega
theorem byt_V4_22 {y0 y1 y2 y3 : Int} (_h0 : U64 y0) (_h1 : U64 y1) (_h2 : U64 y2) (_h3 : U64 y3) : byt (V4 y0 y1 y2 y3) 22 = y2 / 281474976710656 % 256 := by
  unfold U64 at *; unfold byt V4; omega
theorem byt_V4_23 {y0 y1 y2 y3 : Int} (_h0 : U64 y0) (_h1 : U64 y1) (_h2 : U64 y2) (_h3 : U64 y3) : byt (V4 y0 y1 y2 y3) 23 = y2 / 72057594037927936 % 256 := by
  unfold U64 at *; unfold byt V4; omega
theorem byt_V4_24 {y0 y1 y2 y3 : Int} (_h0 : U64 y0) (_h1 : U64 y1) (_h2 : U64 y2) (_h3 : U64 y3) : byt (V4 y0 y1 y2 y3) 24 = y3 % 256 := by
  unfold U64 at *; unfold byt V4; omega
theorem byt_V4_25 {y0 y1 y2 y3 : Int} (_h0 : U64 y0) (_h1 : U64 y1) (_h2 : U64 y2) (_h3 : U64 y3) : byt (V4 y0 y1 y2 y3) 25 = y3 / 256 % 256 := by
  unfold U64 at *; unfold byt V4; omega
theorem byt_V4_26 {y0 y1 y2 y3 : Int} (_h0 : U64 y0) (_h1 : U64 y1) (_h2 : U64 y2) (_h3 : U64 y3) : byt (V4 y0 y1 y2 y3) 26 = y3 / 65536 % 256 := by
  unfold U64 at *; unfold byt V4; omega
theorem byt_V4_27 {y0 y1 y2 y3 : Int} (_h0 : U64 y0) (_h1 : U64 y1) (_h2 : U64 y2) (_h3 : U64 y3) : byt (V4 y0 y1 y2 y3) 27 = y3 / 16777216 % 256 := by
  unfold U64 at *; unfold byt V4; omega
theorem byt_V4_28 {y0 y1 y2 y3 : Int} (_h0 : U64 y0) (_h1 : U64 y1) (_h2 : U64 y2) (_h3 : U64 y3) : byt (V4 y0 y1 y2 y3) 28 = y3 / 4294967296 % 256 := by
  unfold U64 at *; unfold byt V4; omega
theorem byt_V4_29 {y0 y1 y2 y3 : Int} (_h0 : U64 y0) (_h1 : U64 y1) (_h2 : U64 y2) (_h3 : U64 y3) : byt (V4 y0 y1 y2 y3) 29 = y3 / 1099511627776 % 256 := by
  unfold U64 at *; unfold byt V4; omega
theorem byt_V4_30 {y0 y1 y2 y3 : Int} (_h0 : U64 y0) (_h1 : U64 y1) (_h2 : U64 y2) (_h3 : U64 y3) : byt (V4 y0 y1 y2 y3) 30 = y3 / 281474976710656 % 256 := by
  unfold U64 at *; unfold byt V4; omega
theorem byt_V4_31 {y0 y1 y2 y3 : Int} (_h0 : U64 y0) (_h1 : U64 y1) (_h2 : U64 y2) (_h3 : U64 y3) : byt (V4 y0 y1 y2 y3) 31 = y3 / 72057594037927936 % 256 := by
  unfold U64 at *; unfold byt V4; omega
theorem range32 : List.range 32 = [0, 1, 2, 3, 4, 5, 6, 7, 8, 9, 10, 11, 12, 13, 14, 15, 16, 17, 18, 19, 20, 21, 22, 23, 24, 25, 26, 27, 28, 29, 30, 31] := rfl
theorem put8_all {y0 y1 y2 y3 : Int} (h0 : U64 y0) (h1 : U64 y1) (h2 : U64 y2) (h3 : U64 y3) : put8 (put8 (put8 (put8 (BA 0) 0 y0) 8 y1) 16 y2) 24 y3 = BA (V4 y0 y1 y2 y3) := by
  simp only [put8, BA, range32, List.map_cons, List.map_nil, List.setIfInBounds_toArray, List.set_cons_zero, List.set_cons_succ, Nat.reduceAdd]
  rw [byt_V4_0 h0 h1 h2 h3]
  rw [byt_V4_1 h0 h1 h2 h3]
  rw [byt_V4_2 h0 h1 h2 h3]
  rw [byt_V4_3 h0 h1 h2 h3]
  rw [byt_V4_4 h0 h1 h2 h3]
  rw [byt_V4_5 h0 h1 h2 h3]
  rw [byt_V4_6 h0 h1 h2 h3]
  rw [byt_V4_7 h0 h1 h2 h3]
  rw [byt_V4_8 h0 h1 h2 h3]
  rw [byt_V4_9 h0 h1 h2 h3]
  rw [byt_V4_10 h0 h1 h2 h3]
  rw [byt_V4_11 h0 h1 h2 h3]
  rw [byt_V4_12 h0 h1 h2 h3]
  rw [byt_V4_13 h0 h1 h2 h3]
  rw [byt_V4_14 h0 h1 h2 h3]
  rw [byt_V4_15 h0 h1 h2 h3]
  rw [byt_V4_16 h0 h1 h2 h3]
  rw [byt_V4_17 h0 h1 h2 h3]
  rw [byt_V4_18 h0 h1 h2 h3]
  rw [byt_V4_19 h0 h1 h2 h3]
  rw [byt_V4_20 h0 h1 h2 h3]
  rw [byt_V4_21 h0 h1 h2 h3]
  rw [byt_V4_22 h0 h1 h2 h3]
  rw [byt_V4_23 h0 h1 h2 h3]
  rw [byt_V4_24 h0 h1 h2 h3]
  rw [byt_V4_25 h0 h1 h2 h3]
  rw [byt_V4_26 h0 h1 h2 h3]
  rw [byt_V4_27 h0 h1 h2 h3]
  rw [byt_V4_28 h0 h1 h2 h3]
  rw [byt_V4_29 h0 h1 h2 h3]
  rw [byt_V4_30 h0 h1 h2 h3]
  rw [byt_V4_31 h0 h1 h2 h3]
theorem bheap {B : Nat} {w w' : World} (h : Below B w w') {k : Nat} {o : Obj} (hk : w.heap[k]? = some o) (hB : k < B) : w'.heap[k]? = some o := (h.block k hB).trans hk
theorem heap_lt {w : World} {k : Nat} {o : Obj} (h : w.heap[k]? = some o) : k < w.heap.size := (Array.getElem?_eq_some_iff.1 h).1
theorem only_setRow (w : World) (g : Nat) (cs : Array Value) : Only g w (w.setRow g cs) :=
  ⟨rfl, rfl, rfl, by simp, fun k hk => setRow_other w g k cs hk⟩
/-- A whole row into block g of whatever world: behind it a world of which only this is known. -/
theorem st_row {P : Program} {ops : Array Oper} {rest : List Oper} {o : Oper} {a : Act} {w : World} {Q : Exit → Act → World → Prop} (hgd : o.guard = none) (ty : TypeId) (x y : Operand) (ho : o.op = .store ty x y)
    (g : Nat) (cells : Array Value) (hx : a.eval x = .pointer (some ⟨g, 0, none⟩)) (hy : a.eval y = .agg cells)
    (t : TypeId) (old : Array Value) (hg : w.heap[g]? = some (.cells old t (0, 0))) (hi : (P.info? ty).map (·.size) = some cells.size)
    (hold : old.size = cells.size) (h1 : cells.all (·.oneCell') = true)
    (h : ∀ w2, w2.heap[g]? = some (.cells cells t (0, 0)) → Only g w w2 → wpList P ops Q rest (a.put o.dst undef) w2) : wpList P ops Q (o :: rest) a w :=
  wpList_store_row hgd ty x y ho g cells hx hy t old hg hi hold h1 (h _ (setRow_heap w g old cells t (0, 0) hg) (only_setRow w g cells))
theorem wp_gen {P : Program} {c : Code} {Q : Exit → Act → World → Prop} {a : Act} {w : World} (I : World → Prop) (hI : I w) (h : ∀ w', I w' → c.wp P Q a w') : c.wp P Q a w := h w hI
theorem wrap_0 : IntKind.i64.wrap 0 = 0 := by decide +kernel
theorem wrap_8 : IntKind.i64.wrap 8 = 8 := by decide +kernel
theorem wrap_16 : IntKind.i64.wrap 16 = 16 := by decide +kernel
theorem wrap_24 : IntKind.i64.wrap 24 = 24 := by decide +kernel
theorem wrap_32 : IntKind.i64.wrap 32 = 32 := by decide +kernel
theorem st_limbs {ops : Array Oper} {rest : List Oper} {o : Oper} {a : Act} {w : World} {Q : Exit → Act → World → Prop} (hgd : o.guard = none) (x y : Operand) (ho : o.op = .store 38 x y)
    (g : Nat) (y0 y1 y2 y3 : Int) (hx : a.eval x = .pointer (some ⟨g, 0, none⟩)) (hy : a.eval y = .agg #[.int .u64 y0, .int .u64 y1, .int .u64 y2, .int .u64 y3])
    (v0 v1 v2 v3 : Value) (hg : w.heap[g]? = some (.cells #[v0, v1, v2, v3] 38 (0, 0)))
    (h : ∀ w2, w2.heap[g]? = some (.cells #[.int .u64 y0, .int .u64 y1, .int .u64 y2, .int .u64 y3] 38 (0, 0)) → Only g w w2 → wpList Tryd.prog ops Q rest (a.put o.dst undef) w2) : wpList Tryd.prog ops Q (o :: rest) a w :=
  st_row hgd 38 x y ho g _ hx hy 38 _ hg (by kernel_rfl) rfl (by simp [Value.oneCell']) h
theorem BA_one (n : Int) : (BA n).all (·.oneCell') = true := by simp [BA, Value.oneCell']
theorem info32 : (Tryd.prog.info? 24).map (·.size) = some 32 := by kernel_rfl
theorem st_bytes {ops : Array Oper} {rest : List Oper} {o : Oper} {a : Act} {w : World} {Q : Exit → Act → World → Prop} (hgd : o.guard = none) (x y : Operand) (ho : o.op = .store 24 x y)
    (g : Nat) (n : Int) (hx : a.eval x = .pointer (some ⟨g, 0, none⟩)) (hy : a.eval y = .agg (BA n))
    (old : Array Value) (hg : w.heap[g]? = some (.cells old 24 (0, 0))) (hold : old.size = 32)
    (h : ∀ w2, w2.heap[g]? = some (.cells (BA n) 24 (0, 0)) → Only g w w2 → wpList Tryd.prog ops Q rest (a.put o.dst undef) w2) : wpList Tryd.prog ops Q (o :: rest) a w :=
  st_row hgd 24 x y ho g _ hx hy 24 _ hg (by rw [BA_size]; exact info32) (by rw [BA_size]; exact hold) (BA_one n) h
theorem ld_bytes {ops : Array Oper} {rest : List Oper} {o : Oper} {a : Act} {w : World} {Q : Exit → Act → World → Prop} (hgd : o.guard = none) (x : Operand) (ho : o.op = .load 24 x)
    (g : Nat) (cs : Array Value) (hx : a.eval x = .pointer (some ⟨g, 0, none⟩)) (hg : w.heap[g]? = some (.cells cs 24 (0, 0))) (hs : cs.size = 32)
    (h : wpList Tryd.prog ops Q rest (a.put o.dst (.agg cs)) w) : wpList Tryd.prog ops Q (o :: rest) a w :=
  wpList_load_row hgd 24 x ho g hx 24 cs (0, 0) _ hg Tryd.underlying24 rfl (by rw [hs]; exact info32) h
set_option maxHeartbeats 1000000 in
theorem store_any (x0 x1 x2 x3 : Int) (w : World) (h0 : U64 x0) (h1 : U64 x1) (h2 : U64 x2) (h3 : U64 x3) :
    Calls Tryd.prog 30 #[.agg #[.int .u64 x0, .int .u64 x1, .int .u64 x2, .int .u64 x3]] w fun e w' =>
      e = .returned (.agg (BA (V4 x0 x1 x2 x3 % P255))) ∧ Below w.heap.size w w' := by
  have e0 := wrap_0
  have e8 := wrap_8
  have e16 := wrap_16
  have e24 := wrap_24
  have e32 := wrap_32
  go_enter Tryd.func30, Tryd.ntmps30
  go_wp2_with fail
  refine (least_any _ _ _ _ _ h0 h1 h2 h3).mono ?_
  rintro e w1 ⟨y0, y1, y2, y3, hy0, hy1, hy2, hy3, e1, rfl, hb1⟩
  have E1 := Hid.mk e1
  clear e1
  have g1 := bheap hb1 (heap_alloc2_old w _ _) (by simp <;> omega)
  have g2 := bheap hb1 (heap_alloc2_new w _ _) (by simp <;> omega)
  have hB1 : Hid (Below w.heap.size w w1) := Below.trans (((Below.refl _ _).alloc (Nat.le_refl _) _).alloc (by simp) _) (hb1.mono (by simp <;> omega))
  clear hb1
  go_wp2_with (refine st_limbs rfl _ _ rfl _ _ _ _ _ rfl rfl _ _ _ _ g1 ?_; intro w2 g1 o2; have g2 := (o2.block _ (by omega)).trans g2; have hB2 : Hid (Below w.heap.size w w2) := Below.trans hB1.out (o2.below (Nat.le_refl _)); clear o2)
  have hz : w.heap.size + 1 < w2.heap.size := heap_lt g2
  refine wp_gen (fun w3 => w3.heap[w.heap.size]? = some (.cells #[.int .u64 y0, .int .u64 y1, .int .u64 y2, .int .u64 y3] 38 (0, 0)) ∧
    (∃ z : Array Value, w3.heap[w.heap.size + 1]? = some (.cells z 24 (0, 0)) ∧ z.size = 32) ∧ w3.heap[w2.heap.size]? = some (.cells (BA 0) 24 (0, 0)) ∧ Below w.heap.size w w3)
    ⟨(Below.heap_alloc _ _ _ (by omega)).trans g1, ⟨_, (Below.heap_alloc _ _ _ (by omega)).trans g2, rfl⟩, heap_alloc_new _ _, hB2.out.alloc (by omega) _⟩ ?_
  generalize w2.heap.size = b3 at *
  clear g1 g2 hB2
  rintro w3 ⟨g1, ⟨z, g2, sz⟩, g3, hB3⟩
  have cN : ∀ i, w3.cell? ⟨w.heap.size, i, none⟩ = _ := fun i => cell_of_row _ _ i _ _ _ g1
  refine wp_loop_rounds 5 ?_
  rw [rounds_succ]
  go_wp2
  go_region_with (go_at_call 41; refine (putWord_any _ _ _ _ (BA 0) 24 _ ?_ ?_).mono ?_; exact g3; (simp only [BA_size]; omega); rintro e v0 ⟨rfl, p0, o0⟩)
  have g3 := p0
  have g2 := (o0.block _ (by omega)).trans g2
  have cN := fun i => (o0.cell w.heap.size i (by omega)).trans (cN i)
  have hB3 := Below.trans (Below.drew hB3) (Only.below (b := b3) (B := w.heap.size) o0 (by omega))
  clear o0 p0
  go_wp2
  rw [rounds_succ]
  go_wp2
  go_region_with (go_at_call 41; refine (putWord_any _ _ _ _ (put8 (BA 0) 0 y0) 24 _ ?_ ?_).mono ?_; exact g3; (simp only [put8_size, BA_size]; omega); rintro e v1 ⟨rfl, p1, o1⟩)
  have g3 := p1
  have g2 := (o1.block _ (by omega)).trans g2
  have cN := fun i => (o1.cell w.heap.size i (by omega)).trans (cN i)
  have hB3 := Below.trans (Below.drew hB3) (Only.below (b := b3) (B := w.heap.size) o1 (by omega))
  clear o1 p1
  go_wp2
  rw [rounds_succ]
  go_wp2
  go_region_with (go_at_call 41; refine (putWord_any _ _ _ _ (put8 (put8 (BA 0) 0 y0) 8 y1) 24 _ ?_ ?_).mono ?_; exact g3; (simp only [put8_size, BA_size]; omega); rintro e v2 ⟨rfl, p2, o2⟩)
  have g3 := p2
  have g2 := (o2.block _ (by omega)).trans g2
  have cN := fun i => (o2.cell w.heap.size i (by omega)).trans (cN i)
  have hB3 := Below.trans (Below.drew hB3) (Only.below (b := b3) (B := w.heap.size) o2 (by omega))
  clear o2 p2
  go_wp2
  rw [rounds_succ]
  go_wp2
  go_region_with (go_at_call 41; refine (putWord_any _ _ _ _ (put8 (put8 (put8 (BA 0) 0 y0) 8 y1) 16 y2) 24 _ ?_ ?_).mono ?_; exact g3; (simp only [put8_size, BA_size]; omega); rintro e v3 ⟨rfl, p3, o3⟩)
  have g3 := p3
  have g2 := (o3.block _ (by omega)).trans g2
  have cN := fun i => (o3.cell w.heap.size i (by omega)).trans (cN i)
  have hB3 := Below.trans (Below.drew hB3) (Only.below (b := b3) (B := w.heap.size) o3 (by omega))
  clear o3 p3
  go_wp2
  rw [put8_all hy0 hy1 hy2 hy3] at g3
  rw [rounds_succ]
  go_wp2_with (first | (refine ld_bytes rfl _ rfl _ _ rfl g3 (BA_size _) ?_) | (refine st_bytes rfl _ _ rfl _ _ rfl rfl _ g2 sz ?_; intro w5 g5 o5))
  refine bodyPost_ret (v := .agg (BA (V4 x0 x1 x2 x3 % P255))) ?_ rfl ⟨rfl, Below.trans hB3 (Only.below (b := w.heap.size + 1) (B := w.heap.size) o5 (by omega))⟩
  rw [← E1.out]
  exact results_cell_row rfl _ _ _ _ _ _ _ rfl g5 Tryd.underlying24 rfl (by rw [BA_size]; exact info32)
end Go.Proofs.YtgklkkjhoecdoaaDoor
