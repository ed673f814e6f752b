/-
  Own text. Rows of numbers in memory (the first n cells of a block), and steps over them for regions that leave their order open.
-/
import Derived.Test.YtfgebcemdjplnaaA3
import Derived.Lib.BufferMore
import Derived.Lib.SlBytesConst
namespace Go.Proofs.Ytfgebcemdjplnaa
open Go.RowKit Go.Proofs
/-- The first n cells hold these numbers. -/
def rowOb (k : IntKind) (t : TypeId) (n : Nat) (s : Nat → Int) (ob : Obj) : Prop := ∃ C fr, ob = .cells C t fr ∧ n ≤ C.size ∧ (∀ i, i < n → ¬ (fr.1 ≤ i ∧ i < fr.2)) ∧ ∀ i, i < n → C[i]? = some (.int k (s i))
def RowAt (w : World) (b : Nat) (k : IntKind) (t : TypeId) (n : Nat) (s : Nat → Int) : Prop := ContOK (rowOb k t n s) w b
theorem RowAt.cell {w : World} {b : Nat} {k : IntKind} {t : TypeId} {n : Nat} {s : Nat → Int} (h : RowAt w b k t n s) (i : Nat) (hi : i < n) : w.cell? ⟨b, i, none⟩ = some (.int k (s i)) := by
  obtain ⟨_, hg, C, fr, rfl, hs, hf, hc⟩ := h
  rw [cell_of_row w b i _ _ _ hg, hc i hi]
theorem RowAt.free {w : World} {b : Nat} {k : IntKind} {t : TypeId} {n : Nat} {s : Nat → Int} (h : RowAt w b k t n s) (i : Nat) (hi : i < n) : w.frozen? ⟨b, i, none⟩ = false := by
  obtain ⟨_, hg, C, fr, rfl, hs, hf, hc⟩ := h
  have := hf i hi
  simp only [World.frozen?, hg]
  simpa using this
theorem RowAt.lt {w : World} {b : Nat} {k : IntKind} {t : TypeId} {n : Nat} {s : Nat → Int} (h : RowAt w b k t n s) : b < w.heap.size := ContOK.lt h
theorem RowAt.block {w w' : World} {b : Nat} {k : IntKind} {t : TypeId} {n : Nat} {s : Nat → Int} (h : RowAt w b k t n s) (e : w'.heap[b]? = w.heap[b]?) : RowAt w' b k t n s := by
  obtain ⟨ob, hg, hc⟩ := h
  exact ⟨ob, e.trans hg, hc⟩
theorem RowAt.below {B : Nat} {w w' : World} {b : Nat} {k : IntKind} {t : TypeId} {n : Nat} {s : Nat → Int} (h : RowAt w b k t n s) (hb : Below B w w') (hB : b < B) : RowAt w' b k t n s := h.block (hb.block b hB)
theorem RowAt.only {g : Nat} {w w' : World} {b : Nat} {k : IntKind} {t : TypeId} {n : Nat} {s : Nat → Int} (h : RowAt w b k t n s) (ho : Only g w w') (hB : b ≠ g) : RowAt w' b k t n s := h.block (ho.block b hB)
theorem RowAt.alloc {w : World} {b : Nat} {k : IntKind} {t : TypeId} {n : Nat} {s : Nat → Int} (h : RowAt w b k t n s) (o : Obj) : RowAt (w.alloc o) b k t n s := h.block (Below.heap_alloc _ _ _ h.lt)
theorem RowAt.other {w : World} {b g i : Nat} {k : IntKind} {t : TypeId} {n : Nat} {s : Nat → Int} (h : RowAt w b k t n s) (v : Value) (hB : b ≠ g) : RowAt (w.setCell ⟨g, i, none⟩ v) b k t n s := h.only only_set hB
theorem RowAt.set {w : World} {b : Nat} {k : IntKind} {t : TypeId} {n : Nat} {s : Nat → Int} (h : RowAt w b k t n s) (i : Nat) (v : Int) : RowAt (w.setCell ⟨b, i, none⟩ (.int k v)) b k t n (upd s i v) := by
  obtain ⟨_, hg, C, fr, rfl, hs, hf, hc⟩ := h
  refine ⟨_, Lib.heap_setCell_same hg _, _, _, rfl, by simpa using hs, hf, fun j hj => ?_⟩
  rw [Array.getElem?_setIfInBounds]
  by_cases e : i = j
  · subst e; simp [upd]; omega
  · rw [if_neg e, hc j hj]; simp only [upd]; rw [if_neg (fun h => e h.symm)]
theorem RowAt.mono {w : World} {b : Nat} {k : IntKind} {t : TypeId} {n m : Nat} {s s' : Nat → Int} (h : RowAt w b k t n s) (hm : m ≤ n) (e : ∀ i, i < m → s i = s' i) : RowAt w b k t m s' := by
  obtain ⟨_, hg, C, fr, rfl, hs, hf, hc⟩ := h
  exact ⟨_, hg, C, fr, rfl, by omega, fun i hi => hf i (by omega), fun i hi => by rw [hc i (by omega), e i hi]⟩
theorem RowAt.of {w : World} {b : Nat} {k : IntKind} {t : TypeId} {n : Nat} {s : Nat → Int} (h : w.heap[b]? = some (.cells (WA k n s) t (0, 0))) : RowAt w b k t n s :=
  ⟨_, h, _, _, rfl, by rw [WA_size]; exact Nat.le_refl _, fun i hi => by simp, fun i hi => WA_get k n s i hi⟩
theorem RowAt.marked {w : World} {b : Nat} {k : IntKind} {t : TypeId} {n p q : Nat} {s : Nat → Int} (h : w.heap[b]? = some (.cells (WA k n s) t (p, q))) (hp : n ≤ p) : RowAt w b k t n s :=
  ⟨_, h, _, _, rfl, by rw [WA_size]; exact Nat.le_refl _, fun i hi => by simp; omega, fun i hi => WA_get k n s i hi⟩
-- steps
theorem exec_idx {a : Act} {o : Oper} {w : World} {x y : Operand} {t : TypeId} (ho : o.op = .indexAddr t x y) (ht : Try.prog.underlying t = some (.slice (Try.prog.elem t))) (h1 : ∀ w, (sizeOf (Try.prog.elem t)).run Try.prog w = .ok 1 w)
    {b f n c i : Nat} (hx : a.eval x = .slice (some ⟨b, f, none⟩) n c) (hy : a.eval y = .int .i64 (i : Int)) (hi : i < n) : (execOp a.eval o).run Try.prog w = .ok (.value (.pointer (some ⟨b, f + i, none⟩))) w := by
  unfold execOp
  simp only [ho, hx, hy, Sem.run_bind]
  rw [run_indexAt_slice w t _ n c .i64 (i : Int) ht, if_pos ⟨by omega, by omega⟩, h1]
  simp [Addr.add]
theorem exec_ld {a : Act} {o : Oper} {w : World} {x : Operand} {t : TypeId} (ho : o.op = .load t x) {p : Addr} (hx : a.eval x = .pointer (some p)) {v : Value} (hr : (Instr.loadAt t (.pointer (some p))).run Try.prog w = .ok v w) : (execOp a.eval o).run Try.prog w = .ok (.value v) w := by
  unfold execOp
  simp [ho, hx, hr]
theorem load_int {w : World} {p : Addr} {n : Int} (h : w.cell? p = some (.int .i64 n)) : (Instr.loadAt 3 (.pointer (some p))).run Try.prog w = .ok (.int .i64 n) w := by
  simp [go_sem, h]
theorem exec_bin {a : Act} {o : Oper} {w : World} {x y : Operand} {op : BinOp} {t u : TypeId} (ho : o.op = .binOp op t x y u) {X Y V : Value} (hg : (eqGuard op t x y X Y).run Try.prog w = .ok () w) (hx : a.eval x = X) (hy : a.eval y = Y) (hr : (binOp op t X Y).run Try.prog w = .ok V w) :
    (execOp a.eval o).run Try.prog w = .ok (.value V) w := by
  unfold execOp
  simp only [ho, hx, hy, Sem.run_bind]
  rw [hg]
  simp [hr]
theorem i64_wrap {n : Int} (h0 : -9223372036854775808 ≤ n) (h1 : n < 9223372036854775808) : IntKind.i64.wrap n = n := by
  rw [IntKind.wrap_i64]; omega
theorem exec_add {a : Act} {o : Oper} {w : World} {x y : Operand} (ho : o.op = .binOp .add 3 x y 3) {m n : Int} (hx : a.eval x = .int .i64 m) (hy : a.eval y = .int .i64 n) (h0 : -9223372036854775808 ≤ m + n) (h1 : m + n < 9223372036854775808) :
    (execOp a.eval o).run Try.prog w = .ok (.value (.int .i64 (m + n))) w := exec_bin ho rfl hx hy (by simp [go_sem, i64_wrap h0 h1])
theorem exec_mul {a : Act} {o : Oper} {w : World} {x y : Operand} (ho : o.op = .binOp .mul 3 x y 3) {m n : Int} (hx : a.eval x = .int .i64 m) (hy : a.eval y = .int .i64 n) (h0 : -9223372036854775808 ≤ m * n) (h1 : m * n < 9223372036854775808) :
    (execOp a.eval o).run Try.prog w = .ok (.value (.int .i64 (m * n))) w := exec_bin ho rfl hx hy (by simp [go_sem, i64_wrap h0 h1])
theorem exec_rem {a : Act} {o : Oper} {w : World} {x : Operand} (ho : o.op = .binOp .rem 3 x (.const (.int .i64 4294967296)) 3) {m : Int} (hx : a.eval x = .int .i64 m) (h0 : 0 ≤ m) (_h1 : m < 9223372036854775808) :
    (execOp a.eval o).run Try.prog w = .ok (.value (.int .i64 (m % 4294967296))) w :=
  exec_bin ho rfl hx rfl (by
    have e : Int.tmod m 4294967296 = m % 4294967296 := Int.tmod_eq_emod_of_nonneg h0
    simp [go_sem, e])
theorem ofInt_i64 (a : Nat) (ha : a < 4294967296) : (BitVec.ofInt 64 (a : Int)).toNat = a := by
  rw [BitVec.ofInt_natCast, BitVec.toNat_ofNat]; exact Nat.mod_eq_of_lt (by omega)
theorem i64_xor {x y : Int} (hx : W32 x) (hy : W32 y) : bits .xor .i64 x y = xorw x y := by
  unfold W32 at hx hy
  obtain ⟨a, rfl⟩ := Int.eq_ofNat_of_zero_le hx.1
  obtain ⟨b, rfl⟩ := Int.eq_ofNat_of_zero_le hy.1
  have h := Nat.xor_lt_two_pow (x := a) (y := b) (n := 32) (by omega) (by omega)
  show IntKind.i64.wrap ((BitVec.ofInt 64 (a : Int) ^^^ BitVec.ofInt 64 (b : Int)).toNat : Int) = _
  rw [BitVec.toNat_xor, ofInt_i64 a (by omega), ofInt_i64 b (by omega), i64_wrap (by omega) (by omega)]
  simp [xorw]
theorem i64_or {x y : Int} (hx : W32 x) (hy : W32 y) : bits .or .i64 x y = ((x.toNat ||| y.toNat : Nat) : Int) := by
  unfold W32 at hx hy
  obtain ⟨a, rfl⟩ := Int.eq_ofNat_of_zero_le hx.1
  obtain ⟨b, rfl⟩ := Int.eq_ofNat_of_zero_le hy.1
  have h := Nat.or_lt_two_pow (x := a) (y := b) (n := 32) (by omega) (by omega)
  show IntKind.i64.wrap ((BitVec.ofInt 64 (a : Int) ||| BitVec.ofInt 64 (b : Int)).toNat : Int) = _
  rw [BitVec.toNat_or, ofInt_i64 a (by omega), ofInt_i64 b (by omega), i64_wrap (by omega) (by omega)]
  simp
theorem exec_xor {a : Act} {o : Oper} {w : World} {x y : Operand} (ho : o.op = .binOp .xor 3 x y 3) {m n : Int} (hx : a.eval x = .int .i64 m) (hy : a.eval y = .int .i64 n) (hm : W32 m) (hn : W32 n) :
    (execOp a.eval o).run Try.prog w = .ok (.value (.int .i64 (xorw m n))) w := exec_bin ho rfl hx hy (by simp [go_sem, i64_xor hm hn])
theorem act_cell {o : Oper} {a : Act} {w : World} {K : Act → World → Prop} {Q : Exit → Act → World → Prop} {x y : Operand} (ho : o.op = .store 3 x y) {b i n : Nat} {s : Nat → Int} {v : Int} (hx : a.eval x = .pointer (some ⟨b, i, none⟩)) (hy : a.eval y = .int .i64 v)
    (hr : RowAt w b .i64 3 n s) (hi : i < n) (h : ∀ w', RowAt w' b .i64 3 n (upd s i v) → Only b w w' → K (a.put o.dst undef) w') : o.wp Try.prog a w K Q := by
  have hc := hr.cell i hi
  have hf := hr.free i hi
  have h' := h _ (hr.set i v) only_set
  unfold Oper.wp execOp
  simp only [ho, hx, hy]
  simp [go_sem, hc, hf]
  exact h'
end Go.Proofs.Ytfgebcemdjplnaa
