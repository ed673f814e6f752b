/-
  Own text. Rows and arrays of numbers in memory; steps over them for walks and for regions that leave their order open.
-/
import Derived.Test.YtfbeclleeehaaaaBs
import Derived.OpenShut
import Derived.Lib.BufferMore
import Derived.Lib.SlBytesConst
namespace Go.Proofs.Ytfbeclleeehaaaa
open Go.RowKit Go.Proofs
def W32 (x : Int) : Prop := 0 ≤ x ∧ x < 4294967296
def addw (x y : Int) : Int := (x + y) % 4294967296
def xorw (x y : Int) : Int := ((x.toNat ^^^ y.toNat : Nat) : Int)
theorem addw_w (x y : Int) : W32 (addw x y) := by unfold W32 addw; omega
theorem xorw_w {x y : Int} (hx : W32 x) (hy : W32 y) : W32 (xorw x y) := by
  unfold W32 at *
  have := Nat.xor_lt_two_pow (x := x.toNat) (y := y.toNat) (n := 32) (by omega) (by omega)
  unfold xorw
  omega
/-- A row of n numbers. -/
def WA (k : IntKind) (n : Nat) (s : Nat → Int) : Array Value := ((List.range n).map fun i => Value.int k (s i)).toArray
theorem WA_size (k : IntKind) (n : Nat) (s : Nat → Int) : (WA k n s).size = n := by simp [WA]
theorem WA_get (k : IntKind) (n : Nat) (s : Nat → Int) (i : Nat) (h : i < n) : (WA k n s)[i]? = some (.int k (s i)) := by simp [WA, h]
def upd (s : Nat → Int) (i : Nat) (v : Int) : Nat → Int := fun j => if j = i then v else s j
theorem WA_ext {cs : Array Value} {k : IntKind} {n : Nat} {s : Nat → Int} (hs : cs.size = n) (h : ∀ i, i < n → cs[i]? = some (.int k (s i))) : cs = WA k n s := by
  apply Array.ext_getElem?
  intro i
  by_cases hi : i < n
  · rw [h i hi, WA_get k n s i hi]
  · rw [Array.getElem?_eq_none (by omega), Array.getElem?_eq_none (by rw [WA_size]; omega)]
theorem WA_set (k : IntKind) (n : Nat) (s : Nat → Int) (i : Nat) (v : Int) (_h : i < n) : (WA k n s).setIfInBounds i (.int k v) = WA k n (upd s i v) := by
  apply WA_ext
  · simp [WA_size]
  · intro j hj
    rw [Array.getElem?_setIfInBounds]
    by_cases e : i = j
    · subst e; simp [WA_size, hj, upd]
    · rw [if_neg e, WA_get k n s j hj]; simp only [upd]; rw [if_neg (fun h => e h.symm)]
theorem WA_congr {k : IntKind} {n : Nat} {s t : Nat → Int} (h : ∀ i, i < n → s i = t i) : WA k n s = WA k n t :=
  WA_ext (WA_size k n s) (fun i hi => by rw [WA_get k n s i hi, h i hi])
theorem xorw_back {x y : Int} (hx : W32 x) (_hy : W32 y) : xorw (xorw x y) y = x := by
  unfold xorw W32 at *
  simp only [Int.toNat_natCast, Nat.xor_assoc, Nat.xor_self, Nat.xor_zero]
  omega
theorem w32_wf {x : Int} (h : (Lit.int .u32 x).wf = true) : W32 x := by
  have := bounds_u32 h
  unfold W32; omega
/-- The first n cells hold these numbers. -/
def rowOb (k : IntKind) (t : TypeId) (n : Nat) (s : Nat → Int) (ob : Obj) : Prop := ∃ C fr, ob = .cells C t fr ∧ n ≤ C.size ∧ (∀ i, i < n → ¬ (fr.1 ≤ i ∧ i < fr.2)) ∧ ∀ i, i < n → C[i]? = some (.int k (s i))
def RowAt (w : World) (b : Nat) (k : IntKind) (t : TypeId) (n : Nat) (s : Nat → Int) : Prop := ContOK (rowOb k t n s) w b
theorem RowAt.cell {w : World} {b : Nat} {k : IntKind} {t : TypeId} {n : Nat} {s : Nat → Int} (h : RowAt w b k t n s) (i : Nat) (hi : i < n) : w.cell? ⟨b, i, none⟩ = some (.int k (s i)) := by
  obtain ⟨_, hg, C, fr, rfl, hs, hf, hc⟩ := h
  rw [cell_of_row w b i _ _ _ hg, hc i hi]
theorem RowAt.free {w : World} {b : Nat} {k : IntKind} {t : TypeId} {n : Nat} {s : Nat → Int} (h : RowAt w b k t n s) (i : Nat) (hi : i < n) : w.frozen? ⟨b, i, none⟩ = false := by
  obtain ⟨_, hg, C, fr, rfl, hs, hf, hc⟩ := h
  have := hf i hi
  simp only [World.frozen?, hg]
  simpa using this
theorem RowAt.lt {w : World} {b : Nat} {k : IntKind} {t : TypeId} {n : Nat} {s : Nat → Int} (h : RowAt w b k t n s) : b < w.heap.size := ContOK.lt h
theorem RowAt.block {w w' : World} {b : Nat} {k : IntKind} {t : TypeId} {n : Nat} {s : Nat → Int} (h : RowAt w b k t n s) (e : w'.heap[b]? = w.heap[b]?) : RowAt w' b k t n s := by
  obtain ⟨ob, hg, hc⟩ := h
  exact ⟨ob, e.trans hg, hc⟩
theorem RowAt.below {B : Nat} {w w' : World} {b : Nat} {k : IntKind} {t : TypeId} {n : Nat} {s : Nat → Int} (h : RowAt w b k t n s) (hb : Below B w w') (hB : b < B) : RowAt w' b k t n s := h.block (hb.block b hB)
theorem RowAt.only {g : Nat} {w w' : World} {b : Nat} {k : IntKind} {t : TypeId} {n : Nat} {s : Nat → Int} (h : RowAt w b k t n s) (ho : Only g w w') (hB : b ≠ g) : RowAt w' b k t n s := h.block (ho.block b hB)
theorem RowAt.alloc {w : World} {b : Nat} {k : IntKind} {t : TypeId} {n : Nat} {s : Nat → Int} (h : RowAt w b k t n s) (o : Obj) : RowAt (w.alloc o) b k t n s := h.block (Below.heap_alloc _ _ _ h.lt)
theorem RowAt.other {w : World} {b g i : Nat} {k : IntKind} {t : TypeId} {n : Nat} {s : Nat → Int} (h : RowAt w b k t n s) (v : Value) (hB : b ≠ g) : RowAt (w.setCell ⟨g, i, none⟩ v) b k t n s := h.only only_set hB
theorem RowAt.set {w : World} {b : Nat} {k : IntKind} {t : TypeId} {n : Nat} {s : Nat → Int} (h : RowAt w b k t n s) (i : Nat) (v : Int) : RowAt (w.setCell ⟨b, i, none⟩ (.int k v)) b k t n (upd s i v) := by
  obtain ⟨_, hg, C, fr, rfl, hs, hf, hc⟩ := h
  refine ⟨_, Lib.heap_setCell_same hg _, _, _, rfl, by simpa using hs, hf, fun j hj => ?_⟩
  rw [Array.getElem?_setIfInBounds]
  by_cases e : i = j
  · subst e; simp [upd]; omega
  · rw [if_neg e, hc j hj]; simp only [upd]; rw [if_neg (fun h => e h.symm)]
theorem RowAt.mono {w : World} {b : Nat} {k : IntKind} {t : TypeId} {n m : Nat} {s s' : Nat → Int} (h : RowAt w b k t n s) (hm : m ≤ n) (e : ∀ i, i < m → s i = s' i) : RowAt w b k t m s' := by
  obtain ⟨_, hg, C, fr, rfl, hs, hf, hc⟩ := h
  exact ⟨_, hg, C, fr, rfl, by omega, fun i hi => hf i (by omega), fun i hi => by rw [hc i (by omega), e i hi]⟩
theorem RowAt.of {w : World} {b : Nat} {k : IntKind} {t : TypeId} {n : Nat} {s : Nat → Int} (h : w.heap[b]? = some (.cells (WA k n s) t (0, 0))) : RowAt w b k t n s :=
  ⟨_, h, _, _, rfl, by rw [WA_size]; exact Nat.le_refl _, fun i hi => by simp, fun i hi => WA_get k n s i hi⟩
theorem RowAt.marked {w : World} {b : Nat} {k : IntKind} {t : TypeId} {n p q : Nat} {s : Nat → Int} (h : w.heap[b]? = some (.cells (WA k n s) t (p, q))) (hp : n ≤ p) : RowAt w b k t n s :=
  ⟨_, h, _, _, rfl, by rw [WA_size]; exact Nat.le_refl _, fun i hi => by simp; omega, fun i hi => WA_get k n s i hi⟩
-- steps
theorem exec_idx {a : Act} {o : Oper} {w : World} {x y : Operand} {t : TypeId} (ho : o.op = .indexAddr t x y) (ht : Try.prog.underlying t = some (.slice (Try.prog.elem t))) (h1 : ∀ w, (sizeOf (Try.prog.elem t)).run Try.prog w = .ok 1 w)
    {b f n c i : Nat} (hx : a.eval x = .slice (some ⟨b, f, none⟩) n c) (hy : a.eval y = .int .i64 (i : Int)) (hi : i < n) : (execOp a.eval o).run Try.prog w = .ok (.value (.pointer (some ⟨b, f + i, none⟩))) w := by
  unfold execOp
  simp only [ho, hx, hy, Sem.run_bind]
  rw [run_indexAt_slice w t _ n c .i64 (i : Int) ht, if_pos ⟨by omega, by omega⟩, h1]
  simp [Addr.add]
theorem exec_ld {a : Act} {o : Oper} {w : World} {x : Operand} {t : TypeId} (ho : o.op = .load t x) {p : Addr} (hx : a.eval x = .pointer (some p)) {v : Value} (hr : (Instr.loadAt t (.pointer (some p))).run Try.prog w = .ok v w) : (execOp a.eval o).run Try.prog w = .ok (.value v) w := by
  unfold execOp
  simp [ho, hx, hr]
theorem load_int {w : World} {p : Addr} {n : Int} (h : w.cell? p = some (.int .i64 n)) : (Instr.loadAt 3 (.pointer (some p))).run Try.prog w = .ok (.int .i64 n) w := by
  simp [go_sem, h]
theorem exec_bin {a : Act} {o : Oper} {w : World} {x y : Operand} {op : BinOp} {t u : TypeId} (ho : o.op = .binOp op t x y u) {X Y V : Value} (hg : (eqGuard op t x y X Y).run Try.prog w = .ok () w) (hx : a.eval x = X) (hy : a.eval y = Y) (hr : (binOp op t X Y).run Try.prog w = .ok V w) :
    (execOp a.eval o).run Try.prog w = .ok (.value V) w := by
  unfold execOp
  simp only [ho, hx, hy, Sem.run_bind]
  rw [hg]
  simp [hr]
theorem i64_wrap {n : Int} (h0 : -9223372036854775808 ≤ n) (h1 : n < 9223372036854775808) : IntKind.i64.wrap n = n := by
  rw [IntKind.wrap_i64]; omega
theorem exec_add {a : Act} {o : Oper} {w : World} {x y : Operand} (ho : o.op = .binOp .add 3 x y 3) {m n : Int} (hx : a.eval x = .int .i64 m) (hy : a.eval y = .int .i64 n) (h0 : -9223372036854775808 ≤ m + n) (h1 : m + n < 9223372036854775808) :
    (execOp a.eval o).run Try.prog w = .ok (.value (.int .i64 (m + n))) w := exec_bin ho rfl hx hy (by simp [go_sem, i64_wrap h0 h1])
theorem exec_mul {a : Act} {o : Oper} {w : World} {x y : Operand} (ho : o.op = .binOp .mul 3 x y 3) {m n : Int} (hx : a.eval x = .int .i64 m) (hy : a.eval y = .int .i64 n) (h0 : -9223372036854775808 ≤ m * n) (h1 : m * n < 9223372036854775808) :
    (execOp a.eval o).run Try.prog w = .ok (.value (.int .i64 (m * n))) w := exec_bin ho rfl hx hy (by simp [go_sem, i64_wrap h0 h1])
theorem ofInt_i64 (a : Nat) (ha : a < 4294967296) : (BitVec.ofInt 64 (a : Int)).toNat = a := by
  rw [BitVec.ofInt_natCast, BitVec.toNat_ofNat]; exact Nat.mod_eq_of_lt (by omega)
theorem i64_xor {x y : Int} (hx : W32 x) (hy : W32 y) : bits .xor .i64 x y = xorw x y := by
  unfold W32 at hx hy
  obtain ⟨a, rfl⟩ := Int.eq_ofNat_of_zero_le hx.1
  obtain ⟨b, rfl⟩ := Int.eq_ofNat_of_zero_le hy.1
  have h := Nat.xor_lt_two_pow (x := a) (y := b) (n := 32) (by omega) (by omega)
  show IntKind.i64.wrap ((BitVec.ofInt 64 (a : Int) ^^^ BitVec.ofInt 64 (b : Int)).toNat : Int) = _
  rw [BitVec.toNat_xor, ofInt_i64 a (by omega), ofInt_i64 b (by omega), i64_wrap (by omega) (by omega)]
  simp [xorw]
theorem i64_or {x y : Int} (hx : W32 x) (hy : W32 y) : bits .or .i64 x y = ((x.toNat ||| y.toNat : Nat) : Int) := by
  unfold W32 at hx hy
  obtain ⟨a, rfl⟩ := Int.eq_ofNat_of_zero_le hx.1
  obtain ⟨b, rfl⟩ := Int.eq_ofNat_of_zero_le hy.1
  have h := Nat.or_lt_two_pow (x := a) (y := b) (n := 32) (by omega) (by omega)
  show IntKind.i64.wrap ((BitVec.ofInt 64 (a : Int) ||| BitVec.ofInt 64 (b : Int)).toNat : Int) = _
  rw [BitVec.toNat_or, ofInt_i64 a (by omega), ofInt_i64 b (by omega), i64_wrap (by omega) (by omega)]
  simp
theorem exec_xor {a : Act} {o : Oper} {w : World} {x y : Operand} (ho : o.op = .binOp .xor 3 x y 3) {m n : Int} (hx : a.eval x = .int .i64 m) (hy : a.eval y = .int .i64 n) (hm : W32 m) (hn : W32 n) :
    (execOp a.eval o).run Try.prog w = .ok (.value (.int .i64 (xorw m n))) w := exec_bin ho rfl hx hy (by simp [go_sem, i64_xor hm hn])
theorem act_cell {o : Oper} {a : Act} {w : World} {K : Act → World → Prop} {Q : Exit → Act → World → Prop} {x y : Operand} (ho : o.op = .store 3 x y) {b i n : Nat} {s : Nat → Int} {v : Int} (hx : a.eval x = .pointer (some ⟨b, i, none⟩)) (hy : a.eval y = .int .i64 v)
    (hr : RowAt w b .i64 3 n s) (hi : i < n) (h : ∀ w', RowAt w' b .i64 3 n (upd s i v) → Only b w w' → K (a.put o.dst undef) w') : o.wp Try.prog a w K Q := by
  have hc := hr.cell i hi
  have hf := hr.free i hi
  have h' := h _ (hr.set i v) only_set
  unfold Oper.wp execOp
  simp only [ho, hx, hy]
  simp [go_sem, hc, hf]
  exact h'
theorem Touch.drew {T : Nat → Prop} {w w' : World} (h : Touch T w w') : Touch T w w'.drew := ⟨h.os, h.tape, h.output, h.size, h.block⟩
theorem touch_S {w v : World} {b : Nat} {G : List (Nat × Cont)} (hB : w.heap.size ≤ v.heap.size) (hG : ∀ k ∈ G.map (·.1), k = b := by intro k hk; simpa using hk) (u u' : World) (h : Touch (fun k => k = b) w u) (ht : Touch (fun k => v.heap.size ≤ k ∨ k ∈ G.map (·.1)) u u') : Touch (fun k => k = b) w u' :=
  ⟨ht.os.trans h.os, ht.tape.trans h.tape, ht.output.trans h.output, Nat.le_trans h.size ht.size, fun k hk hn => (ht.block k (Nat.lt_of_lt_of_le hk h.size) (fun e => e.elim (fun e => by omega) (fun e => hn (hG k e)))).trans (h.block k hk hn)⟩
theorem size_int (w : World) : (sizeOf (Try.prog.elem 45)).run Try.prog w = .ok 1 w := by kernel_rfl
theorem cell0 {w : World} {b n : Nat} {s : Nat → Int} {x : Nat} (h : RowAt w b .i64 3 n s) (hx : x < n) : w.cell? ⟨b, 0 + x, none⟩ = some (.int .i64 (s x)) := by rw [Nat.zero_add]; exact h.cell x hx
theorem ptr0 {v : Value} {b x : Nat} (h : v = .pointer (some ⟨b, 0 + x, none⟩)) : v = .pointer (some ⟨b, x, none⟩) := by rw [Nat.zero_add] at h; exact h
theorem below_touch {b B : Nat} {w w' : World} (h : Touch (fun k => k = b) w w') (hb : B ≤ b) (hB : B ≤ w.heap.size) : Below B w w' := ⟨h.os, h.tape, h.output, h.size, fun k hk => h.block k (by omega) (by omega)⟩
def Byts (n : Nat) (s : Nat → Int) : Prop := ∀ i, i < n → 0 ≤ s i ∧ s i < 256
/-- Block b is an array of n numbers. -/
def ArrAt (w : World) (b : Nat) (k : IntKind) (t : TypeId) (n : Nat) (s : Nat → Int) : Prop := w.heap[b]? = some (.cells (WA k n s) t (0, 0))
theorem ArrAt.row {w : World} {b : Nat} {k : IntKind} {t : TypeId} {n : Nat} {s : Nat → Int} (h : ArrAt w b k t n s) : RowAt w b k t n s := RowAt.of h
theorem ArrAt.cell {w : World} {b : Nat} {k : IntKind} {t : TypeId} {n : Nat} {s : Nat → Int} (h : ArrAt w b k t n s) (i : Nat) (hi : i < n) : w.cell? ⟨b, i, none⟩ = some (.int k (s i)) := h.row.cell i hi
theorem ArrAt.free {w : World} {b : Nat} {k : IntKind} {t : TypeId} {n : Nat} {s : Nat → Int} (h : ArrAt w b k t n s) (i : Nat) : w.frozen? ⟨b, i, none⟩ = false := frozen_of_row w b i _ _ h
theorem ArrAt.lt {w : World} {b : Nat} {k : IntKind} {t : TypeId} {n : Nat} {s : Nat → Int} (h : ArrAt w b k t n s) : b < w.heap.size := heap_lt h
theorem ArrAt.block {w w' : World} {b : Nat} {k : IntKind} {t : TypeId} {n : Nat} {s : Nat → Int} (h : ArrAt w b k t n s) (e : w'.heap[b]? = w.heap[b]?) : ArrAt w' b k t n s := e.trans h
theorem ArrAt.below {B : Nat} {w w' : World} {b : Nat} {k : IntKind} {t : TypeId} {n : Nat} {s : Nat → Int} (h : ArrAt w b k t n s) (hb : Below B w w') (hB : b < B) : ArrAt w' b k t n s := h.block (hb.block b hB)
theorem ArrAt.kept {w w' : World} {b : Nat} {k : IntKind} {t : TypeId} {n : Nat} {s : Nat → Int} (h : ArrAt w b k t n s) (hb : Below w.heap.size w w') : ArrAt w' b k t n s := h.block (hb.block b h.lt)
theorem ArrAt.only {g : Nat} {w w' : World} {b : Nat} {k : IntKind} {t : TypeId} {n : Nat} {s : Nat → Int} (h : ArrAt w b k t n s) (ho : Only g w w') (hB : b ≠ g) : ArrAt w' b k t n s := h.block (ho.block b hB)
theorem ArrAt.alloc {w : World} {b : Nat} {k : IntKind} {t : TypeId} {n : Nat} {s : Nat → Int} (h : ArrAt w b k t n s) (o : Obj) : ArrAt (w.alloc o) b k t n s := h.block (Below.heap_alloc _ _ _ h.lt)
theorem ArrAt.drew {w : World} {b : Nat} {k : IntKind} {t : TypeId} {n : Nat} {s : Nat → Int} (h : ArrAt w b k t n s) : ArrAt w.drew b k t n s := h
theorem ArrAt.other {w : World} {b g i : Nat} {k : IntKind} {t : TypeId} {n : Nat} {s : Nat → Int} (h : ArrAt w b k t n s) (v : Value) (hB : b ≠ g) : ArrAt (w.setCell ⟨g, i, none⟩ v) b k t n s := h.only only_set hB
theorem ArrAt.set {w : World} {b : Nat} {k : IntKind} {t : TypeId} {n : Nat} {s : Nat → Int} (h : ArrAt w b k t n s) (i : Nat) (v : Int) (hi : i < n) : ArrAt (w.setCell ⟨b, i, none⟩ (.int k v)) b k t n (upd s i v) := by
  have := heap_setCell_same w b i _ t (.int k v) h
  rw [WA_set k n s i v hi] at this
  exact this
theorem ArrAt.congr {w : World} {b : Nat} {k : IntKind} {t : TypeId} {n : Nat} {s s' : Nat → Int} (h : ArrAt w b k t n s) (e : ∀ i, i < n → s i = s' i) : ArrAt w b k t n s' := by
  unfold ArrAt; rw [← WA_congr e]; exact h
/-- An array type of n cells. -/
def IsArr (ty n : Nat) : Prop := ∃ m e, Try.prog.underlying ty = some (.array m e) ∧ (Try.prog.info? ty).map (·.size) = some n
theorem WA_one (k : IntKind) (n : Nat) (s : Nat → Int) : (WA k n s).all (·.oneCell') = true := by
  simp [WA, Value.oneCell']
theorem ld_arr {ops : Array Oper} {rest : List Oper} {d : Option Tmp} {x : Operand} {t ty : TypeId} {ps : String} {af : Array Edge} {a : Act} {w : World} {Q : Exit → Act → World → Prop} {g n : Nat} {k : IntKind} {s : Nat → Int}
    (hA : IsArr ty n) (hg : ArrAt w g k ty n s) (hx : a.eval x = .pointer (some ⟨g, 0, none⟩)) (h : wpList Try.prog ops Q rest (a.put d (.agg (WA k n s))) w) : wpList Try.prog ops Q ({ dst := d, op := .load ty x, type := t, pos := ps, after := af, guard := none } :: rest) a w := by
  obtain ⟨m, e, h1, h3⟩ := hA
  exact wpList_load_row rfl ty x rfl g hx ty _ (0, 0) _ hg h1 rfl (by rw [WA_size]; exact h3) h
theorem st_arr {ops : Array Oper} {rest : List Oper} {d : Option Tmp} {x y : Operand} {t ty : TypeId} {ps : String} {af : Array Edge} {a : Act} {w : World} {Q : Exit → Act → World → Prop} {g n : Nat} {k k' : IntKind} {s s' : Nat → Int}
    (hA : IsArr ty n) (hg : ArrAt w g k' ty n s') (hx : a.eval x = .pointer (some ⟨g, 0, none⟩)) (hy : a.eval y = .agg (WA k n s))
    (h : ∀ w2, ArrAt w2 g k ty n s → Only g w w2 → wpList Try.prog ops Q rest (a.put d undef) w2) : wpList Try.prog ops Q ({ dst := d, op := .store ty x y, type := t, pos := ps, after := af, guard := none } :: rest) a w := by
  obtain ⟨_, _, _, h3⟩ := hA
  exact st_row rfl ty x y rfl g _ hx hy ty _ hg (by rw [WA_size]; exact h3) (by rw [WA_size, WA_size]) (WA_one k n s) h
theorem res_arr {fn : Func} {p : Tmp} {ty : TypeId} (h : fn.results = #[.cell p ty]) {tmps : Array Value} {w : World} {g n : Nat} {k : IntKind} {s : Nat → Int} (hA : IsArr ty n) (hg : ArrAt w g k ty n s) (hp : tmps.getD p undef = .pointer (some ⟨g, 0, none⟩)) :
    (results fn tmps).run Try.prog w = .ok (.agg (WA k n s)) w := by
  obtain ⟨m, e, h1, h3⟩ := hA
  exact results_cell_row h tmps w g ty _ (0, 0) _ hp hg h1 rfl (by rw [WA_size]; exact h3)
theorem run_load32 {w : World} {p : Addr} {n : Int} (h : w.cell? p = some (.int .u32 n)) : (Instr.loadAt 70 (.pointer (some p))).run Try.prog w = .ok (.int .u32 n) w := by
  simp [go_sem, h]
theorem ld_cell {ops : Array Oper} {rest : List Oper} {d : Option Tmp} {x : Operand} {t ty : TypeId} {ps : String} {af : Array Edge} {a : Act} {w : World} {Q : Exit → Act → World → Prop} {g n i : Nat} {s : Nat → Int}
    (hg : ArrAt w g .u32 ty n s) (hx : a.eval x = .pointer (some ⟨g, i, none⟩)) (hi : i < n) (h : wpList Try.prog ops Q rest (a.put d (.int .u32 (s i))) w) : wpList Try.prog ops Q ({ dst := d, op := .load 70 x, type := t, pos := ps, after := af, guard := none } :: rest) a w :=
  wl_value rfl (exec_ld rfl hx (run_load32 (hg.cell i hi))) h
theorem act_cell32 {o : Oper} {a : Act} {w : World} {K : Act → World → Prop} {Q : Exit → Act → World → Prop} {x y : Operand} (ho : o.op = .store 70 x y) {g n i : Nat} {ty : TypeId} {s : Nat → Int} {v : Int} (hx : a.eval x = .pointer (some ⟨g, i, none⟩)) (hy : a.eval y = .int .u32 v)
    (hg : ArrAt w g .u32 ty n s) (hi : i < n) (h : ∀ w', ArrAt w' g .u32 ty n (upd s i v) → Only g w w' → K (a.put o.dst undef) w') : o.wp Try.prog a w K Q := by
  have hc := hg.cell i hi
  have hf := hg.free i
  have h' := h _ (hg.set i v hi) only_set
  unfold Oper.wp execOp
  simp only [ho, hx, hy]
  simp [go_sem, hc, hf]
  exact h'
theorem st_cell {ops : Array Oper} {rest : List Oper} {d : Option Tmp} {x y : Operand} {t ty : TypeId} {ps : String} {af : Array Edge} {a : Act} {w : World} {Q : Exit → Act → World → Prop} {g n i : Nat} {s : Nat → Int} {v : Int}
    (hg : ArrAt w g .u32 ty n s) (hx : a.eval x = .pointer (some ⟨g, i, none⟩)) (hy : a.eval y = .int .u32 v) (hi : i < n) (h : ∀ w2, ArrAt w2 g .u32 ty n (upd s i v) → Only g w w2 → wpList Try.prog ops Q rest (a.put d undef) w2) :
    wpList Try.prog ops Q ({ dst := d, op := .store 70 x y, type := t, pos := ps, after := af, guard := none } :: rest) a w :=
  wl_act rfl (act_cell32 rfl hx hy hg hi h)
theorem Touch.trans {b : Nat} {u v w : World} (h : Touch (fun k => k = b) u v) (k : Touch (fun k => k = b) v w) : Touch (fun k => k = b) u w :=
  ⟨k.os.trans h.os, k.tape.trans h.tape, k.output.trans h.output, Nat.le_trans h.size k.size, fun i hi hn => (k.block i (Nat.lt_of_lt_of_le hi h.size) hn).trans (h.block i hi hn)⟩
theorem exec_sl {a : Act} {o : Oper} {w : World} {x : Operand} {t : TypeId} (ho : o.op = .slice t x none none none) {v r : Value} (hx : a.eval x = v) (hr : (Instr.sliceAt t v none none none).run Try.prog w = .ok r w) : (execOp a.eval o).run Try.prog w = .ok (.value r) w := by
  unfold execOp
  simp [ho, hx, hr]
theorem exec_idxA {a : Act} {o : Oper} {w : World} {x y : Operand} {t : TypeId} {n : Nat} (ho : o.op = .indexAddr t x y) (ht : Try.prog.underlying t = some (.array (Try.prog.arrayLen t) (Try.prog.elem t))) (hn : Try.prog.arrayLen t = n) (h1 : ∀ w, (sizeOf (Try.prog.elem t)).run Try.prog w = .ok 1 w)
    {b i : Nat} (hx : a.eval x = .pointer (some ⟨b, 0, none⟩)) (hy : a.eval y = .int .i64 (i : Int)) (hi : i < n) : (execOp a.eval o).run Try.prog w = .ok (.value (.pointer (some ⟨b, i, none⟩))) w := by
  unfold execOp
  simp only [ho, hx, hy, Sem.run_bind]
  rw [run_indexAt_array w t _ .i64 (i : Int) ht, if_pos ⟨by omega, by omega⟩, h1]
  simp only [Result.andThen_ok, Addr.add_lit, Int.toNat_natCast, Nat.mul_one, Nat.zero_add, Sem.run_pure]
theorem exec_add32 {a : Act} {o : Oper} {w : World} {x y : Operand} (ho : o.op = .binOp .add 70 x y 70) {m n : Int} (hx : a.eval x = .int .u32 m) (hy : a.eval y = .int .u32 n) :
    (execOp a.eval o).run Try.prog w = .ok (.value (.int .u32 (addw m n))) w := exec_bin ho rfl hx hy (by simp [go_sem, addw, IntKind.wrap_u32'])
theorem drop_arr {w : World} {b : Nat} {k : IntKind} {t : TypeId} {n : Nat} {s : Nat → Int} (h : ArrAt w b k t n s) : ContOK (isOb (WA k n s) t) w b := obIn h
theorem exec_slL {a : Act} {o : Oper} {w : World} {x y : Operand} {t : TypeId} (ho : o.op = .slice t x (some y) none none) {v u r : Value} (hx : a.eval x = v) (hy : a.eval y = u) (hr : (Instr.sliceAt t v (some u) none none).run Try.prog w = .ok r w) : (execOp a.eval o).run Try.prog w = .ok (.value r) w := by
  unfold execOp
  simp [ho, hx, hy, hr]
theorem slArrL {t : TypeId} {n : Nat} (ht : Try.prog.underlying t = some (.array (Try.prog.arrayLen t) (Try.prog.elem t))) (hn : Try.prog.arrayLen t = n) (h1 : ∀ w, (sizeOf (Try.prog.elem t)).run Try.prog w = .ok 1 w) (b l : Nat) (w : World) (hl : l < n) :
    (Instr.sliceAt t (.pointer (some ⟨b, 0, none⟩)) (some (.int .i64 (l : Int))) none none).run Try.prog w = .ok (.slice (some ⟨b, l, none⟩) (n - l) (n - l)) w := by
  rw [run_sliceAt_array_l (P := Try.prog) w t ⟨b, 0, none⟩ ht .i64 (l : Int) (by omega) (by rw [hn]; omega), h1, hn]
  simp only [Result.andThen_ok, slicedAt, Int.toNat_natCast, Nat.mul_one]
  rw [if_neg (by omega), Addr.add_lit, Nat.zero_add]
theorem exec_conv {a : Act} {o : Oper} {w : World} {x : Operand} {s t : TypeId} (ho : o.op = .convert s t x) {v r : Value} (hx : a.eval x = v) (hr : (convert s t v).run Try.prog w = .ok r w) : (execOp a.eval o).run Try.prog w = .ok (.value r) w := by
  unfold execOp
  simp [ho, hx, hr]
theorem conv32 {c : Int} (hc : W32 c) (w : World) : (convert 70 3 (.int .u32 c)).run Try.prog w = .ok (.int .i64 c) w := by
  unfold W32 at hc
  simp [go_sem, i64_wrap (n := c) (by omega) (by omega)]
theorem heap_a4 (w : World) (A B C D : Obj) : ((((w.alloc A).alloc B).alloc C).alloc D).heap[w.heap.size + 1 + 1 + 1]? = some D := by
  have h := heap_alloc_new (((w.alloc A).alloc B).alloc C) D
  have e : (((w.alloc A).alloc B).alloc C).heap.size = w.heap.size + 1 + 1 + 1 := by simp
  rwa [e] at h
theorem look_arr {a : Act} {o : Oper} {w : World} {x : Operand} {ty : TypeId} {g n : Nat} {k : IntKind} {s : Nat → Int} (ho : o.op = .load ty x) (hA : IsArr ty n) (hg : ArrAt w g k ty n s) (hx : a.eval x = .pointer (some ⟨g, 0, none⟩)) : (execOp a.eval o).run Try.prog w = .ok (.value (.agg (WA k n s))) w := by
  obtain ⟨m, e, h1, h3⟩ := hA
  unfold execOp
  simp only [ho, hx]
  have := run_loadVar_row (P := Try.prog) w g ty ty (WA k n s) (0, 0) _ hg h1 rfl (by rw [WA_size]; exact h3)
  simp [Instr.loadAt, Instr.sureAddr, this]
theorem xorw_comm (x y : Int) : xorw x y = xorw y x := by unfold xorw; rw [Nat.xor_comm]
theorem xorw_b {x y : Int} (hx : 0 ≤ x ∧ x < 256) (hy : 0 ≤ y ∧ y < 256) : 0 ≤ xorw x y ∧ xorw x y < 256 := by
  have := Nat.xor_lt_two_pow (x := x.toNat) (y := y.toNat) (n := 8) (by omega) (by omega)
  unfold xorw
  omega
theorem run_load8 {w : World} {p : Addr} {n : Int} (h : w.cell? p = some (.int .u8 n)) : (Instr.loadAt 5 (.pointer (some p))).run Try.prog w = .ok (.int .u8 n) w := by
  simp [go_sem, h]
theorem act_cell8 {o : Oper} {a : Act} {w : World} {K : Act → World → Prop} {Q : Exit → Act → World → Prop} {x y : Operand} (ho : o.op = .store 5 x y) {g n i : Nat} {ty : TypeId} {s : Nat → Int} {v : Int} (hx : a.eval x = .pointer (some ⟨g, i, none⟩)) (hy : a.eval y = .int .u8 v)
    (hg : ArrAt w g .u8 ty n s) (hi : i < n) (h : ∀ w', ArrAt w' g .u8 ty n (upd s i v) → Only g w w' → K (a.put o.dst undef) w') : o.wp Try.prog a w K Q := by
  have hc := hg.cell i hi
  have hf := hg.free i
  have h' := h _ (hg.set i v hi) only_set
  unfold Oper.wp execOp
  simp only [ho, hx, hy]
  simp [go_sem, hc, hf]
  exact h'
theorem exec_xor8 {a : Act} {o : Oper} {w : World} {x y : Operand} (ho : o.op = .binOp .xor 5 x y 5) {m n : Int} (hx : a.eval x = .int .u8 m) (hy : a.eval y = .int .u8 n) (hm : 0 ≤ m ∧ m < 256) (hn : 0 ≤ n ∧ n < 256) :
    (execOp a.eval o).run Try.prog w = .ok (.value (.int .u8 (xorw m n))) w := exec_bin ho rfl hx hy (by simp [go_sem, u8_xor m n hm.1 hm.2 hn.1 hn.2, xorw])
theorem below_Gc {wd : World} {G : List (Nat × Cont)} {B c : Nat} (hc : c ≤ wd.heap.size) (hB : wd.heap.size ≤ B) (hG : GLow c G) (w w' : World) (h : Below c wd w) (ht : Touch (fun k => B ≤ k ∨ k ∈ G.map (·.1)) w w') : Below c wd w' :=
  h.trans ⟨ht.os, ht.tape, ht.output, ht.size, fun k hk => ht.block k (by have := h.size; omega) (fun e => e.elim (fun e => by omega) (fun e => by have := hG.at k e; omega))⟩
theorem act_row8 {o : Oper} {a : Act} {w : World} {K : Act → World → Prop} {Q : Exit → Act → World → Prop} {x y : Operand} (ho : o.op = .store 5 x y) {b i n : Nat} {t : TypeId} {s : Nat → Int} {v : Int} (hx : a.eval x = .pointer (some ⟨b, i, none⟩)) (hy : a.eval y = .int .u8 v)
    (hr : RowAt w b .u8 t n s) (hi : i < n) (h : ∀ w', RowAt w' b .u8 t n (upd s i v) → Only b w w' → K (a.put o.dst undef) w') : o.wp Try.prog a w K Q := by
  have hc := hr.cell i hi
  have hf := hr.free i hi
  have h' := h _ (hr.set i v) only_set
  unfold Oper.wp execOp
  simp only [ho, hx, hy]
  simp [go_sem, hc, hf]
  exact h'
theorem size_byte (w : World) : (sizeOf (Try.prog.elem 36)).run Try.prog w = .ok 1 w := by kernel_rfl
theorem cell8 {w : World} {b n : Nat} {t : TypeId} {s : Nat → Int} {x : Nat} (h : RowAt w b .u8 t n s) (hx : x < n) : w.cell? ⟨b, 0 + x, none⟩ = some (.int .u8 (s x)) := by rw [Nat.zero_add]; exact h.cell x hx
theorem xorw_back8 {x y : Int} (hx : 0 ≤ x ∧ x < 256) (hy : 0 ≤ y ∧ y < 256) : xorw (xorw x y) y = x := xorw_back (by unfold W32; omega) (by unfold W32; omega)
theorem ld_arrG {ops : Array Oper} {rest : List Oper} {d : Option Tmp} {x : Operand} {t ty : TypeId} {ps : String} {af : Array Edge} {gd : Option (Nat × Bool)} {a : Act} {w : World} {Q : Exit → Act → World → Prop} {g n : Nat} {k : IntKind} {s : Nat → Int}
    (hA : IsArr ty n) (hg : ArrAt w g k ty n s) (hx : a.eval x = .pointer (some ⟨g, 0, none⟩)) (hw : Region.wanted { dst := d, op := .load ty x, type := t, pos := ps, after := af, guard := gd } (yielded ops a.tmps) = true) (h : wpList Try.prog ops Q rest (a.put d (.agg (WA k n s))) w) :
    wpList Try.prog ops Q ({ dst := d, op := .load ty x, type := t, pos := ps, after := af, guard := gd } :: rest) a w := wl_value hw (look_arr rfl hA hg hx) h
theorem exec_bin2 {a : Act} {o : Oper} {w : World} {x y : Operand} {op : BinOp} {t u : TypeId} (ho : o.op = .binOp op t x y u) {X Y V : Value} (hx : a.eval x = X) (hy : a.eval y = Y) (hg : (eqGuard op t x y X Y).run Try.prog w = .ok () w) (hr : (binOp op t X Y).run Try.prog w = .ok V w) :
    (execOp a.eval o).run Try.prog w = .ok (.value V) w := exec_bin ho hg hx hy hr
theorem exec_neqI {a : Act} {o : Oper} {w : World} {x y : Operand} (ho : o.op = .binOp .neq 3 x y 3) {m n : Int} (hx : a.eval x = .int .i64 m) (hy : a.eval y = .int .i64 n) (e : m = n) : (execOp a.eval o).run Try.prog w = .ok (.value (.bool false)) w := by
  subst e
  exact exec_bin2 ho hx hy rfl (by simp [go_sem])
theorem exec_neq8 {a : Act} {o : Oper} {w : World} {x y : Operand} (ho : o.op = .binOp .neq 5 x y 5) {m n : Int} (hx : a.eval x = .int .u8 m) (hy : a.eval y = .int .u8 n) (e : m = n) : (execOp a.eval o).run Try.prog w = .ok (.value (.bool false)) w := by
  subst e
  exact exec_bin2 ho hx hy rfl (by simp [go_sem])
theorem conv_u32 (n : Nat) (w : World) : (convert 3 70 (.int .i64 (n : Int))).run Try.prog w = .ok (.int .u32 ((n : Int) % 4294967296)) w := by
  simp [go_sem, IntKind.wrap_u32']
theorem exec_slH {a : Act} {o : Oper} {w : World} {x y : Operand} {t : TypeId} (ho : o.op = .slice t x none (some y) none) {v u r : Value} (hx : a.eval x = v) (hy : a.eval y = u) (hr : (Instr.sliceAt t v none (some u) none).run Try.prog w = .ok r w) : (execOp a.eval o).run Try.prog w = .ok (.value r) w := by
  unfold execOp
  simp [ho, hx, hy, hr]
theorem xorw_zero {x : Int} (h : 0 ≤ x) : xorw 0 x = x := by
  unfold xorw
  simp
  omega
end Go.Proofs.Ytfbeclleeehaaaa
