/-
  Own text. Laws that name no type and no function of the program: worlds of which little is known, whole rows, calls, results; steps for wp_region3.
-/
import Derived.Test.YtfbeclleeehaaaaProg
import Derived.Test.YtfbeclleeehaaaaInv3
import Derived.WalkKit
import Derived.WalkSpells
import Derived.WalkLawsBesides
import Derived.Laws.Externs
import Derived.Laws.MathBits
import Derived.Deep.RegionWith
import Derived.Deep.MidRow
import Derived.Deep.LoopGhost
import Derived.OwnWalk
import Derived.Laws.BitsAll
namespace Go.Proofs.Ytfbeclleeehaaaa
open Go.RowKit Go.Proofs
theorem Hid.mk {p : Prop} (h : p) : Hid p := h
/-- All but block b is as it was. -/
structure Only (b : Nat) (w w' : World) : Prop where
  os : w'.os = w.os
  tape : w'.tape = w.tape
  output : w'.output = w.output
  size : w'.heap.size = w.heap.size
  block : ∀ k, k ≠ b → w'.heap[k]? = w.heap[k]?
theorem Only.setCell {b : Nat} {w w' : World} (h : Only b w w') (i : Nat) (v : Value) : Only b w (w'.setCell ⟨b, i, none⟩ v) :=
  ⟨h.os, h.tape, h.output, by rw [← h.size]; simp [World.setCell], fun k hk => by rw [Below.heap_setCell _ _ _ _ hk]; exact h.block k hk⟩
theorem Only.refl (b : Nat) (w : World) : Only b w w := ⟨rfl, rfl, rfl, rfl, fun _ _ => rfl⟩
theorem Only.trans {b : Nat} {u v w : World} (h : Only b u v) (k : Only b v w) : Only b u w := ⟨k.os.trans h.os, k.tape.trans h.tape, k.output.trans h.output, k.size.trans h.size, fun i hi => (k.block i hi).trans (h.block i hi)⟩
theorem Only.cell {b : Nat} {w w' : World} (h : Only b w w') (k i : Nat) (hk : k ≠ b) : w'.cell? ⟨k, i, none⟩ = w.cell? ⟨k, i, none⟩ := World.cell?_of_block (w := w) (h.block k hk)
theorem Only.below {b B : Nat} {w w' : World} (h : Only b w w') (hb : B ≤ b) : Below B w w' := ⟨h.os, h.tape, h.output, by rw [h.size]; exact Nat.le_refl _, fun k hk => h.block k (by omega)⟩
theorem bheap {B : Nat} {w w' : World} (h : Below B w w') {k : Nat} {o : Obj} (hk : w.heap[k]? = some o) (hB : k < B) : w'.heap[k]? = some o := (h.block k hB).trans hk
theorem heap_lt {w : World} {k : Nat} {o : Obj} (h : w.heap[k]? = some o) : k < w.heap.size := (Array.getElem?_eq_some_iff.1 h).1
theorem only_setRow (w : World) (g : Nat) (cs : Array Value) : Only g w (w.setRow g cs) :=
  ⟨rfl, rfl, rfl, by simp, fun k hk => setRow_other w g k cs hk⟩
theorem only_set {w : World} {g i : Nat} {v : Value} : Only g w (w.setCell ⟨g, i, none⟩ v) := (Only.refl g w).setCell i v
/-- A whole row into block g of whatever world: behind it a world of which only this is known. -/
theorem st_row {P : Program} {ops : Array Oper} {rest : List Oper} {o : Oper} {a : Act} {w : World} {Q : Exit → Act → World → Prop} (hgd : o.guard = none) (ty : TypeId) (x y : Operand) (ho : o.op = .store ty x y)
    (g : Nat) (cells : Array Value) (hx : a.eval x = .pointer (some ⟨g, 0, none⟩)) (hy : a.eval y = .agg cells)
    (t : TypeId) (old : Array Value) (hg : w.heap[g]? = some (.cells old t (0, 0))) (hi : (P.info? ty).map (·.size) = some cells.size)
    (hold : old.size = cells.size) (h1 : cells.all (·.oneCell') = true)
    (h : ∀ w2, w2.heap[g]? = some (.cells cells t (0, 0)) → Only g w w2 → wpList P ops Q rest (a.put o.dst undef) w2) : wpList P ops Q (o :: rest) a w :=
  wpList_store_row hgd ty x y ho g cells hx hy t old hg hi hold h1 (h _ (setRow_heap w g old cells t (0, 0) hg) (only_setRow w g cells))
theorem wp_gen {P : Program} {c : Code} {Q : Exit → Act → World → Prop} {a : Act} {w : World} (I : World → Prop) (hI : I w) (h : ∀ w', I w' → c.wp P Q a w') : c.wp P Q a w := h w hI
theorem wl_value {P : Program} {ops : Array Oper} {Q : Exit → Act → World → Prop} {a : Act} {w : World} {rest : List Oper} {o : Oper} {v : Value} (hw : Region.wanted o (yielded ops a.tmps) = true)
    (hr : (execOp a.eval o).run P w = .ok (.value v) w) (h : wpList P ops Q rest (a.put o.dst v) w) : wpList P ops Q (o :: rest) a w := by
  unfold wpList
  rw [if_pos hw]
  exact .inl (by unfold Oper.wp; rw [hr]; exact h)
theorem wl_act {P : Program} {ops : Array Oper} {Q : Exit → Act → World → Prop} {a : Act} {w : World} {rest : List Oper} {o : Oper} (hw : Region.wanted o (yielded ops a.tmps) = true)
    (h : o.wp P a w (wpList P ops Q rest) Q) : wpList P ops Q (o :: rest) a w := by
  unfold wpList
  rw [if_pos hw]
  exact .inl h
theorem heap_a3 (w : World) (A B C : Obj) : (((w.alloc A).alloc B).alloc C).heap[w.heap.size + 1 + 1]? = some C := by
  have h := heap_alloc_new ((w.alloc A).alloc B) C
  have e : ((w.alloc A).alloc B).heap.size = w.heap.size + 1 + 1 := by simp
  rwa [e] at h
theorem heap_a32 (w : World) (A B C : Obj) : (((w.alloc A).alloc B).alloc C).heap[w.heap.size + 1]? = some B := by
  rw [Below.heap_alloc _ _ _ (by simp)]; exact heap_alloc2_new w A B
theorem heap_a31 (w : World) (A B C : Obj) : (((w.alloc A).alloc B).alloc C).heap[w.heap.size]? = some A := by
  rw [Below.heap_alloc _ _ _ (by simp; omega)]; exact heap_alloc2_old w A B
-- regions
def isOb (cs : Array Value) (t : TypeId) (ob : Obj) : Prop := ob = .cells cs t (0, 0)
def ptrTo (b : Nat) (v : Value) : Prop := v = .pointer (some ⟨b, 0, none⟩)
def slTo (n b : Nat) (v : Value) : Prop := v = .slice (some ⟨b, 0, none⟩) n n
/-- A slot that holds this value. -/
def kv (x : Value) : Kw := .val (fun v => v = x)
/-- A new row, then stored into by operation s. -/
def kp (cs : Array Value) (t : TypeId) (s : Nat) (cs' : Array Value) : Kw := .new ptrTo ⟨isOb cs t, [(s, isOb cs' t)]⟩
/-- A new slice. -/
def ks (n : Nat) (cs : Array Value) (t : TypeId) : Kw := .new (slTo n) ⟨isOb cs t, []⟩
def fixd (cs : Array Value) (t : TypeId) : Cont := ⟨isOb cs t, []⟩
def once (cs : Array Value) (t : TypeId) (s : Nat) (cs' : Array Value) : Cont := ⟨isOb cs t, [(s, isOb cs' t)]⟩
theorem obAt {cs : Array Value} {t : TypeId} {w : World} {b : Nat} (h : ContOK (isOb cs t) w b) : w.heap[b]? = some (.cells cs t (0, 0)) := by
  obtain ⟨ob, h, rfl⟩ := h
  exact h
theorem obIn {cs : Array Value} {t : TypeId} {w : World} {b : Nat} (h : w.heap[b]? = some (.cells cs t (0, 0))) : ContOK (isOb cs t) w b := ⟨_, h, rfl⟩
theorem touch_below {w w' : World} (h : Below w.heap.size w w') : Touch (fun _ => False) w w' := ⟨h.os, h.tape, h.output, h.size, fun k hk _ => h.block k hk⟩
theorem touch_only {b : Nat} {w w' : World} (h : Only b w w') : Touch (fun k => k = b) w w' := ⟨h.os, h.tape, h.output, by rw [h.size]; exact Nat.le_refl _, fun k _ hn => h.block k hn⟩
def GLow (B0 : Nat) : List (Nat × Cont) → Prop
  | [] => True
  | x :: l => B0 ≤ x.1 ∧ GLow B0 l
theorem GLow.at {B0 : Nat} : ∀ {l : List (Nat × Cont)}, GLow B0 l → ∀ k ∈ l.map (·.1), B0 ≤ k
  | [], _, _, h => by simp at h
  | x :: l, hl, k, h => by
    rw [List.map_cons] at h
    rcases List.mem_cons.1 h with rfl | h
    · exact hl.1
    · exact GLow.at hl.2 k h
theorem below_G {wd : World} {G : List (Nat × Cont)} {B : Nat} (hB : wd.heap.size ≤ B) (hG : GLow wd.heap.size G) (w w' : World) (h : Below wd.heap.size wd w) (ht : Touch (fun k => B ≤ k ∨ k ∈ G.map (·.1)) w w') : Below wd.heap.size wd w' :=
  h.trans ⟨ht.os, ht.tape, ht.output, ht.size, fun k hk => ht.block k (Nat.lt_of_lt_of_le hk h.size) (fun e => e.elim (fun e => by omega) (fun e => by have := hG.at k e; omega))⟩
theorem exec_call {f : FuncId} (hc : ∀ args w, (callFunc f args).run Try.prog w = .ok (.enter f args) w) (xs : Array Operand) (ts : Array TypeId) {o : Oper} {a : Act} {w : World} (ho : o.op = .call { callee := .value (.func f), args := xs, argTypes := ts }) :
    (execOp a.eval o).run Try.prog w = .ok (.enter f (xs.map a.eval)) w := by
  unfold execOp
  rw [ho]
  simp only [resolve, Sem.run_bind]
  generalize xs.map a.eval = args
  simp [Act.eval, Deferred.ofValue, invoke, go_sem, hc]
/-- A call with whatever it gives. -/
theorem stepp {f : FuncId} (hc : ∀ args w, (callFunc f args).run Try.prog w = .ok (.enter f args) w) {xs : Array Operand} {ts : Array TypeId} {o : Oper} {a : Act} {w : World} {K : Act → World → Prop} {Q : Exit → Act → World → Prop} {R : Value → World → Prop}
    (ho : o.op = .call { callee := .value (.func f), args := xs, argTypes := ts }) {vs : Array Value} (hx : xs.map a.eval = vs) (hC : Calls Try.prog f vs w fun r w' => ∃ v, r = .returned v ∧ R v w')
    (h : ∀ v w', R v w' → K (a.put o.dst v) w') : o.wp Try.prog a w K Q := by
  refine wp_enter (exec_call hc xs ts ho) ?_
  rw [hx]
  exact hC.mono (fun e w' ⟨v, he, hr⟩ => ⟨v, he, h v w' hr⟩)
/-- A call with the value that it gives. -/
theorem stepc {f : FuncId} (hc : ∀ args w, (callFunc f args).run Try.prog w = .ok (.enter f args) w) {xs : Array Operand} {ts : Array TypeId} {o : Oper} {a : Act} {w : World} {K : Act → World → Prop} {Q : Exit → Act → World → Prop}
    (ho : o.op = .call { callee := .value (.func f), args := xs, argTypes := ts }) {vs : Array Value} {v : Value} (hx : xs.map a.eval = vs) (hC : Calls Try.prog f vs w fun r w' => r = .returned v ∧ Below w.heap.size w w')
    (h : ∀ w', Below w.heap.size w w' → K (a.put o.dst v) w') : o.wp Try.prog a w K Q :=
  stepp hc ho hx (hC.mono (fun e w' ⟨he, hb⟩ => ⟨v, he, rfl, hb⟩)) (R := fun u w' => u = v ∧ Below w.heap.size w w') (fun u w' ⟨hu, hb⟩ => by subst hu; exact h w' hb)
theorem args0 {a : Act} : (#[] : Array Operand).map a.eval = #[] := by simp
theorem args1 {a : Act} {x : Operand} {X : Value} (hx : a.eval x = X) : #[x].map a.eval = #[X] := by simp [hx]
theorem args2 {a : Act} {x y : Operand} {X Y : Value} (hx : a.eval x = X) (hy : a.eval y = Y) : #[x, y].map a.eval = #[X, Y] := by simp [hx, hy]
theorem args3 {a : Act} {x y z : Operand} {X Y Z : Value} (hx : a.eval x = X) (hy : a.eval y = Y) (hz : a.eval z = Z) : #[x, y, z].map a.eval = #[X, Y, Z] := by simp [hx, hy, hz]
theorem args4 {a : Act} {x y z u : Operand} {X Y Z U : Value} (hx : a.eval x = X) (hy : a.eval y = Y) (hz : a.eval z = Z) (hu : a.eval u = U) : #[x, y, z, u].map a.eval = #[X, Y, Z, U] := by simp [hx, hy, hz, hu]
theorem args5 {a : Act} {x y z u v : Operand} {X Y Z U V : Value} (hx : a.eval x = X) (hy : a.eval y = Y) (hz : a.eval z = Z) (hu : a.eval u = U) (hv : a.eval v = V) : #[x, y, z, u, v].map a.eval = #[X, Y, Z, U, V] := by simp [hx, hy, hz, hu, hv]
theorem exec_move {a : Act} {o : Oper} {w : World} {x : Operand} (ho : o.op = .move x) {v : Value} (h : a.eval x = v) : (execOp a.eval o).run Try.prog w = .ok (.value v) w := by unfold execOp; simp only [ho, Sem.run_pure, h]
theorem exec_assign {a : Act} {o : Oper} {w : World} {x : Operand} (ho : o.op = .assign x) {v : Value} (h : a.eval x = v) : (execOp a.eval o).run Try.prog w = .ok (.value v) w := by unfold execOp; simp only [ho, Sem.run_pure, h]
theorem exec_pick {a : Act} {o : Oper} {w : World} {c x y : Operand} (ho : o.op = .pick c x y) (hc : a.eval c = .bool true) {v : Value} (h : a.eval x = v) : (execOp a.eval o).run Try.prog w = .ok (.value v) w := by
  unfold execOp; simp [ho, hc, asBool, Sem.run_pure, h]
theorem exec_pickF {a : Act} {o : Oper} {w : World} {c x y : Operand} (ho : o.op = .pick c x y) (hc : a.eval c = .bool false) {v : Value} (h : a.eval y = v) : (execOp a.eval o).run Try.prog w = .ok (.value v) w := by
  unfold execOp; simp [ho, hc, asBool, Sem.run_pure, h]
theorem exec_ext {a : Act} {o : Oper} {w : World} {x : Operand} {i : Nat} (ho : o.op = .extract x i) {vs : Array Value} (hx : a.eval x = .tuple vs) {v : Value} (hv : vs[i]? = some v) : (execOp a.eval o).run Try.prog w = .ok (.value v) w := by
  unfold execOp; simp only [ho, hx]; simp [go_sem, hv]
theorem act_alloc {o : Oper} {a : Act} {w : World} {K : Act → World → Prop} {Q : Exit → Act → World → Prop} {t : TypeId} {cs : Array Value} (hz : ∀ w, (zeroValue t).run Try.prog w = .ok (.agg cs) w) (ho : o.op = .alloc t)
    (h : ∀ w', Below w.heap.size w w' → w'.heap[w.heap.size]? = some (.cells cs t (0, 0)) → K (a.put o.dst (.pointer (some ⟨w.heap.size, 0, none⟩))) w') : o.wp Try.prog a w K Q := by
  have hz := hz w
  unfold Oper.wp execOp
  simp only [ho]
  simp [go_sem, hz]
  exact h _ ((Below.refl _ _).alloc (Nat.le_refl _) _) (heap_alloc_new w _)
theorem results_cells2 {P : Program} {fn : Func} {p q : Tmp} {ty ty' : TypeId} (h : fn.results = #[.cell p ty, .cell q ty']) (tmps : Array Value) (w : World) (g g' : Nat)
    (hp : tmps.getD p undef = .pointer (some ⟨g, 0, none⟩)) (hq : tmps.getD q undef = .pointer (some ⟨g', 0, none⟩)) {t t' : TypeId} {fr fr' : Nat × Nat} {d d' : TypeDesc} (cs cs' : Array Value) (hg : w.heap[g]? = some (.cells cs t fr)) (hg' : w.heap[g']? = some (.cells cs' t' fr'))
    (hi : (P.info? ty).map (·.size) = some cs.size) (hi' : (P.info? ty').map (·.size) = some cs'.size)
    (hu : P.underlying ty = some d) (hd : (match d with | .struct _ | .array _ _ => true | _ => false) = true)
    (hu' : P.underlying ty' = some d') (hd' : (match d' with | .struct _ | .array _ _ => true | _ => false) = true) :
    (results fn tmps).run P w = .ok (.tuple #[.agg cs, .agg cs']) w := by
  have hp' : tmps[p]?.getD undef = .pointer (some ⟨g, 0, none⟩) := by simpa using hp
  have hq' : tmps[q]?.getD undef = .pointer (some ⟨g', 0, none⟩) := by simpa using hq
  simp [results, h, hp', hq', asAddr, run_loadVar_row w g t ty cs fr d hg hu hd hi, run_loadVar_row w g' t' ty' cs' fr' d' hg' hu' hd' hi']
theorem results_cellt {P : Program} {fn : Func} {p u : Tmp} {ty : TypeId} (h : fn.results = #[.cell p ty, .tmp u]) (tmps : Array Value) (w : World) (g : Nat) {v : Value}
    (hp : tmps.getD p undef = .pointer (some ⟨g, 0, none⟩)) (hq : tmps.getD u undef = v) {t : TypeId} {fr : Nat × Nat} {d : TypeDesc} (cs : Array Value) (hg : w.heap[g]? = some (.cells cs t fr))
    (hi : (P.info? ty).map (·.size) = some cs.size) (hu : P.underlying ty = some d) (hd : (match d with | .struct _ | .array _ _ => true | _ => false) = true) :
    (results fn tmps).run P w = .ok (.tuple #[.agg cs, v]) w := by
  have hp' : tmps[p]?.getD undef = .pointer (some ⟨g, 0, none⟩) := by simpa using hp
  have hq' : tmps[u]?.getD undef = v := by simpa using hq
  simp [results, h, hp', hq', asAddr, run_loadVar_row w g t ty cs fr d hg hu hd hi]
theorem setCells_heap {b : Nat} {t : TypeId} : ∀ (vs : List Value) (o : Nat) (w : World) (C : Array Value), w.heap[b]? = some (.cells C t (0, 0)) → o + vs.length ≤ C.size →
    ∃ C' : Array Value, (w.setCells b o vs).heap[b]? = some (.cells C' t (0, 0)) ∧ C'.size = C.size ∧ (∀ j, j < vs.length → C'[o + j]? = vs[j]?) ∧ (∀ j, j < o ∨ o + vs.length ≤ j → C'[j]? = C[j]?) ∧ Only b w (w.setCells b o vs)
  | [], _, w, C, hg, _ => ⟨C, hg, rfl, fun j hj => by simp at hj, fun _ _ => rfl, Only.refl b w⟩
  | x :: vs, o, w, C, hg, hl => by
    simp only [List.length_cons] at hl
    obtain ⟨C', h1, h2, h3, h4, h5⟩ := setCells_heap vs (o + 1) (w.setCell ⟨b, o, none⟩ x) (C.setIfInBounds o x) (heap_setCell_same w b o C t x hg) (by simp; omega)
    refine ⟨C', h1, by rw [h2]; simp, fun j hj => ?_, fun j hj => ?_, only_set.trans h5⟩
    · cases j with
      | zero =>
        rw [Nat.add_zero, h4 o (.inl (by omega)), Array.getElem?_setIfInBounds]
        simp
        omega
      | succ j =>
        simp only [List.length_cons] at hj
        have := h3 j (by omega)
        rw [show o + 1 + j = o + (j + 1) by omega] at this
        rw [this]; simp
    · simp only [List.length_cons] at hj
      rw [h4 j (by omega), Array.getElem?_setIfInBounds, if_neg (by omega)]
theorem there_row {w : World} {b o n : Nat} {C : Array Value} {t : TypeId} (hg : w.heap[b]? = some (.cells C t (0, 0))) (h : o + n ≤ C.size) : w.there b o n := fun j hj => by
  refine ⟨?_, frozen_of_row w b (o + j) _ _ hg⟩
  rw [cell_of_row w b (o + j) _ _ _ hg, Array.getElem?_eq_getElem (by omega)]
  rfl
end Go.Proofs.Ytfbeclleeehaaaa
