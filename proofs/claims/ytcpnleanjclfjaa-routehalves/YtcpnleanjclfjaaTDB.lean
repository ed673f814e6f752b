/-
  Own text. Two tables of the code and a row of kept calls, side by side.
-/
import Derived.Test.YtcpnleanjclfjaaTDA
import Derived.Test.YtcpnleanjclfjaaTL2
namespace Go.Proofs.Ytcpnleanjclfjaa
open Go.RowKit Go.Proofs
set_option maxRecDepth 100000
/-- The row that a call puts. -/
def wrO (X : Op10) : Rw := ⟨X.v, whB X.b X.n, X.n, X.ow⟩
/-- Kept calls: each of a right prefix, no two of the same. -/
structure KeptO (X : Nat → Op10) (k : Nat) : Prop where
  byt : ∀ j, j < k → Byts 16 (X j).b
  rig : ∀ j, j < k → rightF (X j).v (X j).b (X j).n = true
  ap : ∀ i j, i < k → j < k → Eqr (wrO (X i)) (wrO (X j)) → i = j
theorem kept0 (X : Nat → Op10) : KeptO X 0 := ⟨fun j hj => by omega, fun j hj => by omega, fun i j hi => by omega⟩
theorem KeptO.more {X : Nat → Op10} {k : Nat} (h : KeptO X k) (O : Op10) (hb : Byts 16 O.b) (hr : rightF O.v O.b O.n = true) (hn : ∀ j, j < k → ¬ Eqr (wrO (X j)) (wrO O)) : KeptO (setG X k O) (k + 1) := by
  have key : ∀ j, j < k + 1 → (j = k ∧ setG X k O j = O) ∨ (j < k ∧ setG X k O j = X j) := fun j hj => by
    by_cases e : j = k
    · exact .inl ⟨e, by rw [e, gE]⟩
    · exact .inr ⟨by omega, gD _ _ _ e⟩
  refine ⟨fun j hj => ?_, fun j hj => ?_, fun i j hi hj he => ?_⟩
  · rcases key j hj with ⟨_, e⟩ | ⟨h1, e⟩
    · rw [e]; exact hb
    · rw [e]; exact h.byt j h1
  · rcases key j hj with ⟨_, e⟩ | ⟨h1, e⟩
    · rw [e]; exact hr
    · rw [e]; exact h.rig j h1
  · rcases key i hi with ⟨i1, e1⟩ | ⟨i1, e1⟩
    · rcases key j hj with ⟨j1, e2⟩ | ⟨j1, e2⟩
      · omega
      · rw [e1, e2] at he
        exact absurd (Eqr.symm he) (hn j j1)
    · rcases key j hj with ⟨j1, e2⟩ | ⟨j1, e2⟩
      · rw [e1, e2] at he
        exact absurd he (hn i i1)
      · rw [e1, e2] at he
        exact h.ap i j i1 j1 he
/-- The rows of those calls whose number K has. -/
def IxO (K : Nat → Prop) (X : Nat → Op10) (r : Rw) : Prop := ∃ i, K i ∧ Eqr (wrO (X i)) r ∧ (X i).ow = r.o
/-- The cells of a call. -/
def OpC (z : World) (p : Addr) (X : Op10) : Prop := ∀ k, k < 20 → z.cell? (p.add k) = some (opV10 X k)
def AdC (z : World) (p : Addr) (v : Bool) (b : Nat → Int) : Prop := ∀ k, k < 17 → z.cell? (p.add k) = some (adV v b k)
structure OrS (w0 : World) (B t1 t2 : Nat) (z : World) (x : Value) (k : Nat) (X : Nat → Op10) (m1 : Nat) (M1 : Rw → Prop) (m2 : Nat) (M2 : Rw → Prop) : Prop where
  a : TabP z t1 m1 M1
  b : TabP z t2 m2 M2
  row : z.ownsRow B 39 20 x k (rX 20 (fun j => opV10 (X j)) k)
  bel : Below w0.heap.size w0 z
  lo : w0.heap.size ≤ t1 ∧ w0.heap.size ≤ t2
  hi : t1 < B ∧ t2 < B ∧ t1 ≠ t2 ∧ B ≤ z.heap.size
section
variable {w0 z z' : World} {B t1 t2 k m1 m2 m' : Nat} {x x' : Value} {X X' : Nat → Op10} {M1 M2 M' : Rw → Prop}
theorem OrS.below (h : OrS w0 B t1 t2 z x k X m1 M1 m2 M2) (hb : Below z.heap.size z z') : OrS w0 B t1 t2 z' x k X m1 M1 m2 M2 :=
  ⟨h.a.below hb, h.b.below hb, ownT_kept h.row hb, h.bel.trans (hb.mono h.bel.size), h.lo, ⟨h.hi.1, h.hi.2.1, h.hi.2.2.1, Nat.le_trans h.hi.2.2.2 hb.size⟩⟩
theorem OrS.own (h : OrS w0 B t1 t2 z x k X m1 M1 m2 M2) (q : Nat) (hq : x.ownBlock = some q) : B ≤ q ∧ q < z.heap.size ∧ NoNd z q := by
  have h1 := h.row.lt q hq
  refine ⟨h1.1, h1.2, fun V hV => ?_⟩
  rcases h.row.2 with ⟨e, _⟩ | ⟨g, cap, cur, e, _, hg, _⟩
  · rw [e] at hq
    cases hq
  · rw [e] at hq
    have e2 : g = q := Option.some.inj hq
    rw [e2] at hg
    have h1 := hg.symm.trans hV
    simp at h1
/-- The first table has gone on. -/
theorem OrS.goA (h : OrS w0 B t1 t2 z x k X m1 M1 m2 M2) (hc : TabP z' t1 m' M') (ht : Touch (fun k => k = t1) z z') : OrS w0 B t1 t2 z' x k X m' M' m2 M2 :=
  ⟨hc, h.b.tou ht (fun k hk => by subst hk; exact ⟨h.hi.2.2.1, h.a.no⟩), ownM_block h.row (fun q hq => ht.block q (h.own q hq).2.1 (fun e => by have := (h.own q hq).1; have := h.hi.1; omega)), h.bel.trans (tou_below ht (fun k hk => by rw [hk]; exact h.lo.1) h.bel.size), h.lo, ⟨h.hi.1, h.hi.2.1, h.hi.2.2.1, Nat.le_trans h.hi.2.2.2 ht.size⟩⟩
/-- The second table has gone on. -/
theorem OrS.goB (h : OrS w0 B t1 t2 z x k X m1 M1 m2 M2) (hc : TabP z' t2 m' M') (ht : Touch (fun k => k = t2) z z') : OrS w0 B t1 t2 z' x k X m1 M1 m' M' :=
  ⟨h.a.tou ht (fun k hk => by subst hk; exact ⟨fun e => h.hi.2.2.1 e.symm, h.b.no⟩), hc, ownM_block h.row (fun q hq => ht.block q (h.own q hq).2.1 (fun e => by have := (h.own q hq).1; have := h.hi.2.1; omega)), h.bel.trans (tou_below ht (fun k hk => by rw [hk]; exact h.lo.2) h.bel.size), h.lo, ⟨h.hi.1, h.hi.2.1, h.hi.2.2.1, Nat.le_trans h.hi.2.2.2 ht.size⟩⟩
theorem grown_tou {w w' : World} {r : Option Nat} (h : w.grownBy w' r) : Touch (fun k => some k = r) w w' := ⟨h.os, h.tape, h.output, h.size, fun k hk hn => h.block k hk hn⟩
/-- The row has got one more. -/
theorem OrS.more (h : OrS w0 B t1 t2 z x k X m1 M1 m2 M2) {O : Op10} (hr : z'.ownsRow B 39 20 x' (k + 1) (rX 20 (setG (fun j => opV10 (X j)) k (opV10 O)) (k + 1))) (hg : z.grownBy z' x.ownBlock) : OrS w0 B t1 t2 z' x' (k + 1) (setG X k O) m1 M1 m2 M2 := by
  have ht := grown_tou hg
  have e : (fun j => opV10 (setG X k O j)) = setG (fun j => opV10 (X j)) k (opV10 O) := by
    funext j
    unfold setG
    split <;> rfl
  refine ⟨h.a.tou ht (fun q hq => ?_), h.b.tou ht (fun q hq => ?_), by rw [e]; exact hr, h.bel.trans (tou_below ht (fun q hq => ?_) h.bel.size), h.lo, ⟨h.hi.1, h.hi.2.1, h.hi.2.2.1, Nat.le_trans h.hi.2.2.2 ht.size⟩⟩
  · have := h.own q hq.symm
    exact ⟨by have := h.hi.1; omega, this.2.2⟩
  · have := h.own q hq.symm
    exact ⟨by have := h.hi.2.1; omega, this.2.2⟩
  · have := h.own q hq.symm
    have := h.hi.1
    have := h.lo.1
    omega
theorem OrS.congA (h : OrS w0 B t1 t2 z x k X m1 M1 m2 M2) (e : ∀ r, M' r ↔ M1 r) : OrS w0 B t1 t2 z x k X m1 M' m2 M2 := ⟨h.a.congr e, h.b, h.row, h.bel, h.lo, h.hi⟩
theorem OrS.congB (h : OrS w0 B t1 t2 z x k X m1 M1 m2 M2) (e : ∀ r, M' r ↔ M2 r) : OrS w0 B t1 t2 z x k X m1 M1 m2 M' := ⟨h.a, h.b.congr e, h.row, h.bel, h.lo, h.hi⟩
/-- The kept calls as they lie in memory. -/
theorem OrS.shape (h : OrS w0 B t1 t2 z x k X m1 M1 m2 M2) : ∃ p cap, x = .slice p k cap := by
  obtain ⟨p, cap, e, _⟩ := ownM_shape h.row
  exact ⟨p, cap, e⟩
theorem OrS.at {p : Option Addr} {c : Nat} (h : OrS w0 B t1 t2 z (.slice p k c) k X m1 M1 m2 M2) (j : Nat) (hj : j < k) : ∃ ad, p = some ad ∧ OpC z (ad.add (20 * j)) (X j) := by
  obtain ⟨p', cap, e, hg⟩ := ownM_shape h.row
  obtain ⟨g, hg⟩ := hg (by omega)
  injection e with e1 e2 e3
  subst e1
  subst hg
  refine ⟨_, rfl, fun f hf => ?_⟩
  have := own_at h.row hj f hf
  rw [Addr.add_lit, Addr.add_lit, Nat.zero_add]
  exact this
end
section
variable {a : Act} {o : Oper} {w : World} {x y : Operand}
theorem run_fopG (p : Addr) (w : World) (k : Nat) : k < 3 → (Instr.fieldAt 39 (.pointer (some p)) k).run Try.prog w = .ok (.pointer (some (p.add k))) w := by
  intro hk
  match k, hk with
  | 0, _ => simp [go_sem]
  | 1, _ => simp [go_sem]
  | 2, _ => simp [go_sem]
theorem exec_fopG {k : Nat} (ho : o.op = .fieldAddr 39 x k) {p : Addr} (hx : a.eval x = .pointer (some p)) (hk : k < 3) : (execOp a.eval o).run Try.prog w = .ok (.value (.pointer (some (p.add k)))) w := by
  have h := run_fopG p w k hk
  unfold execOp
  simp only [ho, hx]
  simp [h]
theorem run_fpbG (p : Addr) (w : World) : (Instr.fieldAt 37 (.pointer (some p)) 1).run Try.prog w = .ok (.pointer (some (p.add 17))) w := by simp [go_sem]
theorem exec_fpbG (ho : o.op = .fieldAddr 37 x 1) {p : Addr} (hx : a.eval x = .pointer (some p)) : (execOp a.eval o).run Try.prog w = .ok (.value (.pointer (some (p.add 17)))) w := by
  have h := run_fpbG p w
  unfold execOp
  simp only [ho, hx]
  simp [h]
theorem opc_p {p : Addr} {X : Op10} (h : OpC w p X) (j : Nat) (hj : j < 18) : w.cell? ((p.add 2).add j) = some (prV X.v X.b X.n j) := by
  rw [Addr.add_add]
  have := h (2 + j) (by omega)
  rw [this]
  unfold opV10
  rw [if_neg (by omega), if_neg (by omega), show 2 + j - 2 = j by omega]
theorem exec_ldPG (ho : o.op = .load 37 x) {p : Addr} {X : Op10} (hx : a.eval x = .pointer (some (p.add 2))) (hc : OpC w p X) : (execOp a.eval o).run Try.prog w = .ok (.value (.agg (SC 18 (prV X.v X.b X.n)))) w := by
  have h := run_loadAt_addr w (p.add 2) 37 (SC 18 (prV X.v X.b X.n)).toList _ (fun j u hv => by
    have hj : j < 18 := by have := (List.getElem?_eq_some_iff.1 hv).1; rwa [Array.length_toList, SC_size] at this
    rw [opc_p hc j hj, ← SC_get 18 _ j hj, ← Array.getElem?_toList, hv]) Try.underlying37 rfl (by rw [Array.length_toList, SC_size]; kernel_rfl)
  exact exec_ld ho hx h
theorem ld_i64 {p : Addr} {v : Value} (h : w.cell? p = some v) : (Instr.loadAt 3 (.pointer (some p))).run Try.prog w = .ok v w := by simp [go_sem, h]
theorem exec_ldOG (ho : o.op = .load 3 x) {p : Addr} {X : Op10} (hx : a.eval x = .pointer (some (p.add 1))) (hc : OpC w p X) : (execOp a.eval o).run Try.prog w = .ok (.value (.int .i64 X.ow)) w := exec_ld ho hx (ld_i64 (hc 1 (by omega)))
theorem exec_ldBG (ho : o.op = .load 3 x) {p : Addr} {X : Op10} (hx : a.eval x = .pointer (some ((p.add 2).add 17))) (hc : OpC w p X) : (execOp a.eval o).run Try.prog w = .ok (.value (.int .i64 X.n)) w := exec_ld ho hx (ld_i64 (opc_p hc 17 (by omega)))
theorem OpC.kept {p : Addr} {X : Op10} {w w' : World} (h : OpC w p X) (hb : Below w.heap.size w w') : OpC w' p X := fun k hk => by
  have h1 := World.block_lt_of_cell? _ _ (h k hk)
  rw [hb.cell (p := p.add k) h1]
  exact h k hk
theorem AdC.kept {p : Addr} {v : Bool} {b : Nat → Int} {w w' : World} (h : AdC w p v b) (hb : Below w.heap.size w w') : AdC w' p v b := fun k hk => by
  have h1 := World.block_lt_of_cell? _ _ (h k hk)
  rw [hb.cell (p := p.add k) h1]
  exact h k hk
theorem run_bsOp (V : Nat → Value) (w : World) : (Instr.buildSlice 22 1 #[(0, .agg (SC 20 V))]).run Try.prog w = .ok (.slice (some ⟨w.heap.size, 0, none⟩) 1 1) (w.alloc (.cells (SC 20 V) 39)) := by kernel_rfl
theorem wl_bsOp {ops : Array Oper} {rest : List Oper} {Q : Exit → Act → World → Prop} {V : Nat → Value} (ho : o.op = .buildSlice 22 1 #[(0, x)]) (hw : Region.wanted o (yielded ops a.tmps) = true) (hx : a.eval x = .agg (SC 20 V))
    (h : ∀ g w', w.heap.size ≤ g → SAt w' g 39 20 V → Below w.heap.size w w' → wpList Try.prog ops Q rest (a.put o.dst (.slice (some ⟨g, 0, none⟩) 1 1)) w') : wpList Try.prog ops Q (o :: rest) a w := by
  have hr := run_bsOp V w
  refine wl_act hw ?_
  unfold Oper.wp execOp
  simp only [ho, List.map_toArray, List.map_cons, List.map_nil, hx, Sem.run_bind, hr, Result.andThen_ok, Sem.run_pure, Oper.upon]
  exact h _ _ (Nat.le_refl _) (heap_alloc_new w _) ((Below.refl _ _).alloc (Nat.le_refl _) _)
theorem opInfo : (Try.prog.info? 39).map (fun i => (i.zero, i.size, i.bytes)) = some (some (.agg (SC 20 (opV10 ⟨0, 0, false, fun _ => 0, 0⟩))), 20, 48) := by kernel_rfl
end
/-- append of one call. -/
theorem ap_op {ops : Array Oper} {rest : List Oper} {o : Oper} {a : Act} {w : World} {Q : Exit → Act → World → Prop} {s x : Operand} (hgd : o.guard = none) (ho : o.op = .call { callee := .builtin .append, args := #[s, x], argTypes := #[22, 22] })
    {B n b : Nat} {X : Nat → Op10} {v : Value} {O : Op10} (hs : a.eval s = v) (hx : a.eval x = .slice (some ⟨b, 0, none⟩) 1 1) (hD : w.ownsRow B 39 20 v n (rX 20 (fun j => opV10 (X j)) n)) (hg : SAt w b 39 20 (opV10 O)) (hl : n < 1000) (hB : B ≤ w.heap.size)
    (h : ∀ v' w', w'.ownsRow B 39 20 v' (n + 1) (rX 20 (setG (fun j => opV10 (X j)) n (opV10 O)) (n + 1)) → w.grownBy w' v.ownBlock → wpList Try.prog ops Q rest (a.put o.dst v') w') : wpList Try.prog ops Q (o :: rest) a w :=
  ap_row hgd Try.underlying22 opInfo (by omega) (by omega) ho (opV10_one O) hs hx hD hg (by omega) hB (fun v' w' h1 h2 _ => h v' w' h1 h2)
end Go.Proofs.Ytcpnleanjclfjaa
