/-
  Own text. A script of calls in memory; what is told, row by row.
-/
import Derived.Test.YtbkbcfimpaolmaaGreatJ9
import Derived.Deep.DeepCutAuto
namespace Go.Proofs.YtbkbcfimpaolmaaGreat
open Go.RowKit Go.Proofs
set_option maxRecDepth 100000
structure Op9 where
  kind : Int
  after : Int
  nn : Int
  ctr : Int
  first : Bool
  odd : Bool
  text : ByteArray
def opV (x : Op9) (j : Nat) : Value := if j < 1 then .int .i64 x.kind else if j < 2 then .int .i64 x.after else if j < 3 then .int .i64 x.nn else if j < 4 then .int .u64 x.ctr else if j < 5 then .bool x.first else if j < 6 then .bool x.odd else .string x.text
theorem opV_one (x : Op9) (j : Nat) : (opV x j).oneCell' = true := by unfold opV; (repeat' split) <;> rfl
/-- A script: n calls. -/
def OpsAt9 (w : World) (v : Value) (n : Nat) (X : Nat → Op9) : Prop := ∃ a cap, v = .slice a n cap ∧ ∀ j, j < n → (∃ ad : Addr, a = some ad ∧ ad.block < w.heap.size ∧ ∀ k, k < 7 → w.cell? (ad.add (7 * j + k)) = some (opV (X j) k)) ∧ U64 (X j).ctr ∧ (X j).text.size ≤ 140737488351232
theorem isOp9 : IsSt 39 7 := ⟨_, Tryz.underlying39, rfl, by kernel_rfl⟩
theorem zeroOp9 (w : World) : (zeroValue 39).run Tryz.prog w = .ok (.agg (SC 7 (opV ⟨0, 0, 0, 0, false, false, ByteArray.empty⟩))) w := by kernel_rfl
theorem exec_ixOp {a : Act} {o : Oper} {w : World} {x y : Operand} (ho : o.op = .indexAddr 22 x y) {p : Addr} {n c i : Nat} (hx : a.eval x = .slice (some p) n c) (hy : a.eval y = .int .i64 (i : Int)) (hi : i < n) : (execOp a.eval o).run Tryz.prog w = .ok (.value (.pointer (some (p.add (7 * i))))) w := by
  unfold execOp
  simp only [ho, hx, hy, Sem.run_bind]
  rw [run_indexAt_slice w 22 _ n c .i64 (i : Int) Tryz.underlying22, if_pos ⟨by omega, by omega⟩, show (sizeOf (Tryz.prog.elem 22)).run Tryz.prog w = .ok 7 w by kernel_rfl]
  simp [Nat.mul_comm]
theorem run_loadAt_addr (w : World) (p : Addr) (ty : TypeId) (cs : List Value) (d : TypeDesc) (hc : ∀ j v, cs[j]? = some v → w.cell? (p.add j) = some v)
    (hu : Tryz.prog.underlying ty = some d) (hd : d.isRow = true) (hi : (Tryz.prog.info? ty).map (·.size) = some cs.length) : (Instr.loadAt ty (.pointer (some p))).run Tryz.prog w = .ok (.agg cs.toArray) w := by
  have hl : (loadCells p cs.length).run Tryz.prog w = .ok cs.toArray w := run_loadCells_list (P := Tryz.prog) w p cs hc
  have hv : (loadVar ty p).run Tryz.prog w = .ok (.agg cs.toArray) w := by
    cases hq : Tryz.prog.info? ty with
    | none => simp [hq] at hi
    | some i =>
      have hs : i.size = cs.length := by simpa [hq] using hi
      have hagg : (isAgg ty).run Tryz.prog w = .ok true w := by
        unfold isAgg
        rw [Sem.run_bind, run_underlying hu w]
        cases d <;> simp_all
      simp [loadVar, Sem.run_bind, hagg, sizeOf, typeInfo, hq, hs, hl]
  simp only [Instr.loadAt, Instr.sureAddr, Sem.run_bind, Sem.run_pure, Result.andThen_ok, hv]
theorem exec_ldOp {a : Act} {o : Oper} {w : World} {x : Operand} (ho : o.op = .load 39 x) {p : Addr} {X : Op9} (hx : a.eval x = .pointer (some p)) (hc : ∀ k, k < 7 → w.cell? (p.add k) = some (opV X k)) : (execOp a.eval o).run Tryz.prog w = .ok (.value (.agg (SC 7 (opV X)))) w := by
  have h := run_loadAt_addr w p 39 (SC 7 (opV X)).toList _ (fun j v hv => by
    have hj : j < 7 := by have := (List.getElem?_eq_some_iff.1 hv).1; rwa [Array.length_toList, SC_size] at this
    rw [hc j hj, ← SC_get 7 _ j hj, ← Array.getElem?_toList, hv]) Tryz.underlying39 rfl (by rw [Array.length_toList, SC_size]; kernel_rfl)
  exact exec_ld ho hx h
theorem add_blk (a : Addr) (n : Nat) : (a.add n).block = a.block := by unfold Addr.add; split <;> rfl
theorem OpsAt9.at {w w' : World} {v : Value} {n : Nat} {X : Nat → Op9} (h : OpsAt9 w v n X) (hB : Below w.heap.size w w') (j : Nat) (hj : j < n) : ∃ ad cap, v = .slice (some ad) n cap ∧ (∀ k, k < 7 → w'.cell? ((ad.add (7 * j)).add k) = some (opV (X j) k)) ∧ U64 (X j).ctr ∧ (X j).text.size ≤ 140737488351232 := by
  obtain ⟨a, cap, rfl, h⟩ := h
  obtain ⟨⟨ad, rfl, hb, hc⟩, h2, h3⟩ := h j hj
  refine ⟨ad, cap, rfl, fun k hk => ?_, h2, h3⟩
  rw [Addr.add_add, hB.cell (p := ad.add (7 * j + k)) (by rw [add_blk]; exact hb)]
  exact hc k hk
section
variable {w : World} {g : Nat} {X : Op9}
theorem op_k (h : SAt w g 39 7 (opV X)) : w.cell? ⟨g, 0, none⟩ = some (.int .i64 X.kind) := SAt.at h 0 (by omega)
theorem op_a (h : SAt w g 39 7 (opV X)) : w.cell? ⟨g, 1, none⟩ = some (.int .i64 X.after) := SAt.at h 1 (by omega)
theorem op_n (h : SAt w g 39 7 (opV X)) : w.cell? ⟨g, 2, none⟩ = some (.int .i64 X.nn) := SAt.at h 2 (by omega)
theorem op_c (h : SAt w g 39 7 (opV X)) : w.cell? ⟨g, 3, none⟩ = some (.int .u64 X.ctr) := SAt.at h 3 (by omega)
theorem op_f (h : SAt w g 39 7 (opV X)) : w.cell? ⟨g, 4, none⟩ = some (.bool X.first) := SAt.at h 4 (by omega)
theorem op_o (h : SAt w g 39 7 (opV X)) : w.cell? ⟨g, 5, none⟩ = some (.bool X.odd) := SAt.at h 5 (by omega)
theorem op_t (h : SAt w g 39 7 (opV X)) : w.cell? ⟨g, 6, none⟩ = some (.string X.text) := SAt.at h 6 (by omega)
end
theorem run_fop (b o k : Nat) (w : World) : k < 7 → (Instr.fieldAt 39 (.pointer (some ⟨b, o, none⟩)) k).run Tryz.prog w = .ok (.pointer (some ⟨b, o + k, none⟩)) w := by
  intro hk
  match k, hk with
  | 0, _ => simp [go_sem]
  | 1, _ => simp [go_sem]
  | 2, _ => simp [go_sem]
  | 3, _ => simp [go_sem]
  | 4, _ => simp [go_sem]
  | 5, _ => simp [go_sem]
  | 6, _ => simp [go_sem]
theorem exec_fop {a : Act} {o : Oper} {w : World} {x : Operand} {k : Nat} (ho : o.op = .fieldAddr 39 x k) {b f : Nat} (hx : a.eval x = .pointer (some ⟨b, f, none⟩)) (hk : k < 7) : (execOp a.eval o).run Tryz.prog w = .ok (.value (.pointer (some ⟨b, f + k, none⟩))) w := by
  have h := run_fop b f k w hk
  unfold execOp
  simp only [ho, hx, Sem.run_bind, h, Result.andThen_ok, Sem.run_pure]
theorem run_fto (b o k : Nat) (w : World) : k < 8 → (Instr.fieldAt 52 (.pointer (some ⟨b, o, none⟩)) k).run Tryz.prog w = .ok (.pointer (some ⟨b, o + k, none⟩)) w := by
  intro hk
  match k, hk with
  | 0, _ => simp [go_sem]
  | 1, _ => simp [go_sem]
  | 2, _ => simp [go_sem]
  | 3, _ => simp [go_sem]
  | 4, _ => simp [go_sem]
  | 5, _ => simp [go_sem]
  | 6, _ => simp [go_sem]
  | 7, _ => simp [go_sem]
theorem exec_fto {a : Act} {o : Oper} {w : World} {x : Operand} {k : Nat} (ho : o.op = .fieldAddr 52 x k) {b f : Nat} (hx : a.eval x = .pointer (some ⟨b, f, none⟩)) (hk : k < 8) : (execOp a.eval o).run Tryz.prog w = .ok (.value (.pointer (some ⟨b, f + k, none⟩))) w := by
  have h := run_fto b f k w hk
  unfold execOp
  simp only [ho, hx, Sem.run_bind, h, Result.andThen_ok, Sem.run_pure]
theorem exec_ixT {a : Act} {o : Oper} {w : World} {x y : Operand} (ho : o.op = .indexAddr 49 x y) {g n c i : Nat} (hx : a.eval x = .slice (some ⟨g, 0, none⟩) n c) (hy : a.eval y = .int .i64 (i : Int)) (hi : i < n) : (execOp a.eval o).run Tryz.prog w = .ok (.value (.pointer (some ⟨g, 8 * i, none⟩))) w := by
  unfold execOp
  simp only [ho, hx, hy, Sem.run_bind]
  rw [run_indexAt_slice w 49 _ n c .i64 (i : Int) Tryz.underlying49, if_pos ⟨by omega, by omega⟩, show (sizeOf (Tryz.prog.elem 49)).run Tryz.prog w = .ok 8 w by kernel_rfl]
  simp [Addr.add_lit, Nat.mul_comm]
theorem exec_lenT {a : Act} {o : Oper} {w : World} {x : Operand} (ho : o.op = .call { callee := .builtin .len, args := #[x], argTypes := #[49] }) {ad : Option Addr} {n c : Nat} (hx : a.eval x = .slice ad n c) : (execOp a.eval o).run Tryz.prog w = .ok (.value (.int .i64 (n : Int))) w := by
  have hr : (Builtin.len_ #[49] o.type #[.slice ad n c]).run Tryz.prog w = .ok (goInt n) w := by simp [go_sem]
  simp [execOp, ho, resolve, invoke, builtin, hx, hr, goInt]
section
variable {a : Act} {o : Oper} {w : World} {x y : Operand} {m n : Int}
theorem exec_lssI (ho : o.op = .binOp .lss 3 x y 3) (hx : a.eval x = .int .i64 m) (hy : a.eval y = .int .i64 n) {b : Bool} (h : decide (m < n) = b) : (execOp a.eval o).run Tryz.prog w = .ok (.value (.bool b)) w := by subst h; exact exec_bin2 ho hx hy rfl (by simp [go_sem])
theorem exec_gtrI (ho : o.op = .binOp .gtr 3 x y 3) (hx : a.eval x = .int .i64 m) (hy : a.eval y = .int .i64 n) {b : Bool} (h : decide (n < m) = b) : (execOp a.eval o).run Tryz.prog w = .ok (.value (.bool b)) w := by subst h; exact exec_bin2 ho hx hy rfl (by simp [go_sem])
theorem exec_leqI (ho : o.op = .binOp .leq 3 x y 3) (hx : a.eval x = .int .i64 m) (hy : a.eval y = .int .i64 n) {b : Bool} (h : decide (m ≤ n) = b) : (execOp a.eval o).run Tryz.prog w = .ok (.value (.bool b)) w := by subst h; exact exec_bin2 ho hx hy rfl (by simp [go_sem])
theorem exec_eqI (ho : o.op = .binOp .eql 3 x y 3) (hx : a.eval x = .int .i64 m) (hy : a.eval y = .int .i64 n) {b : Bool} (h : decide (m = n) = b) : (execOp a.eval o).run Tryz.prog w = .ok (.value (.bool b)) w := by subst h; exact exec_bin2 ho hx hy rfl (by simp [go_sem]; rfl)
theorem exec_eqU (ho : o.op = .binOp .eql 28 x y 28) (hx : a.eval x = .int .u32 m) (hy : a.eval y = .int .u32 n) {b : Bool} (h : decide (m = n) = b) : (execOp a.eval o).run Tryz.prog w = .ok (.value (.bool b)) w := by subst h; exact exec_bin2 ho hx hy rfl (by simp [go_sem]; rfl)
theorem exec_subI (ho : o.op = .binOp .sub 3 x y 3) (hx : a.eval x = .int .i64 m) (hy : a.eval y = .int .i64 n) (h0 : 0 ≤ m - n) (h1 : m - n ≤ 9223372036854775807) : (execOp a.eval o).run Tryz.prog w = .ok (.value (.int .i64 (m - n))) w := by
  refine exec_bin2 ho hx hy rfl ?_
  have e : IntKind.i64.wrap (m - n) = m - n := by rw [IntKind.wrap_i64]; omega
  simp [go_sem, e]
end
end Go.Proofs.YtbkbcfimpaolmaaGreat
