/-
  Own text. Small laws for the walks of frag's statements.
-/
import Derived.Test.YthnlfjkpiohooaaJ9
namespace Go.Proofs.Ythnlfjkpiohooaa
open Go.RowKit Go.Proofs
set_option maxRecDepth 100000
theorem exK_lt {w : World} {v : Value} {l : List Ex} (h : ExAt w v l) {k : Nat} (hk : exK v = some k) : k < w.heap.size := by
  obtain ⟨a, cap, rfl, h⟩ := h
  cases l with
  | nil => cases a <;> simp [exK] at hk
  | cons x l =>
    obtain ⟨ad, rfl, hl, _⟩ := h 0 x rfl
    have e : ad.block = k := by simpa [exK] using hk
    omega
theorem ExAt.keep {w w' : World} {v : Value} {l : List Ex} (h : ExAt w v l) (e : ∀ k, k < w.heap.size → w'.heap[k]? = w.heap[k]?) : ExAt w' v l := h.blk (fun k hk => e k (exK_lt h hk))
theorem exec_neBB {a : Act} {o : Oper} {w : World} {x y : Operand} {z : Bool} (ho : o.op = .binOp .neq 4 x y 4) (hx : a.eval x = .bool z) (hy : a.eval y = .bool z) : (execOp a.eval o).run Try.prog w = .ok (.value (.bool false)) w := by
  unfold execOp
  simp only [ho, hx, hy]
  cases z <;> simp [go_sem]
theorem exec_neSE {a : Act} {o : Oper} {w : World} {x y : Operand} (ho : o.op = .binOp .neq 9 x y 9) (hx : a.eval x = .string ByteArray.empty) (hy : a.eval y = .string ByteArray.empty) : (execOp a.eval o).run Try.prog w = .ok (.value (.bool false)) w := exec_neqS ho hx hy rfl
theorem exec_eqW {a : Act} {o : Oper} {w : World} {x y : Operand} (ho : o.op = .binOp .eql 3 x y 3) {m n : Int} {z : Bool} (hx : a.eval x = .int .i64 m) (hy : a.eval y = .int .i64 n) (hz : decide (m = n) = z) : (execOp a.eval o).run Try.prog w = .ok (.value (.bool z)) w := hz ▸ cmp_eq ho hx hy
theorem below_spares {n : Nat} {w w' : World} (h : Spares (fun k => k < n) w w') (hn : n ≤ w.heap.size) : Below n w w' := ⟨h.os, h.tape, h.output, h.size, keep_spares h hn⟩
theorem ld_row {w : World} {ty : TypeId} {n : Nat} {V : Nat → Value} {p : Addr} (hT : IsSt ty n) (h : ∀ k, k < n → w.cell? (p.add k) = some (V k)) : (Instr.loadAt ty (.pointer (some p))).run Try.prog w = .ok (.agg (SC n V)) w := by
  obtain ⟨u, h1, h2, h3⟩ := hT
  refine run_loadAt_addr w p ty ((List.range n).map V) _ (fun j y hj => ?_) h1 (by cases u <;> first | rfl | exact h2) (by rw [List.length_map, List.length_range]; exact h3)
  rw [List.getElem?_map] at hj
  have hl : j < n := by
    rcases Nat.lt_or_ge j n with h | h
    · exact h
    · rw [List.getElem?_eq_none (by simpa using h)] at hj; cases hj
  rw [List.getElem?_range hl] at hj
  rw [h j hl]
  exact hj
theorem exec_geW {a : Act} {o : Oper} {w : World} {x y : Operand} (ho : o.op = .binOp .geq 3 x y 3) {m n : Int} {z : Bool} (hx : a.eval x = .int .i64 m) (hy : a.eval y = .int .i64 n) (hz : decide (n ≤ m) = z) : (execOp a.eval o).run Try.prog w = .ok (.value (.bool z)) w := hz ▸ cmp_ge ho hx hy
end Go.Proofs.Ythnlfjkpiohooaa
