/-
  Own text. A MAC in memory: its cells; steps over them.
-/
import Derived.Test.YtfbeclleeehaaaaN4
import Derived.Test.YtfbeclleeehaaaaN8
import Derived.Lib.LazyBuf
namespace Go.Proofs.Ytfbeclleeehaaaa
open Go.RowKit Go.Proofs
/-- The cells of a MAC. -/
def macV (R S Z H : Nat → Int) (l : Int) (i : Nat) : Value := if i < 5 then .int .u64 (R i) else if i < 7 then .int .u64 (S (i - 5)) else if i < 12 then .int .u64 (Z (i - 7)) else if i < 28 then .int .u8 (H (i - 12)) else .int .i64 l
def macC (R S Z H : Nat → Int) (l : Int) : Array Value := ((List.range 29).map (macV R S Z H l)).toArray
theorem macC_size (R S Z H : Nat → Int) (l : Int) : (macC R S Z H l).size = 29 := by simp [macC]
theorem macC_get (R S Z H : Nat → Int) (l : Int) (i : Nat) (h : i < 29) : (macC R S Z H l)[i]? = some (macV R S Z H l i) := by simp [macC, h]
theorem macC_ext {cs : Array Value} {R S Z H : Nat → Int} {l : Int} (hs : cs.size = 29) (h : ∀ i, i < 29 → cs[i]? = some (macV R S Z H l i)) : cs = macC R S Z H l := by
  apply Array.ext_getElem?
  intro i
  by_cases hi : i < 29
  · rw [h i hi, macC_get R S Z H l i hi]
  · rw [Array.getElem?_eq_none (by omega), Array.getElem?_eq_none (by rw [macC_size]; omega)]
theorem macC_one (R S Z H : Nat → Int) (l : Int) : (macC R S Z H l).all (·.oneCell') = true := by
  rw [Array.all_eq_true_iff_forall_mem]
  intro v hv
  simp only [macC, List.mem_toArray, List.mem_map] at hv
  obtain ⟨i, _, rfl⟩ := hv
  unfold macV
  split
  · rfl
  split
  · rfl
  split
  · rfl
  split <;> rfl
def MacAt (w : World) (b : Nat) (R S Z H : Nat → Int) (l : Int) : Prop := w.heap[b]? = some (.cells (macC R S Z H l) 43 (0, 0))
theorem MacAt.at {w : World} {b : Nat} {R S Z H : Nat → Int} {l : Int} (h : MacAt w b R S Z H l) (i : Nat) (hi : i < 29) : w.cell? ⟨b, i, none⟩ = some (macV R S Z H l i) := by
  rw [cell_of_row w b i _ _ _ h, macC_get R S Z H l i hi]
theorem MacAt.free {w : World} {b : Nat} {R S Z H : Nat → Int} {l : Int} (h : MacAt w b R S Z H l) (i : Nat) : w.frozen? ⟨b, i, none⟩ = false := frozen_of_row w b i _ _ h
theorem MacAt.lt {w : World} {b : Nat} {R S Z H : Nat → Int} {l : Int} (h : MacAt w b R S Z H l) : b < w.heap.size := heap_lt h
theorem MacAt.block {w w' : World} {b : Nat} {R S Z H : Nat → Int} {l : Int} (h : MacAt w b R S Z H l) (e : w'.heap[b]? = w.heap[b]?) : MacAt w' b R S Z H l := e.trans h
theorem MacAt.kept {w w' : World} {b : Nat} {R S Z H : Nat → Int} {l : Int} (h : MacAt w b R S Z H l) (hb : Below w.heap.size w w') : MacAt w' b R S Z H l := h.block (hb.block b h.lt)
theorem MacAt.below {B : Nat} {w w' : World} {b : Nat} {R S Z H : Nat → Int} {l : Int} (h : MacAt w b R S Z H l) (hb : Below B w w') (hB : b < B) : MacAt w' b R S Z H l := h.block (hb.block b hB)
theorem MacAt.only {g : Nat} {w w' : World} {b : Nat} {R S Z H : Nat → Int} {l : Int} (h : MacAt w b R S Z H l) (ho : Only g w w') (hB : b ≠ g) : MacAt w' b R S Z H l := h.block (ho.block b hB)
theorem MacAt.alloc {w : World} {b : Nat} {R S Z H : Nat → Int} {l : Int} (h : MacAt w b R S Z H l) (o : Obj) : MacAt (w.alloc o) b R S Z H l := h.block (Below.heap_alloc _ _ _ h.lt)
theorem MacAt.drew {w : World} {b : Nat} {R S Z H : Nat → Int} {l : Int} (h : MacAt w b R S Z H l) : MacAt w.drew b R S Z H l := h
theorem MacAt.r {w : World} {b : Nat} {R S Z H : Nat → Int} {l : Int} (h : MacAt w b R S Z H l) : w.rangeAt b 0 (nums .u64 5 R) := fun j v hj => by
  obtain ⟨hj2, rfl⟩ := nums_get hj
  rw [Nat.zero_add, h.at j (by omega)]
  unfold macV
  rw [if_pos hj2]
theorem MacAt.s {w : World} {b : Nat} {R S Z H : Nat → Int} {l : Int} (h : MacAt w b R S Z H l) : w.rangeAt b 5 (nums .u64 2 S) := fun j v hj => by
  obtain ⟨hj2, rfl⟩ := nums_get hj
  rw [h.at (5 + j) (by omega)]
  unfold macV
  rw [if_neg (by omega), if_pos (by omega), Nat.add_sub_cancel_left]
theorem MacAt.sum {w : World} {b : Nat} {R S Z H : Nat → Int} {l : Int} (h : MacAt w b R S Z H l) : w.rangeAt b 7 (nums .u64 5 Z) := fun j v hj => by
  obtain ⟨hj2, rfl⟩ := nums_get hj
  rw [h.at (7 + j) (by omega)]
  unfold macV
  rw [if_neg (by omega), if_neg (by omega), if_pos (by omega), Nat.add_sub_cancel_left]
theorem MacAt.rest {w : World} {b : Nat} {R S Z H : Nat → Int} {l : Int} (h : MacAt w b R S Z H l) (j : Nat) (hj : j < 16) : w.cell? ⟨b, 12 + j, none⟩ = some (.int .u8 (H j)) := by
  rw [h.at (12 + j) (by omega)]
  unfold macV
  rw [if_neg (by omega), if_neg (by omega), if_neg (by omega), if_pos (by omega), Nat.add_sub_cancel_left]
theorem MacAt.held {w : World} {b : Nat} {R S Z H : Nat → Int} {l : Int} (h : MacAt w b R S Z H l) : w.cell? ⟨b, 28, none⟩ = some (.int .i64 l) := h.at 28 (by decide)
theorem MacAt.cells {w : World} {b o : Nat} {R S Z H : Nat → Int} {l : Int} (h : MacAt w b R S Z H l) (vs : List Value) (hl : o + vs.length ≤ 29) {R' S' Z' H' : Nat → Int} {l' : Int}
    (h1 : ∀ j, j < vs.length → vs[j]? = some (macV R' S' Z' H' l' (o + j))) (h2 : ∀ i, i < 29 → i < o ∨ o + vs.length ≤ i → macV R' S' Z' H' l' i = macV R S Z H l i) : MacAt (w.setCells b o vs) b R' S' Z' H' l' ∧ Only b w (w.setCells b o vs) := by
  obtain ⟨C', k1, k2, k3, k4, k5⟩ := setCells_heap vs o w _ h (by rw [macC_size]; exact hl)
  refine ⟨?_, k5⟩
  have e : C' = macC R' S' Z' H' l' := by
    refine macC_ext (by rw [k2, macC_size]) (fun i hi => ?_)
    by_cases c : i < o ∨ o + vs.length ≤ i
    · rw [k4 i c, macC_get _ _ _ _ _ i hi, h2 i hi c]
    · have := k3 (i - o) (by omega)
      rw [show o + (i - o) = i by omega] at this
      rw [this, h1 (i - o) (by omega), show o + (i - o) = i by omega]
  unfold MacAt
  rw [← e]
  exact k1
theorem MacAt.setSum {w : World} {b : Nat} {R S Z H : Nat → Int} {l : Int} (h : MacAt w b R S Z H l) (Z' : Nat → Int) : MacAt (w.setCells b 7 (nums .u64 5 Z')) b R S Z' H l ∧ Only b w (w.setCells b 7 (nums .u64 5 Z')) := by
  refine h.cells (nums .u64 5 Z') (by rw [nums_len]; omega) (fun j hj => ?_) (fun i hi hc => ?_)
  · rw [nums_len] at hj
    rw [nums_at .u64 5 Z' hj]
    unfold macV
    rw [if_neg (by omega), if_neg (by omega), if_pos (by omega), Nat.add_sub_cancel_left]
  · rw [nums_len] at hc
    unfold macV
    split
    · rfl
    split
    · rfl
    split
    · omega
    · rfl
theorem MacAt.setRest {w : World} {b : Nat} {R S Z H : Nat → Int} {l : Int} (h : MacAt w b R S Z H l) (o m : Nat) (r : Nat → Int) (hm : o + m ≤ 16) : MacAt (w.setCells b (12 + o) (nums .u8 m r)) b R S Z (over H o m r) l ∧ Only b w (w.setCells b (12 + o) (nums .u8 m r)) := by
  refine h.cells (nums .u8 m r) (by rw [nums_len]; omega) (fun j hj => ?_) (fun i hi hc => ?_)
  · rw [nums_len] at hj
    rw [nums_at .u8 m r hj]
    unfold macV over
    rw [if_neg (by omega), if_neg (by omega), if_neg (by omega), if_pos (by omega), if_pos (by omega), show 12 + o + j - 12 - o = j by omega]
  · rw [nums_len] at hc
    unfold macV over
    split
    · rfl
    split
    · rfl
    split
    · rfl
    split
    · rw [if_neg (by omega)]
    · rfl
theorem MacAt.setHeld {w : World} {b : Nat} {R S Z H : Nat → Int} {l : Int} (h : MacAt w b R S Z H l) (l' : Int) : MacAt (w.setCell ⟨b, 28, none⟩ (.int .i64 l')) b R S Z H l' := by
  have h1 := (h.cells (o := 28) [.int .i64 l'] (by simp) (R' := R) (S' := S) (Z' := Z) (H' := H) (l' := l') (fun j hj => by
    have : j = 0 := by simpa using hj
    subst this
    rfl) (fun i hi hc => by
      simp at hc
      unfold macV
      split
      · rfl
      split
      · rfl
      split
      · rfl
      split
      · rfl
      · omega)).1
  exact h1
-- steps
theorem exec_ldmid {a : Act} {o : Oper} {w : World} {x : Operand} {ty : TypeId} {b f n : Nat} {k : IntKind} {s : Nat → Int} (ho : o.op = .load ty x) (hA : IsArr ty n) (hx : a.eval x = .pointer (some ⟨b, f, none⟩)) (hr : w.rangeAt b f (nums k n s)) : (execOp a.eval o).run Try.prog w = .ok (.value (.agg (WA k n s))) w := by
  obtain ⟨m, e, h1, h3⟩ := hA
  have h := run_loadAt_mid (P := Try.prog) w b f ty (nums k n s) _ hr h1 rfl (by rw [nums_len]; exact h3)
  exact exec_ld ho hx h
theorem exec_nilc {a : Act} {o : Oper} {w : World} {x : Operand} {p : Addr} (ho : o.op = .nilCheck x) (hx : a.eval x = .pointer (some p)) : (execOp a.eval o).run Try.prog w = .ok (.value (.pointer (some p))) w := by
  unfold execOp
  simp only [ho, hx, Sem.run_pure]
theorem run_fm (b k : Nat) (w : World) : k < 5 → (Instr.fieldAt 43 (.pointer (some ⟨b, 0, none⟩)) k).run Try.prog w = .ok (.pointer (some ⟨b, [0, 5, 7, 12, 28].getD k 0, none⟩)) w := by
  intro hk
  match k, hk with
  | 0, _ => simp [go_sem]
  | 1, _ => simp [go_sem]
  | 2, _ => simp [go_sem]
  | 3, _ => simp [go_sem]
  | 4, _ => simp [go_sem]
theorem exec_fm {a : Act} {o : Oper} {w : World} {x : Operand} {k : Nat} (ho : o.op = .fieldAddr 43 x k) {b : Nat} (hx : a.eval x = .pointer (some ⟨b, 0, none⟩)) (hk : k < 5) : (execOp a.eval o).run Try.prog w = .ok (.value (.pointer (some ⟨b, [0, 5, 7, 12, 28].getD k 0, none⟩))) w := by
  have h := run_fm b k w hk
  unfold execOp
  simp only [ho, hx, Sem.run_bind, h, Result.andThen_ok, Sem.run_pure]
theorem enterNumber (args : Array Value) (w : World) : (callFunc 24 args).run Try.prog w = .ok (.enter 24 args) w := by kernel_rfl
theorem enterPlus (args : Array Value) (w : World) : (callFunc 23 args).run Try.prog w = .ok (.enter 23 args) w := by kernel_rfl
theorem enterTimes (args : Array Value) (w : World) : (callFunc 22 args).run Try.prog w = .ok (.enter 22 args) w := by kernel_rfl
theorem enterBehind (args : Array Value) (w : World) : (callFunc 20 args).run Try.prog w = .ok (.enter 20 args) w := by kernel_rfl
theorem enterMark (args : Array Value) (w : World) : (callFunc 21 args).run Try.prog w = .ok (.enter 21 args) w := by kernel_rfl
end Go.Proofs.Ytfbeclleeehaaaa
