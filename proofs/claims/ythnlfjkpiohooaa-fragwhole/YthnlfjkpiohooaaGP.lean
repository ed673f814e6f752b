/-
  Own text. How a packet is cut, as an argument.
-/
import Derived.Test.YthnlfjkpiohooaaJ9
namespace Go.Proofs.Ythnlfjkpiohooaa
open Go.ChangeShapes Go.WideShapes Go.ChangeAt Go.WideMaps Go.WideElems Go.RowKit Go.Proofs
set_option maxRecDepth 100000
/-- A slice of numbers. -/
def NumsAt (w : World) (v : Value) (n : Nat) (f : Nat → Int) : Prop := ∃ a c, v = .slice a n c ∧ ∀ j, j < n → ∃ p : Addr, a = some p ∧ w.cell? (p.add j) = some (.int .i64 (f j)) ∧ p.block < w.heap.size
theorem NumsAt.one {w : World} {v : Value} {n : Nat} {f : Nat → Int} (h : NumsAt w v n f) : v.oneCell' = true := by
  obtain ⟨a, c, rfl, _⟩ := h
  rfl
theorem NumsAt.keep {w w' : World} {v : Value} {n : Nat} {f : Nat → Int} (h : NumsAt w v n f) (hs : w.heap.size ≤ w'.heap.size) (e : ∀ k, k < w.heap.size → w'.heap[k]? = w.heap[k]?) : NumsAt w' v n f := by
  obtain ⟨a, c, hv, h⟩ := h
  refine ⟨a, c, hv, fun j hj => ?_⟩
  obtain ⟨p, ha, hc, hp⟩ := h j hj
  exact ⟨p, ha, (cell_blk (by rw [add_blk]; exact e _ hp)).trans hc, Nat.lt_of_lt_of_le hp hs⟩
structure Cut14 where
  mtu : Int
  id : Int
  on : Nat
  ord : Nat → Int
  ov : Value
  tn : Nat
  twi : Nat → Int
  tv : Value
  other : Bool
def cutV14 (C : Cut14) (j : Nat) : Value := if j < 1 then .int .i64 C.mtu else if j < 2 then .int .i64 C.id else if j < 3 then C.ov else if j < 4 then C.tv else .bool C.other
def I64 (z : Int) : Prop := -9223372036854775808 ≤ z ∧ z < 9223372036854775808
structure CutAt14 (w : World) (v : Value) (C : Cut14) : Prop where
  v : v = .agg (SC 5 (cutV14 C))
  o : NumsAt w C.ov C.on C.ord
  t : NumsAt w C.tv C.tn C.twi
  bo : ∀ j, j < C.on → I64 (C.ord j)
  bt : ∀ j, j < C.tn → I64 (C.twi j)
  bm : I64 C.mtu
theorem cutV_one {C : Cut14} (h1 : C.ov.oneCell' = true) (h2 : C.tv.oneCell' = true) (j : Nat) : (cutV14 C j).oneCell' = true := by
  unfold cutV14
  split
  · rfl
  · split
    · rfl
    · split
      · exact h1
      · split
        · exact h2
        · rfl
theorem wf_i64 {z : Int} (h : (Lit.int .i64 z).wf = true) : I64 z := by
  have := bounds_i64 h
  unfold I64
  omega
section
variable {H : Type} {enc : TypeId × Value → H} {w : World} {base : Nat} {sp : Nat → Bool} {held : Bool} {fuel : Nat} {cs : List Value} {x : DataW H × List MemPlace}
theorem cIs : Try.prog.cellsOf 37 = 1 := by kernel_rfl
theorem trod_nums (h : DataW.trod enc Try.prog w base sp held fuel 37 cs = some x) : ∃ v n f, cs = [v] ∧ NumsAt w v n f ∧ ∀ i, i < n → I64 (f i) := by
  rcases open_ints Try.underlying37 Try.underlying3 cIn h with ⟨hcs, _⟩ | ⟨ad, len, cap, zs, hcs, _, hl, hm, hz, _, hcell, hw⟩
  · exact ⟨_, 0, fun _ => 0, hcs, ⟨none, 0, rfl, fun j h => by omega⟩, fun i h => by omega⟩
  · have hle : len ≤ zs.length := by rw [hz]; split <;> omega
    refine ⟨_, len, fun i => zs.getD i 0, hcs, ⟨some ad, cap, rfl, fun j hj => ?_⟩, fun i hi => ?_⟩
    · have h0 := hcell j (by omega)
      refine ⟨ad, rfl, h0, ?_⟩
      have := World.block_lt_of_cell? _ _ h0
      rwa [add_blk] at this
    · have hi2 : i < zs.length := by omega
      refine wf_i64 (hw _ ?_)
      show zs.getD i 0 ∈ zs
      rw [List.getD_eq_getElem?_getD, List.getElem?_eq_getElem hi2]
      exact List.getElem_mem hi2
end
theorem isCut : IsSt 39 5 := ⟨_, Try.underlying39, rfl, by kernel_rfl⟩
theorem cutFd : ∃ f0 f1 f2 f3 f4 : Field, Try.prog.underlying 39 = some (.struct #[f0, f1, f2, f3, f4]) ∧ f0.type = 3 ∧ f1.type = 3 ∧ f2.type = 37 ∧ f3.type = 37 ∧ f4.type = 4 ∧ f0.offset = 0 ∧ f1.offset = 1 ∧ f2.offset = 2 ∧ f3.offset = 3 ∧ f4.offset = 4 := ⟨_, _, _, _, _, Try.underlying39, rfl, rfl, rfl, rfl, rfl, rfl, rfl, rfl, rfl, rfl⟩
theorem cCut : Try.prog.cellsOf 39 = 5 := by kernel_rfl
section
variable {H : Type} {enc : TypeId × Value → H} {W : World} {base : Nat} {sp : Nat → Bool} {v : Value} {d : DataW H} {p : List MemPlace}
theorem open_cut14 (hv : Value.okWide Try.prog W .any base 39 v) (h : DataW.Trod enc Try.prog W 0 sp true 39 v d p) : ∃ C, CutAt14 W v C := by
  obtain ⟨cs, rfl, hsz, _⟩ : ∃ cs, v = .agg cs ∧ cs.size = Try.prog.cellsOf 39 ∧ Row.okWide Try.prog W .any base 39 cs := by
    simpa [Value.okWide, Try.underlying39] using hv
  obtain ⟨fuel, hf⟩ := h
  rw [cCut] at hsz
  obtain ⟨f0, f1, f2, f3, f4, hu, e0, e1, e2, e3, e4, o0, o1, o2, o3, o4⟩ := cutFd
  obtain ⟨xs, n', _, hxx, hl, hxl, hff⟩ := DataW.trod_struct hu hf
  obtain ⟨y0, y1, y2, y3, y4, rfl⟩ : ∃ y0 y1 y2 y3 y4, xs = [y0, y1, y2, y3, y4] := by
    match xs, hxl with
    | [c0, c1, c2, c3, c4], _ => exact ⟨_, _, _, _, _, rfl⟩
  have g0 := hff 0 f0 rfl
  rw [e0, o0, cIn] at g0
  have g1 := hff 1 f1 rfl
  rw [e1, o1, cIn] at g1
  have g2 := hff 2 f2 rfl
  rw [e2, o2, cIs] at g2
  have g3 := hff 3 f3 rfl
  rw [e3, o3, cIs] at g3
  have g4 := hff 4 f4 rfl
  rw [e4, o4, cBo] at g4
  obtain ⟨mtu, k0, _, b0⟩ := DataW.trod_int Try.underlying3 g0
  obtain ⟨id, k1, _, _⟩ := DataW.trod_int Try.underlying3 g1
  obtain ⟨ov, on, ord, k2, h2, w2⟩ := trod_nums g2
  obtain ⟨tv, tn, twi, k3, h3, w3⟩ := trod_nums g3
  obtain ⟨ot, k4, _⟩ := DataW.trod_bool Try.underlying4 g4
  refine ⟨⟨mtu, id, on, ord, ov, tn, twi, tv, ot⟩, ?_, h2, h3, w2, w3, wf_i64 b0⟩
  have e2 : cs.toList = (SC 5 (cutV14 ⟨mtu, id, on, ord, ov, tn, twi, tv, ot⟩)).toList := sc_list (by simpa using hsz) (fun i hi => by
    match i, hi with
    | 0, _ => exact tk1 k0
    | 1, _ => exact tk1 k1
    | 2, _ => exact tk1 k2
    | 3, _ => exact tk1 k3
    | 4, _ => exact tk1 k4)
  exact congrArg Value.agg (Array.toList_inj.1 e2)
end
theorem exec_fcut {a : Act} {o : Oper} {w : World} {x : Operand} (k : Nat) (hk : k < 5) (ho : o.op = .fieldAddr 39 x k) {g : Nat} (hx : a.eval x = .pointer (some ⟨g, 0, none⟩)) : (execOp a.eval o).run Try.prog w = .ok (.value (.pointer (some ⟨g, k, none⟩))) w := by
  have h : (Instr.fieldAt 39 (.pointer (some ⟨g, 0, none⟩)) k).run Try.prog w = .ok (.pointer (some ⟨g, k, none⟩)) w := by
    match k, hk with
    | 0, _ => simp [go_sem]
    | 1, _ => simp [go_sem]
    | 2, _ => simp [go_sem]
    | 3, _ => simp [go_sem]
    | 4, _ => simp [go_sem]
  unfold execOp
  simp only [ho, hx, Sem.run_bind, h, Result.andThen_ok, Sem.run_pure]
section
variable {w : World} {g : Nat} {C : Cut14} {ty : TypeId}
theorem cut_mtu (h : SAt w g ty 5 (cutV14 C)) : w.cell? ⟨g, 0, none⟩ = some (.int .i64 C.mtu) := h.at 0 (by decide)
theorem cut_id (h : SAt w g ty 5 (cutV14 C)) : w.cell? ⟨g, 1, none⟩ = some (.int .i64 C.id) := h.at 1 (by decide)
theorem cut_ov (h : SAt w g ty 5 (cutV14 C)) : w.cell? ⟨g, 2, none⟩ = some C.ov := h.at 2 (by decide)
theorem cut_tv (h : SAt w g ty 5 (cutV14 C)) : w.cell? ⟨g, 3, none⟩ = some C.tv := h.at 3 (by decide)
theorem cut_other (h : SAt w g ty 5 (cutV14 C)) : w.cell? ⟨g, 4, none⟩ = some (.bool C.other) := h.at 4 (by decide)
end
theorem ldNs {w : World} {p : Addr} {x : Value} (h : w.cell? p = some x) : (Instr.loadAt 37 (.pointer (some p))).run Try.prog w = .ok x w := by simp [go_sem, h]
theorem exec_lenN {a : Act} {o : Oper} {w : World} {x : Operand} (ho : o.op = .call { callee := .builtin .len, args := #[x], argTypes := #[37] }) {ad : Option Addr} {n c : Nat} (hx : a.eval x = .slice ad n c) : (execOp a.eval o).run Try.prog w = .ok (.value (.int .i64 (n : Int))) w := by
  have hr : (Builtin.len_ #[37] o.type #[.slice ad n c]).run Try.prog w = .ok (goInt n) w := by simp [go_sem]
  simp [execOp, ho, resolve, invoke, builtin, hx, hr, goInt]
theorem exec_ixN {a : Act} {o : Oper} {w : World} {x y : Operand} (ho : o.op = .indexAddr 37 x y) {p : Addr} {n c i : Nat} (hx : a.eval x = .slice (some p) n c) (hy : a.eval y = .int .i64 (i : Int)) (hi : i < n) : (execOp a.eval o).run Try.prog w = .ok (.value (.pointer (some (p.add i)))) w := by
  unfold execOp
  simp only [ho, hx, hy, Sem.run_bind]
  rw [run_indexAt_slice w 37 _ n c .i64 (i : Int) Try.underlying37, if_pos ⟨by omega, by omega⟩]
  have e : (sizeOf (Try.prog.elem 37)).run Try.prog w = .ok 1 w := by kernel_rfl
  simp [e]
/-- The remainder of any number by 2 or 3 (it is never so great that it is another). -/
theorem exec_remI {a : Act} {o : Oper} {w : World} {x y : Operand} (ho : o.op = .binOp .rem 3 x y 3) {m n : Int} (hx : a.eval x = .int .i64 m) (hy : a.eval y = .int .i64 n) (h0 : 0 < n) : (execOp a.eval o).run Try.prog w = .ok (.value (.int .i64 (m.tmod n))) w := by
  exact exec_bin2 ho hx hy rfl (by simp [go_sem, show n ≠ 0 by omega])
end Go.Proofs.Ythnlfjkpiohooaa
