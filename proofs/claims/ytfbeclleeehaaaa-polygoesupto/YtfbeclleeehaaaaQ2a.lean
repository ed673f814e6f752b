/-
  Own text. Slices of texts that grow; steps over them.
-/
import Derived.Test.YtfbeclleeehaaaaN16
import Derived.Laws.AppendOwnNone
namespace Go.Proofs.Ytfbeclleeehaaaa
open Go.RowKit Go.Proofs
def strW (n : Nat) (ts : Nat → ByteArray) : List Value := (List.range n).map fun i => .string (ts i)
theorem strW_len (n : Nat) (ts : Nat → ByteArray) : (strW n ts).length = n := by simp [strW]
theorem strW_at (n : Nat) (ts : Nat → ByteArray) {j : Nat} (h : j < n) : (strW n ts)[j]? = some (.string (ts j)) := by simp [strW, h]
theorem strW_get {n : Nat} {ts : Nat → ByteArray} {j : Nat} {u : Value} (h : (strW n ts)[j]? = some u) : j < n ∧ u = .string (ts j) := by
  have hj : j < n := by have := (List.getElem?_eq_some_iff.1 h).1; simpa [strW] using this
  refine ⟨hj, ?_⟩
  rw [strW_at n ts hj] at h
  exact (Option.some.inj h).symm
theorem strW_one {n : Nat} {ts : Nat → ByteArray} : ∀ u ∈ strW n ts, u.oneCell' = true := fun u hu => by
  obtain ⟨i, _, rfl⟩ := List.mem_map.1 hu
  rfl
theorem infoStr : (Try.prog.info? 9).map (fun i => (i.zero, i.size, i.bytes)) = some (some (.string ⟨#[]⟩), 1, 16) := by kernel_rfl
theorem run_append_none {w : World} {B : Nat} {v : Value} {n : Nat} {xs : List Value} (ty : TypeId) (c : Nat) (hown : w.ownsRow B 9 1 v n xs) : (Builtin.append_ #[28, 28] ty #[v, .slice none 0 c]).run Try.prog w = .ok v w := by
  obtain ⟨i, hi, _⟩ := info_parts infoStr
  rcases hown.2 with ⟨rfl, rfl⟩ | ⟨g, cap, cur, rfl, _, _, hnc, _⟩
  · simp [Builtin.append_, run_underlying Try.underlying28, sizeOf, typeInfo, hi, Builtin.lenOf, Builtin.firstCells]
  · simp [Builtin.append_, run_underlying Try.underlying28, sizeOf, typeInfo, hi, Builtin.lenOf, Builtin.firstCells, hnc, storeCells]
/-- 'append(x, ..)' of texts to a row of one's own. -/
theorem ap_strs {ops : Array Oper} {rest : List Oper} {d : Option Tmp} {s x : Operand} {ty : TypeId} {ps : String} {af : Array Edge} {a : Act} {w : World} {Q : Exit → Act → World → Prop}
    {B k n : Nat} {xs : List Value} {v0 vx : Value} {ts : Nat → ByteArray} (hs : a.eval s = v0) (hx : a.eval x = vx) (hD : w.ownsRow B 9 1 v0 k xs) (hS : Strs w vx n ts) (hl : k + n < 4000000) (hB : B ≤ w.heap.size)
    (h : ∀ v' w', w'.ownsRow B 9 1 v' (k + n) (xs ++ strW n ts) → Below B w w' → wpList Try.prog ops Q rest (a.put d v') w') :
    wpList Try.prog ops Q ({ dst := d, op := .call { callee := .builtin .append, args := #[s, x], argTypes := #[28, 28] }, type := ty, pos := ps, after := af, guard := none } :: rest) a w := by
  obtain ⟨ad, c, rfl, hp⟩ := hS
  cases ad with
  | none =>
    have hn : n = 0 := by
      rcases Nat.eq_zero_or_pos n with h0 | h0
      · exact h0
      · obtain ⟨p, hp1, _⟩ := hp h0
        cases hp1
    subst hn
    refine wpList_plain rfl fun K hK => ?_
    have hrun := run_append_none ty c hD
    unfold Oper.wp
    simp [execOp, resolve, invoke, builtin, hs, hx, hrun, Result.andThen]
    exact hK _ _ (h v0 w (by simpa [strW] using hD) (Below.refl _ _))
  | some p =>
    obtain ⟨i0, hi, hz0, hz1, hz2⟩ := info_parts infoStr
    refine wpList_append_own w rfl s x 28 rfl B 9 i0 (.string ⟨#[]⟩) 1 16 Try.underlying28 hi hz0 hz1 hz2 rfl (by decide) _ k _ hs hD p n c (strW n ts) hx (by rw [strW_len]; omega) ?_ strW_one ?_ ?_ hB ?_
    · intro j u hj
      obtain ⟨hj2, rfl⟩ := strW_get hj
      obtain ⟨q, hq, hc⟩ := hp (by omega)
      obtain rfl := Option.some.inj hq
      exact hc j hj2
    · unfold maxLen; omega
    · omega
    · intro v' w1 hown hgrow _
      exact h v' w1 hown (Below.grow hgrow hB (own_base hD))
/-- The row of texts behind the appends. -/
theorem own_strs {w : World} {B : Nat} {v : Value} {n : Nat} {ts : Nat → ByteArray} {q : ByteArray} (h : w.ownsRow B 9 1 v (n + 1) (strW n ts ++ [.string q])) : ∃ g cap cur, v = .slice (some ⟨g, 0, none⟩) (n + 1) cap ∧ B ≤ g ∧ n + 1 ≤ cap ∧ w.heap[g]? = some (.cells cur 9 (0, 0)) ∧ (∀ j, j < n → cur[j]? = some (.string (ts j))) ∧ cur[n]? = some (.string q) := by
  rcases h.2 with ⟨_, h0⟩ | ⟨g, cap, cur, rfl, hb, hg, hc, _, hs, ht⟩
  · omega
  · rw [Nat.mul_one] at ht
    have key : ∀ j, j < n + 1 → cur[j]? = (strW n ts ++ [.string q])[j]? := fun j hj => by
      rw [← ht, List.getElem?_take, if_pos hj]
      simp
    refine ⟨g, cap, cur, rfl, hb, hc, hg, fun j hj => ?_, ?_⟩
    · rw [key j (by omega), List.getElem?_append_left (by rw [strW_len]; exact hj), strW_at n ts hj]
    · rw [key n (by omega), List.getElem?_append_right (by rw [strW_len]; exact Nat.le_refl _), strW_len]
      simp
theorem strs_row' {w : World} {g n cap : Nat} {cur : Array Value} {ts : Nat → ByteArray} (h : w.heap[g]? = some (.cells cur 9 (0, 0))) (hc : ∀ j, j < n → cur[j]? = some (.string (ts j))) : Strs w (.slice (some ⟨g, 0, none⟩) n cap) n ts :=
  ⟨_, _, rfl, fun _ => ⟨_, rfl, fun j hj => by
    rw [Addr.add_lit, cell_of_row w g _ _ _ _ h, Nat.zero_add]
    exact hc j hj⟩⟩
theorem exec_lenV {a : Act} {o : Oper} {w : World} {x : Operand} (ho : o.op = .call { callee := .builtin .len, args := #[x], argTypes := #[28] }) {ad : Option Addr} {n c : Nat} (hx : a.eval x = .slice ad n c) : (execOp a.eval o).run Try.prog w = .ok (.value (.int .i64 (n : Int))) w := by
  have hr : (Builtin.len_ #[28] o.type #[.slice ad n c]).run Try.prog w = .ok (goInt n) w := by simp [go_sem]
  simp [execOp, ho, resolve, invoke, builtin, hx, hr, goInt]
theorem size_str (w : World) : (sizeOf (Try.prog.elem 28)).run Try.prog w = .ok 1 w := by kernel_rfl
theorem load_str {w : World} {p : Addr} {s : ByteArray} (h : w.cell? p = some (.string s)) : (Instr.loadAt 9 (.pointer (some p))).run Try.prog w = .ok (.string s) w := by
  simp [go_sem, h]
theorem exec_eqS {a : Act} {o : Oper} {w : World} {x y : Operand} (ho : o.op = .binOp .eql 9 x y 9) {s : ByteArray} (hx : a.eval x = .string s) (hy : a.eval y = .string s) : (execOp a.eval o).run Try.prog w = .ok (.value (.bool true)) w := exec_bin2 ho hx hy rfl (by simp [go_sem])
theorem slStr (ad : Option Addr) (n m c : Nat) (w : World) (h : n ≤ c) : (Instr.sliceAt 28 (.slice ad m c) none (some (.int .i64 (n : Int))) none).run Try.prog w = .ok (.slice ad n c) w := by
  have h2 : (n : Int) ≤ (c : Int) := by omega
  cases ad <;> simp [go_sem, h2]
theorem run_bs0 (w : World) : (Instr.buildSlice 28 0 #[]).run Try.prog w = .ok (.slice (some ⟨w.heap.size, 0, none⟩) 0 0) (w.alloc (.cells #[] 9)) := by simp [go_sem]
theorem wl_bs0 {ops : Array Oper} {rest : List Oper} {d : Option Tmp} {ty : TypeId} {ps : String} {af : Array Edge} {a : Act} {w : World} {Q : Exit → Act → World → Prop}
    (h : ∀ w2, w2.ownsRow w.heap.size 9 1 (.slice (some ⟨w.heap.size, 0, none⟩) 0 0) 0 [] → Below w.heap.size w w2 → wpList Try.prog ops Q rest (a.put d (.slice (some ⟨w.heap.size, 0, none⟩) 0 0)) w2) :
    wpList Try.prog ops Q ({ dst := d, op := .buildSlice 28 0 #[], type := ty, pos := ps, after := af, guard := none } :: rest) a w := by
  have hr := run_bs0 w
  refine wl_act rfl ?_
  unfold Oper.wp execOp
  simp only [List.map_toArray, List.map_nil, Sem.run_bind, hr, Result.andThen_ok, Sem.run_pure, Oper.upon]
  exact h _ (World.ownsRow_lit w #[] 0 (Nat.le_refl _) (by unfold maxLen; omega) rfl) ((Below.refl _ _).alloc (Nat.le_refl _) _)
theorem wl_bs1 {ops : Array Oper} {rest : List Oper} {d : Option Tmp} {x : Operand} {ty : TypeId} {ps : String} {af : Array Edge} {a : Act} {w : World} {Q : Exit → Act → World → Prop} {s : ByteArray} (hx : a.eval x = .string s)
    (h : ∀ w2, Strs w2 (.slice (some ⟨w.heap.size, 0, none⟩) 1 1) 1 (one1 s) → Below w.heap.size w w2 → w2.heap.size = w.heap.size + 1 → wpList Try.prog ops Q rest (a.put d (.slice (some ⟨w.heap.size, 0, none⟩) 1 1)) w2) :
    wpList Try.prog ops Q ({ dst := d, op := .buildSlice 28 1 #[(0, x)], type := ty, pos := ps, after := af, guard := none } :: rest) a w := by
  have hr := run_bs1 s w
  refine wl_act rfl ?_
  unfold Oper.wp execOp
  simp only [List.map_toArray, List.map_cons, List.map_nil, hx, Sem.run_bind, hr, Result.andThen_ok, Sem.run_pure, Oper.upon]
  exact h _ (strs1 (heap_alloc_new w _)) ((Below.refl _ _).alloc (Nat.le_refl _) _) (by simp)
theorem wl_bs2 {ops : Array Oper} {rest : List Oper} {d : Option Tmp} {x y : Operand} {ty : TypeId} {ps : String} {af : Array Edge} {a : Act} {w : World} {Q : Exit → Act → World → Prop} {s t : ByteArray} (hx : a.eval x = .string s) (hy : a.eval y = .string t)
    (h : ∀ w2, Strs w2 (.slice (some ⟨w.heap.size, 0, none⟩) 2 2) 2 (two2 s t) → Below w.heap.size w w2 → w2.heap.size = w.heap.size + 1 → wpList Try.prog ops Q rest (a.put d (.slice (some ⟨w.heap.size, 0, none⟩) 2 2)) w2) :
    wpList Try.prog ops Q ({ dst := d, op := .buildSlice 28 2 #[(0, x), (1, y)], type := ty, pos := ps, after := af, guard := none } :: rest) a w := by
  have hr := run_bs2 s t w
  refine wl_act rfl ?_
  unfold Oper.wp execOp
  simp only [List.map_toArray, List.map_cons, List.map_nil, hx, hy, Sem.run_bind, hr, Result.andThen_ok, Sem.run_pure, Oper.upon]
  exact h _ (strs2 (heap_alloc_new w _)) ((Below.refl _ _).alloc (Nat.le_refl _) _) (by simp)
end Go.Proofs.Ytfbeclleeehaaaa
