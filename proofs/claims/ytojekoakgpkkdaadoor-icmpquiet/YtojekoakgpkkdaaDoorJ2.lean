/-
  Own text. Slices of texts; texts one behind the other.
-/
import Derived.Test.YtojekoakgpkkdaaDoorJ1
import Derived.Lib.AppendStr
import Derived.Laws.BytesArg
import Derived.Laws.AppendOwnNone
import Derived.Test.YtojekoakgpkkdaaDoorRows
import Derived.SliceStrings
import Derived.Tactics
import Derived.BigQuiet
import Derived.Laws.Bits64b
namespace Go.Proofs.YtojekoakgpkkdaaDoor
open Go.RowKit Go.Proofs Go.Lib
set_option maxRecDepth 100000
/-- The texts of a row, one behind the other. -/
def joinB (ts : Nat → ByteArray) : Nat → ByteArray
  | 0 => ByteArray.empty
  | n + 1 => joinB ts n ++ ts n
theorem strCells_cat (s t : ByteArray) : strCells (s ++ t) = strCells s ++ strCells t := by
  simp [strCells, ByteArray.data_append]
theorem joinB_mono (ts : Nat → ByteArray) {i n : Nat} (h : i ≤ n) : (joinB ts i).size ≤ (joinB ts n).size := by
  induction h with
  | refl => exact Nat.le_refl _
  | step _ ih => refine Nat.le_trans ih ?_; rw [joinB, ByteArray.size_append]; omega
theorem strCells_nums (s : ByteArray) : strCells s = nums .u8 s.size (txt s) := by
  have h := nums_bytes (n := s.size) (f := txt s) (fun j _ => txt_b s j)
  rw [h]
  have e := congrArg (fun x => x.data.toList) (mkS_txt s)
  simp only [mkS] at e
  rw [e]
  rfl
/-- A slice of texts. -/
def Strs (w : World) (v : Value) (n : Nat) (ts : Nat → ByteArray) : Prop := ∃ a c, v = .slice a n c ∧ (0 < n → ∃ p, a = some p ∧ ∀ j, j < n → w.cell? (p.add j) = some (.string (ts j)))
theorem str_own {w : World} {v : Value} {s : ByteArray} {B : Nat} (h : w.ownsRow B 5 1 v s.size (strCells s)) : (convert 114 9 v).run Tryd.prog w = .ok (.string s) w := by
  by_cases h0 : 0 < s.size
  · rw [strCells_nums] at h
    obtain ⟨b, cp, rfl, _, _, hr⟩ := own_row h h0
    rw [str_back s.size b cp w s.size (txt s) hr (fun j _ => txt_b s j) rfl, mkS_txt]
  · have hz : s.size = 0 := by omega
    have hs : s = ByteArray.empty := by simpa using hz
    subst hs
    rcases h.2 with ⟨rfl, _⟩ | ⟨g, cap, cur, rfl, hb, hg, _⟩
    · exact run_convert_bytes_nil (P := Tryd.prog) w 114 5 Tryd.underlying114 Tryd.underlying5 0 0 9 Tryd.underlying9
    · have h := run_convert_bytes_back (P := Tryd.prog) w 114 9 5 ⟨g, 0, none⟩ cap [] Tryd.underlying114 Tryd.underlying5 Tryd.underlying9 (fun j hj => by simp at hj)
      exact h
theorem infoByte1 : ∃ i, Tryd.prog.info? 5 = some i ∧ i.zero = some (.int .u8 0) ∧ i.size = 1 ∧ i.bytes = 1 := by
  obtain ⟨i, h, a, b, c⟩ := info_parts infoByte
  exact ⟨i, h, a, b, c⟩
theorem txt_append (A B : ByteArray) (j : Nat) : txt (A ++ B) j = if j < A.size then txt A j else txt B (j - A.size) := by
  unfold txt
  rw [ByteArray.data_append, Array.toList_append]
  have hA : A.data.toList.length = A.size := by simp
  simp only [List.getD_eq_getElem?_getD]
  by_cases h : j < A.size
  · rw [if_pos h, List.getElem?_append_left (by rw [hA]; exact h)]
  · rw [if_neg h, List.getElem?_append_right (by rw [hA]; omega), hA]
/-- Bytes behind bytes, behind bytes. -/
theorem cat_join (n : Nat) (f : Nat → Int) (A B : ByteArray) : cat (n + A.size) (cat n f (txt A)) (txt B) = cat n f (txt (A ++ B)) := by
  funext j
  unfold cat
  rw [txt_append]
  by_cases h1 : j < n + A.size
  · rw [if_pos h1]
    by_cases h2 : j < n
    · rw [if_pos h2, if_pos h2]
    · rw [if_neg h2, if_neg h2, if_pos (by omega)]
  · rw [if_neg h1, if_neg (by omega), if_neg (by omega)]
    congr 1
    omega
theorem txt_empty (j : Nat) : txt ByteArray.empty j = 0 := by simp [txt]
theorem Strs.touch {w w' : World} {v : Value} {n : Nat} {ts : Nat → ByteArray} {b : Nat} (h : Strs w v n ts) (hb : ∀ p n' c, v = .slice (some p) n' c → p.block ≠ b) (ht : Touch (fun x => x = b) w w') : Strs w' v n ts := by
  obtain ⟨a, c, rfl, hp⟩ := h
  refine ⟨a, c, rfl, fun hn => ?_⟩
  obtain ⟨p, rfl, hc⟩ := hp hn
  refine ⟨p, rfl, fun j hj => ?_⟩
  have h0 := hc j hj
  have hl := World.block_lt_of_cell? _ _ h0
  have hpb : (p.add j).block = p.block := by unfold Addr.add; split <;> rfl
  have e := ht.block (p.add j).block hl (fun e => hb p n c rfl (by rw [← hpb]; exact e))
  rw [← h0]
  exact World.cell?_of_block (w := w) e
theorem Strs.kept {w w' : World} {v : Value} {n : Nat} {ts : Nat → ByteArray} (h : Strs w v n ts) (hk : ∀ k, k < w.heap.size → w'.heap[k]? = w.heap[k]?) : Strs w' v n ts := by
  obtain ⟨a, c, rfl, hp⟩ := h
  refine ⟨a, c, rfl, fun hn => ?_⟩
  obtain ⟨p, rfl, hc⟩ := hp hn
  refine ⟨p, rfl, fun j hj => ?_⟩
  have h0 := hc j hj
  rw [← h0]
  exact World.cell?_of_block (w := w) (hk _ (World.block_lt_of_cell? _ _ h0))
theorem Strs.below {w w' : World} {v : Value} {n : Nat} {ts : Nat → ByteArray} (h : Strs w v n ts) (hb : Below w.heap.size w w') : Strs w' v n ts := h.kept (fun k hk => hb.block k hk)
theorem belowT {B b : Nat} {u v w : World} (h : Below B u v) (ht : Touch (fun x => x = b) v w) (hb : B ≤ b) (hB : B ≤ u.heap.size) : Below B u w :=
  ⟨ht.os.trans h.os, ht.tape.trans h.tape, ht.output.trans h.output, Nat.le_trans h.size ht.size, fun k hk => (ht.block k (by have := h.size; omega) (by omega)).trans (h.block k hk)⟩
theorem ArrAt.touch {w w' : World} {g b : Nat} {k : IntKind} {t : TypeId} {n : Nat} {s : Nat → Int} (h : ArrAt w g k t n s) (ht : Touch (fun x => x = b) w w') (hg : g ≠ b) : ArrAt w' g k t n s := h.block (ht.block g h.lt hg)
theorem cat0 (f r : Nat → Int) : cat 0 f r = r := by
  funext i
  unfold cat
  rw [if_neg (by omega), Nat.sub_zero]
theorem run_bs1 (s : ByteArray) (w : World) : (Instr.buildSlice 115 1 #[(0, .string s)]).run Tryd.prog w = .ok (.slice (some ⟨w.heap.size, 0, none⟩) 1 1) (w.alloc (.cells #[.string s] 9)) := by simp [go_sem]
theorem run_bs2 (s t : ByteArray) (w : World) : (Instr.buildSlice 115 2 #[(0, .string s), (1, .string t)]).run Tryd.prog w = .ok (.slice (some ⟨w.heap.size, 0, none⟩) 2 2) (w.alloc (.cells #[.string s, .string t] 9)) := by simp [go_sem]
def one1 (s : ByteArray) : Nat → ByteArray := fun _ => s
def two2 (s t : ByteArray) : Nat → ByteArray
  | 0 => s
  | _ => t
theorem join1 (s : ByteArray) : joinB (one1 s) 1 = s := by simp [joinB, one1]
theorem join2 (s t : ByteArray) : joinB (two2 s t) 2 = s ++ t := by simp [joinB, two2]
theorem strs1 {w : World} {b : Nat} {s : ByteArray} (h : w.heap[b]? = some (.cells #[.string s] 9 (0, 0))) : Strs w (.slice (some ⟨b, 0, none⟩) 1 1) 1 (one1 s) :=
  ⟨_, _, rfl, fun _ => ⟨_, rfl, fun j hj => by
    obtain rfl : j = 0 := by omega
    rw [Addr.add_lit, cell_of_row w b _ _ _ _ h]
    rfl⟩⟩
theorem strs2 {w : World} {b : Nat} {s t : ByteArray} (h : w.heap[b]? = some (.cells #[.string s, .string t] 9 (0, 0))) : Strs w (.slice (some ⟨b, 0, none⟩) 2 2) 2 (two2 s t) :=
  ⟨_, _, rfl, fun _ => ⟨_, rfl, fun j hj => by
    rw [Addr.add_lit, cell_of_row w b _ _ _ _ h]
    match j, hj with
    | 0, _ => rfl
    | 1, _ => rfl⟩⟩
theorem act_bs1 {o : Oper} {a : Act} {w : World} {K : Act → World → Prop} {Q : Exit → Act → World → Prop} {x : Operand} (ho : o.op = .buildSlice 115 1 #[(0, x)]) {s : ByteArray} (hx : a.eval x = .string s)
    (h : ∀ v, v.heap[w.heap.size]? = some (.cells #[.string s] 9 (0, 0)) → Below w.heap.size w v → K (a.put o.dst (.slice (some ⟨w.heap.size, 0, none⟩) 1 1)) v) : o.wp Tryd.prog a w K Q := by
  have hr := run_bs1 s w
  unfold Oper.wp execOp
  simp only [ho, List.map_toArray, List.map_cons, List.map_nil, hx, Sem.run_bind, hr, Result.andThen_ok, Sem.run_pure, Oper.upon]
  exact h _ (heap_alloc_new w _) ((Below.refl _ _).alloc (Nat.le_refl _) _)
theorem act_bs2 {o : Oper} {a : Act} {w : World} {K : Act → World → Prop} {Q : Exit → Act → World → Prop} {x y : Operand} (ho : o.op = .buildSlice 115 2 #[(0, x), (1, y)]) {s t : ByteArray} (hx : a.eval x = .string s) (hy : a.eval y = .string t)
    (h : ∀ v, v.heap[w.heap.size]? = some (.cells #[.string s, .string t] 9 (0, 0)) → Below w.heap.size w v → K (a.put o.dst (.slice (some ⟨w.heap.size, 0, none⟩) 2 2)) v) : o.wp Tryd.prog a w K Q := by
  have hr := run_bs2 s t w
  unfold Oper.wp execOp
  simp only [ho, List.map_toArray, List.map_cons, List.map_nil, hx, hy, Sem.run_bind, hr, Result.andThen_ok, Sem.run_pure, Oper.upon]
  exact h _ (heap_alloc_new w _) ((Below.refl _ _).alloc (Nat.le_refl _) _)
def strW (n : Nat) (ts : Nat → ByteArray) : List Value := (List.range n).map fun i => .string (ts i)
theorem strW_len (n : Nat) (ts : Nat → ByteArray) : (strW n ts).length = n := by simp [strW]
theorem strW_at (n : Nat) (ts : Nat → ByteArray) {j : Nat} (h : j < n) : (strW n ts)[j]? = some (.string (ts j)) := by simp [strW, h]
theorem strW_get {n : Nat} {ts : Nat → ByteArray} {j : Nat} {u : Value} (h : (strW n ts)[j]? = some u) : j < n ∧ u = .string (ts j) := by
  have hj : j < n := by have := (List.getElem?_eq_some_iff.1 h).1; simpa [strW] using this
  refine ⟨hj, ?_⟩
  rw [strW_at n ts hj] at h
  exact (Option.some.inj h).symm
theorem strW_one {n : Nat} {ts : Nat → ByteArray} : ∀ u ∈ strW n ts, u.oneCell' = true := fun u hu => by
  obtain ⟨i, _, rfl⟩ := List.mem_map.1 hu
  rfl
theorem infoStr : (Tryd.prog.info? 9).map (fun i => (i.zero, i.size, i.bytes)) = some (some (.string ⟨#[]⟩), 1, 16) := by kernel_rfl
theorem run_append_none {w : World} {B : Nat} {v : Value} {n : Nat} {xs : List Value} (ty : TypeId) (c : Nat) (hown : w.ownsRow B 9 1 v n xs) : (Builtin.append_ #[115, 115] ty #[v, .slice none 0 c]).run Tryd.prog w = .ok v w := by
  obtain ⟨i, hi, _⟩ := info_parts infoStr
  rcases hown.2 with ⟨rfl, rfl⟩ | ⟨g, cap, cur, rfl, _, _, hnc, _⟩
  · simp [Builtin.append_, run_underlying Tryd.underlying115, sizeOf, typeInfo, hi, Builtin.lenOf, Builtin.firstCells]
  · simp [Builtin.append_, run_underlying Tryd.underlying115, sizeOf, typeInfo, hi, Builtin.lenOf, Builtin.firstCells, hnc, storeCells]
/-- 'append(x, ..)' of texts to a row of one's own. -/
theorem ap_strs {ops : Array Oper} {rest : List Oper} {d : Option Tmp} {s x : Operand} {ty : TypeId} {ps : String} {af : Array Edge} {a : Act} {w : World} {Q : Exit → Act → World → Prop}
    {B k n : Nat} {xs : List Value} {v0 vx : Value} {ts : Nat → ByteArray} (hs : a.eval s = v0) (hx : a.eval x = vx) (hD : w.ownsRow B 9 1 v0 k xs) (hS : Strs w vx n ts) (hl : k + n < 4000000) (hB : B ≤ w.heap.size)
    (h : ∀ v' w', w'.ownsRow B 9 1 v' (k + n) (xs ++ strW n ts) → Below B w w' → wpList Tryd.prog ops Q rest (a.put d v') w') :
    wpList Tryd.prog ops Q ({ dst := d, op := .call { callee := .builtin .append, args := #[s, x], argTypes := #[115, 115] }, type := ty, pos := ps, after := af, guard := none } :: rest) a w := by
  obtain ⟨ad, c, rfl, hp⟩ := hS
  cases ad with
  | none =>
    have hn : n = 0 := by
      rcases Nat.eq_zero_or_pos n with h0 | h0
      · exact h0
      · obtain ⟨p, hp1, _⟩ := hp h0
        cases hp1
    subst hn
    refine wpList_plain rfl fun K hK => ?_
    have hrun := run_append_none ty c hD
    unfold Oper.wp
    simp [execOp, resolve, invoke, builtin, hs, hx, hrun, Result.andThen]
    exact hK _ _ (h v0 w (by simpa [strW] using hD) (Below.refl _ _))
  | some p =>
    obtain ⟨i0, hi, hz0, hz1, hz2⟩ := info_parts infoStr
    refine wpList_append_own w rfl s x 115 rfl B 9 i0 (.string ⟨#[]⟩) 1 16 Tryd.underlying115 hi hz0 hz1 hz2 rfl (by decide) _ k _ hs hD p n c (strW n ts) hx (by rw [strW_len]; omega) ?_ strW_one ?_ ?_ hB ?_
    · intro j u hj
      obtain ⟨hj2, rfl⟩ := strW_get hj
      obtain ⟨q, hq, hc⟩ := hp (by omega)
      obtain rfl := Option.some.inj hq
      exact hc j hj2
    · unfold maxLen; omega
    · omega
    · intro v' w1 hown hgrow _
      exact h v' w1 hown (Below.grow hgrow hB (own_base hD))
/-- The row of texts behind the appends. -/
theorem own_strs {w : World} {B : Nat} {v : Value} {n : Nat} {ts : Nat → ByteArray} {q : ByteArray} (h : w.ownsRow B 9 1 v (n + 1) (strW n ts ++ [.string q])) : ∃ g cap cur, v = .slice (some ⟨g, 0, none⟩) (n + 1) cap ∧ B ≤ g ∧ n + 1 ≤ cap ∧ w.heap[g]? = some (.cells cur 9 (0, 0)) ∧ (∀ j, j < n → cur[j]? = some (.string (ts j))) ∧ cur[n]? = some (.string q) := by
  rcases h.2 with ⟨_, h0⟩ | ⟨g, cap, cur, rfl, hb, hg, hc, _, hs, ht⟩
  · omega
  · rw [Nat.mul_one] at ht
    have key : ∀ j, j < n + 1 → cur[j]? = (strW n ts ++ [.string q])[j]? := fun j hj => by
      rw [← ht, List.getElem?_take, if_pos hj]
      simp
    refine ⟨g, cap, cur, rfl, hb, hc, hg, fun j hj => ?_, ?_⟩
    · rw [key j (by omega), List.getElem?_append_left (by rw [strW_len]; exact hj), strW_at n ts hj]
    · rw [key n (by omega), List.getElem?_append_right (by rw [strW_len]; exact Nat.le_refl _), strW_len]
      simp
theorem strs_row' {w : World} {g n cap : Nat} {cur : Array Value} {ts : Nat → ByteArray} (h : w.heap[g]? = some (.cells cur 9 (0, 0))) (hc : ∀ j, j < n → cur[j]? = some (.string (ts j))) : Strs w (.slice (some ⟨g, 0, none⟩) n cap) n ts :=
  ⟨_, _, rfl, fun _ => ⟨_, rfl, fun j hj => by
    rw [Addr.add_lit, cell_of_row w g _ _ _ _ h, Nat.zero_add]
    exact hc j hj⟩⟩
theorem exec_lenV {a : Act} {o : Oper} {w : World} {x : Operand} (ho : o.op = .call { callee := .builtin .len, args := #[x], argTypes := #[115] }) {ad : Option Addr} {n c : Nat} (hx : a.eval x = .slice ad n c) : (execOp a.eval o).run Tryd.prog w = .ok (.value (.int .i64 (n : Int))) w := by
  have hr : (Builtin.len_ #[115] o.type #[.slice ad n c]).run Tryd.prog w = .ok (goInt n) w := by simp [go_sem]
  simp [execOp, ho, resolve, invoke, builtin, hx, hr, goInt]
theorem size_str (w : World) : (sizeOf (Tryd.prog.elem 115)).run Tryd.prog w = .ok 1 w := by kernel_rfl
theorem load_str {w : World} {p : Addr} {s : ByteArray} (h : w.cell? p = some (.string s)) : (Instr.loadAt 9 (.pointer (some p))).run Tryd.prog w = .ok (.string s) w := by
  simp [go_sem, h]
theorem slStr (ad : Option Addr) (n m c : Nat) (w : World) (h : n ≤ c) : (Instr.sliceAt 115 (.slice ad m c) none (some (.int .i64 (n : Int))) none).run Tryd.prog w = .ok (.slice ad n c) w := by
  have h2 : (n : Int) ≤ (c : Int) := by omega
  cases ad <;> simp [go_sem, h2]
theorem run_bs0 (w : World) : (Instr.buildSlice 115 0 #[]).run Tryd.prog w = .ok (.slice (some ⟨w.heap.size, 0, none⟩) 0 0) (w.alloc (.cells #[] 9)) := by simp [go_sem]
theorem wl_bs0 {ops : Array Oper} {rest : List Oper} {d : Option Tmp} {ty : TypeId} {ps : String} {af : Array Edge} {a : Act} {w : World} {Q : Exit → Act → World → Prop}
    (h : ∀ w2, w2.ownsRow w.heap.size 9 1 (.slice (some ⟨w.heap.size, 0, none⟩) 0 0) 0 [] → Below w.heap.size w w2 → wpList Tryd.prog ops Q rest (a.put d (.slice (some ⟨w.heap.size, 0, none⟩) 0 0)) w2) :
    wpList Tryd.prog ops Q ({ dst := d, op := .buildSlice 115 0 #[], type := ty, pos := ps, after := af, guard := none } :: rest) a w := by
  have hr := run_bs0 w
  refine wl_act rfl ?_
  unfold Oper.wp execOp
  simp only [List.map_toArray, List.map_nil, Sem.run_bind, hr, Result.andThen_ok, Sem.run_pure, Oper.upon]
  exact h _ (World.ownsRow_lit w #[] 0 (Nat.le_refl _) (by unfold maxLen; omega) rfl) ((Below.refl _ _).alloc (Nat.le_refl _) _)
theorem wl_bs1 {ops : Array Oper} {rest : List Oper} {d : Option Tmp} {x : Operand} {ty : TypeId} {ps : String} {af : Array Edge} {a : Act} {w : World} {Q : Exit → Act → World → Prop} {s : ByteArray} (hx : a.eval x = .string s)
    (h : ∀ w2, Strs w2 (.slice (some ⟨w.heap.size, 0, none⟩) 1 1) 1 (one1 s) → Below w.heap.size w w2 → w2.heap.size = w.heap.size + 1 → wpList Tryd.prog ops Q rest (a.put d (.slice (some ⟨w.heap.size, 0, none⟩) 1 1)) w2) :
    wpList Tryd.prog ops Q ({ dst := d, op := .buildSlice 115 1 #[(0, x)], type := ty, pos := ps, after := af, guard := none } :: rest) a w := by
  have hr := run_bs1 s w
  refine wl_act rfl ?_
  unfold Oper.wp execOp
  simp only [List.map_toArray, List.map_cons, List.map_nil, hx, Sem.run_bind, hr, Result.andThen_ok, Sem.run_pure, Oper.upon]
  exact h _ (strs1 (heap_alloc_new w _)) ((Below.refl _ _).alloc (Nat.le_refl _) _) (by simp)
theorem wl_bs2 {ops : Array Oper} {rest : List Oper} {d : Option Tmp} {x y : Operand} {ty : TypeId} {ps : String} {af : Array Edge} {a : Act} {w : World} {Q : Exit → Act → World → Prop} {s t : ByteArray} (hx : a.eval x = .string s) (hy : a.eval y = .string t)
    (h : ∀ w2, Strs w2 (.slice (some ⟨w.heap.size, 0, none⟩) 2 2) 2 (two2 s t) → Below w.heap.size w w2 → w2.heap.size = w.heap.size + 1 → wpList Tryd.prog ops Q rest (a.put d (.slice (some ⟨w.heap.size, 0, none⟩) 2 2)) w2) :
    wpList Tryd.prog ops Q ({ dst := d, op := .buildSlice 115 2 #[(0, x), (1, y)], type := ty, pos := ps, after := af, guard := none } :: rest) a w := by
  have hr := run_bs2 s t w
  refine wl_act rfl ?_
  unfold Oper.wp execOp
  simp only [List.map_toArray, List.map_cons, List.map_nil, hx, hy, Sem.run_bind, hr, Result.andThen_ok, Sem.run_pure, Oper.upon]
  exact h _ (strs2 (heap_alloc_new w _)) ((Below.refl _ _).alloc (Nat.le_refl _) _) (by simp)
theorem same_ext {a b : ByteArray} (hl : a.size = b.size) (h : ∀ j, j < a.size → txt a j = txt b j) : a = b := by
  refine ByteArray.ext (Array.ext hl (fun i h1 h2 => ?_))
  have := h i h1
  rw [← txt_get h1, ← txt_get (s := b) h2] at this
  have h3 : (a.data[i].toNat : Int) = b.data[i].toNat := this
  exact UInt8.toNat_inj.1 (Int.ofNat.inj h3)
theorem xor_zero {x y : Nat} : x ^^^ y = 0 ↔ x = y := by
  constructor
  · intro h
    have h2 : x ^^^ y ^^^ y = x := by rw [Nat.xor_assoc, Nat.xor_self, Nat.xor_zero]
    rw [h, Nat.zero_xor] at h2
    exact h2.symm
  · rintro rfl
    exact Nat.xor_self _
theorem strW_app {k n : Nat} {ts ts' : Nat → ByteArray} (h : ∀ j, j < n → ts' j = ts (k + j)) : strW k ts ++ strW n ts' = strW (k + n) ts := by
  unfold strW
  rw [List.range_add, List.map_append, List.map_map]
  congr 1
  refine List.map_congr_left (fun j hj => ?_)
  simp [h j (List.mem_range.1 hj)]
theorem own_Strs {w : World} {B : Nat} {v : Value} {n : Nat} {ts : Nat → ByteArray} (h : w.ownsRow B 9 1 v n (strW n ts)) (hn : 0 < n) : Strs w v n ts := by
  rcases h.2 with ⟨_, h0⟩ | ⟨g, cap, cur, rfl, hb, hg, hc, _, hs, ht⟩
  · omega
  · refine strs_row' hg (fun j hj => ?_)
    rw [Nat.mul_one] at ht
    have e : cur[j]? = (strW n ts)[j]? := by
      rw [← ht, List.getElem?_take, if_pos hj]
      simp
    rw [e, strW_at n ts hj]
theorem app_left (a b : ByteArray) : (a ++ b).extract 0 a.size = a := ByteArray.extract_append_eq_left rfl
theorem app_right (a b : ByteArray) : (a ++ b).extract a.size (a ++ b).size = b := by
  have hs : (a ++ b).size = a.size + b.size := ByteArray.size_append
  refine same_ext (by rw [extract_size, hs]; omega) (fun j hj => ?_)
  rw [extract_size, hs] at hj
  rw [txt_extract _ _ _ (by omega), txt_append, if_neg (by omega), Nat.add_sub_cancel_left]
theorem app_cut (s : ByteArray) (n : Nat) (h : n ≤ s.size) : s.extract 0 n ++ s.extract n s.size = s := by
  have h1 := take_size s n h
  refine same_ext (by rw [ByteArray.size_append, h1, extract_size]; omega) (fun j hj => ?_)
  rw [ByteArray.size_append, h1, extract_size] at hj
  rw [txt_append, h1]
  by_cases e : j < n
  · rw [if_pos e, txt_take s n j e h]
  · rw [if_neg e, txt_extract _ _ _ (by omega), show n + (j - n) = j by omega]
end Go.Proofs.YtojekoakgpkkdaaDoor
/-
  Own text. A slice of texts as an argument, and what the bound on its bulk gives.
-/
namespace Go.Proofs.YtojekoakgpkkdaaDoor
open Go.ChangeShapes Go.WideShapes Go.ChangeAt Go.WideMaps Go.WideElems Go.RowKit Go.Proofs Go.Lib
set_option maxRecDepth 100000
theorem bulk_cat {H : Type} (l r : List (DataW H)) : Rows.uptoBulkAll (l ++ r) = Rows.uptoBulkAll l + Rows.uptoBulkAll r := by
  induction l with
  | nil => simp [Rows.uptoBulkAll]
  | cons x l ih => simp only [List.cons_append, Rows.uptoBulkAll, ih]; omega
theorem bulk_strs {H : Type} (ss : List ByteArray) : ∀ n, n ≤ ss.length → Rows.uptoBulkAll (strs (H := H) (ss.take n)) = n + (joinB (fun i => ss.getD i ByteArray.empty) n).size
  | 0, _ => by simp [strs, Rows.uptoBulkAll, joinB]
  | n + 1, h => by
    have ih := bulk_strs (H := H) ss n (by omega)
    have hn : n < ss.length := by omega
    have e : ss.take (n + 1) = ss.take n ++ [ss.getD n ByteArray.empty] := by
      rw [List.take_succ_eq_append_getElem hn]
      simp [List.getD, hn]
    have hb : Rows.uptoBulkAll (strs (H := H) [ss.getD n ByteArray.empty]) = (ss.getD n ByteArray.empty).size + 1 := by
      simp only [strs, List.map_cons, List.map_nil, Rows.uptoBulkAll, Rows.uptoBulk, Array.length_toList]
      rfl
    have hs : strs (H := H) (ss.take n ++ [ss.getD n ByteArray.empty]) = strs (ss.take n) ++ strs [ss.getD n ByteArray.empty] := by simp [strs]
    rw [e, hs, bulk_cat, ih, hb, joinB, ByteArray.size_append]
    omega
theorem cellsStr : Tryd.prog.cellsOf 9 = 1 := by kernel_rfl
/-- A slice that is no longer than its array. -/
def CapOK (v : Value) : Prop := ∀ a m c, v = .slice a m c → m ≤ c
/-- An argument that is a slice of texts. -/
theorem open_strs {H : Type} {enc : TypeId × Value → H} {W : World} {base : Nat} {sp : Nat → Bool} {v : Value} {d : DataW H} {p : List MemPlace} (hv : Value.okWide Tryd.prog W .any base 115 v)
    (h : DataW.Trod enc Tryd.prog W 0 sp true 115 v d p) : ∃ n ts, Strs W v n ts ∧ CapOK v ∧ n + (joinB ts n).size ≤ Rows.uptoBulk d := by
  obtain ⟨a, len, cap, rfl⟩ := okWide_slice Tryd.underlying115 hv
  obtain ⟨fuel, hf⟩ := h
  rcases open_strings Tryd.underlying115 Tryd.underlying9 cellsStr hf with ⟨hcs, hx⟩ | ⟨ad, len', cap', ss, hcs, _, hl, hm, hz, hx, hcell, hsz⟩
  · simp [Value.cells] at hcs
    obtain ⟨rfl, rfl, rfl⟩ := hcs
    exact ⟨0, fun _ => ByteArray.empty, ⟨none, 0, rfl, fun h => by omega⟩, fun a m c e => by simp at e; omega, by simp [joinB]⟩
  · simp [Value.cells] at hcs
    obtain ⟨rfl, rfl, rfl⟩ := hcs
    have hle : len ≤ ss.length := by rw [hz]; split <;> omega
    simp only [Prod.mk.injEq] at hx
    refine ⟨len, fun i => ss.getD i ByteArray.empty, ⟨some ad, cap, rfl, fun _ => ⟨ad, rfl, fun j hj => hcell j (by omega)⟩⟩, fun a m c e => by simp at e; omega, ?_⟩
    rw [hx.1]
    simp only [Rows.uptoBulk]
    rw [bulk_strs ss len hle]
    omega
theorem small_le {H : Type} {l : List (DataW H)} (hk : Rows.uptoSmall H l = true) : Rows.uptoBulkAll l ≤ 1048576 := of_decide_eq_true hk
theorem strs_rec : Tryd.prog.readableRec 115 = true := by kernel_rfl
theorem strs_row : 115 < Tryd.prog.types.size := of_decide_eq_true (by kernel_rfl)
end Go.Proofs.YtojekoakgpkkdaaDoor
/-
  Own text. A region that leaves its order open, cut in two: behind the first m operations, whatever their order, the others come one by one. No program is named here.
-/
namespace Go.Proofs.YtojekoakgpkkdaaDoor
open Go
section
variable {P : Program} {ops : Array Oper} {Q : Exit → Act → World → Prop}
def headOps (ops : Array Oper) (m : Nat) : Array Oper := (ops.toList.take m).toArray
def cutQ (P : Program) (ops : Array Oper) (Q : Exit → Act → World → Prop) (m : Nat) : Exit → Act → World → Prop
  | .normal, a, w => wpList P ops Q (ops.toList.drop m) a w
  | e, a, w => Q e a w
theorem upon_cut {m : Nat} {o : Oper} {a : Act} {K : Act → World → Prop} {r : Result Next} : o.upon P a K (cutQ P ops Q m) r = o.upon P a K Q r := by
  cases r with
  | ok n w => cases n <;> rfl
  | halt x w => cases x <;> rfl
theorem head_at {m i : Nat} (h : i < m) : (headOps ops m)[i]? = ops[i]? := by
  simp [headOps, h]
theorem head_none {m i : Nat} (h : m ≤ i) : (headOps ops m)[i]? = none := by
  simp [headOps, List.getElem?_take]
  omega
def waits (o : Oper) (j : Nat) : Bool := o.after.any (fun e => Region.binds .any e && e.on == j)
def cutB (ops : Array Oper) (m : Nat) : Bool :=
  decide (m < ops.size) && ops.all (·.guard.isNone) &&
  (List.range ops.size).all (fun i => match ops[i]? with | some o => o.after.all (fun e => !Region.binds .any e || decide (e.on < i)) | none => true) &&
  (List.range m).all (fun j => (List.range (m + 1)).any (fun i => decide (j < i) && (match ops[i]? with | some o => waits o j | none => false))) &&
  (List.range ops.size).all (fun i => decide (i ≤ m) || (match ops[i]? with | some o => waits o (i - 1) | none => false))
theorem any_mem {α : Type} {l : Array α} {p : α → Bool} (h : l.any p = true) : ∃ e ∈ l, p e = true := by
  obtain ⟨i, hi, hp⟩ := Array.any_eq_true.1 h
  exact ⟨l[i], Array.getElem_mem hi, hp⟩
theorem getD_rep (n j : Nat) : (Array.replicate n false).getD j false = false := by
  rw [Array.getD_eq_getD_getElem?]
  by_cases h : j < n
  · rw [Array.getElem?_eq_getElem (by simpa using h)]
    simp
  · rw [Array.getElem?_eq_none (by simp; omega)]
    rfl
theorem wanted_none {o : Oper} {ys : Nat → Option Bool} (h : o.guard.isNone = true) : Region.wanted o ys = true := by
  cases hg : o.guard with
  | none => simp [Region.wanted, hg]
  | some x => rw [hg] at h; cases h
/-- Which came up already, and that with each all that it waits for did. -/
structure Closed (ops : Array Oper) (listed : Array Bool) : Prop where
  size : listed.size = ops.size
  down : ∀ (i : Nat) (o : Oper), listed.getD i false = true → ops[i]? = some o → ∀ e ∈ o.after, Region.binds .any e = true → listed.getD e.on false = true
theorem getD_both {listed : Array Bool} {i : Nat} (h : i < listed.size) : listed.getD i true = listed.getD i false := by simp [h]
theorem Closed.set {listed : Array Bool} {i : Nat} (h : Closed ops listed) (hi : i ∈ Region.ready .any ops listed) : Closed ops (listed.setIfInBounds i true) := by
  obtain ⟨hun, o, ho, hall⟩ := mem_ready.1 hi
  refine ⟨by simp [h.size], fun j oj hj hoj e he hb => ?_⟩
  have key : listed.getD e.on false = true := by
    by_cases hij : i = j
    · subst hij
      rw [ho] at hoj
      obtain rfl := Option.some.inj hoj
      exact hall e he hb
    · rw [getD_set_ne false hij] at hj
      exact h.down j oj hj hoj e he hb
  by_cases hie : i = e.on
  · have hl : i < listed.size := by
      rcases Nat.lt_or_ge i listed.size with h1 | h1
      · exact h1
      · simp [Array.getElem?_eq_none h1] at hun
    rw [← hie]
    simp [hl]
  · rw [getD_set_ne false hie]
    exact key
/-- THE LAW: a region, cut. -/
theorem wp_region_cut {id : Nat} {a0 : Act} {w0 : World} (m : Nat) (hm : P.follows .mixedOrders = true) (hc : cutB ops m = true)
    (h : wpAny P .any (headOps ops m) (cutQ P ops Q m) (headOps ops m).size (Array.replicate (headOps ops m).size false) a0 { w0 with drawn := w0.drawn + 1 }) : (Code.region id ops true).wp P Q a0 w0 := by
  simp only [cutB, Bool.and_eq_true, decide_eq_true_eq] at hc
  obtain ⟨⟨⟨⟨hlt, hgd⟩, hdn⟩, hwt⟩, hch⟩ := hc
  have hhs : (headOps ops m).size = m := by simp [headOps]; omega
  have guard : ∀ (i : Nat) (o : Oper), ops[i]? = some o → o.guard.isNone = true := fun i o ho => by
    have hi := (Array.getElem?_eq_some_iff.1 ho)
    have := Array.all_eq_true.1 hgd i hi.1
    rw [hi.2] at this
    exact this
  have down : ∀ (i : Nat) (o : Oper), ops[i]? = some o → ∀ e ∈ o.after, Region.binds .any e = true → e.on < i := fun i o ho e he hbb => by
    have h1 := List.all_eq_true.1 hdn i (List.mem_range.2 (Array.getElem?_eq_some_iff.1 ho).1)
    simp only [ho] at h1
    have h2 := Array.all_eq_true_iff_forall_mem.1 h1 e he
    rw [hbb] at h2
    simpa using h2
  have chain : ∀ (i : Nat) (o : Oper), ops[i]? = some o → m < i → ∃ e ∈ o.after, Region.binds .any e = true ∧ e.on = i - 1 := fun i o ho hi => by
    have h1 := List.all_eq_true.1 hch i (List.mem_range.2 (Array.getElem?_eq_some_iff.1 ho).1)
    simp only [ho, Bool.or_eq_true, decide_eq_true_eq] at h1
    rcases h1 with h1 | h1
    · omega
    · unfold waits at h1
      obtain ⟨e, he, hh⟩ := any_mem h1
      simp only [Bool.and_eq_true, beq_iff_eq] at hh
      exact ⟨e, he, hh.1, hh.2⟩
  have succ : ∀ j, j < m → ∃ (i : Nat) (o : Oper), j < i ∧ i ≤ m ∧ ops[i]? = some o ∧ ∃ e ∈ o.after, Region.binds .any e = true ∧ e.on = j := fun j hj => by
    have h1 := List.all_eq_true.1 hwt j (List.mem_range.2 hj)
    obtain ⟨i, hi, hh⟩ := List.any_eq_true.1 h1
    simp only [Bool.and_eq_true, decide_eq_true_eq] at hh
    obtain ⟨hji, hw⟩ := hh
    cases ho : ops[i]? with
    | none => simp only [ho] at hw; cases hw
    | some o =>
      simp only [ho] at hw
      unfold waits at hw
      obtain ⟨e, he, hh⟩ := any_mem hw
      simp only [Bool.and_eq_true, beq_iff_eq] at hh
      exact ⟨i, o, hji, by have := List.mem_range.1 hi; omega, ho, e, he, hh.1, hh.2⟩
  have full : ∀ listed, Closed ops listed → m ∈ Region.ready .any ops listed → ∀ j, j < m → listed.getD j false = true := fun listed hcl hr => by
    obtain ⟨_, om, hom, hall⟩ := mem_ready.1 hr
    have key : ∀ d j, j < m → m - j ≤ d → listed.getD j false = true := by
      intro d
      induction d with
      | zero => intro j hj hd; omega
      | succ d ih =>
        intro j hj hd
        obtain ⟨i, o, hji, him, ho, e, he, hb, hon⟩ := succ j hj
        by_cases e1 : i = m
        · subst e1
          rw [hom] at ho
          obtain rfl := Option.some.inj ho
          rw [← hon]
          exact hall e he hb
        · rw [← hon]
          exact hcl.down i o (ih i (by omega) (by omega)) ho e he hb
    exact fun j hj => key m j hj (by omega)
  have done : ∀ listed, Closed ops listed → Region.ready .any ops listed = [] → ∀ j, j < ops.size → listed.getD j false = true := fun listed hcl hr => by
    have key : ∀ d j, j ≤ d → j < ops.size → listed.getD j false = true := by
      intro d
      induction d with
      | zero =>
        intro j hj hjs
        have hj0 : j = 0 := by omega
        subst hj0
        rcases Bool.eq_false_or_eq_true (listed.getD 0 false) with h1 | h1
        · exact h1
        · exfalso
          have ho : ops[0]? = some (ops[0]'hjs) := Array.getElem?_eq_getElem hjs
          have : 0 ∈ Region.ready .any ops listed := mem_ready.2 ⟨by rw [getD_both (by rw [hcl.size]; exact hjs)]; exact h1, _, ho, fun e he hbb => by have := down 0 _ ho e he hbb; omega⟩
          rw [hr] at this
          cases this
      | succ d ih =>
        intro j hj hjs
        rcases Bool.eq_false_or_eq_true (listed.getD j false) with h1 | h1
        · exact h1
        · exfalso
          have ho : ops[j]? = some (ops[j]'hjs) := Array.getElem?_eq_getElem hjs
          have : j ∈ Region.ready .any ops listed := mem_ready.2 ⟨by rw [getD_both (by rw [hcl.size]; exact hjs)]; exact h1, _, ho, fun e he hbb => by have := down j _ ho e he hbb; exact ih e.on (by omega) (by omega)⟩
          rw [hr] at this
          cases this
    exact fun j hj => key j j (Nat.le_refl _) hj
  refine wp_region_any hm (wpAny_inv (fun listed a w => Closed ops listed ∧
    ((∃ fuel lh, lh.size = m ∧ (∀ j, j < m → lh.getD j false = listed.getD j false) ∧ (∀ j, m ≤ j → listed.getD j false = false) ∧ wpAny P .any (headOps ops m) (cutQ P ops Q m) fuel lh a w) ∨
     (∃ t, 0 < t ∧ (∀ j, j < ops.size → (listed.getD j false = true ↔ j < m + t)) ∧ wpList P ops Q (ops.toList.drop (m + t)) a w))) ?_ ?_ ops.size _ a0 _ ?_ ?_)
  · rintro listed a w i ⟨hcl, hI⟩ hi
    have hi0 := hi
    obtain ⟨hun, o, ho, hall⟩ := mem_ready.1 hi
    have his : i < ops.size := (Array.getElem?_eq_some_iff.1 ho).1
    have hls : i < listed.size := by rw [hcl.size]; exact his
    have hunf : listed.getD i false = false := by rw [← getD_both hls]; exact hun
    have hcl' := hcl.set hi0
    have tailStep : ∀ t, (∀ j, j < ops.size → (listed.getD j false = true ↔ j < m + t)) → i = m + t → wpList P ops Q (ops.toList.drop (m + t)) a w → wpOp P ops Q i (fun a' w' => Closed ops (listed.setIfInBounds i true) ∧
        ((∃ fuel lh, lh.size = m ∧ (∀ j, j < m → lh.getD j false = (listed.setIfInBounds i true).getD j false) ∧ (∀ j, m ≤ j → (listed.setIfInBounds i true).getD j false = false) ∧ wpAny P .any (headOps ops m) (cutQ P ops Q m) fuel lh a' w') ∨
         (∃ t, 0 < t ∧ (∀ j, j < ops.size → ((listed.setIfInBounds i true).getD j false = true ↔ j < m + t)) ∧ wpList P ops Q (ops.toList.drop (m + t)) a' w'))) a w := fun t hl hit hw => by
      have hd : ops.toList.drop (m + t) = o :: ops.toList.drop (m + (t + 1)) := by
        rw [List.drop_eq_getElem_cons (by simpa [← hit] using his)]
        congr 1
        have := (Array.getElem?_eq_some_iff.1 ho).2
        simpa [← hit] using this
      rw [hd] at hw
      unfold wpList at hw
      rw [if_pos (wanted_none (guard i o ho))] at hw
      unfold wpOp
      simp only [ho]
      rw [if_pos (wanted_none (guard i o ho))]
      refine hw.imp (Oper.wp_mono fun a' w' hh => ⟨hcl', .inr ⟨t + 1, by omega, fun j hj => ?_, hh⟩⟩) (fun x => x)
      by_cases hij : i = j
      · subst hij
        simp [hls]
        omega
      · rw [getD_set_ne false hij, hl j hj]
        omega
    rcases hI with ⟨fuel, lh, hlh, heq, hta, hw⟩ | ⟨t, ht, hl, hw⟩
    · by_cases him : i < m
      · have hmem : i ∈ Region.ready .any (headOps ops m) lh := mem_ready.2 ⟨by rw [getD_both (by omega), heq i him]; exact hunf, o, by rw [head_at him]; exact ho, fun e he hb => by
          have h1 := hall e he hb
          have h2 := down i o ho e he hb
          rw [heq _ (by omega)]
          exact h1⟩
        cases fuel with
        | zero =>
          rw [hw.1] at hmem
          cases hmem
        | succ fuel =>
          have h1 := hw.2 i hmem
          unfold wpOp at h1 ⊢
          simp only [head_at him, ho] at h1 ⊢
          rw [if_pos (wanted_none (guard i o ho))] at h1 ⊢
          have mk : ∀ a' w', wpAny P .any (headOps ops m) (cutQ P ops Q m) fuel (lh.setIfInBounds i true) a' w' → Closed ops (listed.setIfInBounds i true) ∧
              ((∃ fuel lh, lh.size = m ∧ (∀ j, j < m → lh.getD j false = (listed.setIfInBounds i true).getD j false) ∧ (∀ j, m ≤ j → (listed.setIfInBounds i true).getD j false = false) ∧ wpAny P .any (headOps ops m) (cutQ P ops Q m) fuel lh a' w') ∨
               (∃ t, 0 < t ∧ (∀ j, j < ops.size → ((listed.setIfInBounds i true).getD j false = true ↔ j < m + t)) ∧ wpList P ops Q (ops.toList.drop (m + t)) a' w')) := fun a' w' hh =>
            ⟨hcl', .inl ⟨fuel, lh.setIfInBounds i true, by simp [hlh], fun j hj => by
              by_cases hij : i = j
              · subst hij
                simp [hls, hlh, him]
              · rw [getD_set_ne false hij, getD_set_ne false hij]
                exact heq j hj, fun j hj => by rw [getD_set_ne false (by omega)]; exact hta j hj, hh⟩⟩
          rcases h1 with h1 | ⟨h1, h2⟩
          · left
            unfold Oper.wp at h1
            rw [upon_cut] at h1
            exact Oper.wp_mono mk h1
          · exact .inr ⟨h1, h2⟩
      · have hie : i = m := by
          rcases Nat.lt_or_ge m i with h1 | h1
          · obtain ⟨e, he, hb, hon⟩ := chain i o ho h1
            have h2 := hall e he hb
            rw [hon, hta _ (by omega)] at h2
            cases h2
          · omega
        subst hie
        have hf := full listed hcl hi0
        have hnil : Region.ready .any (headOps ops i) lh = [] := by
          cases hr : Region.ready .any (headOps ops i) lh with
          | nil => rfl
          | cons x l =>
            exfalso
            have hx : x ∈ Region.ready .any (headOps ops i) lh := by rw [hr]; simp
            obtain ⟨h1, ox, hox, _⟩ := mem_ready.1 hx
            have hxs := (Array.getElem?_eq_some_iff.1 hox).1
            rw [hhs] at hxs
            rw [getD_both (by omega), heq x hxs, hf x hxs] at h1
            cases h1
        have hq : wpList P ops Q (ops.toList.drop (i + 0)) a w := by
          cases fuel with
          | zero => exact hw.2
          | succ fuel => exact hw.1 hnil
        refine tailStep 0 (fun j hj => ?_) rfl hq
        constructor
        · intro h1
          rcases Nat.lt_or_ge j i with h2 | h2
          · omega
          · rw [hta j h2] at h1
            cases h1
        · intro h1
          exact hf j (by omega)
    · have hit : i = m + t := by
        have h0 : ¬ i < m + t := fun h1 => by
          rw [(hl i his).2 h1] at hunf
          cases hunf
        rcases Nat.lt_or_ge (m + t) i with h1 | h1
        · obtain ⟨e, he, hb, hon⟩ := chain i o ho (by omega)
          have h2 := hall e he hb
          rw [hon] at h2
          have := (hl (i - 1) (by omega)).1 h2
          omega
        · omega
      exact tailStep t hl hit hw
  · rintro listed a w ⟨hcl, hI⟩ hr
    have hd := done listed hcl hr
    rcases hI with ⟨fuel, lh, hlh, heq, hta, hw⟩ | ⟨t, ht, hl, hw⟩
    · exfalso
      have h1 := hd m hlt
      rw [hta m (Nat.le_refl _)] at h1
      cases h1
    · have hle : ops.size ≤ m + t := by
        rcases Nat.lt_or_ge (m + t) ops.size with h1 | h1
        · have := (hl (m + t) h1).1 (hd _ h1)
          omega
        · exact h1
      rw [List.drop_eq_nil_of_le (by simpa using hle)] at hw
      exact hw
  · unfold leftOf
    refine Nat.le_trans (List.length_filter_le _ _) ?_
    simp
  · refine ⟨⟨by simp, fun i o hi => ?_⟩, .inl ⟨_, _, by rw [Array.size_replicate, hhs], fun j hj => ?_, fun j hj => ?_, h⟩⟩
    · rw [getD_rep] at hi
      cases hi
    · rw [getD_rep, getD_rep]
    · exact getD_rep _ _
end
end Go.Proofs.YtojekoakgpkkdaaDoor
/-
  Own text. Inv's laws for the first operations of a region that is cut (Cut). No program is named here.
-/
namespace Go.Proofs.YtojekoakgpkkdaaDoor
open Go
section
variable {P : Program} {ops : Array Oper} {Q : Exit → Act → World → Prop}
theorem any_inv {a0 : Act} {w0 : World} (S : World → Prop) (R : World → World → Prop) (φ : Nat → Value → World → Prop) (hB : invB ops = true)
    (hS0 : S w0.drew) (hSR : ∀ w w', S w → R w w' → S w') (hφ : ∀ i v w w', φ i v w → R w w' → φ i v w')
    (step : ∀ (i : Nat) (o : Oper), ops[i]? = some o → ∀ (a : Act) (w : World), S w → (∀ t : Nat, (∀ (j : Nat) (oj : Oper), ops[j]? = some oj → oj.dst = some t → predOf oj i = true) → a.tmps[t]? = a0.tmps[t]?) →
      (∀ (j : Nat) (oj : Oper) (d : Nat), ops[j]? = some oj → oj.dst = some d → predOf o j = true → φ j (a.tmps.getD d undef) w) →
      wpOp P ops Q i (fun a' w' => ∃ v, a' = a.put o.dst v ∧ φ i v w' ∧ R w w') a w)
    (fin : ∀ (vs : Nat → Value) (w : World), S w → (∀ (i : Nat) (o : Oper) (d : Nat), ops[i]? = some o → o.dst = some d → φ i (vs d) w) → Q .normal (putAll a0 vs (dsts ops)) w)
    (hsz : ∀ d ∈ dsts ops, d < a0.tmps.size) : wpAny P .any ops Q ops.size (Array.replicate ops.size false) a0 { w0 with drawn := w0.drawn + 1 } := by
  simp only [invB, Bool.and_eq_true, decide_eq_true_eq] at hB
  obtain ⟨⟨hsome, hnd⟩, hord⟩ := hB
  refine (wpAny_inv (Mid ops a0 S φ) ?_ ?_ ops.size _ a0 _ ?_ ?_)
  · intro listed a w i mid hi
    obtain ⟨hun, oi, hoi, hall⟩ := mem_ready.1 hi
    have hils : i < listed.size := by
      rcases Nat.lt_or_ge i listed.size with h | h
      · exact h
      · simp [Array.getElem?_eq_none h] at hun
    have hunf : listed.getD i false = false := by simp [hils] at hun ⊢; exact hun
    have hst := step i oi hoi a w mid.world
      (fun t ht => mid.frame t (fun j oj hj hl hd => by
        obtain ⟨e, he, hb⟩ := Array.any_eq_true'.1 (ht j oj hj hd)
        simp only [Bool.and_eq_true, beq_iff_eq] at hb
        have := mid.closed j oj hj hl e he hb.1
        rw [hb.2, hunf] at this
        cases this))
      (fun j oj d hj hd hp => by
        obtain ⟨e, he, hb⟩ := Array.any_eq_true'.1 hp
        simp only [Bool.and_eq_true, beq_iff_eq] at hb
        have := hall e he hb.1
        rw [hb.2] at this
        exact mid.known j oj d hj hd this)
    refine wpOp_mono (fun a' w' h' => ?_) hst
    obtain ⟨v, rfl, hv, hR⟩ := h'
    have hsi : oi.dst.isSome = true := List.all_eq_true.1 hsome oi (by simpa using Array.mem_of_getElem? hoi)
    obtain ⟨di, hdi⟩ := Option.isSome_iff_exists.1 hsi
    have hmem : di ∈ dsts ops := List.mem_filterMap.2 ⟨oi, by simpa using Array.mem_of_getElem? hoi, hdi⟩
    have hdlt : di < a.tmps.size := by rw [mid.size]; exact hsz di hmem
    have hself : (listed.setIfInBounds i true).getD i false = true := by simp [hils]
    rw [hdi]
    refine ⟨by simp [mid.lsize], fun j oj hj hl e he hb => ?_, by simpa [Act.put] using mid.size, mid.defers, hSR w w' mid.world hR, fun t ht => ?_, fun j oj d hj hd hl => ?_⟩
    · rcases getD_set_false hl with rfl | hl
      · obtain rfl : oj = oi := Option.some.inj (hj.symm.trans hoi)
        have h1 := hall e he hb
        by_cases hie : j = e.on
        · rw [hie]; rw [hie] at hself; exact hself
        · rw [getD_set_ne false hie]; exact h1
      · have h1 := mid.closed j oj hj hl e he hb
        by_cases hie : i = e.on
        · rw [← hie]; exact hself
        · rw [getD_set_ne false hie]; exact h1
    · have hne : di ≠ t := fun h => ht i oi hoi hself (by rw [hdi, h])
      rw [show (a.put (some di) v).tmps[t]? = a.tmps[t]? from by simp [Act.put, hne]]
      exact mid.frame t (fun j oj hj hl => ht j oj hj (by
        by_cases hij : i = j
        · subst hij; exact hself
        · rw [getD_set_ne false hij]; exact hl))
    · rcases getD_set_false hl with rfl | hl
      · obtain rfl : oj = oi := Option.some.inj (hj.symm.trans hoi)
        obtain rfl : d = di := Option.some.inj (hd.symm.trans hdi)
        rw [show (a.put (some d) v).tmps.getD d undef = v from by simp [Act.put, hdlt]]
        exact hv
      · have hne : di ≠ d := fun h => by
          subst h
          have := nodup_dst hnd hoi hj hdi hd
          subst this
          rw [hunf] at hl
          cases hl
        rw [show (a.put (some di) v).tmps.getD d undef = a.tmps.getD d undef from by simp [Act.put, hne]]
        exact hφ j _ w w' (mid.known j oj d hj hd hl) hR
  · intro listed a w mid hr
    have hall : ∀ n i, i < n → i < ops.size → listed.getD i false = true := by
      intro n
      induction n with
      | zero => intro i h; cases h
      | succ n ih =>
        intro i hin hil
        by_cases hlt : i < n
        · exact ih i hlt hil
        · have hin' : i = n := by omega
          subst hin'
          cases hg : listed.getD i false with
          | true => rfl
          | false =>
            have ho : ops[i]? = some ops[i] := Array.getElem?_eq_getElem hil
            have h1 := List.all_eq_true.1 hord i (List.mem_range.2 hil)
            simp only [ho] at h1
            have hin2 : i ∈ Region.ready .any ops listed := mem_ready.2 ⟨by
              have : i < listed.size := by rw [mid.lsize]; exact hil
              simp [this] at hg ⊢; exact hg, _, ho, fun e he hb => by
              have h2 := Array.all_eq_true'.1 h1 e he
              simp only [hb, Bool.not_true, Bool.false_or, decide_eq_true_eq] at h2
              exact ih e.on h2 (by omega)⟩
            rw [hr] at hin2
            cases hin2
    have hq := fin (fun d => a.tmps.getD d undef) w mid.world (fun i o d ho hd => mid.known i o d ho hd (hall (i + 1) i (by omega) (Array.getElem?_eq_some_iff.1 ho).1))
    have ha : putAll a0 (fun d => a.tmps.getD d undef) (dsts ops) = a := by
      have h1 := putAll_defers (fun d => a.tmps.getD d undef) (dsts ops) a0
      have h2 : (putAll a0 (fun d => a.tmps.getD d undef) (dsts ops)).tmps = a.tmps := by
        apply Array.ext_getElem?
        intro t
        by_cases ht : t < a0.tmps.size
        · rw [putAll_get _ _ _ _ ht]
          by_cases hm2 : t ∈ dsts ops
          · rw [if_pos hm2]
            have : t < a.tmps.size := by rw [mid.size]; exact ht
            simp [this]
          · rw [if_neg hm2]
            exact (mid.frame t (fun i o hi _ hd => hm2 (List.mem_filterMap.2 ⟨o, by simpa using Array.mem_of_getElem? hi, hd⟩))).symm
        · rw [Array.getElem?_eq_none (by rw [putAll_size]; omega), Array.getElem?_eq_none (by rw [mid.size]; omega)]
      rw [← mid.defers] at h1
      generalize putAll a0 (fun d => a.tmps.getD d undef) (dsts ops) = b at h1 h2
      cases a; cases b
      simp only at h1 h2
      rw [h1, h2]
    rw [ha] at hq
    exact hq
  · unfold leftOf
    exact Nat.le_trans (List.length_filter_le _ _) (by simp)
  · exact ⟨by simp, fun j oj _ hl => (by rw [getD_replicate_f] at hl; cases hl), rfl, rfl, hS0, fun _ _ => rfl, fun i o d _ _ hl => (by rw [getD_replicate_f] at hl; cases hl)⟩
theorem any_steps {a0 : Act} {w0 : World} (S : World → Prop) (R : World → World → Prop) (φ : Nat → Value → World → Prop) (ds : List Nat) (base : List (Nat × Value)) (p : List (List Nat))
    (hB : (invB ops && tabB ops ds (base.map (·.1)) p && ds.all (fun d => decide (d < a0.tmps.size))) = true)
    (hb0 : Holds a0 base) (hS0 : S w0.drew) (hSR : ∀ w w', S w → R w w' → S w') (hφ : ∀ i v w w', φ i v w → R w w' → φ i v w')
    (steps : AllSteps P S R φ ds base p 0 ops.toList)
    (fin : ∀ (vs : Nat → Value) (w : World), S w → (∀ j : Nat, j < ds.length → φ j (vs (ds.getD j 0)) w) → Q .normal (putAll a0 vs ds) w) : wpAny P .any ops Q ops.size (Array.replicate ops.size false) a0 { w0 with drawn := w0.drawn + 1 } := by
  simp only [Bool.and_eq_true] at hB
  obtain ⟨⟨hI, hT⟩, hsz⟩ := hB
  simp only [tabB, Bool.and_eq_true, beq_iff_eq] at hT
  obtain ⟨⟨hds, hbase⟩, htab⟩ := hT
  have hdst : ∀ (j : Nat) (oj : Oper), ops[j]? = some oj → oj.dst = some (ds.getD j 0) ∧ j < ds.length := fun j oj hj => by
    have h1 : (ops.toList.map (·.dst))[j]? = some oj.dst := by rw [List.getElem?_map]; simp [hj]
    rw [hds, List.getElem?_map] at h1
    cases hq : ds[j]? with
    | none => rw [hq] at h1; simp at h1
    | some d =>
      rw [hq] at h1
      have hl : j < ds.length := (List.getElem?_eq_some_iff.1 hq).1
      refine ⟨?_, hl⟩
      rw [List.getD_eq_getElem?_getD, hq]
      simpa using h1.symm
  have hdsts : dsts ops = ds := by
    unfold dsts
    have h1 : ops.toList.filterMap (·.dst) = (ops.toList.map (·.dst)).filterMap (fun x => x) := by rw [List.filterMap_map]; rfl
    rw [h1, hds, List.filterMap_map]
    exact List.filterMap_some
  refine any_inv S R φ hI hS0 hSR hφ (fun i o hi a w hS hfr hkn => ?_) (fun vs w hS h => ?_) (fun d hd => by rw [hdsts] at hd; simpa using List.all_eq_true.1 hsz d hd)
  · have hil : i < ops.size := (Array.getElem?_eq_some_iff.1 hi).1
    have ht := List.all_eq_true.1 htab i (List.mem_range.2 hil)
    simp only [hi, Bool.and_eq_true] at ht
    have st := AllSteps.at ops.toList p 0 steps i o (by simpa using hi)
    rw [Nat.zero_add] at st
    obtain ⟨hg, hk⟩ := st Q a w hS
      (holds_of base (fun t htm => eval_tmp_of (hfr t (fun j oj hj hd => by
        exfalso
        have h1 := List.all_eq_true.1 hbase t htm
        have h2 := (hdst j oj hj).1
        rw [hd] at h2
        have h3 : t = ds.getD j 0 := Option.some.inj h2
        have h4 : t ∈ ds := by
          rw [h3, List.getD_eq_getElem?_getD, List.getElem?_eq_getElem (hdst j oj hj).2]
          simp
        simp [h4] at h1))) hb0)
      (knows_of _ (fun j hj => by
        have h1 := List.all_eq_true.1 ht.1 j hj
        simp only [Bool.and_eq_true, decide_eq_true_eq] at h1
        have hoj : ops[j]? = some ops[j] := Array.getElem?_eq_getElem h1.2
        have h2 := hkn j _ _ hoj (hdst j _ hoj).1 h1.1
        simpa [Act.eval] using h2))
    have hw : Region.wanted o (yielded ops a.tmps) = true := by
      unfold Region.wanted
      cases hgd : o.guard with
      | none => rfl
      | some x =>
        obtain ⟨g, b⟩ := x
        rw [hgd] at hg
        have h2 := ht.2
        rw [hgd] at h2
        simp only [decide_eq_true_eq] at h2
        have hog : ops[g]? = some ops[g] := Array.getElem?_eq_getElem h2
        have hd := (hdst g _ hog).1
        have h4 : a.tmps[ds.getD g 0]? = some (.bool b) := by
          simp only [Act.eval] at hg
          rw [Array.getD_eq_getD_getElem?] at hg
          cases hq : a.tmps[ds.getD g 0]? with
          | none => rw [hq] at hg; simp [undef] at hg
          | some v => rw [hq] at hg; simpa using hg
        have hy : yielded ops a.tmps g = some b := by
          unfold yielded
          rw [hog]
          simp only [Option.bind_some, hd, h4]
        simp [hy]
    unfold wpOp
    simp only [hi, hw, if_true]
    exact .inl (hk _ (fun v w' h1 h2 => ⟨v, rfl, h1, h2⟩))
  · rw [hdsts]
    refine fin vs w hS (fun j hj => ?_)
    have hlen : ops.toList.length = ds.length := by have := congrArg List.length hds; simpa using this
    have hjl : j < ops.size := by rw [← hlen] at hj; simpa using hj
    have hoj : ops[j]? = some ops[j] := Array.getElem?_eq_getElem hjl
    exact h j _ _ hoj (hdst j _ hoj).1
end
end Go.Proofs.YtojekoakgpkkdaaDoor
/-
  Own text. A region that leaves its order open and in which operations change what others may meet: what holds of the world hangs on which operations are behind (L). No program is named here.
-/
namespace Go.Proofs.YtojekoakgpkkdaaDoor
open Go
section
variable {P : Program} {ops : Array Oper} {Q : Exit → Act → World → Prop}
structure Mid4 (ops : Array Oper) (a0 : Act) (S : (Nat → Bool) → World → Prop) (φ : Nat → Value → Prop) (listed : Array Bool) (a : Act) (w : World) : Prop where
  lsize : listed.size = ops.size
  closed : ∀ (j : Nat) (oj : Oper), ops[j]? = some oj → listed.getD j false = true → ∀ e ∈ oj.after, Region.binds .any e = true → listed.getD e.on false = true
  size : a.tmps.size = a0.tmps.size
  defers : a.defers = a0.defers
  world : S (fun j => listed.getD j false) w
  frame : ∀ t : Nat, (∀ (i : Nat) (o : Oper), ops[i]? = some o → listed.getD i false = true → o.dst ≠ some t) → a.tmps[t]? = a0.tmps[t]?
  known : ∀ (i : Nat) (o : Oper) (d : Nat), ops[i]? = some o → o.dst = some d → listed.getD i false = true → φ i (a.tmps.getD d undef)
theorem wp_region_inv4 {id : Nat} {a0 : Act} {w0 : World} (S : (Nat → Bool) → World → Prop) (φ : Nat → Value → Prop) (hm : P.follows .mixedOrders = true) (hB : invB ops = true)
    (hS0 : S (fun _ => false) w0.drew)
    (step : ∀ (i : Nat) (o : Oper), ops[i]? = some o → ∀ (L : Nat → Bool) (a : Act) (w : World), S L w → L i = false → (∀ (k : Nat) (ok : Oper), ops[k]? = some ok → L k = true → ∀ e ∈ ok.after, Region.binds .any e = true → L e.on = true) → (∀ e ∈ o.after, Region.binds .any e = true → L e.on = true) → (∀ t : Nat, (∀ (j : Nat) (oj : Oper), ops[j]? = some oj → oj.dst = some t → predOf oj i = true) → a.tmps[t]? = a0.tmps[t]?) →
      (∀ (j : Nat) (oj : Oper) (d : Nat), ops[j]? = some oj → oj.dst = some d → predOf o j = true → φ j (a.tmps.getD d undef)) →
      wpOp P ops Q i (fun a' w' => ∃ v, a' = a.put o.dst v ∧ φ i v ∧ S (fun j => if j = i then true else L j) w') a w)
    (fin : ∀ (vs : Nat → Value) (L : Nat → Bool) (w : World), S L w → (∀ i, i < ops.size → L i = true) → (∀ (i : Nat) (o : Oper) (d : Nat), ops[i]? = some o → o.dst = some d → φ i (vs d)) → Q .normal (putAll a0 vs (dsts ops)) w)
    (hsz : ∀ d ∈ dsts ops, d < a0.tmps.size) : (Code.region id ops true).wp P Q a0 w0 := by
  simp only [invB, Bool.and_eq_true, decide_eq_true_eq] at hB
  obtain ⟨⟨hsome, hnd⟩, hord⟩ := hB
  refine wp_region_any hm (wpAny_inv (Mid4 ops a0 S φ) ?_ ?_ ops.size _ a0 _ ?_ ?_)
  · intro listed a w i mid hi
    obtain ⟨hun, oi, hoi, hall⟩ := mem_ready.1 hi
    have hils : i < listed.size := by
      rcases Nat.lt_or_ge i listed.size with h | h
      · exact h
      · simp [Array.getElem?_eq_none h] at hun
    have hunf : listed.getD i false = false := by simp [hils] at hun ⊢; exact hun
    have hst := step i oi hoi (fun j => listed.getD j false) a w mid.world hunf mid.closed hall
      (fun t ht => mid.frame t (fun j oj hj hl hd => by
        obtain ⟨e, he, hb⟩ := Array.any_eq_true'.1 (ht j oj hj hd)
        simp only [Bool.and_eq_true, beq_iff_eq] at hb
        have := mid.closed j oj hj hl e he hb.1
        rw [hb.2, hunf] at this
        cases this))
      (fun j oj d hj hd hp => by
        obtain ⟨e, he, hb⟩ := Array.any_eq_true'.1 hp
        simp only [Bool.and_eq_true, beq_iff_eq] at hb
        have := hall e he hb.1
        rw [hb.2] at this
        exact mid.known j oj d hj hd this)
    refine wpOp_mono (fun a' w' h' => ?_) hst
    obtain ⟨v, rfl, hv, hR⟩ := h'
    have hsi : oi.dst.isSome = true := List.all_eq_true.1 hsome oi (by simpa using Array.mem_of_getElem? hoi)
    obtain ⟨di, hdi⟩ := Option.isSome_iff_exists.1 hsi
    have hmem : di ∈ dsts ops := List.mem_filterMap.2 ⟨oi, by simpa using Array.mem_of_getElem? hoi, hdi⟩
    have hdlt : di < a.tmps.size := by rw [mid.size]; exact hsz di hmem
    have hself : (listed.setIfInBounds i true).getD i false = true := by simp [hils]
    rw [hdi]
    refine ⟨by simp [mid.lsize], fun j oj hj hl e he hb => ?_, by simpa [Act.put] using mid.size, mid.defers, ?_, fun t ht => ?_, fun j oj d hj hd hl => ?_⟩
    · rcases getD_set_false hl with rfl | hl
      · obtain rfl : oj = oi := Option.some.inj (hj.symm.trans hoi)
        have h1 := hall e he hb
        by_cases hie : j = e.on
        · rw [hie]; rw [hie] at hself; exact hself
        · rw [getD_set_ne false hie]; exact h1
      · have h1 := mid.closed j oj hj hl e he hb
        by_cases hie : i = e.on
        · rw [← hie]; exact hself
        · rw [getD_set_ne false hie]; exact h1
    · have e : (fun j => (listed.setIfInBounds i true).getD j false) = fun j => if j = i then true else listed.getD j false := by
        funext j
        by_cases hji : j = i
        · subst hji; rw [if_pos rfl]; exact hself
        · rw [if_neg hji, getD_set_ne false (Ne.symm hji)]
      rw [e]
      exact hR
    · have hne : di ≠ t := fun h => ht i oi hoi hself (by rw [hdi, h])
      rw [show (a.put (some di) v).tmps[t]? = a.tmps[t]? from by simp [Act.put, hne]]
      exact mid.frame t (fun j oj hj hl => ht j oj hj (by
        by_cases hij : i = j
        · subst hij; exact hself
        · rw [getD_set_ne false hij]; exact hl))
    · rcases getD_set_false hl with rfl | hl
      · obtain rfl : oj = oi := Option.some.inj (hj.symm.trans hoi)
        obtain rfl : d = di := Option.some.inj (hd.symm.trans hdi)
        rw [show (a.put (some d) v).tmps.getD d undef = v from by simp [Act.put, hdlt]]
        exact hv
      · have hne : di ≠ d := fun h => by
          subst h
          have := nodup_dst hnd hoi hj hdi hd
          subst this
          rw [hunf] at hl
          cases hl
        rw [show (a.put (some di) v).tmps.getD d undef = a.tmps.getD d undef from by simp [Act.put, hne]]
        exact mid.known j oj d hj hd hl
  · intro listed a w mid hr
    have hall : ∀ n i, i < n → i < ops.size → listed.getD i false = true := by
      intro n
      induction n with
      | zero => intro i h; cases h
      | succ n ih =>
        intro i hin hil
        by_cases hlt : i < n
        · exact ih i hlt hil
        · have hin' : i = n := by omega
          subst hin'
          cases hg : listed.getD i false with
          | true => rfl
          | false =>
            have ho : ops[i]? = some ops[i] := Array.getElem?_eq_getElem hil
            have h1 := List.all_eq_true.1 hord i (List.mem_range.2 hil)
            simp only [ho] at h1
            have hin2 : i ∈ Region.ready .any ops listed := mem_ready.2 ⟨by
              have : i < listed.size := by rw [mid.lsize]; exact hil
              simp [this] at hg ⊢; exact hg, _, ho, fun e he hb => by
              have h2 := Array.all_eq_true'.1 h1 e he
              simp only [hb, Bool.not_true, Bool.false_or, decide_eq_true_eq] at h2
              exact ih e.on h2 (by omega)⟩
            rw [hr] at hin2
            cases hin2
    have hq := fin (fun d => a.tmps.getD d undef) _ w mid.world (fun i hi => hall (i + 1) i (by omega) hi) (fun i o d ho hd => mid.known i o d ho hd (hall (i + 1) i (by omega) (Array.getElem?_eq_some_iff.1 ho).1))
    have ha : putAll a0 (fun d => a.tmps.getD d undef) (dsts ops) = a := by
      have h1 := putAll_defers (fun d => a.tmps.getD d undef) (dsts ops) a0
      have h2 : (putAll a0 (fun d => a.tmps.getD d undef) (dsts ops)).tmps = a.tmps := by
        apply Array.ext_getElem?
        intro t
        by_cases ht : t < a0.tmps.size
        · rw [putAll_get _ _ _ _ ht]
          by_cases hm2 : t ∈ dsts ops
          · rw [if_pos hm2]
            have : t < a.tmps.size := by rw [mid.size]; exact ht
            simp [this]
          · rw [if_neg hm2]
            exact (mid.frame t (fun i o hi _ hd => hm2 (List.mem_filterMap.2 ⟨o, by simpa using Array.mem_of_getElem? hi, hd⟩))).symm
        · rw [Array.getElem?_eq_none (by rw [putAll_size]; omega), Array.getElem?_eq_none (by rw [mid.size]; omega)]
      rw [← mid.defers] at h1
      generalize putAll a0 (fun d => a.tmps.getD d undef) (dsts ops) = b at h1 h2
      cases a; cases b
      simp only at h1 h2
      rw [h1, h2]
    rw [ha] at hq
    exact hq
  · unfold leftOf
    exact Nat.le_trans (List.length_filter_le _ _) (by simp)
  · exact ⟨by simp, fun j oj _ hl => (by rw [getD_replicate_f] at hl; cases hl), rfl, rfl, by simp only [getD_replicate_f]; exact hS0, fun _ _ => rfl, fun i o d _ _ hl => (by rw [getD_replicate_f] at hl; cases hl)⟩
/-- Of the operations that are listed what is known of their slots. -/
def Knows4 (φ : Nat → Value → Prop) (ds : List Nat) (a : Act) : List Nat → Prop
  | [] => True
  | j :: l => φ j (a.eval (.tmp (ds.getD j 0))) ∧ Knows4 φ ds a l
theorem knows4_of {φ : Nat → Value → Prop} {ds : List Nat} {a : Act} : ∀ (l : List Nat), (∀ j ∈ l, φ j (a.eval (.tmp (ds.getD j 0)))) → Knows4 φ ds a l
  | [], _ => trivial
  | x :: l, h => ⟨h x (by simp), knows4_of l (fun j hj => h j (by simp [hj]))⟩
/-- These are behind. -/
def Behind (L : Nat → Bool) : List Nat → Prop
  | [] => True
  | j :: l => L j = true ∧ Behind L l
theorem behind_of {L : Nat → Bool} : ∀ (l : List Nat), (∀ j ∈ l, L j = true) → Behind L l
  | [], _ => trivial
  | x :: l, h => ⟨h x (by simp), behind_of l (fun j hj => h j (by simp [hj]))⟩
/-- These are ahead. -/
def Ahead (L : Nat → Bool) : List Nat → Prop
  | [] => True
  | j :: l => L j = false ∧ Ahead L l
theorem ahead_of {L : Nat → Bool} : ∀ (l : List Nat), (∀ j ∈ l, L j = false) → Ahead L l
  | [], _ => trivial
  | x :: l, h => ⟨h x (by simp), ahead_of l (fun j hj => h j (by simp [hj]))⟩
/-- Operation k, whatever came before it (L: what is behind). -/
def StepOK4 (P : Program) (S : (Nat → Bool) → World → Prop) (φ : Nat → Value → Prop) (ds : List Nat) (base : List (Nat × Value)) (p q r : List Nat) (k : Nat) (o : Oper) : Prop :=
  ∀ (Q : Exit → Act → World → Prop) (L : Nat → Bool) (a : Act) (w : World), S L w → L k = false → Behind L q → Ahead L r → Holds a base → Knows4 φ ds a p →
    (match o.guard with | none => True | some (g, b) => a.eval (.tmp (ds.getD g 0)) = .bool b) ∧
    ∀ K : Act → World → Prop, (∀ v w', φ k v → S (fun j => if j = k then true else L j) w' → K (a.put o.dst v) w') → o.wp P a w K Q
def AllSteps4 (P : Program) (S : (Nat → Bool) → World → Prop) (φ : Nat → Value → Prop) (ds : List Nat) (base : List (Nat × Value)) : List (List Nat) → List (List Nat) → List (List Nat) → Nat → List Oper → Prop
  | _, _, _, _, [] => True
  | p, q, r, k, o :: l => StepOK4 P S φ ds base (p.headD []) (q.headD []) (r.headD []) k o ∧ AllSteps4 P S φ ds base p.tail q.tail r.tail (k + 1) l
theorem AllSteps4.at {S : (Nat → Bool) → World → Prop} {φ : Nat → Value → Prop} {ds : List Nat} {base : List (Nat × Value)} : ∀ (l : List Oper) (p q r : List (List Nat)) (k : Nat), AllSteps4 P S φ ds base p q r k l →
    ∀ (i : Nat) (o : Oper), l[i]? = some o → StepOK4 P S φ ds base (p.getD i []) (q.getD i []) (r.getD i []) (k + i) o
  | [], _, _, _, _, _, _, _, h => by simp at h
  | x :: l, p, q, r, k, h, i, o, ho => by
    cases i with
    | zero =>
      simp at ho; subst ho
      have := h.1
      cases p <;> cases q <;> cases r <;> simpa using this
    | succ i =>
      simp at ho
      have := AllSteps4.at l p.tail q.tail r.tail (k + 1) h.2 i o ho
      rw [show k + 1 + i = k + (i + 1) by omega] at this
      cases p <;> cases q <;> cases r <;> simpa using this
/-- q: of each operation some that must be behind it, by one step or more. -/
def ancB (ops : Array Oper) (q : List (List Nat)) : Bool :=
  (List.range ops.size).all fun k => match ops[k]? with
    | some o => (q.getD k []).all (fun j => o.after.any fun e => Region.binds .any e && decide (e.on < k) && (e.on == j || (q.getD e.on []).contains j))
    | none => true
/-- r: of each operation some that wait for it, by one step or more. -/
def descB (ops : Array Oper) (q r : List (List Nat)) : Bool :=
  (List.range ops.size).all fun k => (r.getD k []).all (fun j => decide (j < ops.size) && (q.getD j []).contains k)
theorem anc_behind {q : List (List Nat)} (hq : ancB ops q = true) {L : Nat → Bool} (hcl : ∀ (k : Nat) (ok : Oper), ops[k]? = some ok → L k = true → ∀ e ∈ ok.after, Region.binds .any e = true → L e.on = true) :
    ∀ (n k : Nat) (o : Oper), k < n → ops[k]? = some o → (∀ e ∈ o.after, Region.binds .any e = true → L e.on = true) → ∀ j ∈ q.getD k [], L j = true := by
  intro n
  induction n with
  | zero => intro k o hk; cases hk
  | succ n ih =>
    intro k o hk ho hall j hj
    have h1 := List.all_eq_true.1 hq k (List.mem_range.2 (Array.getElem?_eq_some_iff.1 ho).1)
    simp only [ho] at h1
    have h2 := List.all_eq_true.1 h1 j hj
    obtain ⟨e, he, hb⟩ := Array.any_eq_true'.1 h2
    simp only [Bool.and_eq_true, Bool.or_eq_true, beq_iff_eq, decide_eq_true_eq] at hb
    have h3 := hall e he hb.1.1
    rcases hb.2 with h4 | h4
    · rw [← h4]; exact h3
    · have hlt : e.on < ops.size := Nat.lt_trans hb.1.2 (Array.getElem?_eq_some_iff.1 ho).1
      have hoe : ops[e.on]? = some ops[e.on] := Array.getElem?_eq_getElem hlt
      exact ih e.on _ (by omega) hoe (hcl e.on _ hoe h3) j (by simpa using h4)
/-- THE LAW, operation by operation. -/
theorem wp_region_steps4 {id : Nat} {a0 : Act} {w0 : World} (S : (Nat → Bool) → World → Prop) (φ : Nat → Value → Prop) (ds : List Nat) (base : List (Nat × Value)) (p q r : List (List Nat))
    (hm : P.follows .mixedOrders = true) (hB : (invB ops && ancB ops q && descB ops q r && tabB ops ds (base.map (·.1)) p && ds.all (fun d => decide (d < a0.tmps.size))) = true)
    (hb0 : Holds a0 base) (hS0 : S (fun _ => false) w0.drew)
    (steps : AllSteps4 P S φ ds base p q r 0 ops.toList)
    (fin : ∀ (vs : Nat → Value) (L : Nat → Bool) (w : World), S L w → (∀ i, i < ops.size → L i = true) → (∀ j : Nat, j < ds.length → φ j (vs (ds.getD j 0))) → Q .normal (putAll a0 vs ds) w) : (Code.region id ops true).wp P Q a0 w0 := by
  simp only [Bool.and_eq_true] at hB
  obtain ⟨⟨⟨⟨hI, hA⟩, hD⟩, hT⟩, hsz⟩ := hB
  simp only [tabB, Bool.and_eq_true, beq_iff_eq] at hT
  obtain ⟨⟨hds, hbase⟩, htab⟩ := hT
  have hdst : ∀ (j : Nat) (oj : Oper), ops[j]? = some oj → oj.dst = some (ds.getD j 0) ∧ j < ds.length := fun j oj hj => by
    have h1 : (ops.toList.map (·.dst))[j]? = some oj.dst := by rw [List.getElem?_map]; simp [hj]
    rw [hds, List.getElem?_map] at h1
    cases hq : ds[j]? with
    | none => rw [hq] at h1; simp at h1
    | some d =>
      rw [hq] at h1
      have hl : j < ds.length := (List.getElem?_eq_some_iff.1 hq).1
      refine ⟨?_, hl⟩
      rw [List.getD_eq_getElem?_getD, hq]
      simpa using h1.symm
  have hdsts : dsts ops = ds := by
    unfold dsts
    have h1 : ops.toList.filterMap (·.dst) = (ops.toList.map (·.dst)).filterMap (fun x => x) := by rw [List.filterMap_map]; rfl
    rw [h1, hds, List.filterMap_map]
    exact List.filterMap_some
  refine wp_region_inv4 S φ hm hI hS0 (fun i o hi L a w hS hun hcl hall hfr hkn => ?_) (fun vs L w hS hL h => ?_) (fun d hd => by rw [hdsts] at hd; simpa using List.all_eq_true.1 hsz d hd)
  · have hil : i < ops.size := (Array.getElem?_eq_some_iff.1 hi).1
    have ht := List.all_eq_true.1 htab i (List.mem_range.2 hil)
    simp only [hi, Bool.and_eq_true] at ht
    have st := AllSteps4.at ops.toList p q r 0 steps i o (by simpa using hi)
    rw [Nat.zero_add] at st
    obtain ⟨hg, hk⟩ := st Q L a w hS hun (behind_of _ (anc_behind hA hcl (i + 1) i o (by omega) hi hall))
      (ahead_of _ (fun j hj => by
        have h1 := List.all_eq_true.1 (List.all_eq_true.1 hD i (List.mem_range.2 hil)) j hj
        simp only [Bool.and_eq_true, decide_eq_true_eq] at h1
        cases hLj : L j with
        | false => rfl
        | true =>
          have hoj : ops[j]? = some ops[j] := Array.getElem?_eq_getElem h1.1
          have h2 := anc_behind hA hcl (j + 1) j _ (by omega) hoj (hcl j _ hoj hLj) i (by simpa using h1.2)
          rw [hun] at h2
          cases h2))
      (holds_of base (fun t htm => eval_tmp_of (hfr t (fun j oj hj hd => by
        exfalso
        have h1 := List.all_eq_true.1 hbase t htm
        have h2 := (hdst j oj hj).1
        rw [hd] at h2
        have h3 : t = ds.getD j 0 := Option.some.inj h2
        have h4 : t ∈ ds := by
          rw [h3, List.getD_eq_getElem?_getD, List.getElem?_eq_getElem (hdst j oj hj).2]
          simp
        simp [h4] at h1))) hb0)
      (knows4_of _ (fun j hj => by
        have h1 := List.all_eq_true.1 ht.1 j hj
        simp only [Bool.and_eq_true, decide_eq_true_eq] at h1
        have hoj : ops[j]? = some ops[j] := Array.getElem?_eq_getElem h1.2
        have h2 := hkn j _ _ hoj (hdst j _ hoj).1 h1.1
        simpa [Act.eval] using h2))
    have hw : Region.wanted o (yielded ops a.tmps) = true := by
      unfold Region.wanted
      cases hgd : o.guard with
      | none => rfl
      | some x =>
        obtain ⟨g, b⟩ := x
        rw [hgd] at hg
        have h2 := ht.2
        rw [hgd] at h2
        simp only [decide_eq_true_eq] at h2
        have hog : ops[g]? = some ops[g] := Array.getElem?_eq_getElem h2
        have hd := (hdst g _ hog).1
        have h4 : a.tmps[ds.getD g 0]? = some (.bool b) := by
          simp only [Act.eval] at hg
          rw [Array.getD_eq_getD_getElem?] at hg
          cases hq : a.tmps[ds.getD g 0]? with
          | none => rw [hq] at hg; simp [undef] at hg
          | some v => rw [hq] at hg; simpa using hg
        have hy : yielded ops a.tmps g = some b := by
          unfold yielded
          rw [hog]
          simp only [Option.bind_some, hd, h4]
        simp [hy]
    unfold wpOp
    simp only [hi, hw, if_true]
    exact .inl (hk _ (fun v w' h1 h2 => ⟨v, rfl, h1, h2⟩))
  · rw [hdsts]
    refine fin vs L w hS hL (fun j hj => ?_)
    have hlen : ops.toList.length = ds.length := by have := congrArg List.length hds; simpa using this
    have hjl : j < ops.size := by rw [← hlen] at hj; simpa using hj
    have hoj : ops[j]? = some ops[j] := Array.getElem?_eq_getElem hjl
    exact h j _ _ hoj (hdst j _ hoj).1
end
end Go.Proofs.YtojekoakgpkkdaaDoor
/-
  Own text. Structs of cells in memory, and rows of structs: names no type of the program but int, uint32, uint8, string.
-/
namespace Go.Proofs.YtojekoakgpkkdaaDoor
open Go.RowKit Go.Proofs
set_option maxRecDepth 100000
/-- The cells of a struct, each by its number. -/
def SC (n : Nat) (V : Nat → Value) : Array Value := ((List.range n).map V).toArray
theorem SC_size (n : Nat) (V : Nat → Value) : (SC n V).size = n := by simp [SC]
theorem SC_get (n : Nat) (V : Nat → Value) (i : Nat) (h : i < n) : (SC n V)[i]? = some (V i) := by simp [SC, h]
theorem SC_one {n : Nat} {V : Nat → Value} (h : ∀ i, (V i).oneCell' = true) : (SC n V).all (·.oneCell') = true := by
  rw [Array.all_eq_true_iff_forall_mem]
  intro v hv
  simp only [SC, List.mem_toArray, List.mem_map] at hv
  obtain ⟨i, _, rfl⟩ := hv
  exact h i
def IsSt (ty n : Nat) : Prop := ∃ d, Tryd.prog.underlying ty = some d ∧ (match d with | .struct _ | .array _ _ => true | _ => false) = true ∧ (Tryd.prog.info? ty).map (·.size) = some n
def SAt (w : World) (b : Nat) (ty : TypeId) (n : Nat) (V : Nat → Value) : Prop := w.heap[b]? = some (.cells (SC n V) ty (0, 0))
section
variable {w w' : World} {b n : Nat} {ty : TypeId} {V : Nat → Value}
theorem SAt.at (h : SAt w b ty n V) (i : Nat) (hi : i < n) : w.cell? ⟨b, i, none⟩ = some (V i) := by
  rw [cell_of_row w b i _ _ _ h, SC_get n V i hi]
theorem SAt.lt (h : SAt w b ty n V) : b < w.heap.size := heap_lt h
theorem SAt.block (h : SAt w b ty n V) (e : w'.heap[b]? = w.heap[b]?) : SAt w' b ty n V := e.trans h
theorem SAt.kept (h : SAt w b ty n V) (hb : Below w.heap.size w w') : SAt w' b ty n V := h.block (hb.block b h.lt)
theorem SAt.only {g : Nat} (h : SAt w b ty n V) (ho : Only g w w') (hB : b ≠ g) : SAt w' b ty n V := h.block (ho.block b hB)
theorem SAt.tou {g : Nat} (h : SAt w b ty n V) (t : Touch (fun x => x = g) w w') (hB : b ≠ g) : SAt w' b ty n V := h.block (t.block b h.lt hB)
theorem SAt.range {o m : Nat} {s : Nat → Int} (h : SAt w b ty n V) (hm : o + m ≤ n) (hv : ∀ j, j < m → V (o + j) = .int .u8 (s j)) : w.rangeAt b o (nums .u8 m s) := fun j v hj => by
  obtain ⟨hj2, rfl⟩ := nums_get hj
  rw [h.at (o + j) (by omega), hv j hj2]
end
theorem st_st {ops : Array Oper} {rest : List Oper} {d : Option Tmp} {x y : Operand} {t ty : TypeId} {ps : String} {af : Array Edge} {a : Act} {w : World} {Q : Exit → Act → World → Prop} {g n : Nat} {V V' : Nat → Value}
    (hA : IsSt ty n) (h1 : ∀ i, (V i).oneCell' = true) (hg : SAt w g ty n V') (hx : a.eval x = .pointer (some ⟨g, 0, none⟩)) (hy : a.eval y = .agg (SC n V))
    (h : ∀ w2, SAt w2 g ty n V → Only g w w2 → wpList Tryd.prog ops Q rest (a.put d undef) w2) : wpList Tryd.prog ops Q ({ dst := d, op := .store ty x y, type := t, pos := ps, after := af, guard := none } :: rest) a w := by
  obtain ⟨_, _, _, h3⟩ := hA
  exact st_row rfl ty x y rfl g _ hx hy ty _ hg (by rw [SC_size]; exact h3) (by rw [SC_size, SC_size]) (SC_one h1) h
theorem look_st {a : Act} {o : Oper} {w : World} {x : Operand} {ty : TypeId} {g n : Nat} {V : Nat → Value} (ho : o.op = .load ty x) (hA : IsSt ty n) (hg : SAt w g ty n V) (hx : a.eval x = .pointer (some ⟨g, 0, none⟩)) : (execOp a.eval o).run Tryd.prog w = .ok (.value (.agg (SC n V))) w := by
  obtain ⟨d, h1, h2, h3⟩ := hA
  unfold execOp
  simp only [ho, hx]
  have := run_loadVar_row (P := Tryd.prog) w g ty ty (SC n V) (0, 0) _ hg h1 (by cases d <;> first | rfl | exact h2) (by rw [SC_size]; exact h3)
  simp [Instr.loadAt, Instr.sureAddr, this]
theorem act_st7 {o : Oper} {a : Act} {w : World} {K : Act → World → Prop} {Q : Exit → Act → World → Prop} {x y : Operand} {ty : TypeId} {g n : Nat} {V V' : Nat → Value} (ho : o.op = .store ty x y)
    (hA : IsSt ty n) (h1 : ∀ i, (V i).oneCell' = true) (hx : a.eval x = .pointer (some ⟨g, 0, none⟩)) (hy : a.eval y = .agg (SC n V)) (hg : SAt w g ty n V')
    (h : ∀ w2, SAt w2 g ty n V → Only g w w2 → K (a.put o.dst undef) w2) : o.wp Tryd.prog a w K Q := by
  obtain ⟨_, _, _, h3⟩ := hA
  have hrun := run_storeVar_row (P := Tryd.prog) w g ty ty (SC n V') (SC n V) hg (by rw [SC_size]; exact h3) (by rw [SC_size, SC_size]) (SC_one h1)
  unfold Oper.wp execOp
  simp only [ho, hx, hy, Instr.storeAt, Instr.sureAddr, Sem.run_bind, Sem.run_pure, Result.andThen_ok, hrun]
  exact h _ (setRow_heap w g (SC n V') (SC n V) ty (0, 0) hg) (only_setRow w g _)
theorem SAt.congr {w : World} {b n : Nat} {ty : TypeId} {V V' : Nat → Value} (h : SAt w b ty n V) (e : ∀ i, i < n → V i = V' i) : SAt w b ty n V' := by
  have : SC n V = SC n V' := by
    unfold SC
    congr 1
    exact List.map_congr_left (fun i hi => e i (List.mem_range.1 hi))
  unfold SAt
  rw [← this]
  exact h
theorem SC_ext {n : Nat} {V : Nat → Value} {C : Array Value} (hs : C.size = n) (h : ∀ i, i < n → C[i]? = some (V i)) : C = SC n V := by
  apply Array.ext
  · rw [hs, SC_size]
  · intro i h1 h2
    have a1 := h i (by omega)
    have a2 := SC_get n V i (by omega)
    rw [← a2, Array.getElem?_eq_getElem h1, Array.getElem?_eq_getElem h2] at a1
    exact Option.some.inj a1
/-- A part of a struct is written. -/
theorem SAt.mid {w : World} {b n : Nat} {ty : TypeId} {V : Nat → Value} (h : SAt w b ty n V) (U : Nat → Value) (o m : Nat) (hm : o + m ≤ n) :
    SAt (w.setCells b o (SC m U).toList) b ty n (fun x => if o ≤ x ∧ x < o + m then U (x - o) else V x) ∧ Only b w (w.setCells b o (SC m U).toList) := by
  have hl : (SC m U).toList.length = m := by rw [Array.length_toList, SC_size]
  obtain ⟨C', h1, h2, h3, h4, h5⟩ := setCells_heap (SC m U).toList o w (SC n V) h (by rw [hl, SC_size]; exact hm)
  refine ⟨?_, h5⟩
  unfold SAt
  rw [h1]
  congr 2
  refine SC_ext (by rw [h2, SC_size]) (fun i hi => ?_)
  by_cases hc : o ≤ i ∧ i < o + m
  · rw [if_pos hc]
    have := h3 (i - o) (by rw [hl]; omega)
    rw [show o + (i - o) = i by omega] at this
    rw [this, Array.getElem?_toList, SC_get m U _ (by omega)]
  · rw [if_neg hc, h4 i (by rw [hl]; omega), SC_get n V i hi]
theorem SAt.set {w : World} {b n : Nat} {ty : TypeId} {V : Nat → Value} (h : SAt w b ty n V) (i : Nat) (v : Value) (hi : i < n) : SAt (w.setCell ⟨b, i, none⟩ v) b ty n (fun x => if x = i then v else V x) := by
  have := heap_setCell_same w b i _ ty v h
  unfold SAt
  rw [this]
  congr 2
  refine SC_ext (by simp [SC_size]) (fun j hj => ?_)
  rw [Array.getElem?_setIfInBounds]
  by_cases e : j = i
  · subst e; simp [SC_size, hj]
  · rw [if_neg (fun h => e h.symm), if_neg e, SC_get n V j hj]
theorem SAt.there {w : World} {b n : Nat} {ty : TypeId} {V : Nat → Value} (h : SAt w b ty n V) (o m : Nat) (hm : o + m ≤ n) : w.there b o m := fun j hj => by
  refine ⟨?_, ?_⟩
  · rw [h.at (o + j) (by omega)]; rfl
  · exact frozen_of_row w b (o + j) _ _ h
/-- A struct as a parameter lies in a block of its own. -/
theorem wl_boxG {ops : Array Oper} {rest : List Oper} {d : Option Tmp} {x : Operand} {ty t : TypeId} {ps : String} {af : Array Edge} {a : Act} {w : World} {Q : Exit → Act → World → Prop} {n : Nat} {V : Nat → Value} (_hA : IsSt ty n) (hx : a.eval x = .agg (SC n V))
    (h : ∀ g w', w.heap.size ≤ g → SAt w' g ty n V → Below w.heap.size w w' → wpList Tryd.prog ops Q rest (a.put d (.pointer (some ⟨g, 0, none⟩))) w') :
    wpList Tryd.prog ops Q ({ dst := d, op := .box ty x, type := t, pos := ps, after := af, guard := none } :: rest) a w := by
  refine wl_act rfl ?_
  unfold Oper.wp execOp
  simp only [hx]
  simp [go_sem]
  exact h _ _ (Nat.le_refl _) (heap_alloc_new w _) ((Below.refl _ _).alloc (Nat.le_refl _) _)
theorem res_st {fn : Func} {q : Tmp} {ty : TypeId} (h : fn.results = #[.cell q ty]) {tmps : Array Value} {w : World} {g n : Nat} {V : Nat → Value} (hA : IsSt ty n) (hg : SAt w g ty n V) (hq : tmps.getD q undef = .pointer (some ⟨g, 0, none⟩)) :
    (results fn tmps).run Tryd.prog w = .ok (.agg (SC n V)) w := by
  obtain ⟨d, h1, h2, h3⟩ := hA
  exact results_cell_row h tmps w g ty _ (0, 0) _ hq hg h1 (by cases d <;> first | rfl | exact h2) (by rw [SC_size]; exact h3)
theorem run_loadAt_addr (w : World) (p : Addr) (ty : TypeId) (cs : List Value) (d : TypeDesc) (hc : ∀ j v, cs[j]? = some v → w.cell? (p.add j) = some v)
    (hu : Tryd.prog.underlying ty = some d) (hd : d.isRow = true) (hi : (Tryd.prog.info? ty).map (·.size) = some cs.length) : (Instr.loadAt ty (.pointer (some p))).run Tryd.prog w = .ok (.agg cs.toArray) w := by
  have hl : (loadCells p cs.length).run Tryd.prog w = .ok cs.toArray w := run_loadCells_list (P := Tryd.prog) w p cs hc
  have hv : (loadVar ty p).run Tryd.prog w = .ok (.agg cs.toArray) w := by
    cases hq : Tryd.prog.info? ty with
    | none => simp [hq] at hi
    | some i =>
      have hs : i.size = cs.length := by simpa [hq] using hi
      have hagg : (isAgg ty).run Tryd.prog w = .ok true w := by
        unfold isAgg
        rw [Sem.run_bind, run_underlying hu w]
        cases d <;> simp_all
      simp [loadVar, Sem.run_bind, hagg, sizeOf, typeInfo, hq, hs, hl]
  simp only [Instr.loadAt, Instr.sureAddr, Sem.run_bind, Sem.run_pure, Result.andThen_ok, hv]
theorem add_blk (a : Addr) (n : Nat) : (a.add n).block = a.block := by unfold Addr.add; split <;> rfl
-- laws for an operation by its text: where another one stands, they fail at once
theorem wl_alO {ops : Array Oper} {rest : List Oper} {o : Oper} {ty : TypeId} {a : Act} {w : World} {Q : Exit → Act → World → Prop} {n : Nat} {V : Nat → Value} (ho : o.op = .alloc ty) (hgd : Region.wanted o (yielded ops a.tmps) = true) (hz : ∀ w, (zeroValue ty).run Tryd.prog w = .ok (.agg (SC n V)) w)
    (h : ∀ g w', w.heap.size ≤ g → SAt w' g ty n V → Below w.heap.size w w' → wpList Tryd.prog ops Q rest (a.put o.dst (.pointer (some ⟨g, 0, none⟩))) w') : wpList Tryd.prog ops Q (o :: rest) a w :=
  wl_act hgd (act_alloc hz ho (fun w' hb hg => h _ w' (Nat.le_refl _) hg hb))
theorem st_stO {ops : Array Oper} {rest : List Oper} {o : Oper} {x y : Operand} {ty : TypeId} {a : Act} {w : World} {Q : Exit → Act → World → Prop} {g n : Nat} {V V' : Nat → Value} (ho : o.op = .store ty x y) (hw : Region.wanted o (yielded ops a.tmps) = true)
    (hA : IsSt ty n) (h1 : ∀ i, (V i).oneCell' = true) (hg : SAt w g ty n V') (hx : a.eval x = .pointer (some ⟨g, 0, none⟩)) (hy : a.eval y = .agg (SC n V))
    (h : ∀ w2, SAt w2 g ty n V → Only g w w2 → wpList Tryd.prog ops Q rest (a.put o.dst undef) w2) : wpList Tryd.prog ops Q (o :: rest) a w :=
  wl_act hw (act_st7 ho hA h1 hx hy hg h)
-- a drawn region in which one operation, n, changes what holds
def SL (A B : World → Prop) (n : Nat) (L : Nat → Bool) (w : World) : Prop := if L n = true then B w else A w
section
variable {A B : World → Prop} {n i : Nat} {L : Nat → Bool} {w w' : World}
theorem sl_a (h : SL A B n L w) (hl : L n = false) : A w := by unfold SL at h; rw [if_neg (by rw [hl]; simp)] at h; exact h
theorem sl_b (h : SL A B n L w) (hl : L n = true) : B w := by unfold SL at h; rw [if_pos hl] at h; exact h
theorem sl_next (hi : n ≠ i) (h : SL A B n L w) (hA : A w → A w') (hB : B w → B w') : SL A B n (fun j => if j = i then true else L j) w' := by
  unfold SL at h ⊢
  simp only [if_neg hi]
  split
  · rename_i e; rw [if_pos e] at h; exact hB h
  · rename_i e; rw [if_neg e] at h; exact hA h
theorem sl_same (hi : n ≠ i) (h : SL A B n L w) : SL A B n (fun j => if j = i then true else L j) w := sl_next hi h id id
theorem sl_ahead (hi : n ≠ i) (hl : L n = false) (h : A w') : SL A B n (fun j => if j = i then true else L j) w' := by
  unfold SL
  simp only [if_neg hi, hl]
  exact h
theorem sl_done (h : B w') : SL A B n (fun j => if j = n then true else L j) w' := by
  unfold SL
  simp only [if_true]
  exact h
theorem sl_start (h : A w) : SL A B n (fun _ => false) w := by
  unfold SL
  simp only [Bool.false_eq_true, if_false]
  exact h
end
theorem ownM_base {w : World} {B : Nat} {e : TypeId} {m : Nat} {v : Value} {n : Nat} {xs : List Value} (h : w.ownsRow B e m v n xs) (q : Nat) (hq : v.ownBlock = some q) : B ≤ q := (h.lt q hq).1
theorem ownM_mono {w : World} {B C : Nat} {e : TypeId} {m : Nat} {v : Value} {n : Nat} {xs : List Value} (h : w.ownsRow B e m v n xs) (hC : C ≤ B) : w.ownsRow C e m v n xs := by
  refine ⟨h.1, ?_⟩
  rcases h.2 with hn | ⟨g, cap, cur, hv, hB, rest⟩
  · exact .inl hn
  · exact .inr ⟨g, cap, cur, hv, Nat.le_trans hC hB, rest⟩
theorem ownM_block {w w' : World} {B : Nat} {e : TypeId} {m : Nat} {v : Value} {n : Nat} {xs : List Value} (h : w.ownsRow B e m v n xs) (hb : ∀ k, v.ownBlock = some k → w'.heap[k]? = w.heap[k]?) : w'.ownsRow B e m v n xs := by
  refine ⟨h.1, ?_⟩
  rcases h.2 with hn | ⟨g, cap, cur, rfl, hB, hg, rest⟩
  · exact .inl hn
  · exact .inr ⟨g, cap, cur, rfl, hB, by rw [hb g rfl]; exact hg, rest⟩
theorem ownM_shape {w : World} {B : Nat} {e : TypeId} {m : Nat} {v : Value} {n : Nat} {xs : List Value} (h : w.ownsRow B e m v n xs) : ∃ p cap, v = .slice p n cap ∧ (0 < n → ∃ g, p = some ⟨g, 0, none⟩) := by
  rcases h.2 with ⟨rfl, rfl⟩ | ⟨g, cap, cur, rfl, hB, rest⟩
  · exact ⟨none, 0, rfl, fun h => by omega⟩
  · exact ⟨_, cap, rfl, fun _ => ⟨g, rfl⟩⟩
theorem ownT_kept {w w' : World} {B : Nat} {e : TypeId} {m : Nat} {v : Value} {n : Nat} {xs : List Value} (h : w.ownsRow B e m v n xs) (hb : Below w.heap.size w w') : w'.ownsRow B e m v n xs := by
  obtain ⟨h1, h2⟩ := h
  refine ⟨h1, ?_⟩
  rcases h2 with h2 | ⟨g, cap, cur, rfl, hb1, hg, hr⟩
  · exact .inl h2
  · refine .inr ⟨g, cap, cur, rfl, hb1, ?_, hr⟩
    rw [hb.block g (heap_lt hg)]
    exact hg
theorem below_drew (w : World) : Below w.heap.size w w.drew := (Below.refl _ w).drew
theorem grown_any {w w' : World} {r : Option Nat} (h : w.grownBy w' none) : w.grownBy w' r := ⟨h.os, h.tape, h.output, h.size, fun k hk _ => h.block k hk (by simp)⟩
def setG {α : Type} (K : Nat → α) (i : Nat) (k : α) (j : Nat) : α := if j = i then k else K j
theorem gE {α : Type} (f : Nat → α) (e : Nat) (x : α) : setG f e x e = x := by unfold setG; rw [if_pos rfl]
theorem gD {α : Type} (f : Nat → α) (e : Nat) (x : α) {d : Nat} (h : d ≠ e) : setG f e x d = f d := by unfold setG; rw [if_neg h]
-- rows of structs of c cells
/-- The cells of a row of structs. -/
def rX (c : Nat) (Z : Nat → Nat → Value) : Nat → List Value
  | 0 => []
  | n + 1 => rX c Z n ++ (SC c (Z n)).toList
theorem rX_len (c : Nat) (Z : Nat → Nat → Value) : ∀ n, (rX c Z n).length = n * c
  | 0 => by simp [rX]
  | n + 1 => by unfold rX; rw [List.length_append, rX_len c Z n, Array.length_toList, SC_size, Nat.succ_mul]
theorem rX_at (c : Nat) (Z : Nat → Nat → Value) : ∀ (n j f : Nat), j < n → f < c → (rX c Z n)[c * j + f]? = some (Z j f)
  | 0, _, _, h, _ => by omega
  | n + 1, j, f, h, hf => by
    unfold rX
    have hcj : c * j = j * c := Nat.mul_comm c j
    by_cases e : j < n
    · have h1 : (j + 1) * c ≤ n * c := Nat.mul_le_mul_right c (by omega)
      rw [Nat.succ_mul] at h1
      rw [List.getElem?_append_left (by rw [rX_len]; omega)]
      exact rX_at c Z n j f e hf
    · obtain rfl : j = n := by omega
      rw [List.getElem?_append_right (by rw [rX_len]; omega), rX_len, show c * j + f - j * c = f by omega, Array.getElem?_toList, SC_get c _ f hf]
theorem rX_congr {c : Nat} {Z Z' : Nat → Nat → Value} : ∀ n, (∀ j f, j < n → f < c → Z j f = Z' j f) → rX c Z n = rX c Z' n
  | 0, _ => rfl
  | n + 1, h => by
    unfold rX
    rw [rX_congr n (fun j f hj hf => h j f (by omega) hf)]
    have e : SC c (Z n) = SC c (Z' n) := SC_ext (SC_size c _) (fun i hi => by rw [SC_get c _ i hi, h n i (by omega) hi])
    rw [e]
theorem rX_more (c : Nat) (Z : Nat → Nat → Value) (n : Nat) (y : Nat → Value) : rX c (setG Z n y) (n + 1) = rX c Z n ++ (SC c y).toList := by
  have e1 : rX c (setG Z n y) n = rX c Z n := rX_congr n (fun j f hj _ => by rw [gD _ _ _ (by omega)])
  show rX c (setG Z n y) n ++ (SC c (setG Z n y n)).toList = _
  rw [e1, gE]
theorem rX_set (c : Nat) (Z : Nat → Nat → Value) (n k f : Nat) (hk : k < n) (hf : f < c) (v : Value) : (rX c Z n).set (c * k + f) v = rX c (setG Z k (setG (Z k) f v)) n := by
  apply List.ext_getElem?
  intro i
  by_cases hi : i < n * c
  · obtain ⟨j, q, rfl, hj, hq⟩ : ∃ j q, i = c * j + q ∧ j < n ∧ q < c := ⟨i / c, i % c, (Nat.div_add_mod i c).symm, (Nat.div_lt_iff_lt_mul (by omega)).2 hi, Nat.mod_lt _ (by omega)⟩
    rw [rX_at _ _ n j q hj hq, List.getElem?_set]
    by_cases e : c * k + f = c * j + q
    · have hkj : k = j := by
        have h1 := congrArg (· / c) e
        simp only [Nat.mul_add_div (show 0 < c by omega), Nat.div_eq_of_lt hf, Nat.div_eq_of_lt hq, Nat.add_zero] at h1
        exact h1
      subst hkj
      obtain rfl : f = q := by omega
      rw [if_pos e, if_pos (by rw [rX_len]; exact hi), gE, gE]
    · rw [if_neg e, rX_at _ _ n j q hj hq]
      by_cases ej : j = k
      · subst ej
        rw [gE, gD _ _ _ (fun h => e (by rw [h]))]
      · rw [gD _ _ _ ej]
  · rw [List.getElem?_eq_none (by rw [List.length_set, rX_len]; omega), List.getElem?_eq_none (by rw [rX_len]; omega)]
/-- append of one struct to a row of one's own: the row stays where it is, or lies in new memory. -/
theorem ap_row {ops : Array Oper} {rest : List Oper} {o : Oper} {a : Act} {w : World} {Q : Exit → Act → World → Prop} (hgd : o.guard = none) {s x : Operand} {t e : TypeId} {c by' : Nat} {z : Nat → Value} (ht : Tryd.prog.underlying t = some (.slice e)) (hi : (Tryd.prog.info? e).map (fun i => (i.zero, i.size, i.bytes)) = some (some (.agg (SC c z)), c, by')) (hc : 0 < c) (hby : by' ≤ 1000000)
    (ho : o.op = .call { callee := .builtin .append, args := #[s, x], argTypes := #[t, t] })
    {B n b : Nat} {Z : Nat → Nat → Value} {v : Value} {y : Nat → Value} (hy : ∀ i, (y i).oneCell' = true) (hs : a.eval s = v) (hx : a.eval x = .slice (some ⟨b, 0, none⟩) 1 1) (hD : w.ownsRow B e c v n (rX c Z n)) (hg : SAt w b e c y) (hl : n < 1000000) (hB : B ≤ w.heap.size)
    (h : ∀ v' w', w'.ownsRow B e c v' (n + 1) (rX c (setG Z n y) (n + 1)) → w.grownBy w' v.ownBlock → (∀ q, v'.ownBlock = some q → v.ownBlock = some q ∨ w.heap.size ≤ q) → wpList Tryd.prog ops Q rest (a.put o.dst v') w') : wpList Tryd.prog ops Q (o :: rest) a w := by
  obtain ⟨i0, hi, hz0, hz1, hz2⟩ := info_parts hi
  have hz : (Value.agg (SC c z)).cells.size = c := by show (SC c z).size = c; rw [SC_size]
  have hln : (SC c y).toList.length = 1 * c := by rw [Array.length_toList, SC_size, Nat.one_mul]
  have hc' : ∀ j u, (SC c y).toList[j]? = some u → w.cell? ((⟨b, 0, none⟩ : Addr).add j) = some u := fun j u hj => by
    have hj2 : j < c := by have := (List.getElem?_eq_some_iff.1 hj).1; rwa [Array.length_toList, SC_size] at this
    rw [Addr.add_lit, Nat.zero_add, hg.at j hj2, ← SC_get c _ j hj2, ← Array.getElem?_toList, hj]
  have h1 : ∀ u ∈ (SC c y).toList, u.oneCell' = true := fun u hu => (Array.all_eq_true_iff_forall_mem.1 (SC_one (n := c) hy)) u (by simpa using hu)
  have hM : n + 1 ≤ maxLen := by unfold maxLen; omega
  have hY : (n + 1) * by' ≤ 140737488355328 := by
    have : (n + 1) * by' ≤ 1000000 * 1000000 := Nat.mul_le_mul (by omega) hby
    omega
  rcases hD.2 with ⟨rfl, rfl⟩ | ⟨g, cap, cur, rfl, hb, hgg, hcap, hm, hsz, htk⟩
  · refine wpList_append_own w hgd s x t ho w.heap.size e i0 _ c by' ht hi hz0 hz1 hz2 hz hc _ 0 [] hs (World.ownsRow_nil w _ e c) ⟨b, 0, none⟩ 1 1 _ hx hln hc' h1 hM hY (Nat.le_refl _) ?_
    intro v' w1 hown hgrow _
    exact h v' w1 (by rw [rX_more]; exact ownM_mono hown hB) hgrow (fun q hq => .inr (ownM_base hown q hq))
  · by_cases hroom : n + 1 ≤ cap
    · refine wpList_plain hgd fun K hK => ?_
      obtain ⟨v', w', hrun, q1, q2, _⟩ := run_append_own (P := Tryd.prog) w B t o.type e i0 _ c by' ht hi hz0 hz1 hz2 hz hc _ n _ hD ⟨b, 0, none⟩ 1 1 _ hln hc' h1 hM hY hB
      have hfit : n * i0.size + (SC c y).toList.length ≤ cur.size := by
        rw [hln, hz1, hsz, Nat.one_mul, ← Nat.succ_mul]
        exact Nat.mul_le_mul_right c hroom
      have h3 := run_append_room (P := Tryd.prog) w t o.type e i0 ht hi g n cap cur hgg ⟨b, 0, none⟩ 1 1 (SC c y).toList (by rw [hln, hz1]) hc' h1 hroom hfit
      have h4 := hrun.symm.trans h3
      injection h4 with e1 e2
      unfold Oper.wp
      simp [execOp, ho, resolve, invoke, builtin, hs, hx, hrun, Result.andThen]
      rw [← rX_more] at q1
      refine hK _ _ (h v' w' q1 q2 (fun q hq => .inl ?_))
      rw [e1] at hq
      exact hq
    · refine wpList_append_grows w hgd s x t ho e i0 _ c by' ht hi hz0 hz1 hz2 hz hc (some ⟨g, 0, none⟩) n cap (rX c Z n) hs (fun h => by cases h) (by rw [rX_len]) ?_ ⟨b, 0, none⟩ 1 1 _ hx hln hc' h1 (by omega) hM hY ?_
      · intro bb hb2 j u hj
        simp only [Option.some.injEq] at hb2
        subst hb2
        exact World.ownsRow.cells hD (g := g) rfl j u hj
      · intro v' w1 hown hgrow
        rw [← rX_more] at hown
        exact h v' w1 (ownM_mono hown hB) (grown_any hgrow) (fun q hq => .inr (ownM_base hown q hq))
/-- A cell of a row is written. -/
theorem own_set {w : World} {B g n cap k f c : Nat} {e : TypeId} {Z : Nat → Nat → Value} (h : w.ownsRow B e c (.slice (some ⟨g, 0, none⟩) n cap) n (rX c Z n)) (hk : k < n) (hf : f < c) (v : Value) : (w.setCell ⟨g, c * k + f, none⟩ v).ownsRow B e c (.slice (some ⟨g, 0, none⟩) n cap) n (rX c (setG Z k (setG (Z k) f v)) n) := by
  refine ⟨by rw [rX_len], ?_⟩
  rcases h.2 with ⟨e1, _⟩ | ⟨g', cap', cur, e1, hB, hg, hcap, hm, hsz, htk⟩
  · cases e1
  · injection e1 with e1 e2 e3
    injection e1 with e1
    injection e1 with e1
    subst e1
    subst e3
    refine .inr ⟨g, cap, cur.setIfInBounds (c * k + f) v, rfl, hB, heap_setCell_same w g _ _ _ _ hg, hcap, hm, by rw [Array.size_setIfInBounds]; exact hsz, ?_⟩
    rw [Array.toList_setIfInBounds, List.take_set, htk, rX_set c Z n k f hk hf v]
/-- The cells of a struct in a row. -/
theorem own_at {w : World} {B g n cap k c : Nat} {e : TypeId} {Z : Nat → Nat → Value} (h : w.ownsRow B e c (.slice (some ⟨g, 0, none⟩) n cap) n (rX c Z n)) (hk : k < n) : ∀ f, f < c → w.cell? ⟨g, c * k + f, none⟩ = some (Z k f) := fun f hf => by
  have := h.cells (g := g) rfl (c * k + f) _ (rX_at c Z n k f hk hf)
  rwa [Addr.add_lit, Nat.zero_add] at this
end Go.Proofs.YtojekoakgpkkdaaDoor
/-
  Own text. Addresses and prefixes as plain data; the document's valid, Right, bit.
-/
namespace Go.Proofs.YtojekoakgpkkdaaDoor
open Go.RowKit Go.Proofs
set_option maxRecDepth 100000
/-- The cells of an address, of a prefix. -/
def adV (v : Bool) (b : Nat → Int) (j : Nat) : Value := if j < 1 then .bool v else .int .u8 (b (j - 1))
def prV (v : Bool) (b : Nat → Int) (n : Int) (j : Nat) : Value := if j < 17 then adV v b j else .int .i64 n
theorem adV_one (v : Bool) (b : Nat → Int) (j : Nat) : (adV v b j).oneCell' = true := by unfold adV; split <;> rfl
theorem prV_one (v : Bool) (b : Nat → Int) (n : Int) (j : Nat) : (prV v b n j).oneCell' = true := by unfold prV; split; exact adV_one _ _ _; rfl
theorem isAddr : IsSt 24 17 := ⟨_, Tryd.underlying24, rfl, by kernel_rfl⟩
/-- May an address be? -/
def validF (v : Bool) (b : Nat → Int) : Bool := v || (List.range 16).all (fun i => decide (i < 4) || decide (b i = 0))
theorem valid_iff {v : Bool} {b : Nat → Int} : validF v b = true ↔ v = true ∨ ∀ i, 4 ≤ i → i < 16 → b i = 0 := by
  unfold validF
  rw [Bool.or_eq_true, List.all_eq_true]
  constructor
  · rintro (h | h)
    · exact .inl h
    · refine .inr (fun i h4 h16 => ?_)
      have := h i (List.mem_range.2 h16)
      simp at this
      omega
  · rintro (h | h)
    · exact .inl h
    · refine .inr (fun i hi => ?_)
      have hi := List.mem_range.1 hi
      simp
      by_cases h4 : i < 4
      · exact .inl h4
      · exact .inr (h i (by omega) hi)
def rightF (v : Bool) (b : Nat → Int) (n : Int) : Bool := validF v b && decide (0 ≤ n) && (decide (n ≤ 32) || (v && decide (n ≤ 128)))
def bitF (b : Nat → Int) (i : Nat) : Int := (b (i / 8) / 2 ^ (7 - i % 8)) % 2
section
variable {w : World} {g : Nat} {v : Bool} {b : Nat → Int} {n : Int}
theorem ad_v (h : SAt w g 24 17 (adV v b)) : w.cell? ⟨g, 0, none⟩ = some (.bool v) := SAt.at h 0 (by omega)
theorem ad_b (h : SAt w g 24 17 (adV v b)) (i : Nat) (hi : i < 16) : w.cell? ⟨g, 1 + i, none⟩ = some (.int .u8 (b i)) := by
  rw [SAt.at h (1 + i) (by omega)]
  unfold adV
  rw [if_neg (by omega), Nat.add_sub_cancel_left]
end
theorem wl_boxO {ops : Array Oper} {rest : List Oper} {o : Oper} {x : Operand} {ty : TypeId} {a : Act} {w : World} {Q : Exit → Act → World → Prop} {n : Nat} {V : Nat → Value} (ho : o.op = .box ty x) (hw : Region.wanted o (yielded ops a.tmps) = true) (_hA : IsSt ty n) (hx : a.eval x = .agg (SC n V))
    (h : ∀ g w', w.heap.size ≤ g → SAt w' g ty n V → Below w.heap.size w w' → wpList Tryd.prog ops Q rest (a.put o.dst (.pointer (some ⟨g, 0, none⟩))) w') : wpList Tryd.prog ops Q (o :: rest) a w := by
  refine wl_act hw ?_
  unfold Oper.wp execOp
  simp only [ho, hx]
  simp [go_sem]
  exact h _ _ (Nat.le_refl _) (heap_alloc_new w _) ((Below.refl _ _).alloc (Nat.le_refl _) _)
end Go.Proofs.YtojekoakgpkkdaaDoor
/-
  Own text. Laws of single operations for the layers 12 and above.
-/
namespace Go.Proofs.YtojekoakgpkkdaaDoor
open Go.RowKit Go.Proofs
set_option maxRecDepth 100000
section
variable {a : Act} {o : Oper} {w : World} {x y : Operand}
theorem exec_remW (ho : o.op = .binOp .rem 3 x y 3) {i m q : Nat} (hx : a.eval x = .int .i64 (i : Int)) (hy : a.eval y = .int .i64 (m : Int)) (hq : i % m = q) (hm : 0 < m) : (execOp a.eval o).run Tryd.prog w = .ok (.value (.int .i64 (q : Int))) w := by
  subst hq
  refine exec_bin2 ho hx hy rfl ?_
  have h0 : ¬ m = 0 := by omega
  have e : Int.tmod (i : Int) (m : Int) = (i : Int) % (m : Int) := Int.tmod_eq_emod_of_nonneg (by omega)
  simp [go_sem, h0, e]
theorem exec_quoW (ho : o.op = .binOp .quo 3 x y 3) {i m q : Nat} (hx : a.eval x = .int .i64 (i : Int)) (hy : a.eval y = .int .i64 (m : Int)) (hq : i / m = q) (hm : 0 < m) (hi : i < 9223372036854775808) : (execOp a.eval o).run Tryd.prog w = .ok (.value (.int .i64 (q : Int))) w := by
  subst hq
  refine exec_bin2 ho hx hy rfl ?_
  have h0 : ¬ m = 0 := by omega
  have e : Int.tdiv (i : Int) (m : Int) = (i : Int) / (m : Int) := Int.tdiv_eq_ediv_of_nonneg (by omega)
  have hl : i / m ≤ i := Nat.div_le_self i m
  have hc : (i : Int) / (m : Int) = ((i / m : Nat) : Int) := rfl
  have e2 : IntKind.i64.wrap ((i : Int) / (m : Int)) = (i : Int) / (m : Int) := by rw [hc]; generalize i / m = q at *; rw [IntKind.wrap_i64]; omega
  simp [go_sem, h0, e, e2]
theorem exec_addW (ho : o.op = .binOp .add 3 x y 3) {i m q : Nat} (hx : a.eval x = .int .i64 (i : Int)) (hy : a.eval y = .int .i64 (m : Int)) (hq : i + m = q) (hl : q < 9223372036854775808) : (execOp a.eval o).run Tryd.prog w = .ok (.value (.int .i64 (q : Int))) w := by
  refine exec_bin2 ho hx hy rfl ?_
  have hc : (i : Int) + (m : Int) = (q : Int) := by omega
  have e2 : IntKind.i64.wrap (q : Int) = (q : Int) := by rw [IntKind.wrap_i64]; omega
  simp [go_sem, hc, e2]
theorem exec_subW (ho : o.op = .binOp .sub 3 x y 3) {i m q : Nat} (hx : a.eval x = .int .i64 (i : Int)) (hy : a.eval y = .int .i64 (m : Int)) (hq : i = m + q) (hl : q < 9223372036854775808) : (execOp a.eval o).run Tryd.prog w = .ok (.value (.int .i64 (q : Int))) w := by
  refine exec_bin2 ho hx hy rfl ?_
  have hc : (i : Int) - (m : Int) = (q : Int) := by omega
  have e2 : IntKind.i64.wrap (q : Int) = (q : Int) := by rw [IntKind.wrap_i64]; omega
  simp [go_sem, hc, e2]
theorem exec_mulW (ho : o.op = .binOp .mul 3 x y 3) {i m q : Nat} (hx : a.eval x = .int .i64 (i : Int)) (hy : a.eval y = .int .i64 (m : Int)) (hq : i * m = q) (hl : q < 9223372036854775808) : (execOp a.eval o).run Tryd.prog w = .ok (.value (.int .i64 (q : Int))) w := by
  refine exec_bin2 ho hx hy rfl ?_
  have hc : (i : Int) * (m : Int) = (q : Int) := by rw [← hq]; simp
  have e2 : IntKind.i64.wrap (q : Int) = (q : Int) := by rw [IntKind.wrap_i64]; omega
  simp [go_sem, hc, e2]
theorem exec_cvW (ho : o.op = .convert 5 3 x) {m : Int} (hx : a.eval x = .int .u8 m) (h0 : 0 ≤ m) (h1 : m < 256) : (execOp a.eval o).run Tryd.prog w = .ok (.value (.int .i64 m)) w := by
  have e : IntKind.i64.wrap m = m := by rw [IntKind.wrap_i64]; omega
  unfold execOp
  simp only [ho, hx]
  simp [go_sem, e]
theorem exec_remU (ho : o.op = .binOp .rem 72 x y 72) {i m q : Nat} (hx : a.eval x = .int .u64 (i : Int)) (hy : a.eval y = .int .u64 (m : Int)) (hq : i % m = q) (hm : 0 < m) : (execOp a.eval o).run Tryd.prog w = .ok (.value (.int .u64 (q : Int))) w := by
  subst hq
  refine exec_bin2 ho hx hy rfl ?_
  have h0 : ¬ m = 0 := by omega
  have e : Int.tmod (i : Int) (m : Int) = (i : Int) % (m : Int) := Int.tmod_eq_emod_of_nonneg (by omega)
  simp [go_sem, h0, e]
theorem exec_quoU (ho : o.op = .binOp .quo 72 x y 72) {i m q : Nat} (hx : a.eval x = .int .u64 (i : Int)) (hy : a.eval y = .int .u64 (m : Int)) (hq : i / m = q) (hm : 0 < m) (hi : i < 18446744073709551616) : (execOp a.eval o).run Tryd.prog w = .ok (.value (.int .u64 (q : Int))) w := by
  subst hq
  refine exec_bin2 ho hx hy rfl ?_
  have h0 : ¬ m = 0 := by omega
  have e : Int.tdiv (i : Int) (m : Int) = (i : Int) / (m : Int) := Int.tdiv_eq_ediv_of_nonneg (by omega)
  have hl : i / m ≤ i := Nat.div_le_self i m
  have hc : (i : Int) / (m : Int) = ((i / m : Nat) : Int) := rfl
  have e2 : IntKind.u64.wrap ((i : Int) / (m : Int)) = (i : Int) / (m : Int) := by rw [hc]; generalize i / m = q at *; rw [IntKind.wrap_u64]; omega
  simp [go_sem, h0, e, e2]
theorem exec_mulU (ho : o.op = .binOp .mul 72 x y 72) {i m q : Nat} (hx : a.eval x = .int .u64 (i : Int)) (hy : a.eval y = .int .u64 (m : Int)) (hq : i * m = q) (hl : q < 18446744073709551616) : (execOp a.eval o).run Tryd.prog w = .ok (.value (.int .u64 (q : Int))) w := by
  refine exec_bin2 ho hx hy rfl ?_
  have hc : (i : Int) * (m : Int) = (q : Int) := by rw [← hq]; simp
  have e2 : IntKind.u64.wrap (q : Int) = (q : Int) := by rw [IntKind.wrap_u64]; omega
  simp [go_sem, hc, e2]
theorem exec_addU (ho : o.op = .binOp .add 72 x y 72) {i m q : Nat} (hx : a.eval x = .int .u64 (i : Int)) (hy : a.eval y = .int .u64 (m : Int)) (hq : i + m = q) (hl : q < 18446744073709551616) : (execOp a.eval o).run Tryd.prog w = .ok (.value (.int .u64 (q : Int))) w := by
  refine exec_bin2 ho hx hy rfl ?_
  have hc : (i : Int) + (m : Int) = (q : Int) := by omega
  have e2 : IntKind.u64.wrap (q : Int) = (q : Int) := by rw [IntKind.wrap_u64]; omega
  simp [go_sem, hc, e2]
theorem exec_cvU8 (ho : o.op = .convert 72 5 x) {m : Nat} (hx : a.eval x = .int .u64 (m : Int)) (h1 : m < 256) : (execOp a.eval o).run Tryd.prog w = .ok (.value (.int .u8 (m : Int))) w := by
  have e : IntKind.u8.wrap (m : Int) = (m : Int) := by rw [IntKind.wrap_u8]; omega
  unfold execOp
  simp only [ho, hx]
  simp [go_sem, e]
theorem exec_cv8U (ho : o.op = .convert 5 72 x) {m : Nat} (hx : a.eval x = .int .u8 (m : Int)) (h1 : m < 256) : (execOp a.eval o).run Tryd.prog w = .ok (.value (.int .u64 (m : Int))) w := by
  have e : IntKind.u64.wrap (m : Int) = (m : Int) := by rw [IntKind.wrap_u64]; omega
  unfold execOp
  simp only [ho, hx]
  simp [go_sem, e]
theorem sizeB1 (w : World) : (sizeOf (Tryd.prog.elem 114)).run Tryd.prog w = .ok 1 w := by kernel_rfl
theorem exec_ixB (ho : o.op = .indexAddr 114 x y) {b f n c i : Nat} (hx : a.eval x = .slice (some ⟨b, f, none⟩) n c) (hy : a.eval y = .int .i64 (i : Int)) (hi : i < n) : (execOp a.eval o).run Tryd.prog w = .ok (.value (.pointer (some ⟨b, f + i, none⟩))) w := exec_idx ho (by kernel_rfl) sizeB1 hx hy hi
theorem run_mkB (n : Nat) (hn : n ≤ 65536) (w : World) : (Instr.makeSlice 114 (.int .i64 (n : Int)) (.int .i64 (n : Int))).run Tryd.prog w = .ok (.slice (some ⟨w.heap.size, 0, none⟩) n n) (w.alloc (.cells (WA .u8 n fun _ => 0) 5)) := by
  have hm := run_make_row' (P := Tryd.prog) 114 5 (.int .u8 0) 1 Tryd.underlying114 infoByte rfl .i64 .i64 n (by omega) (by omega) w
  rw [made_WA] at hm
  exact hm
theorem wl_mkB {ops : Array Oper} {rest : List Oper} {Q : Exit → Act → World → Prop} {n : Nat} (ho : o.op = .makeSlice 114 x y) (hw : Region.wanted o (yielded ops a.tmps) = true) (hx : a.eval x = .int .i64 (n : Int)) (hy : a.eval y = .int .i64 (n : Int)) (hn : n ≤ 65536)
    (h : ∀ g w', w.heap.size ≤ g → RowAt w' g .u8 5 n (fun _ => 0) → Below w.heap.size w w' → wpList Tryd.prog ops Q rest (a.put o.dst (.slice (some ⟨g, 0, none⟩) n n)) w') : wpList Tryd.prog ops Q (o :: rest) a w := by
  have hr := run_mkB n hn w
  refine wl_act hw ?_
  unfold Oper.wp execOp
  simp only [ho, hx, hy, Sem.run_bind, hr, Result.andThen_ok, Sem.run_pure, Oper.upon]
  exact h _ _ (Nat.le_refl _) (RowAt.of (heap_alloc_new w _)) ((Below.refl _ _).alloc (Nat.le_refl _) _)
theorem wl_st8 {ops : Array Oper} {rest : List Oper} {Q : Exit → Act → World → Prop} {g n i : Nat} {s : Nat → Int} {v : Int} {ty : TypeId} (ho : o.op = .store 5 x y) (hw : Region.wanted o (yielded ops a.tmps) = true) (hg : RowAt w g .u8 ty n s) (hx : a.eval x = .pointer (some ⟨g, i, none⟩)) (hy : a.eval y = .int .u8 v) (hi : i < n)
    (h : ∀ w2, RowAt w2 g .u8 ty n (upd s i v) → Only g w w2 → wpList Tryd.prog ops Q rest (a.put o.dst undef) w2) : wpList Tryd.prog ops Q (o :: rest) a w := by
  refine wl_act hw ?_
  have hc := hg.cell i hi
  have hf := hg.free i hi
  have hr : (Instr.storeAt 5 (.pointer (some ⟨g, i, none⟩)) (.int .u8 v)).run Tryd.prog w = .ok () (w.setCell ⟨g, i, none⟩ (.int .u8 v)) := by simp [go_sem, hc, hf]
  unfold Oper.wp execOp
  simp only [ho, hx, hy, Sem.run_bind, hr, Result.andThen_ok, Sem.run_pure, Oper.upon]
  exact h _ (hg.set i v) only_set
end
/-- Two structs as parameters. -/
theorem wl_boxWW {ops : Array Oper} {rest : List Oper} {o1 o2 : Oper} {x y : Operand} {ty ty' : TypeId} {a : Act} {w : World} {Q : Exit → Act → World → Prop} {n n' : Nat} {V V' : Nat → Value} (h1 : o1.op = .box ty x) (h2 : o2.op = .box ty' y) (w1 : o1.guard = none) (w2 : o2.guard = none) (hA : IsSt ty n) (hA' : IsSt ty' n') (hx : a.eval x = .agg (SC n V)) (hy : ∀ u, (a.put o1.dst u).eval y = .agg (SC n' V'))
    (h : ∀ g g' w', w.heap.size ≤ g → g < g' → SAt w' g ty n V → SAt w' g' ty' n' V' → Below w.heap.size w w' → wpList Tryd.prog ops Q rest ((a.put o1.dst (.pointer (some ⟨g, 0, none⟩))).put o2.dst (.pointer (some ⟨g', 0, none⟩))) w') : wpList Tryd.prog ops Q (o1 :: o2 :: rest) a w := by
  have q1 : Region.wanted o1 (yielded ops a.tmps) = true := by unfold Region.wanted; rw [w1]
  refine wl_boxO h1 q1 hA hx (fun g u hg s1 b1 => ?_)
  have q2 : Region.wanted o2 (yielded ops (a.put o1.dst (.pointer (some ⟨g, 0, none⟩))).tmps) = true := by unfold Region.wanted; rw [w2]
  refine wl_boxO h2 q2 hA' (hy _) (fun g' u' hg' s2 b2 => ?_)
  exact h g g' u' hg (by have := SAt.lt s1; omega) (SAt.kept s1 b2) s2 (b1.trans (b2.mono b1.size))
end Go.Proofs.YtojekoakgpkkdaaDoor
/-
  Own text. The document's joined and Sum: the Internet checksum as a number.
-/
namespace Go.Proofs.YtojekoakgpkkdaaDoor
open Go.RowKit Go.Proofs Go.Lib
set_option maxRecDepth 100000
/-- The sum of the first n bytes, each at an even place 256 times. -/
def sw (f : Nat → Int) : Nat → Int
  | 0 => 0
  | i + 1 => sw f i + (if i % 2 = 0 then 256 * f i else f i)
/-- A sum from which 65535 was taken while it was above that. -/
def cano (s : Int) : Int := if s = 0 then 0 else (s - 1) % 65535 + 1
def sumT (T : ByteArray) : Int := 65535 - cano (sw (txt T) T.size)
theorem sw_nn {f : Nat → Int} (h : ∀ i, 0 ≤ f i) : ∀ n, 0 ≤ sw f n
  | 0 => by unfold sw; omega
  | n + 1 => by
    have := sw_nn h n
    have := h n
    unfold sw
    split <;> omega
theorem cano_b (s : Int) : 0 ≤ cano s ∧ cano s ≤ 65535 := by
  unfold cano
  split <;> omega
theorem cano_add {s b : Int} (hs : 0 ≤ s) (h0 : 0 ≤ b) (h1 : b ≤ 65535) : cano (s + b) = if 65535 < cano s + b then cano s + b - 65535 else cano s + b := by
  unfold cano
  by_cases e : s = 0
  · subst e
    by_cases e2 : b = 0
    · subst e2
      simp
    · rw [if_neg (by omega), if_pos rfl]
      split <;> omega
  · rw [if_neg (by omega), if_neg e]
    split <;> omega
theorem sumT_b (T : ByteArray) : 0 ≤ sumT T ∧ sumT T ≤ 65535 := by
  have := cano_b (sw (txt T) T.size)
  unfold sumT
  omega
set_option maxHeartbeats 4000000 in
theorem rjoined_run (v : Value) (n : Nat) (ts : Nat → ByteArray) (w : World) (hv : Strs w v n ts) (hn : n < 4611686018427387904) (hs : (joinB ts n).size ≤ 140737488355328) :
    Calls Tryd.prog 90 #[v] w fun e w' => e = .returned (.string (joinB ts n)) ∧ Below w.heap.size w w' := by
  obtain ⟨a, c, rfl, hp⟩ := hv
  have HP := Hid.mk hp
  clear hp
  obtain ⟨inf, hi1, hi2, hi3, hi4⟩ := infoByte1
  have HI4 := Hid.mk (And.intro hi1 (And.intro hi2 (And.intro hi3 hi4)))
  clear hi1 hi2 hi3 hi4
  go_enter Tryd.func90, Tryd.ntmps90
  go_wp2_with fail
  go_loopg [3, 4] n (fun gm ov iv v => ∃ i : Nat, Hid (gm + i = n) ∧ iv = .int .i64 (i : Int) ∧ Hid (v.ownsRow w.heap.size 5 1 ov (joinB ts i).size (strCells (joinB ts i))) ∧ Below w.heap.size w v)
  case atStart => exact ⟨0, Hid.mk rfl, rfl, Hid.mk ⟨rfl, .inl ⟨rfl, rfl⟩⟩, Below.refl _ w⟩
  case round =>
    obtain ⟨i, HI, rfl, hO, hB⟩ := hrel
    have hin : i ≤ n := by have := HI.out; omega
    by_cases hil : i < n
    · obtain ⟨p, rfl, hc⟩ := HP.out (by omega)
      have hc0 := hc i hil
      have hc1 : wr.cell? (p.add i) = some (.string (ts i)) := (hB.cell (World.block_lt_of_cell? _ _ hc0)).trans hc0
      have hsz : (joinB ts i).size + (ts i).size ≤ 140737488355328 := by
        have h1 := joinB_mono ts (show i + 1 ≤ n from hil)
        rw [joinB, ByteArray.size_append] at h1
        omega
      clear hc0
      go_wp2_with (at_builtin; refine wpList_append_own_string _ rfl _ _ 114 9 (by rfl) w.heap.size 5 inf Tryd.underlying114 Tryd.underlying9 HI4.out.1 HI4.out.2.1 HI4.out.2.2.1 HI4.out.2.2.2 _ _ _ (by rfl) hO.out (ts i) (by rfl) (by unfold maxLen; omega) hsz hB.size ?_; intro vb v4 h4 hg4 _; refine Hid.out ?_)
      have hB4 := hB.trans (Below.grow hg4 hB.size (own_base hO.out))
      rw [← strCells_cat, ← ByteArray.size_append] at h4
      refine Hid.mk ?_
      go_wp2_with fail
      go_roundg (n - (i + 1))
      case rel => exact ⟨i + 1, Hid.mk (by omega), by go_num, Hid.mk h4, hB4⟩
      case measure => have := HI.out; omega
    · have hi2 : i = n := by omega
      subst hi2
      have hcv := str_own hO.out
      go_wp2_with fail
      go_ret
      exact ⟨rfl, hB⟩
set_option maxHeartbeats 4000000 in
theorem rSum_run (v : Value) (n : Nat) (ts : Nat → ByteArray) (w : World) (hv : Strs w v n ts) (hn : n < 4611686018427387904) (hs : (joinB ts n).size ≤ 140737488355328) :
    Calls Tryd.prog 68 #[v] w fun e w' => e = .returned (.int .i64 (sumT (joinB ts n))) ∧ Below w.heap.size w w' := by
  have HJ := Hid.mk (rjoined_run v n ts w hv hn hs)
  generalize joinB ts n = T at *
  clear hv hn
  go_enter Tryd.func68, Tryd.ntmps68
  go_wp2_with fail
  refine HJ.out.mono ?_
  rintro e w1 ⟨rfl, hB1⟩
  clear HJ
  obtain ⟨N, hN⟩ : ∃ N, T.size = N := ⟨_, rfl⟩
  go_wp2_with fail
  go_loopg [4, 5] N (fun gm s4 s5 z => ∃ i : Nat, gm = N - i ∧ i ≤ N ∧ s5 = .int .i64 (i : Int) ∧ s4 = .int .i64 (cano (sw (txt T) i)) ∧ z = w1)
  case atStart => exact ⟨0, rfl, by omega, rfl, rfl, rfl⟩
  case round =>
    obtain ⟨i, hgm, hin, rfl, rfl, hz⟩ := hrel
    subst hz
    have hb := txt_b T i
    have hc := cano_b (sw (txt T) i)
    have hs0 := sw_nn (fun i => (txt_b T i).1) i
    by_cases hlt : i < N
    · have hlts : i < T.size := by omega
      have hi63 : (i : Int) + 1 ≤ 9223372036854775807 := by omega
      have hlti : (i : Int) < (N : Int) := by omega
      obtain ⟨r, hr⟩ : ∃ r, i % 2 = r := ⟨_, rfl⟩
      obtain ⟨b, hbe⟩ : ∃ b, txt T i = b := ⟨_, rfl⟩
      obtain ⟨c, hce⟩ : ∃ c, cano (sw (txt T) i) = c := ⟨_, rfl⟩
      have HC : Hid (cano (sw (txt T) (i + 1)) = if 65535 < c + (if r = 0 then b * 256 else b) then c + (if r = 0 then b * 256 else b) - 65535 else c + (if r = 0 then b * 256 else b)) := Hid.mk (by
        have h1 := cano_add (s := sw (txt T) i) (b := if i % 2 = 0 then 256 * txt T i else txt T i) hs0 (by split <;> omega) (by split <;> omega)
        rw [hce, hr, hbe, Int.mul_comm 256 b] at h1
        show cano (sw (txt T) i + _) = _
        rw [hr, hbe, Int.mul_comm 256 b]
        exact h1)
      have HB : Hid (T.size = N ∧ txt T i = b ∧ i % 2 = r) := Hid.mk ⟨hN, hbe, hr⟩
      have hr2 : r = 0 ∨ r = 1 := by omega
      rw [hce] at hc ⊢
      rw [hbe] at hb
      clear hbe hce hs0 hr hlts
      rcases hr2 with rfl | rfl
      · by_cases hgt : 65535 < c + b * 256
        · have e1 := HC.out
          rw [if_pos rfl, if_pos hgt] at e1
          have HE := Hid.mk e1
          clear e1 HC
          go_wp2_with (first | (refine wl_value rfl (exec_ixs rfl (by rfl) (by rfl) (by rw [HB.out.1]; exact hlt)) ?_; simp only [HB.out.2.1]) | (refine wl_value rfl (exec_remW (i := i) (m := 2) rfl (by rfl) (by rfl) HB.out.2.2 (by decide)) ?_))
          go_roundg (N - (i + 1))
          case rel => exact ⟨i + 1, rfl, by omega, by go_num, by rw [HE.out], rfl⟩
          case measure => omega
        · have e1 := HC.out
          rw [if_pos rfl, if_neg hgt] at e1
          have HE := Hid.mk e1
          clear e1 HC
          go_wp2_with (first | (refine wl_value rfl (exec_ixs rfl (by rfl) (by rfl) (by rw [HB.out.1]; exact hlt)) ?_; simp only [HB.out.2.1]) | (refine wl_value rfl (exec_remW (i := i) (m := 2) rfl (by rfl) (by rfl) HB.out.2.2 (by decide)) ?_))
          go_roundg (N - (i + 1))
          case rel => exact ⟨i + 1, rfl, by omega, by go_num, by rw [HE.out], rfl⟩
          case measure => omega
      · by_cases hgt : 65535 < c + b
        · have e1 := HC.out
          rw [if_neg (show ¬ (1 : Nat) = 0 by decide), if_pos hgt] at e1
          have HE := Hid.mk e1
          clear e1 HC
          go_wp2_with (first | (refine wl_value rfl (exec_ixs rfl (by rfl) (by rfl) (by rw [HB.out.1]; exact hlt)) ?_; simp only [HB.out.2.1]) | (refine wl_value rfl (exec_remW (i := i) (m := 2) rfl (by rfl) (by rfl) HB.out.2.2 (by decide)) ?_))
          go_roundg (N - (i + 1))
          case rel => exact ⟨i + 1, rfl, by omega, by go_num, by rw [HE.out], rfl⟩
          case measure => omega
        · have e1 := HC.out
          rw [if_neg (show ¬ (1 : Nat) = 0 by decide), if_neg hgt] at e1
          have HE := Hid.mk e1
          clear e1 HC
          go_wp2_with (first | (refine wl_value rfl (exec_ixs rfl (by rfl) (by rfl) (by rw [HB.out.1]; exact hlt)) ?_; simp only [HB.out.2.1]) | (refine wl_value rfl (exec_remW (i := i) (m := 2) rfl (by rfl) (by rfl) HB.out.2.2 (by decide)) ?_))
          go_roundg (N - (i + 1))
          case rel => exact ⟨i + 1, rfl, by omega, by go_num, by rw [HE.out], rfl⟩
          case measure => omega
    · obtain rfl : i = N := by omega
      have hlti : ¬ (i : Int) < (i : Int) := by omega
      go_wp2_with fail
      go_ret
      exact ⟨by unfold sumT; rw [hN]; rfl, hB1⟩
end Go.Proofs.YtojekoakgpkkdaaDoor
/-
  Own text. The program's own checksum: it is the number that the document's sum is.
-/
namespace Go.Proofs.YtojekoakgpkkdaaDoor
open Go.RowKit Go.Proofs
set_option maxRecDepth 100000
section
variable {a : Act} {o : Oper} {w : World} {x y : Operand} {t : TypeId}
theorem exec_shr16 (ho : o.op = .binOp .shr 72 x y t) {i q : Nat} (hx : a.eval x = .int .u64 (i : Int)) (hy : a.eval y = .int .u64 16) (hq : i / 65536 = q) : (execOp a.eval o).run Tryd.prog w = .ok (.value (.int .u64 (q : Int))) w := by
  subst hq
  refine exec_bin2 ho hx hy rfl ?_
  simp [go_sem]
theorem exec_shl8U (ho : o.op = .binOp .shl 72 x y t) {i q : Nat} (hx : a.eval x = .int .u64 (i : Int)) (hy : a.eval y = .int .u64 8) (hq : i * 256 = q) (hl : q < 18446744073709551616) : (execOp a.eval o).run Tryd.prog w = .ok (.value (.int .u64 (q : Int))) w := by
  subst hq
  refine exec_bin2 ho hx hy rfl ?_
  have e2 : IntKind.u64.wrap ((i : Int) * 256) = ((i * 256 : Nat) : Int) := by rw [IntKind.wrap_u64]; omega
  simp [go_sem, e2]
theorem exec_andU (ho : o.op = .binOp .and 72 x y 72) {i q : Nat} (hx : a.eval x = .int .u64 (i : Int)) (hy : a.eval y = .int .u64 65535) (hl : i < 18446744073709551616) (hq : i % 65536 = q) : (execOp a.eval o).run Tryd.prog w = .ok (.value (.int .u64 (q : Int))) w := by
  subst hq
  refine exec_bin2 ho hx hy rfl ?_
  have e := bits_and_u64_nat i 65535 hl (by decide)
  have e2 : i &&& 65535 = i % 65536 := Nat.and_two_pow_sub_one_eq_mod i 16
  rw [e2] at e
  have e3 : bits .and .u64 (i : Int) 65535 = ((i % 65536 : Nat) : Int) := e
  simp [go_sem, e3]
theorem exec_orU8 (ho : o.op = .binOp .or 72 x y 72) {i c q : Nat} (hx : a.eval x = .int .u64 ((i * 256 : Nat) : Int)) (hy : a.eval y = .int .u64 (c : Int)) (hc : c < 256) (hq : i * 256 + c = q) (hl : q < 18446744073709551616) : (execOp a.eval o).run Tryd.prog w = .ok (.value (.int .u64 (q : Int))) w := by
  subst hq
  refine exec_bin2 ho hx hy rfl ?_
  have e := bits_or_u64_nat (i * 256) c (by omega) (by omega)
  have e2 : i * 256 ||| c = i * 256 + c := by
    have := Nat.two_pow_add_eq_or_of_lt (show c < 2 ^ 8 from hc) i
    rw [Nat.mul_comm i 256]
    exact this.symm
  rw [e2] at e
  have e3 : bits .or .u64 ((i : Int) * 256) (c : Int) = (i : Int) * 256 + (c : Int) := e
  simp [go_sem, e3]
theorem exec_cvUI (ho : o.op = .convert 72 3 x) {m : Nat} (hx : a.eval x = .int .u64 (m : Int)) (h1 : m < 9223372036854775808) : (execOp a.eval o).run Tryd.prog w = .ok (.value (.int .i64 (m : Int))) w := by
  have e : IntKind.i64.wrap (m : Int) = (m : Int) := by rw [IntKind.wrap_i64]; omega
  unfold execOp
  simp only [ho, hx]
  simp [go_sem, e]
end
theorem joinB_at (ts : Nat → ByteArray) {i cnt : Nat} (hi : i < cnt) {j : Nat} (hj : j < (ts i).size) : txt (joinB ts cnt) ((joinB ts i).size + j) = txt (ts i) j := by
  induction cnt with
  | zero => omega
  | succ n ih =>
    rw [joinB, txt_append]
    by_cases e : i = n
    · subst e
      rw [if_neg (by omega), Nat.add_sub_cancel_left]
    · have h1 := joinB_mono ts (show i + 1 ≤ n by omega)
      rw [joinB, ByteArray.size_append] at h1
      rw [if_pos (by omega)]
      exact ih (by omega)
theorem cano_small {s : Int} (h0 : 0 ≤ s) (h1 : s ≤ 65535) : cano s = s := by
  unfold cano
  split <;> omega
theorem cano_fold {s : Nat} (h : 65535 < s) : cano ((s / 65536 + s % 65536 : Nat) : Int) = cano (s : Int) := by
  unfold cano
  rw [if_neg (by omega), if_neg (by omega)]
  omega
theorem sw_le {f : Nat → Int} (h : ∀ i, 0 ≤ f i ∧ f i < 256) : ∀ n : Nat, sw f n ≤ 65280 * (n : Int)
  | 0 => by unfold sw; omega
  | n + 1 => by
    have ih := sw_le h n
    have := h n
    unfold sw
    split <;> omega
set_option maxHeartbeats 4000000 in
theorem folded_run (s : Nat) (w : World) (hs : s < 9223372036854775808) : Calls Tryd.prog 87 #[.int .u64 (s : Int)] w fun e w' => e = .returned (.int .i64 (cano (s : Int))) ∧ w' = w := by
  go_enter Tryd.func87, Tryd.ntmps87
  go_wp2_with fail
  go_loopg [0] s (fun gm s0 z => ∃ k : Nat, gm = k ∧ k ≤ s ∧ s0 = .int .u64 (k : Int) ∧ Hid (cano (k : Int) = cano (s : Int)) ∧ z = w)
  case atStart => exact ⟨s, rfl, by omega, rfl, Hid.mk rfl, rfl⟩
  case round =>
    obtain ⟨k, hgm, hk, rfl, HC, hz⟩ := hrel
    subst hz
    by_cases h : 65535 < k
    · have hi : (65535 : Int) < (k : Int) := by omega
      obtain ⟨p, hp⟩ : ∃ p, k / 65536 = p := ⟨_, rfl⟩
      obtain ⟨r, hr⟩ : ∃ r, k % 65536 = r := ⟨_, rfl⟩
      have HE : Hid (cano ((p + r : Nat) : Int) = cano (s : Int)) := Hid.mk (by rw [← hp, ← hr, cano_fold h]; exact HC.out)
      have HP := Hid.mk (And.intro hp hr)
      have h3 : p + r < k := by omega
      clear hp hr HC
      go_wp2_with (first | (refine wl_value rfl (exec_shr16 (i := k) rfl (by rfl) (by rfl) HP.out.1) ?_) | (refine wl_value rfl (exec_andU (i := k) rfl (by rfl) (by rfl) (by omega) HP.out.2) ?_) | (refine wl_value rfl (exec_addU (i := p) (m := r) rfl (by rfl) (by rfl) rfl (by omega)) ?_))
      go_roundg (p + r)
      case rel => exact ⟨p + r, rfl, by omega, rfl, HE, rfl⟩
      case measure => omega
    · have hi : ¬ (65535 : Int) < (k : Int) := by omega
      have HE : Hid (cano (s : Int) = (k : Int)) := Hid.mk (by rw [← HC.out]; exact cano_small (by omega) (by omega))
      go_wp2_with (refine wl_value rfl (exec_cvUI (m := k) rfl (by rfl) (by omega)) ?_)
      go_ret
      exact ⟨by rw [HE.out]; rfl, rfl⟩
theorem weighed_run (b : Nat) (odd : Bool) (w : World) (hb : b < 256) : Calls Tryd.prog 86 #[.int .u8 (b : Int), .bool odd] w fun e w' => e = .returned (.int .u64 (((if odd = true then b else b * 256 : Nat)) : Int)) ∧ w' = w := by
  go_enter Tryd.func86, Tryd.ntmps86
  cases odd
  · go_wp2_with (first | (refine wl_value rfl (exec_cv8U (m := b) rfl (by rfl) hb) ?_) | (refine wl_value rfl (exec_shl8U (i := b) rfl (by rfl) (by rfl) rfl (by omega)) ?_))
    go_ret
    exact ⟨rfl, rfl⟩
  · go_wp2_with (refine wl_value rfl (exec_cv8U (m := b) rfl (by rfl) hb) ?_)
    go_ret
    exact ⟨rfl, rfl⟩
set_option maxHeartbeats 4000000 in
theorem Sum_run (v : Value) (n : Nat) (ts : Nat → ByteArray) (w : World) (hv : Strs w v n ts) (hn : n < 4611686018427387904) (hs : (joinB ts n).size ≤ 140737488355328) :
    Calls Tryd.prog 65 #[v] w fun e w' => e = .returned (.int .i64 (sumT (joinB ts n))) ∧ w' = w := by
  obtain ⟨a, c, rfl, hp⟩ := hv
  have HP := Hid.mk hp
  clear hp
  have HA := Hid.mk (fun (i : Nat) (hi : i < n) (j : Nat) (hj : j < (ts i).size) => joinB_at ts hi hj)
  have HZ : Hid (∀ i, i < n → (joinB ts i).size + (ts i).size ≤ (joinB ts n).size) := Hid.mk (fun i hi => by
    have h1 := joinB_mono ts (show i + 1 ≤ n from hi)
    rw [joinB, ByteArray.size_append] at h1
    exact h1)
  have HSU : Hid (∀ i, (joinB ts (i + 1)).size = (joinB ts i).size + (ts i).size) := Hid.mk (fun i => by rw [joinB, ByteArray.size_append])
  have HEN : Hid ((joinB ts n).size = (joinB ts n).size) := Hid.mk rfl
  have hP0 : (joinB ts 0).size = 0 := rfl
  have HT : Hid (sumT (joinB ts n) = 65535 - cano (sw (txt (joinB ts n)) (joinB ts n).size)) := Hid.mk rfl
  generalize hTe : joinB ts n = T at *
  obtain ⟨P, hPe⟩ : ∃ P : Nat → Nat, P = fun i => (joinB ts i).size := ⟨_, rfl⟩
  have HPn : Hid (P n = T.size) := Hid.mk (by rw [hPe, ← hTe])
  have HA : Hid (∀ i, i < n → ∀ j, j < (ts i).size → txt T (P i + j) = txt (ts i) j) := Hid.mk (by rw [hPe]; exact HA.out)
  have HZ : Hid (∀ i, i < n → P i + (ts i).size ≤ T.size) := Hid.mk (by rw [hPe]; exact HZ.out)
  have HSU : Hid (∀ i, P (i + 1) = P i + (ts i).size) := Hid.mk (by rw [hPe]; exact HSU.out)
  have hP0 : P 0 = 0 := by rw [hPe]; rfl
  have HSL : Hid (∀ k : Nat, k ≤ T.size → sw (txt T) k < 9223372036854775808) := Hid.mk (fun k hk => by
    have := sw_le (fun i => txt_b T i) k
    omega)
  clear hTe hPe HEN
  have HS0 : Hid (∀ k : Nat, sw (txt T) (k + 1) = sw (txt T) k + (if k % 2 = 0 then 256 * txt T k else txt T k)) := Hid.mk (fun k => rfl)
  go_enter Tryd.func65, Tryd.ntmps65
  go_wp2_with fail
  go_loopg [3, 4, 10] n (fun gm s3 s4 s10 z => ∃ (i M : Nat) (d : Bool), Hid (gm + i = n) ∧ s10 = .int .i64 (i : Int) ∧ s3 = .int .u64 (M : Int) ∧ s4 = .bool d ∧ Hid ((M : Int) = sw (txt T) (P i) ∧ d = decide (P i % 2 = 1)) ∧ z = w)
  case atStart => exact ⟨0, 0, false, Hid.mk rfl, rfl, rfl, rfl, Hid.mk (by rw [hP0]; exact ⟨rfl, rfl⟩), rfl⟩
  case round =>
    obtain ⟨i, M, d, HI, rfl, rfl, rfl, HM, hz⟩ := hrel
    have hz2 := hz.symm
    subst hz2
    clear hz
    have hin : i ≤ n := by have := HI.out; omega
    by_cases hil : i < n
    · have hili : (i : Int) < (n : Int) := by omega
      obtain ⟨p, rfl, hc⟩ := HP.out (by omega)
      have hc0 := hc i hil
      clear hc
      have HAi : Hid (∀ j, j < (ts i).size → txt T (P i + j) = txt (ts i) j) := Hid.mk (HA.out i hil)
      have hZi := HZ.out i hil
      have HSi := Hid.mk (HSU.out i)
      generalize ts i = S at *
      obtain ⟨N, hN⟩ : ∃ N, S.size = N := ⟨_, rfl⟩
      have HN := Hid.mk hN
      rw [hN] at hZi
      obtain ⟨K, hK⟩ : ∃ K, P i = K := ⟨_, rfl⟩
      rw [hK] at HM hZi
      have HK := Hid.mk hK
      clear hK
      go_wp2_with fail
      clear hN
      have HGK := Hid.mk HI.out
      generalize gk = gk0 at *
      go_loopg [3, 4, 16] N (fun gm s3 s4 s16 z => ∃ (j M : Nat) (d : Bool), Hid (gm + j = N) ∧ s16 = .int .i64 (j : Int) ∧ s3 = .int .u64 (M : Int) ∧ s4 = .bool d ∧ Hid ((M : Int) = sw (txt T) (K + j) ∧ d = decide ((K + j) % 2 = 1)) ∧ z = w)
      case atStart => exact ⟨0, M, d, Hid.mk rfl, rfl, rfl, rfl, HM, rfl⟩
      case round =>
        obtain ⟨j, M, d, HJ, rfl, rfl, rfl, HM, hz⟩ := hrel
        have hz2 := hz.symm
        subst hz2
        clear hz
        have hjn : j ≤ N := by have := HJ.out; omega
        by_cases hjl : j < N
        · have hjli : (j : Int) < (N : Int) := by omega
          obtain ⟨b, hb⟩ : ∃ b : Nat, txt S j = (b : Int) := ⟨(txt S j).toNat, by have := txt_b S j; omega⟩
          have hbl : b < 256 := by have := txt_b S j; omega
          have hjS : j < S.size := by rw [HN.out]; exact hjl
          have h1 := HS0.out (K + j)
          have h2 := HAi.out j hjS
          rw [HK.out] at h2
          rw [h2, hb, ← HM.out.1] at h1
          have hlim := HSL.out (K + j + 1) (by omega)
          have HD := Hid.mk HM.out.2
          have HE : Hid (((M + (if d = true then b else b * 256) : Nat) : Int) = sw (txt T) (K + (j + 1)) ∧ (!d) = decide ((K + (j + 1)) % 2 = 1)) := Hid.mk (by
            rw [← Nat.add_assoc, h1, HD.out]
            rcases Nat.mod_two_eq_zero_or_one (K + j) with e | e
            · rw [if_pos e, if_neg (by rw [e]; decide)]
              refine ⟨by omega, ?_⟩
              rw [e]
              have : (K + j + 1) % 2 = 1 := by omega
              rw [this]; rfl
            · rw [if_neg (show ¬ (K + j) % 2 = 0 by omega), if_pos (show decide ((K + j) % 2 = 1) = true by rw [e]; decide)]
              refine ⟨by omega, ?_⟩
              rw [e]
              have : (K + j + 1) % 2 = 0 := by omega
              rw [this]; rfl)
          have hml : M + (if d = true then b else b * 256) < 18446744073709551616 := by
            have := HE.out.1
            rw [Nat.add_assoc K j 1] at hlim
            omega
          generalize hq : (if d = true then b else b * 256) = q at *
          have HQ := Hid.mk hq
          have HB := Hid.mk hb
          clear h1 h2 hlim HD hq HM hb
          go_wp2_with (first | (refine wl_value rfl (exec_ixs rfl (by rfl) (by rfl) hjS) ?_; simp only [HB.out]) | (go_at_call 86; refine (weighed_run b d _ hbl).mono ?_; rintro e w2 ⟨rfl, rfl⟩; simp only [HQ.out]) | (refine wl_value rfl (exec_addU (i := M) (m := q) rfl (by rfl) (by rfl) rfl hml) ?_))
          go_roundg (N - (j + 1))
          case rel => exact ⟨j + 1, M + q, !d, Hid.mk (by omega), by go_num, rfl, rfl, HE, rfl⟩
          case measure => have := HJ.out; omega
        · have hjn2 : j = N := by omega
          subst hjn2
          have HM2 : Hid ((M : Int) = sw (txt T) (P (i + 1)) ∧ d = decide (P (i + 1) % 2 = 1)) := Hid.mk (by
            have := HSi.out
            rw [HN.out, HK.out] at this
            rw [this]
            exact HM.out)
          go_wp2_with fail
          go_roundg (n - (i + 1))
          case rel => exact ⟨i + 1, M, d, Hid.mk (by omega), by go_num, rfl, rfl, HM2, rfl⟩
          case measure => have := HGK.out; omega
    · have hi2 : i = n := by omega
      subst hi2
      have hM := HM.out.1
      rw [HPn.out] at hM
      have hl := HSL.out T.size (Nat.le_refl _)
      have hMl : M < 9223372036854775808 := by omega
      have HF : Hid (65535 - cano (M : Int) = sumT T) := Hid.mk (by rw [HT.out, hM])
      have hcb := cano_b (M : Int)
      clear hM hl
      go_wp2_with (go_at_call 87; refine (folded_run M _ hMl).mono ?_; rintro e w2 ⟨rfl, rfl⟩)
      go_ret
      exact ⟨by rw [← HF.out]; go_num, rfl⟩
end Go.Proofs.YtojekoakgpkkdaaDoor
/-
  Own text. The document's Put and Get: numbers as bytes.
-/
namespace Go.Proofs.YtojekoakgpkkdaaDoor
open Go.RowKit Go.Proofs Go.Lib
set_option maxRecDepth 100000
/-- The j-th of size bytes of a number, the highest first. -/
def putF (N size j : Nat) : Int := ((N / 256 ^ (size - 1 - j) % 256 : Nat) : Int)
def putT (N size : Nat) : ByteArray := mkS size (putF N size)
theorem putF_b (N size j : Nat) : 0 ≤ putF N size j ∧ putF N size j < 256 := by unfold putF; omega
/-- The number of size bytes from a place on. -/
def getN (f : Nat → Int) (at0 : Nat) : Nat → Nat
  | 0 => 0
  | i + 1 => getN f at0 i * 256 + (f (at0 + i)).toNat
theorem getN_lt {f : Nat → Int} (hf : ∀ j, 0 ≤ f j ∧ f j < 256) (at0 : Nat) : ∀ i, getN f at0 i < 256 ^ i
  | 0 => by simp [getN]
  | i + 1 => by
    have := getN_lt hf at0 i
    have := hf (at0 + i)
    unfold getN
    rw [Nat.pow_succ]
    omega
theorem rPut_no (N : Nat) (sz : Int) (w : World) (h : sz < 1 ∨ 8 < sz) : Calls Tryd.prog 36 #[.int .u64 (N : Int), .int .i64 sz] w fun e w' => e = .returned (.string ByteArray.empty) ∧ Below w.heap.size w w' := by
  go_enter Tryd.func36, Tryd.ntmps36
  by_cases h1 : sz < 1
  · go_wp2_with fail
    go_ret
    exact ⟨rfl, Below.refl _ _⟩
  · have h2 : 8 < sz := by omega
    go_wp2_with fail
    go_ret
    exact ⟨rfl, Below.refl _ _⟩
set_option maxHeartbeats 4000000 in
theorem rPut_run (N size : Nat) (w : World) (hN : N < 18446744073709551616) (h1 : 1 ≤ size) (h8 : size ≤ 8) : Calls Tryd.prog 36 #[.int .u64 (N : Int), .int .i64 (size : Int)] w fun e w' => e = .returned (.string (putT N size)) ∧ Below w.heap.size w w' := by
  have i1 : ¬ (size : Int) < 1 := by omega
  have i8 : ¬ (8 : Int) < (size : Int) := by omega
  go_enter Tryd.func36, Tryd.ntmps36
  go_wp2_with (refine wl_mkB rfl rfl (by rfl) (by rfl) (by omega) ?_; intro g w1 hg q1 hB1; refine Hid.out ?_)
  refine Hid.mk ?_
  go_wp2_with fail
  go_loopg [0, 6] size (fun gm s0 s6 z => ∃ k : Nat, gm = k ∧ k ≤ size ∧ s6 = .int .i64 ((k : Int) - 1) ∧ s0 = .int .u64 ((N / 256 ^ (size - k) : Nat) : Int) ∧ Hid (RowAt z g .u8 5 size (fun j => if k ≤ j then putF N size j else 0)) ∧ Below w.heap.size w z)
  case atStart => exact ⟨size, rfl, by omega, rfl, by rw [Nat.sub_self, Nat.pow_zero, Nat.div_one], Hid.mk (q1.mono (Nat.le_refl _) (fun i hi => by rw [if_neg (by omega)])), hB1⟩
  case round =>
    obtain ⟨k, hgm, hk, rfl, rfl, HR, hB⟩ := hrel
    by_cases hk0 : k = 0
    · subst hk0
      have hcv := str_back size g size wr size (putF N size) (HR.out.mono (Nat.le_refl _) (fun i _ => by rw [if_pos (by omega)])) (fun j _ => putF_b N size j) rfl
      go_wp2_with (refine wl_value rfl (exec_conv rfl (by rfl) hcv) ?_)
      go_ret
      exact ⟨rfl, hB⟩
    · obtain ⟨i, rfl⟩ : ∃ i, k = i + 1 := ⟨k - 1, by omega⟩
      have e1 : ((i + 1 : Nat) : Int) - 1 = (i : Int) := by omega
      rw [e1]
      clear e1
      have hi0 : (0 : Int) ≤ (i : Int) := by omega
      obtain ⟨M, hM⟩ : ∃ M, N / 256 ^ (size - (i + 1)) = M := ⟨_, rfl⟩
      have hMl : M < 18446744073709551616 := by rw [← hM]; exact Nat.lt_of_le_of_lt (Nat.div_le_self _ _) hN
      have HM : Hid (N / 256 ^ (size - i) = M / 256 ∧ putF N size i = ((M % 256 : Nat) : Int)) := Hid.mk (by
        rw [← hM, Nat.div_div_eq_div_mul, ← Nat.pow_succ, show (size - (i + 1)).succ = size - i by omega]
        refine ⟨rfl, ?_⟩
        unfold putF
        rw [show size - 1 - i = size - (i + 1) by omega])
      rw [hM]
      clear hM
      obtain ⟨r, hr⟩ : ∃ r, M % 256 = r := ⟨_, rfl⟩
      obtain ⟨d, hd⟩ : ∃ d, M / 256 = d := ⟨_, rfl⟩
      have hrl : r < 256 := by omega
      have HRD := Hid.mk (And.intro hr hd)
      rw [hr, hd] at HM
      clear hr hd
      have hq := HR.out
      go_wp2_with (first | (refine wl_value rfl (exec_remU (i := M) (m := 256) rfl (by rfl) (by rfl) HRD.out.1 (by decide)) ?_) | (refine wl_value rfl (exec_cvU8 rfl (by rfl) hrl) ?_) | (refine wl_value rfl (exec_ixB (i := i) rfl (by rfl) (by rfl) (by omega)) ?_) | (refine wl_st8 rfl rfl hq (by rfl) (by rfl) (by omega) ?_; intro w2 q2 o2; refine Hid.out ?_))
      refine Hid.mk ?_
      have HX : Hid (RowAt w2 g .u8 5 size (fun j => if i ≤ j then putF N size j else 0)) := Hid.mk (q2.mono (Nat.le_refl _) (fun j _ => by
        unfold upd
        by_cases e : j = i
        · rw [if_pos (by omega), if_pos (by omega), e, HM.out.2]
        · rw [if_neg (by omega)]
          by_cases e2 : i ≤ j
          · show (if i + 1 ≤ j then putF N size j else 0) = if i ≤ j then putF N size j else 0
            rw [if_pos e2, if_pos (by omega)]
          · show (if i + 1 ≤ j then putF N size j else 0) = if i ≤ j then putF N size j else 0
            rw [if_neg e2, if_neg (by omega)]))
      have hB2 : Below w.heap.size w w2 := hB.trans (o2.below hg)
      clear q2 o2 hq HR hB
      go_wp2_with (refine wl_value rfl (exec_quoU (i := M) (m := 256) rfl (by rfl) (by rfl) HRD.out.2 (by decide) hMl) ?_)
      go_roundg i
      case rel => exact ⟨i, rfl, by omega, by go_num, by rw [HM.out.1], HX, hB2⟩
      case measure => omega
theorem rGet_no (T : ByteArray) (at0 sz : Int) (w : World) (_hT : T.size < 9223372036854775808) (h : sz < 1 ∨ 8 < sz ∨ at0 < 0 ∨ (T.size : Int) < at0 ∨ (T.size : Int) - at0 < sz) : Calls Tryd.prog 39 #[.string T, .int .i64 at0, .int .i64 sz] w fun e w' => e = .returned (.tuple #[.int .u64 0, .bool false]) ∧ Below w.heap.size w w' := by
  obtain ⟨N, hN⟩ : ∃ N, T.size = N := ⟨_, rfl⟩
  rw [hN] at h _hT
  go_enter Tryd.func39, Tryd.ntmps39
  by_cases h1 : sz < 1
  · go_wp2_with fail
    exact bodyPost_ret (results_two rfl (by rfl) (by rfl)) rfl ⟨rfl, Below.refl _ _⟩
  · by_cases h2 : 8 < sz
    · go_wp2_with fail
      exact bodyPost_ret (results_two rfl (by rfl) (by rfl)) rfl ⟨rfl, Below.refl _ _⟩
    · by_cases h3 : at0 < 0
      · go_wp2_with fail
        exact bodyPost_ret (results_two rfl (by rfl) (by rfl)) rfl ⟨rfl, Below.refl _ _⟩
      · by_cases h4 : (N : Int) < at0
        · go_wp2_with fail
          exact bodyPost_ret (results_two rfl (by rfl) (by rfl)) rfl ⟨rfl, Below.refl _ _⟩
        · have h5 : (N : Int) - at0 < sz := by omega
          have h6 : -9223372036854775808 ≤ (N : Int) - at0 := by omega
          have h7 : (N : Int) - at0 ≤ 9223372036854775807 := by omega
          go_wp2_with fail
          exact bodyPost_ret (results_two rfl (by rfl) (by rfl)) rfl ⟨rfl, Below.refl _ _⟩
set_option maxHeartbeats 4000000 in
theorem rGet_run (T : ByteArray) (at0 size : Nat) (w : World) (hT : T.size < 9223372036854775808) (h1 : 1 ≤ size) (h8 : size ≤ 8) (ha : at0 + size ≤ T.size) : Calls Tryd.prog 39 #[.string T, .int .i64 (at0 : Int), .int .i64 (size : Int)] w fun e w' => e = .returned (.tuple #[.int .u64 (getN (txt T) at0 size : Int), .bool true]) ∧ Below w.heap.size w w' := by
  obtain ⟨N, hN⟩ : ∃ N, T.size = N := ⟨_, rfl⟩
  have HN := Hid.mk hN
  rw [hN] at ha hT
  have i1 : ¬ (size : Int) < 1 := by omega
  have i2 : ¬ (8 : Int) < (size : Int) := by omega
  have i3 : ¬ (at0 : Int) < 0 := by omega
  have i4 : ¬ (N : Int) < (at0 : Int) := by omega
  have i5 : ¬ (N : Int) - (at0 : Int) < (size : Int) := by omega
  have i6 : -9223372036854775808 ≤ (N : Int) - (at0 : Int) := by omega
  have i7 : (N : Int) - (at0 : Int) ≤ 9223372036854775807 := by omega
  go_enter Tryd.func39, Tryd.ntmps39
  go_wp2_with fail
  clear i1 i2 i3 i4 i5 i6 i7
  go_loopg [8, 9] size (fun gm s8 s9 z => ∃ i : Nat, gm = size - i ∧ i ≤ size ∧ s9 = .int .i64 (i : Int) ∧ s8 = .int .u64 (getN (txt T) at0 i : Int) ∧ z = w)
  case atStart => exact ⟨0, rfl, by omega, rfl, rfl, rfl⟩
  case round =>
    obtain ⟨i, hgm, hi, rfl, rfl, hz⟩ := hrel
    subst hz
    by_cases hlt : i < size
    · have hlti : (i : Int) < (size : Int) := by omega
      obtain ⟨c, hc⟩ : ∃ c : Nat, txt T (at0 + i) = (c : Int) := ⟨(txt T (at0 + i)).toNat, by have := txt_b T (at0 + i); omega⟩
      have hcl : c < 256 := by have := txt_b T (at0 + i); omega
      obtain ⟨m, hm⟩ : ∃ m, getN (txt T) at0 i = m := ⟨_, rfl⟩
      have hml : m < 72057594037927936 := by
        have h2 := getN_lt (fun j => txt_b T j) at0 i
        have h3 : 256 ^ i ≤ 256 ^ 7 := Nat.pow_le_pow_right (by decide) (by omega)
        have h4 : (256 : Nat) ^ 7 = 72057594037927936 := rfl
        omega
      have HG : Hid (getN (txt T) at0 (i + 1) = m * 256 + c) := Hid.mk (by
        show getN (txt T) at0 i * 256 + (txt T (at0 + i)).toNat = _
        rw [hm, hc, Int.toNat_natCast])
      have HC := Hid.mk hc
      rw [hm]
      clear hm hc
      obtain ⟨q, hq⟩ : ∃ q, at0 + i = q := ⟨_, rfl⟩
      obtain ⟨P, hP⟩ : ∃ P, m * 256 = P := ⟨_, rfl⟩
      obtain ⟨S, hS⟩ : ∃ S, P + c = S := ⟨_, rfl⟩
      have hPl : P < 18446744073709551616 := by omega
      have hSl : S < 18446744073709551616 := by omega
      have hql : q < 9223372036854775808 := by omega
      rw [hP, hS] at HG
      rw [hq] at HC
      have HXS : Hid (q < T.size) := Hid.mk (by rw [HN.out]; omega)
      have HQ := Hid.mk (And.intro hq (And.intro hP hS))
      clear hq hP hS
      go_wp2_with (first | (refine wl_value rfl (exec_mulU (i := m) (m := 256) rfl (by rfl) (by rfl) HQ.out.2.1 hPl) ?_) | (refine wl_value rfl (exec_addW (i := at0) (m := i) rfl (by rfl) (by rfl) HQ.out.1 hql) ?_) | (refine wl_value rfl (exec_ixs (j := q) rfl (by rfl) (by rfl) HXS.out) ?_; simp only [HC.out]) | (refine wl_value rfl (exec_cv8U (m := c) rfl (by rfl) hcl) ?_) | (refine wl_value rfl (exec_addU (i := P) (m := c) rfl (by rfl) (by rfl) HQ.out.2.2 hSl) ?_))
      go_roundg (size - (i + 1))
      case rel => exact ⟨i + 1, rfl, by omega, by go_num, by rw [HG.out], rfl⟩
      case measure => omega
    · obtain rfl : i = size := by omega
      have hlti : ¬ (i : Int) < (i : Int) := by omega
      go_wp2_with fail
      exact bodyPost_ret (results_two rfl (by rfl) (by rfl)) rfl ⟨rfl, Below.refl _ _⟩
end Go.Proofs.YtojekoakgpkkdaaDoor
/-
  Own text. The program's own Put and Get: the bytes of a number, and a number of bytes.
-/
namespace Go.Proofs.YtojekoakgpkkdaaDoor
open Go.RowKit Go.Proofs
set_option maxRecDepth 100000
theorem str_cells (b f0 cp : Nat) (w : World) (n : Nat) (f : Nat → Int) (hR : ∀ j, j < n → w.cell? ⟨b, f0 + j, none⟩ = some (.int .u8 (f j))) (hf : ∀ j, j < n → 0 ≤ f j ∧ f j < 256) : (convert 114 9 (.slice (some ⟨b, f0, none⟩) n cp)).run Tryd.prog w = .ok (.string (mkS n f)) w := by
  have h := run_convert_bytes_back (P := Tryd.prog) w 114 9 5 ⟨b, f0, none⟩ cp (bytesL n f) Tryd.underlying114 Tryd.underlying5 Tryd.underlying9 (fun j hj => by
    rw [bytesL_len] at hj
    rw [Addr.add_lit, hR j hj]
    have := hf j hj
    simp [bytesL]
    omega)
  rw [bytesL_len] at h
  exact h
theorem zero8 (w : World) : (zeroValue 113).run Tryd.prog w = .ok (.agg (SC 8 fun _ => Value.int .u8 0)) w := by kernel_rfl
theorem len8 : Tryd.prog.arrayLen 113 = 8 := by kernel_rfl
theorem sizeB8 (w : World) : (sizeOf (Tryd.prog.elem 113)).run Tryd.prog w = .ok 1 w := by kernel_rfl
section
variable {a : Act} {o : Oper} {w : World} {x y : Operand}
theorem exec_shrP (ho : o.op = .binOp .shr 72 x y 3) {n i q : Nat} (hx : a.eval x = .int .u64 (n : Int)) (hy : a.eval y = .int .i64 ((8 * i : Nat) : Int)) (hi : i < 8) (hq : n / 256 ^ i = q) : (execOp a.eval o).run Tryd.prog w = .ok (.value (.int .u64 (q : Int))) w := by
  subst hq
  refine exec_bin2 ho hx hy rfl ?_
  match i, hi with
  | 0, _ => simp [go_sem]
  | 1, _ => simp [go_sem]
  | 2, _ => simp [go_sem]
  | 3, _ => simp [go_sem]
  | 4, _ => simp [go_sem]
  | 5, _ => simp [go_sem]
  | 6, _ => simp [go_sem]
  | 7, _ => simp [go_sem]
theorem exec_cvU8m (ho : o.op = .convert 72 5 x) {m r : Nat} (hx : a.eval x = .int .u64 (m : Int)) (hr : m % 256 = r) : (execOp a.eval o).run Tryd.prog w = .ok (.value (.int .u8 (r : Int))) w := by
  subst hr
  have e : IntKind.u8.wrap (m : Int) = ((m % 256 : Nat) : Int) := by rw [IntKind.wrap_u8]; omega
  unfold execOp
  simp only [ho, hx]
  simp [go_sem, e]
theorem wl_st8A {ops : Array Oper} {rest : List Oper} {Q : Exit → Act → World → Prop} {g n i : Nat} {s : Nat → Int} {v : Int} {ty : TypeId} (ho : o.op = .store 5 x y) (hw : Region.wanted o (yielded ops a.tmps) = true) (hg : ArrAt w g .u8 ty n s) (hx : a.eval x = .pointer (some ⟨g, i, none⟩)) (hy : a.eval y = .int .u8 v) (hi : i < n)
    (h : ∀ w2, ArrAt w2 g .u8 ty n (upd s i v) → Only g w w2 → wpList Tryd.prog ops Q rest (a.put o.dst undef) w2) : wpList Tryd.prog ops Q (o :: rest) a w := by
  refine wl_act hw ?_
  have hc := hg.cell i hi
  have hf := hg.free i
  have hr : (Instr.storeAt 5 (.pointer (some ⟨g, i, none⟩)) (.int .u8 v)).run Tryd.prog w = .ok () (w.setCell ⟨g, i, none⟩ (.int .u8 v)) := by simp [go_sem, hc, hf]
  unfold Oper.wp execOp
  simp only [ho, hx, hy, Sem.run_bind, hr, Result.andThen_ok, Sem.run_pure, Oper.upon]
  exact h _ (hg.set i v hi) only_set
end
theorem Put_no (N : Nat) (sz : Int) (w : World) (h : sz < 1 ∨ 8 < sz) : Calls Tryd.prog 33 #[.int .u64 (N : Int), .int .i64 sz] w fun e w' => e = .returned (.string ByteArray.empty) ∧ Below w.heap.size w w' := by
  go_enter Tryd.func33, Tryd.ntmps33
  by_cases h1 : sz < 1
  · go_wp2_with fail
    go_ret
    exact ⟨rfl, Below.refl _ _⟩
  · have h2 : 8 < sz := by omega
    go_wp2_with fail
    go_ret
    exact ⟨rfl, Below.refl _ _⟩
set_option maxHeartbeats 4000000 in
theorem Put_run (N size : Nat) (w : World) (h1 : 1 ≤ size) (h8 : size ≤ 8) : Calls Tryd.prog 33 #[.int .u64 (N : Int), .int .i64 (size : Int)] w fun e w' => e = .returned (.string (putT N size)) ∧ Below w.heap.size w w' := by
  have i1 : ¬ (size : Int) < 1 := by omega
  have i8 : ¬ (8 : Int) < (size : Int) := by omega
  go_enter Tryd.func33, Tryd.ntmps33
  go_wp2_with (refine wl_alO rfl rfl zero8 ?_; intro g w1 hg q1 hB1; refine Hid.out ?_)
  refine Hid.mk ?_
  have q1 : Hid (ArrAt w1 g .u8 113 8 (fun _ => 0)) := Hid.mk q1
  go_wp2_with fail
  go_loopg [13] 8 (fun gm s13 z => ∃ k : Nat, Hid (gm + k = 8) ∧ s13 = .int .i64 (k : Int) ∧ Hid (ArrAt z g .u8 113 8 (fun j => if j < k then putF N 8 j else 0)) ∧ Below w.heap.size w z)
  case atStart => exact ⟨0, Hid.mk rfl, rfl, Hid.mk (q1.out.congr (fun i hi => by rw [if_neg (by omega)])), hB1⟩
  case round =>
    obtain ⟨k, HK, rfl, HR, hB⟩ := hrel
    have hk8 : k ≤ 8 := by have := HK.out; omega
    by_cases hk : k < 8
    · have hki : (k : Int) < 8 := by omega
      obtain ⟨s, hs⟩ : ∃ s, 7 - k = s := ⟨_, rfl⟩
      obtain ⟨q, hq⟩ : ∃ q, N / 256 ^ s = q := ⟨_, rfl⟩
      obtain ⟨r, hr⟩ : ∃ r, q % 256 = r := ⟨_, rfl⟩
      have HQ := Hid.mk (And.intro hq hr)
      have HF : Hid (putF N 8 k = (r : Int)) := Hid.mk (by unfold putF; rw [← hr, ← hq, ← hs])
      have hs7 : s < 8 := by omega
      have es : (7 : Int) - (k : Int) = (s : Int) := by omega
      have HS := Hid.mk es
      have hrl : r < 256 := by omega
      clear hq hr es hs
      have hq := HR.out
      go_wp2_with (first | (refine wl_value rfl (exec_subW (i := 7) (m := k) (q := s) rfl (by rfl) (by rfl) (by have := HS.out; omega) (by omega)) ?_) | (refine wl_value rfl (exec_mulW (i := 8) (m := s) rfl (by rfl) (by rfl) rfl (by omega)) ?_) | (refine wl_value rfl (exec_shrP (n := N) (i := s) rfl (by rfl) (by rfl) hs7 HQ.out.1) ?_) | (refine wl_value rfl (exec_cvU8m (m := q) rfl (by rfl) HQ.out.2) ?_) | (refine wl_value rfl (exec_idxA (i := k) rfl Tryd.underlying113 len8 sizeB8 (by rfl) (by rfl) hk) ?_) | (refine wl_st8A rfl rfl hq (by rfl) (by rfl) hk ?_; intro w2 q2 o2; refine Hid.out ?_))
      refine Hid.mk ?_
      have HX : Hid (ArrAt w2 g .u8 113 8 (fun j => if j < k + 1 then putF N 8 j else 0)) := Hid.mk (q2.congr (fun j _ => by
        show upd (fun j => if j < k then putF N 8 j else 0) k r j = _
        unfold upd
        by_cases e : j = k
        · rw [if_pos e, if_pos (by omega), e, HF.out]
        · rw [if_neg e]
          show (if j < k then putF N 8 j else 0) = if j < k + 1 then putF N 8 j else 0
          by_cases e2 : j < k
          · rw [if_pos e2, if_pos (by omega)]
          · rw [if_neg e2, if_neg (by omega)]))
      have hB2 : Below w.heap.size w w2 := hB.trans (o2.below hg)
      clear q2 o2 hq HR hB
      go_wp2_with fail
      go_roundg (8 - (k + 1))
      case rel => exact ⟨k + 1, Hid.mk (by omega), by go_num, HX, hB2⟩
      case measure => have := HK.out; omega
    · have hk2 : k = 8 := by omega
      subst hk2
      obtain ⟨l, hl⟩ : ∃ l, 8 - size = l := ⟨_, rfl⟩
      have hl8 : l < 8 := by omega
      have hq := HR.out
      have hcv := str_cells g l (8 - l) wr size (putF N size) (fun j hj => by
        rw [hq.cell (l + j) (by omega), if_pos (by omega)]
        congr 1
        congr 1
        unfold putF
        rw [show 8 - 1 - (l + j) = size - 1 - j by omega]) (fun j _ => putF_b N size j)
      have hsl := slArrL Tryd.underlying113 len8 sizeB8 g l wr hl8
      have e8 : 8 - l = size := by omega
      rw [e8] at hsl hcv
      clear hq
      go_wp2_with (first | (refine wl_value rfl (exec_subW (i := 8) (m := size) (q := l) rfl (by rfl) (by rfl) (by omega) (by omega)) ?_) | (refine wl_value rfl (exec_slL rfl (by rfl) (by rfl) hsl) ?_) | (refine wl_value rfl (exec_conv rfl (by rfl) hcv) ?_))
      go_ret
      exact ⟨rfl, hB⟩
set_option maxHeartbeats 4000000 in
theorem Get_no (T : ByteArray) (at0 sz : Int) (w : World) (_hT : T.size < 9223372036854775808) (h : sz < 1 ∨ 8 < sz ∨ at0 < 0 ∨ (T.size : Int) < at0 + sz) : Calls Tryd.prog 38 #[.string T, .int .i64 at0, .int .i64 sz] w fun e w' => e = .returned (.tuple #[.int .u64 0, .bool false]) ∧ w' = w := by
  obtain ⟨N, hN⟩ : ∃ N, T.size = N := ⟨_, rfl⟩
  rw [hN] at h _hT
  go_enter Tryd.func38, Tryd.ntmps38
  by_cases h1 : sz < 1
  · go_wp2_with fail
    exact bodyPost_ret (results_two rfl (by rfl) (by rfl)) rfl ⟨rfl, rfl⟩
  · by_cases h2 : 8 < sz
    · go_wp2_with fail
      exact bodyPost_ret (results_two rfl (by rfl) (by rfl)) rfl ⟨rfl, rfl⟩
    · by_cases h3 : at0 < 0
      · go_wp2_with fail
        exact bodyPost_ret (results_two rfl (by rfl) (by rfl)) rfl ⟨rfl, rfl⟩
      · have h5 : (N : Int) - sz < at0 := by omega
        have h6 : -9223372036854775808 ≤ (N : Int) - sz := by omega
        have h7 : (N : Int) - sz ≤ 9223372036854775807 := by omega
        go_wp2_with fail
        exact bodyPost_ret (results_two rfl (by rfl) (by rfl)) rfl ⟨rfl, rfl⟩
set_option maxHeartbeats 4000000 in
theorem Get_run (T : ByteArray) (at0 size : Nat) (w : World) (hT : T.size < 9223372036854775808) (h1 : 1 ≤ size) (h8 : size ≤ 8) (ha : at0 + size ≤ T.size) : Calls Tryd.prog 38 #[.string T, .int .i64 (at0 : Int), .int .i64 (size : Int)] w fun e w' => e = .returned (.tuple #[.int .u64 (getN (txt T) at0 size : Int), .bool true]) ∧ w' = w := by
  obtain ⟨N, hN⟩ : ∃ N, T.size = N := ⟨_, rfl⟩
  have HN := Hid.mk hN
  rw [hN] at ha hT
  have i1 : ¬ (size : Int) < 1 := by omega
  have i2 : ¬ (8 : Int) < (size : Int) := by omega
  have i3 : ¬ (at0 : Int) < 0 := by omega
  have i5 : ¬ (N : Int) - (size : Int) < (at0 : Int) := by omega
  have i6 : -9223372036854775808 ≤ (N : Int) - (size : Int) := by omega
  have i7 : (N : Int) - (size : Int) ≤ 9223372036854775807 := by omega
  go_enter Tryd.func38, Tryd.ntmps38
  go_wp2_with fail
  clear i1 i2 i3 i5 i6 i7
  go_loopg [8, 29] size (fun gm s8 s9 z => ∃ i : Nat, gm = size - i ∧ i ≤ size ∧ s9 = .int .i64 (i : Int) ∧ s8 = .int .u64 (getN (txt T) at0 i : Int) ∧ z = w)
  case atStart => exact ⟨0, rfl, by omega, rfl, rfl, rfl⟩
  case round =>
    obtain ⟨i, hgm, hi, rfl, rfl, hz⟩ := hrel
    have hz2 := hz.symm
    subst hz2
    clear hz
    by_cases hlt : i < size
    · have hlti : (i : Int) < (size : Int) := by omega
      obtain ⟨c, hc⟩ : ∃ c : Nat, txt T (at0 + i) = (c : Int) := ⟨(txt T (at0 + i)).toNat, by have := txt_b T (at0 + i); omega⟩
      have hcl : c < 256 := by have := txt_b T (at0 + i); omega
      obtain ⟨m, hm⟩ : ∃ m, getN (txt T) at0 i = m := ⟨_, rfl⟩
      have hml : m < 72057594037927936 := by
        have h2 := getN_lt (fun j => txt_b T j) at0 i
        have h3 : 256 ^ i ≤ 256 ^ 7 := Nat.pow_le_pow_right (by decide) (by omega)
        have h4 : (256 : Nat) ^ 7 = 72057594037927936 := rfl
        omega
      have HG : Hid (getN (txt T) at0 (i + 1) = m * 256 + c) := Hid.mk (by
        show getN (txt T) at0 i * 256 + (txt T (at0 + i)).toNat = _
        rw [hm, hc, Int.toNat_natCast])
      have HC := Hid.mk hc
      rw [hm]
      clear hm hc
      obtain ⟨q, hq⟩ : ∃ q, at0 + i = q := ⟨_, rfl⟩
      have hql : q < 9223372036854775808 := by omega
      rw [hq] at HC
      have HXS : Hid (q < T.size) := Hid.mk (by rw [HN.out]; omega)
      have HQ := Hid.mk hq
      clear hq
      go_wp2_with (first | (refine wl_value rfl (exec_shl8U (i := m) rfl (by rfl) (by rfl) rfl (by omega)) ?_) | (refine wl_value rfl (exec_addW (i := at0) (m := i) rfl (by rfl) (by rfl) HQ.out hql) ?_) | (refine wl_value rfl (exec_ixs rfl (by rfl) (by rfl) HXS.out) ?_; simp only [HC.out]) | (refine wl_value rfl (exec_cv8U (m := c) rfl (by rfl) hcl) ?_) | (refine wl_value rfl (exec_orU8 (i := m) (c := c) rfl (by rfl) (by rfl) hcl rfl (by omega)) ?_))
      go_roundg (size - (i + 1))
      case rel => exact ⟨i + 1, rfl, by omega, by go_num, by rw [HG.out]; rfl, rfl⟩
      case measure => omega
    · have hi2 : i = size := by omega
      subst hi2
      go_wp2_with fail
      exact bodyPost_ret (results_two rfl (by rfl) (by rfl)) rfl ⟨rfl, rfl⟩
end Go.Proofs.YtojekoakgpkkdaaDoor
