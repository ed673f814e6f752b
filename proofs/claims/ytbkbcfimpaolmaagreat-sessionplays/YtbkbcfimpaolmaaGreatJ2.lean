/-
  Own text. Slices of texts; texts one behind the other.
-/
import Derived.Test.YtbkbcfimpaolmaaGreatJ1
import Derived.Lib.AppendStr
import Derived.Laws.BytesArg
import Derived.Laws.AppendOwnNone
import Derived.Deep.OwnRows
import Derived.Laws.Bits64b
import Derived.Deep.QuietTactic
import Derived.BigQuiet
namespace Go.Proofs.YtbkbcfimpaolmaaGreat
open Go.RowKit Go.Proofs Go.Lib
set_option maxRecDepth 100000
/-- The texts of a row, one behind the other. -/
def joinB (ts : Nat → ByteArray) : Nat → ByteArray
  | 0 => ByteArray.empty
  | n + 1 => joinB ts n ++ ts n
theorem strCells_cat (s t : ByteArray) : strCells (s ++ t) = strCells s ++ strCells t := by
  simp [strCells, ByteArray.data_append]
theorem joinB_mono (ts : Nat → ByteArray) {i n : Nat} (h : i ≤ n) : (joinB ts i).size ≤ (joinB ts n).size := by
  induction h with
  | refl => exact Nat.le_refl _
  | step _ ih => refine Nat.le_trans ih ?_; rw [joinB, ByteArray.size_append]; omega
theorem strCells_nums (s : ByteArray) : strCells s = nums .u8 s.size (txt s) := by
  have h := nums_bytes (n := s.size) (f := txt s) (fun j _ => txt_b s j)
  rw [h]
  have e := congrArg (fun x => x.data.toList) (mkS_txt s)
  simp only [mkS] at e
  rw [e]
  rfl
/-- A slice of texts. -/
def Strs (w : World) (v : Value) (n : Nat) (ts : Nat → ByteArray) : Prop := ∃ a c, v = .slice a n c ∧ (0 < n → ∃ p, a = some p ∧ ∀ j, j < n → w.cell? (p.add j) = some (.string (ts j)))
theorem str_own {w : World} {v : Value} {s : ByteArray} {B : Nat} (h : w.ownsRow B 5 1 v s.size (strCells s)) : (convert 67 9 v).run Tryz.prog w = .ok (.string s) w := by
  by_cases h0 : 0 < s.size
  · rw [strCells_nums] at h
    obtain ⟨b, cp, rfl, _, _, hr⟩ := own_row h h0
    rw [str_back s.size b cp w s.size (txt s) hr (fun j _ => txt_b s j) rfl, mkS_txt]
  · have hz : s.size = 0 := by omega
    have hs : s = ByteArray.empty := by simpa using hz
    subst hs
    rcases h.2 with ⟨rfl, _⟩ | ⟨g, cap, cur, rfl, hb, hg, _⟩
    · exact run_convert_bytes_nil (P := Tryz.prog) w 67 5 Tryz.underlying67 Tryz.underlying5 0 0 9 Tryz.underlying9
    · have h := run_convert_bytes_back (P := Tryz.prog) w 67 9 5 ⟨g, 0, none⟩ cap [] Tryz.underlying67 Tryz.underlying5 Tryz.underlying9 (fun j hj => by simp at hj)
      exact h
theorem infoByte1 : ∃ i, Tryz.prog.info? 5 = some i ∧ i.zero = some (.int .u8 0) ∧ i.size = 1 ∧ i.bytes = 1 := by
  obtain ⟨i, h, a, b, c⟩ := info_parts infoByte
  exact ⟨i, h, a, b, c⟩
theorem txt_append (A B : ByteArray) (j : Nat) : txt (A ++ B) j = if j < A.size then txt A j else txt B (j - A.size) := by
  unfold txt
  rw [ByteArray.data_append, Array.toList_append]
  have hA : A.data.toList.length = A.size := by simp
  simp only [List.getD_eq_getElem?_getD]
  by_cases h : j < A.size
  · rw [if_pos h, List.getElem?_append_left (by rw [hA]; exact h)]
  · rw [if_neg h, List.getElem?_append_right (by rw [hA]; omega), hA]
/-- Bytes behind bytes, behind bytes. -/
theorem cat_join (n : Nat) (f : Nat → Int) (A B : ByteArray) : cat (n + A.size) (cat n f (txt A)) (txt B) = cat n f (txt (A ++ B)) := by
  funext j
  unfold cat
  rw [txt_append]
  by_cases h1 : j < n + A.size
  · rw [if_pos h1]
    by_cases h2 : j < n
    · rw [if_pos h2, if_pos h2]
    · rw [if_neg h2, if_neg h2, if_pos (by omega)]
  · rw [if_neg h1, if_neg (by omega), if_neg (by omega)]
    congr 1
    omega
theorem txt_empty (j : Nat) : txt ByteArray.empty j = 0 := by simp [txt]
theorem Strs.touch {w w' : World} {v : Value} {n : Nat} {ts : Nat → ByteArray} {b : Nat} (h : Strs w v n ts) (hb : ∀ p n' c, v = .slice (some p) n' c → p.block ≠ b) (ht : Touch (fun x => x = b) w w') : Strs w' v n ts := by
  obtain ⟨a, c, rfl, hp⟩ := h
  refine ⟨a, c, rfl, fun hn => ?_⟩
  obtain ⟨p, rfl, hc⟩ := hp hn
  refine ⟨p, rfl, fun j hj => ?_⟩
  have h0 := hc j hj
  have hl := World.block_lt_of_cell? _ _ h0
  have hpb : (p.add j).block = p.block := by unfold Addr.add; split <;> rfl
  have e := ht.block (p.add j).block hl (fun e => hb p n c rfl (by rw [← hpb]; exact e))
  rw [← h0]
  exact World.cell?_of_block (w := w) e
theorem Strs.kept {w w' : World} {v : Value} {n : Nat} {ts : Nat → ByteArray} (h : Strs w v n ts) (hk : ∀ k, k < w.heap.size → w'.heap[k]? = w.heap[k]?) : Strs w' v n ts := by
  obtain ⟨a, c, rfl, hp⟩ := h
  refine ⟨a, c, rfl, fun hn => ?_⟩
  obtain ⟨p, rfl, hc⟩ := hp hn
  refine ⟨p, rfl, fun j hj => ?_⟩
  have h0 := hc j hj
  rw [← h0]
  exact World.cell?_of_block (w := w) (hk _ (World.block_lt_of_cell? _ _ h0))
theorem Strs.below {w w' : World} {v : Value} {n : Nat} {ts : Nat → ByteArray} (h : Strs w v n ts) (hb : Below w.heap.size w w') : Strs w' v n ts := h.kept (fun k hk => hb.block k hk)
theorem belowT {B b : Nat} {u v w : World} (h : Below B u v) (ht : Touch (fun x => x = b) v w) (hb : B ≤ b) (hB : B ≤ u.heap.size) : Below B u w :=
  ⟨ht.os.trans h.os, ht.tape.trans h.tape, ht.output.trans h.output, Nat.le_trans h.size ht.size, fun k hk => (ht.block k (by have := h.size; omega) (by omega)).trans (h.block k hk)⟩
theorem ArrAt.touch {w w' : World} {g b : Nat} {k : IntKind} {t : TypeId} {n : Nat} {s : Nat → Int} (h : ArrAt w g k t n s) (ht : Touch (fun x => x = b) w w') (hg : g ≠ b) : ArrAt w' g k t n s := h.block (ht.block g h.lt hg)
theorem cat0 (f r : Nat → Int) : cat 0 f r = r := by
  funext i
  unfold cat
  rw [if_neg (by omega), Nat.sub_zero]
theorem run_bs1 (s : ByteArray) (w : World) : (Instr.buildSlice 117 1 #[(0, .string s)]).run Tryz.prog w = .ok (.slice (some ⟨w.heap.size, 0, none⟩) 1 1) (w.alloc (.cells #[.string s] 9)) := by simp [go_sem]
theorem run_bs2 (s t : ByteArray) (w : World) : (Instr.buildSlice 117 2 #[(0, .string s), (1, .string t)]).run Tryz.prog w = .ok (.slice (some ⟨w.heap.size, 0, none⟩) 2 2) (w.alloc (.cells #[.string s, .string t] 9)) := by simp [go_sem]
def one1 (s : ByteArray) : Nat → ByteArray := fun _ => s
def two2 (s t : ByteArray) : Nat → ByteArray
  | 0 => s
  | _ => t
theorem join1 (s : ByteArray) : joinB (one1 s) 1 = s := by simp [joinB, one1]
theorem join2 (s t : ByteArray) : joinB (two2 s t) 2 = s ++ t := by simp [joinB, two2]
theorem strs1 {w : World} {b : Nat} {s : ByteArray} (h : w.heap[b]? = some (.cells #[.string s] 9 (0, 0))) : Strs w (.slice (some ⟨b, 0, none⟩) 1 1) 1 (one1 s) :=
  ⟨_, _, rfl, fun _ => ⟨_, rfl, fun j hj => by
    obtain rfl : j = 0 := by omega
    rw [Addr.add_lit, cell_of_row w b _ _ _ _ h]
    rfl⟩⟩
theorem strs2 {w : World} {b : Nat} {s t : ByteArray} (h : w.heap[b]? = some (.cells #[.string s, .string t] 9 (0, 0))) : Strs w (.slice (some ⟨b, 0, none⟩) 2 2) 2 (two2 s t) :=
  ⟨_, _, rfl, fun _ => ⟨_, rfl, fun j hj => by
    rw [Addr.add_lit, cell_of_row w b _ _ _ _ h]
    match j, hj with
    | 0, _ => rfl
    | 1, _ => rfl⟩⟩
theorem act_bs1 {o : Oper} {a : Act} {w : World} {K : Act → World → Prop} {Q : Exit → Act → World → Prop} {x : Operand} (ho : o.op = .buildSlice 117 1 #[(0, x)]) {s : ByteArray} (hx : a.eval x = .string s)
    (h : ∀ v, v.heap[w.heap.size]? = some (.cells #[.string s] 9 (0, 0)) → Below w.heap.size w v → K (a.put o.dst (.slice (some ⟨w.heap.size, 0, none⟩) 1 1)) v) : o.wp Tryz.prog a w K Q := by
  have hr := run_bs1 s w
  unfold Oper.wp execOp
  simp only [ho, List.map_toArray, List.map_cons, List.map_nil, hx, Sem.run_bind, hr, Result.andThen_ok, Sem.run_pure, Oper.upon]
  exact h _ (heap_alloc_new w _) ((Below.refl _ _).alloc (Nat.le_refl _) _)
theorem act_bs2 {o : Oper} {a : Act} {w : World} {K : Act → World → Prop} {Q : Exit → Act → World → Prop} {x y : Operand} (ho : o.op = .buildSlice 117 2 #[(0, x), (1, y)]) {s t : ByteArray} (hx : a.eval x = .string s) (hy : a.eval y = .string t)
    (h : ∀ v, v.heap[w.heap.size]? = some (.cells #[.string s, .string t] 9 (0, 0)) → Below w.heap.size w v → K (a.put o.dst (.slice (some ⟨w.heap.size, 0, none⟩) 2 2)) v) : o.wp Tryz.prog a w K Q := by
  have hr := run_bs2 s t w
  unfold Oper.wp execOp
  simp only [ho, List.map_toArray, List.map_cons, List.map_nil, hx, hy, Sem.run_bind, hr, Result.andThen_ok, Sem.run_pure, Oper.upon]
  exact h _ (heap_alloc_new w _) ((Below.refl _ _).alloc (Nat.le_refl _) _)
def strW (n : Nat) (ts : Nat → ByteArray) : List Value := (List.range n).map fun i => .string (ts i)
theorem strW_len (n : Nat) (ts : Nat → ByteArray) : (strW n ts).length = n := by simp [strW]
theorem strW_at (n : Nat) (ts : Nat → ByteArray) {j : Nat} (h : j < n) : (strW n ts)[j]? = some (.string (ts j)) := by simp [strW, h]
theorem strW_get {n : Nat} {ts : Nat → ByteArray} {j : Nat} {u : Value} (h : (strW n ts)[j]? = some u) : j < n ∧ u = .string (ts j) := by
  have hj : j < n := by have := (List.getElem?_eq_some_iff.1 h).1; simpa [strW] using this
  refine ⟨hj, ?_⟩
  rw [strW_at n ts hj] at h
  exact (Option.some.inj h).symm
theorem strW_one {n : Nat} {ts : Nat → ByteArray} : ∀ u ∈ strW n ts, u.oneCell' = true := fun u hu => by
  obtain ⟨i, _, rfl⟩ := List.mem_map.1 hu
  rfl
theorem infoStr : (Tryz.prog.info? 9).map (fun i => (i.zero, i.size, i.bytes)) = some (some (.string ⟨#[]⟩), 1, 16) := by kernel_rfl
theorem run_append_none {w : World} {B : Nat} {v : Value} {n : Nat} {xs : List Value} (ty : TypeId) (c : Nat) (hown : w.ownsRow B 9 1 v n xs) : (Builtin.append_ #[117, 117] ty #[v, .slice none 0 c]).run Tryz.prog w = .ok v w := by
  obtain ⟨i, hi, _⟩ := info_parts infoStr
  rcases hown.2 with ⟨rfl, rfl⟩ | ⟨g, cap, cur, rfl, _, _, hnc, _⟩
  · simp [Builtin.append_, run_underlying Tryz.underlying117, sizeOf, typeInfo, hi, Builtin.lenOf, Builtin.firstCells]
  · simp [Builtin.append_, run_underlying Tryz.underlying117, sizeOf, typeInfo, hi, Builtin.lenOf, Builtin.firstCells, hnc, storeCells]
/-- 'append(x, ..)' of texts to a row of one's own. -/
theorem ap_strs {ops : Array Oper} {rest : List Oper} {d : Option Tmp} {s x : Operand} {ty : TypeId} {ps : String} {af : Array Edge} {a : Act} {w : World} {Q : Exit → Act → World → Prop}
    {B k n : Nat} {xs : List Value} {v0 vx : Value} {ts : Nat → ByteArray} (hs : a.eval s = v0) (hx : a.eval x = vx) (hD : w.ownsRow B 9 1 v0 k xs) (hS : Strs w vx n ts) (hl : k + n < 4000000) (hB : B ≤ w.heap.size)
    (h : ∀ v' w', w'.ownsRow B 9 1 v' (k + n) (xs ++ strW n ts) → Below B w w' → wpList Tryz.prog ops Q rest (a.put d v') w') :
    wpList Tryz.prog ops Q ({ dst := d, op := .call { callee := .builtin .append, args := #[s, x], argTypes := #[117, 117] }, type := ty, pos := ps, after := af, guard := none } :: rest) a w := by
  obtain ⟨ad, c, rfl, hp⟩ := hS
  cases ad with
  | none =>
    have hn : n = 0 := by
      rcases Nat.eq_zero_or_pos n with h0 | h0
      · exact h0
      · obtain ⟨p, hp1, _⟩ := hp h0
        cases hp1
    subst hn
    refine wpList_plain rfl fun K hK => ?_
    have hrun := run_append_none ty c hD
    unfold Oper.wp
    simp [execOp, resolve, invoke, builtin, hs, hx, hrun, Result.andThen]
    exact hK _ _ (h v0 w (by simpa [strW] using hD) (Below.refl _ _))
  | some p =>
    obtain ⟨i0, hi, hz0, hz1, hz2⟩ := info_parts infoStr
    refine wpList_append_own w rfl s x 117 rfl B 9 i0 (.string ⟨#[]⟩) 1 16 Tryz.underlying117 hi hz0 hz1 hz2 rfl (by decide) _ k _ hs hD p n c (strW n ts) hx (by rw [strW_len]; omega) ?_ strW_one ?_ ?_ hB ?_
    · intro j u hj
      obtain ⟨hj2, rfl⟩ := strW_get hj
      obtain ⟨q, hq, hc⟩ := hp (by omega)
      obtain rfl := Option.some.inj hq
      exact hc j hj2
    · unfold maxLen; omega
    · omega
    · intro v' w1 hown hgrow _
      exact h v' w1 hown (Below.grow hgrow hB (own_base hD))
/-- The row of texts behind the appends. -/
theorem own_strs {w : World} {B : Nat} {v : Value} {n : Nat} {ts : Nat → ByteArray} {q : ByteArray} (h : w.ownsRow B 9 1 v (n + 1) (strW n ts ++ [.string q])) : ∃ g cap cur, v = .slice (some ⟨g, 0, none⟩) (n + 1) cap ∧ B ≤ g ∧ n + 1 ≤ cap ∧ w.heap[g]? = some (.cells cur 9 (0, 0)) ∧ (∀ j, j < n → cur[j]? = some (.string (ts j))) ∧ cur[n]? = some (.string q) := by
  rcases h.2 with ⟨_, h0⟩ | ⟨g, cap, cur, rfl, hb, hg, hc, _, hs, ht⟩
  · omega
  · rw [Nat.mul_one] at ht
    have key : ∀ j, j < n + 1 → cur[j]? = (strW n ts ++ [.string q])[j]? := fun j hj => by
      rw [← ht, List.getElem?_take, if_pos hj]
      simp
    refine ⟨g, cap, cur, rfl, hb, hc, hg, fun j hj => ?_, ?_⟩
    · rw [key j (by omega), List.getElem?_append_left (by rw [strW_len]; exact hj), strW_at n ts hj]
    · rw [key n (by omega), List.getElem?_append_right (by rw [strW_len]; exact Nat.le_refl _), strW_len]
      simp
theorem strs_row' {w : World} {g n cap : Nat} {cur : Array Value} {ts : Nat → ByteArray} (h : w.heap[g]? = some (.cells cur 9 (0, 0))) (hc : ∀ j, j < n → cur[j]? = some (.string (ts j))) : Strs w (.slice (some ⟨g, 0, none⟩) n cap) n ts :=
  ⟨_, _, rfl, fun _ => ⟨_, rfl, fun j hj => by
    rw [Addr.add_lit, cell_of_row w g _ _ _ _ h, Nat.zero_add]
    exact hc j hj⟩⟩
theorem exec_lenV {a : Act} {o : Oper} {w : World} {x : Operand} (ho : o.op = .call { callee := .builtin .len, args := #[x], argTypes := #[117] }) {ad : Option Addr} {n c : Nat} (hx : a.eval x = .slice ad n c) : (execOp a.eval o).run Tryz.prog w = .ok (.value (.int .i64 (n : Int))) w := by
  have hr : (Builtin.len_ #[117] o.type #[.slice ad n c]).run Tryz.prog w = .ok (goInt n) w := by simp [go_sem]
  simp [execOp, ho, resolve, invoke, builtin, hx, hr, goInt]
theorem size_str (w : World) : (sizeOf (Tryz.prog.elem 117)).run Tryz.prog w = .ok 1 w := by kernel_rfl
theorem load_str {w : World} {p : Addr} {s : ByteArray} (h : w.cell? p = some (.string s)) : (Instr.loadAt 9 (.pointer (some p))).run Tryz.prog w = .ok (.string s) w := by
  simp [go_sem, h]
theorem slStr (ad : Option Addr) (n m c : Nat) (w : World) (h : n ≤ c) : (Instr.sliceAt 117 (.slice ad m c) none (some (.int .i64 (n : Int))) none).run Tryz.prog w = .ok (.slice ad n c) w := by
  have h2 : (n : Int) ≤ (c : Int) := by omega
  cases ad <;> simp [go_sem, h2]
theorem run_bs0 (w : World) : (Instr.buildSlice 117 0 #[]).run Tryz.prog w = .ok (.slice (some ⟨w.heap.size, 0, none⟩) 0 0) (w.alloc (.cells #[] 9)) := by simp [go_sem]
theorem wl_bs0 {ops : Array Oper} {rest : List Oper} {d : Option Tmp} {ty : TypeId} {ps : String} {af : Array Edge} {a : Act} {w : World} {Q : Exit → Act → World → Prop}
    (h : ∀ w2, w2.ownsRow w.heap.size 9 1 (.slice (some ⟨w.heap.size, 0, none⟩) 0 0) 0 [] → Below w.heap.size w w2 → wpList Tryz.prog ops Q rest (a.put d (.slice (some ⟨w.heap.size, 0, none⟩) 0 0)) w2) :
    wpList Tryz.prog ops Q ({ dst := d, op := .buildSlice 117 0 #[], type := ty, pos := ps, after := af, guard := none } :: rest) a w := by
  have hr := run_bs0 w
  refine wl_act rfl ?_
  unfold Oper.wp execOp
  simp only [List.map_toArray, List.map_nil, Sem.run_bind, hr, Result.andThen_ok, Sem.run_pure, Oper.upon]
  exact h _ (World.ownsRow_lit w #[] 0 (Nat.le_refl _) (by unfold maxLen; omega) rfl) ((Below.refl _ _).alloc (Nat.le_refl _) _)
theorem wl_bs1 {ops : Array Oper} {rest : List Oper} {d : Option Tmp} {x : Operand} {ty : TypeId} {ps : String} {af : Array Edge} {a : Act} {w : World} {Q : Exit → Act → World → Prop} {s : ByteArray} (hx : a.eval x = .string s)
    (h : ∀ w2, Strs w2 (.slice (some ⟨w.heap.size, 0, none⟩) 1 1) 1 (one1 s) → Below w.heap.size w w2 → w2.heap.size = w.heap.size + 1 → wpList Tryz.prog ops Q rest (a.put d (.slice (some ⟨w.heap.size, 0, none⟩) 1 1)) w2) :
    wpList Tryz.prog ops Q ({ dst := d, op := .buildSlice 117 1 #[(0, x)], type := ty, pos := ps, after := af, guard := none } :: rest) a w := by
  have hr := run_bs1 s w
  refine wl_act rfl ?_
  unfold Oper.wp execOp
  simp only [List.map_toArray, List.map_cons, List.map_nil, hx, Sem.run_bind, hr, Result.andThen_ok, Sem.run_pure, Oper.upon]
  exact h _ (strs1 (heap_alloc_new w _)) ((Below.refl _ _).alloc (Nat.le_refl _) _) (by simp)
theorem wl_bs2 {ops : Array Oper} {rest : List Oper} {d : Option Tmp} {x y : Operand} {ty : TypeId} {ps : String} {af : Array Edge} {a : Act} {w : World} {Q : Exit → Act → World → Prop} {s t : ByteArray} (hx : a.eval x = .string s) (hy : a.eval y = .string t)
    (h : ∀ w2, Strs w2 (.slice (some ⟨w.heap.size, 0, none⟩) 2 2) 2 (two2 s t) → Below w.heap.size w w2 → w2.heap.size = w.heap.size + 1 → wpList Tryz.prog ops Q rest (a.put d (.slice (some ⟨w.heap.size, 0, none⟩) 2 2)) w2) :
    wpList Tryz.prog ops Q ({ dst := d, op := .buildSlice 117 2 #[(0, x), (1, y)], type := ty, pos := ps, after := af, guard := none } :: rest) a w := by
  have hr := run_bs2 s t w
  refine wl_act rfl ?_
  unfold Oper.wp execOp
  simp only [List.map_toArray, List.map_cons, List.map_nil, hx, hy, Sem.run_bind, hr, Result.andThen_ok, Sem.run_pure, Oper.upon]
  exact h _ (strs2 (heap_alloc_new w _)) ((Below.refl _ _).alloc (Nat.le_refl _) _) (by simp)
theorem same_ext {a b : ByteArray} (hl : a.size = b.size) (h : ∀ j, j < a.size → txt a j = txt b j) : a = b := by
  refine ByteArray.ext (Array.ext hl (fun i h1 h2 => ?_))
  have := h i h1
  rw [← txt_get h1, ← txt_get (s := b) h2] at this
  have h3 : (a.data[i].toNat : Int) = b.data[i].toNat := this
  exact UInt8.toNat_inj.1 (Int.ofNat.inj h3)
theorem xor_zero {x y : Nat} : x ^^^ y = 0 ↔ x = y := by
  constructor
  · intro h
    have h2 : x ^^^ y ^^^ y = x := by rw [Nat.xor_assoc, Nat.xor_self, Nat.xor_zero]
    rw [h, Nat.zero_xor] at h2
    exact h2.symm
  · rintro rfl
    exact Nat.xor_self _
theorem strW_app {k n : Nat} {ts ts' : Nat → ByteArray} (h : ∀ j, j < n → ts' j = ts (k + j)) : strW k ts ++ strW n ts' = strW (k + n) ts := by
  unfold strW
  rw [List.range_add, List.map_append, List.map_map]
  congr 1
  refine List.map_congr_left (fun j hj => ?_)
  simp [h j (List.mem_range.1 hj)]
theorem own_Strs {w : World} {B : Nat} {v : Value} {n : Nat} {ts : Nat → ByteArray} (h : w.ownsRow B 9 1 v n (strW n ts)) (hn : 0 < n) : Strs w v n ts := by
  rcases h.2 with ⟨_, h0⟩ | ⟨g, cap, cur, rfl, hb, hg, hc, _, hs, ht⟩
  · omega
  · refine strs_row' hg (fun j hj => ?_)
    rw [Nat.mul_one] at ht
    have e : cur[j]? = (strW n ts)[j]? := by
      rw [← ht, List.getElem?_take, if_pos hj]
      simp
    rw [e, strW_at n ts hj]
theorem app_left (a b : ByteArray) : (a ++ b).extract 0 a.size = a := ByteArray.extract_append_eq_left rfl
theorem app_right (a b : ByteArray) : (a ++ b).extract a.size (a ++ b).size = b := by
  have hs : (a ++ b).size = a.size + b.size := ByteArray.size_append
  refine same_ext (by rw [extract_size, hs]; omega) (fun j hj => ?_)
  rw [extract_size, hs] at hj
  rw [txt_extract _ _ _ (by omega), txt_append, if_neg (by omega), Nat.add_sub_cancel_left]
theorem app_cut (s : ByteArray) (n : Nat) (h : n ≤ s.size) : s.extract 0 n ++ s.extract n s.size = s := by
  have h1 := take_size s n h
  refine same_ext (by rw [ByteArray.size_append, h1, extract_size]; omega) (fun j hj => ?_)
  rw [ByteArray.size_append, h1, extract_size] at hj
  rw [txt_append, h1]
  by_cases e : j < n
  · rw [if_pos e, txt_take s n j e h]
  · rw [if_neg e, txt_extract _ _ _ (by omega), show n + (j - n) = j by omega]
end Go.Proofs.YtbkbcfimpaolmaaGreat
/-
  Own text. Digits to the base 256 as functions: their number; what the document's answer for poly does to them. No program is named here.
-/
namespace Go.Proofs.YtbkbcfimpaolmaaGreat
open Go.RowKit Go.Proofs
set_option maxRecDepth 100000
/-- The number of the first n digits, the lowest first. -/
def dval (s : Nat → Int) : Nat → Int
  | 0 => 0
  | n + 1 => dval s n + 256 ^ n * s n
theorem p256 (n : Nat) : (0 : Int) < 256 ^ n := Int.pow_pos (by decide)
theorem dval_congr {s t : Nat → Int} : ∀ {n : Nat}, (∀ i, i < n → s i = t i) → dval s n = dval t n
  | 0, _ => rfl
  | n + 1, h => by unfold dval; rw [dval_congr (fun i hi => h i (by omega)), h n (by omega)]
theorem dval_nonneg {s : Nat → Int} : ∀ {n : Nat}, (∀ i, i < n → 0 ≤ s i) → 0 ≤ dval s n
  | 0, _ => by simp [dval]
  | n + 1, h => by
    have h1 := dval_nonneg (n := n) (fun i hi => h i (by omega))
    have h2 := Int.mul_nonneg (Int.le_of_lt (p256 n)) (h n (by omega))
    unfold dval; omega
theorem dval_lt {s : Nat → Int} : ∀ {n : Nat}, (∀ i, i < n → 0 ≤ s i ∧ s i < 256) → dval s n < 256 ^ n
  | 0, _ => by simp [dval]
  | n + 1, h => by
    have h1 := dval_lt (n := n) (fun i hi => h i (by omega))
    have h2 := h n (by omega)
    have h3 : (256 : Int) ^ n * s n ≤ 256 ^ n * 255 := Int.mul_le_mul_of_nonneg_left (by omega) (Int.le_of_lt (p256 n))
    unfold dval
    rw [Int.pow_succ]
    omega
theorem dval_upd {s : Nat → Int} {i : Nat} {v : Int} : ∀ {n : Nat}, i < n → dval (upd s i v) n = dval s n + 256 ^ i * (v - s i)
  | 0, h => by omega
  | n + 1, h => by
    unfold dval
    by_cases e : i = n
    · subst e
      rw [dval_congr (t := s) (fun j hj => by unfold upd; rw [if_neg (by omega)])]
      unfold upd
      rw [if_pos rfl, Int.mul_sub]
      omega
    · rw [dval_upd (by omega)]
      unfold upd
      rw [if_neg (fun h => e h.symm)]
      omega
theorem dval_tail {s : Nat → Int} {n : Nat} : ∀ {m : Nat}, n ≤ m → (∀ i, n ≤ i → i < m → s i = 0) → dval s m = dval s n
  | 0, h, _ => by rw [show n = 0 by omega]
  | m + 1, h, hz => by
    by_cases e : n = m + 1
    · rw [e]
    · show dval s m + 256 ^ m * s m = dval s n
      rw [dval_tail (m := m) (by omega) (fun i h1 h2 => hz i h1 (by omega)), hz m (by omega) (by omega)]
      simp
theorem dval_shift (s : Nat → Int) (a : Nat) : ∀ (n : Nat), dval s (a + n) = dval s a + 256 ^ a * dval (fun j => s (a + j)) n
  | 0 => by simp [dval]
  | n + 1 => by
    show dval s (a + n) + 256 ^ (a + n) * s (a + n) = dval s a + 256 ^ a * (dval (fun j => s (a + j)) n + 256 ^ n * s (a + n))
    rw [dval_shift s a n, Int.mul_add, Int.pow_add, Int.mul_assoc]
    omega
/-- Digits, with zeros behind them. -/
def pad (s : Nat → Int) (n : Nat) (i : Nat) : Int := if i < n then s i else 0
theorem dval_pad (s : Nat → Int) (n m : Nat) (h : n ≤ m) : dval (pad s n) m = dval s n := by
  rw [dval_tail h (fun i h1 _ => by unfold pad; rw [if_neg (by omega)])]
  exact dval_congr (fun i hi => by unfold pad; rw [if_pos hi])
def Dg (m : Int) (n : Nat) (s : Nat → Int) : Prop := ∀ i, i < n → 0 ≤ s i ∧ s i < m
/-- What 'carried' has done by round k: the digits so far, and what is carried on. -/
structure Car (s : Nat → Int) (n k : Nat) (c : Int) (e : Nat → Int) : Prop where
  dg : Dg 256 k e
  c0 : 0 ≤ c
  c1 : c < 1099511627776
  late : ∀ j, k = n + j → c * 256 ^ j < 1099511627776
  num : dval e k + 256 ^ k * c = dval (pad s n) k
theorem Car.start (s : Nat → Int) (n : Nat) (e : Nat → Int) : Car s n 0 0 e := ⟨fun i hi => by omega, by omega, by omega, fun j _ => by simp, by simp [dval]⟩
theorem Car.step {s : Nat → Int} {n k : Nat} {c : Int} {e e' : Nat → Int} (h : Car s n k c e) (hs : Dg 8796093022208 n s) (he : ∀ i, i < k → e' i = e i) (hk : e' k = (c + pad s n k) % 256) : Car s n (k + 1) ((c + pad s n k) / 256) e' := by
  have hp : 0 ≤ pad s n k ∧ pad s n k < 8796093022208 := by
    unfold pad
    split
    · exact hs k (by assumption)
    · omega
  have h0 := h.c0
  have h1 := h.c1
  refine ⟨fun i hi => ?_, by omega, by omega, fun j hj => ?_, ?_⟩
  · by_cases e1 : i < k
    · rw [he i e1]; exact h.dg i e1
    · rw [show i = k by omega, hk]; omega
  · cases j with
    | zero => simp; omega
    | succ j =>
      have hl := h.late j (by omega)
      have hz : pad s n k = 0 := by unfold pad; rw [if_neg (by omega)]
      rw [hz, Int.add_zero, Int.pow_succ]
      have h2 : c / 256 * 256 ≤ c := by omega
      have h3 : c / 256 * 256 * 256 ^ j ≤ c * 256 ^ j := Int.mul_le_mul_of_nonneg_right h2 (Int.le_of_lt (p256 j))
      have h4 : c / 256 * (256 ^ j * 256) = c / 256 * 256 * 256 ^ j := by rw [Int.mul_comm (256 ^ j) 256, ← Int.mul_assoc]
      omega
  · show dval e' k + 256 ^ k * e' k + _ = dval (pad s n) k + 256 ^ k * pad s n k
    rw [dval_congr he, hk, ← h.num, Int.pow_succ]
    have e2 : c + pad s n k = (c + pad s n k) % 256 + 256 * ((c + pad s n k) / 256) := by omega
    have e3 : 256 ^ k * (c + pad s n k) = 256 ^ k * ((c + pad s n k) % 256) + 256 ^ k * 256 * ((c + pad s n k) / 256) := by
      conv => lhs; rw [e2]
      rw [Int.mul_add, Int.mul_assoc]
    rw [Int.mul_add] at e3
    omega
theorem Car.few {s : Nat → Int} {n k : Nat} {c : Int} {e : Nat → Int} (h : Car s n k c e) (hk : n + 5 ≤ k) : c = 0 := by
  have h0 := h.c0
  have hl := h.late (k - n) (by omega)
  have hp : (256 : Int) ^ 5 ≤ 256 ^ (k - n) := by
    obtain ⟨d, hd⟩ : ∃ d, k - n = 5 + d := ⟨k - n - 5, by omega⟩
    rw [hd, Int.pow_add]
    have := p256 d
    have h5 : (256 : Int) ^ 5 * 1 ≤ 256 ^ 5 * 256 ^ d := Int.mul_le_mul_of_nonneg_left (by omega) (by decide)
    omega
  rcases Int.lt_or_le 0 c with hc | hc
  · have h6 : 1 * (256 : Int) ^ 5 ≤ c * 256 ^ (k - n) := Int.mul_le_mul (by omega) hp (by decide) (by omega)
    have h7 : (256 : Int) ^ 5 = 1099511627776 := by decide
    omega
  · omega
/-- What 'carried' answers: m digits of the same number. -/
structure Cared (s : Nat → Int) (n m : Nat) (e : Nat → Int) : Prop where
  dg : Dg 256 m e
  num : dval e m = dval s n
  lo : 18 ≤ m
  hi : m ≤ max (n + 5) 18
theorem Car.done {s : Nat → Int} {n k : Nat} {e : Nat → Int} (h : Car s n k 0 e) (hn : n ≤ k) (h18 : 18 ≤ k) (hh : k ≤ max (n + 5) 18) : Cared s n k e :=
  ⟨h.dg, by have := h.num; rw [dval_pad s n k hn] at this; omega, h18, hh⟩
def P130 : Int := 1361129467683753853853498429727072845819
def W130 : Int := 1361129467683753853853498429727072845824
/-- The digits of the number by 2^130. -/
def hid (x : Nat → Int) (j : Nat) : Int := x (16 + j) / 4 + x (17 + j) % 4 * 64
theorem hid_sum (x : Nat → Int) (hx : ∀ i, 0 ≤ x i) : ∀ k, 4 * dval (hid x) k + x 16 % 4 = dval (fun j => x (16 + j)) k + x (16 + k) % 4 * 256 ^ k
  | 0 => by simp [dval]
  | k + 1 => by
    have ih := hid_sum x hx k
    have h1 := hx (16 + k)
    unfold dval
    rw [Int.mul_add, Int.pow_succ]
    have e1 : 4 * (256 ^ k * hid x k) = 256 ^ k * (4 * hid x k) := by rw [← Int.mul_assoc, Int.mul_comm 4, Int.mul_assoc]
    have e2 : 4 * hid x k = x (16 + k) - x (16 + k) % 4 + 256 * (x (17 + k) % 4) := by unfold hid; omega
    have e3 : 256 ^ k * (x (16 + k) - x (16 + k) % 4 + 256 * (x (17 + k) % 4)) = 256 ^ k * x (16 + k) - x (16 + k) % 4 * 256 ^ k + x (17 + k) % 4 * (256 ^ k * 256) := by
      rw [Int.mul_add, Int.mul_sub, Int.mul_comm (256 ^ k) (x (16 + k) % 4), ← Int.mul_assoc, Int.mul_comm (256 ^ k * 256)]
    rw [e1, e2, e3, show 16 + (k + 1) = 17 + k by omega]
    omega
theorem pow16 : (256 : Int) ^ 16 = 340282366920938463463374607431768211456 := by decide
/-- A number of m digits: what is below 2^130, and 2^130 times the rest. -/
theorem hid_split (x : Nat → Int) (m : Nat) (hm : 16 ≤ m) (hx : Dg 256 m x) :
    dval x m = (dval x 16 + 340282366920938463463374607431768211456 * (pad x m 16 % 4)) + W130 * dval (hid (pad x m)) (m - 16) ∧ 0 ≤ dval x 16 + 340282366920938463463374607431768211456 * (pad x m 16 % 4) ∧ dval x 16 + 340282366920938463463374607431768211456 * (pad x m 16 % 4) < W130 := by
  have hp : ∀ i, 0 ≤ pad x m i := fun i => by
    unfold pad
    split
    · exact (hx i (by assumption)).1
    · omega
  have h := hid_sum (pad x m) hp (m - 16)
  have hz : pad x m (16 + (m - 16)) = 0 := by unfold pad; rw [if_neg (by omega)]
  rw [hz] at h
  have hs := dval_shift (pad x m) 16 (m - 16)
  rw [show 16 + (m - 16) = m by omega, dval_pad x m m (Nat.le_refl _), pow16] at hs
  have e16 : dval (pad x m) 16 = dval x 16 := dval_congr (fun i hi => by unfold pad; rw [if_pos (by omega)])
  rw [e16] at hs
  have h1 := dval_nonneg (s := x) (n := 16) (fun i hi => (hx i (by omega)).1)
  have h2 := dval_lt (s := x) (n := 16) (fun i hi => hx i (by omega))
  rw [pow16] at h2
  unfold W130
  simp only [Int.zero_emod, Int.zero_mul, Int.add_zero] at h
  refine ⟨?_, by omega, by omega⟩
  rw [hs]
  omega
end Go.Proofs.YtbkbcfimpaolmaaGreat
/-
  Own text. What carried of the document's answer for poly gives.
-/
namespace Go.Proofs.YtbkbcfimpaolmaaGreat
open Go.RowKit Go.Proofs
set_option maxRecDepth 100000
theorem cat_snoc (k : Nat) (e : Nat → Int) (d : Int) : (∀ i, i < k → cat k e (fun _ => d) i = e i) ∧ cat k e (fun _ => d) k = d := by
  constructor
  · intro i hi
    unfold cat
    rw [if_pos hi]
  · unfold cat
    rw [if_neg (by omega)]
set_option maxHeartbeats 2000000 in
theorem carried_run (s : Nat → Int) (n b cp : Nat) (w : World) (hR : RowAt w b .i64 3 n s) (hs : Dg 8796093022208 n s) (hn : n ≤ 100) :
    Calls Tryz.prog 81 #[.slice (some ⟨b, 0, none⟩) n cp, .int .i64 18] w fun r w' => ∃ g c m e, r = .returned (.slice (some ⟨g, 0, none⟩) m c) ∧ Cared s n m e ∧ w'.ownsRow w.heap.size 3 1 (.slice (some ⟨g, 0, none⟩) m c) m (nums .i64 m e) ∧ Below w.heap.size w w' := by
  have hb := hR.lt
  go_enter Tryz.func81, Tryz.ntmps81
  go_wp2_with fail
  go_loopg [5, 6, 7] (max (n + 5) 18) (fun m v cv iv wr => ∃ (k : Nat) (c : Int) (e : Nat → Int), Hid (m + k = max (n + 5) 18) ∧ cv = .int .i64 c ∧ iv = .int .i64 (k : Int) ∧ Hid (Car s n k c e) ∧ wr.ownsRow w.heap.size 3 1 v k (nums .i64 k e) ∧ Below w.heap.size w wr)
  case atStart => exact ⟨0, 0, fun _ => 0, Hid.mk (by omega), rfl, rfl, Hid.mk (Car.start s n _), World.ownsRow_nil w _ _ _, Below.refl _ _⟩
  case round =>
    obtain ⟨k, c, e, HM, rfl, rfl, HC, hO, hB⟩ := hrel
    have hc0 := HC.out.c0
    have hc1 := HC.out.c1
    have hkm : k ≤ max (n + 5) 18 := by have := HM.out; omega
    by_cases hlt : k < n
    · have cx := (hR.below hB hb).cell k hlt
      have hx0 := (hs k hlt).1
      have hx1 := (hs k hlt).2
      have hkm2 : k < max (n + 5) 18 := by omega
      have HS : Hid (∀ e' : Nat → Int, (∀ i, i < k → e' i = e i) → e' k = (c + s k) % 256 → Car s n (k + 1) ((c + s k) / 256) e') := Hid.mk (fun e' h1 h2 => by
        have hp : pad s n k = s k := by unfold pad; rw [if_pos hlt]
        have := HC.out.step (e' := e') hs h1 (by rw [hp]; exact h2)
        rw [hp] at this
        exact this)
      generalize s k = x at *
      go_wp2_with (at_builtin; refine ap_own rfl _ _ 121 3 .i64 8 Tryz.underlying121 infoInt (by decide) (by rfl) (n := k) (m := 1) (by rfl) (own_kept hO ((Below.refl _ wr).alloc (Nat.le_refl _) _)) (by rfl) (r := fun _ => (c + x) % 256) (fun j hj => by obtain rfl : j = 0 := (by omega); exact cell_of_row _ _ 0 _ _ _ (heap_alloc_new wr _)) (by omega) (hB.alloc hB.size _).size ?_; intro v2 w2 h2 hb2; refine Hid.out ?_)
      have CS := HS.out _ (cat_snoc k e ((c + x) % 256)).1 (cat_snoc k e ((c + x) % 256)).2
      have HC2 := Hid.mk CS
      have hB2 := (hB.alloc hB.size (.cells #[.int .i64 ((c + x) % 256)] 3)).trans hb2
      clear HS CS hb2 hO HC
      refine Hid.mk ?_
      go_wp2_with fail
      go_roundg (max (n + 5) 18 - (k + 1))
      case rel => exact ⟨k + 1, _, _, Hid.mk (by omega), rfl, by go_num, HC2, h2, hB2⟩
      case measure => have := HM.out; omega
    · have hpz : pad s n k = 0 := by unfold pad; rw [if_neg (by omega)]
      by_cases hcp : 0 < c
      · have hkm2 : k < max (n + 5) 18 := by
          rcases Nat.lt_or_ge k (n + 5) with h | h
          · omega
          · have := HC.out.few h
            omega
        have HS : Hid (∀ e' : Nat → Int, (∀ i, i < k → e' i = e i) → e' k = c % 256 → Car s n (k + 1) (c / 256) e') := Hid.mk (fun e' h1 h2 => by
          have := HC.out.step (e' := e') hs h1 (by rw [hpz, Int.add_zero]; exact h2)
          rw [hpz, Int.add_zero] at this
          exact this)
        go_wp2_with (at_builtin; refine ap_own rfl _ _ 121 3 .i64 8 Tryz.underlying121 infoInt (by decide) (by rfl) (n := k) (m := 1) (by rfl) (own_kept hO ((Below.refl _ wr).alloc (Nat.le_refl _) _)) (by rfl) (r := fun _ => c % 256) (fun j hj => by obtain rfl : j = 0 := (by omega); exact cell_of_row _ _ 0 _ _ _ (heap_alloc_new wr _)) (by omega) (hB.alloc hB.size _).size ?_; intro v2 w2 h2 hb2; refine Hid.out ?_)
        have CS := HS.out _ (cat_snoc k e (c % 256)).1 (cat_snoc k e (c % 256)).2
        have HC2 := Hid.mk CS
        have hB2 := (hB.alloc hB.size (.cells #[.int .i64 (c % 256)] 3)).trans hb2
        clear HS CS hb2 hO HC
        refine Hid.mk ?_
        go_wp2_with fail
        go_roundg (max (n + 5) 18 - (k + 1))
        case rel => exact ⟨k + 1, _, _, Hid.mk (by omega), rfl, by go_num, HC2, h2, hB2⟩
        case measure => have := HM.out; omega
      · have hcz : c = 0 := by omega
        subst hcz
        by_cases h18 : k < 18
        · have HS : Hid (∀ e' : Nat → Int, (∀ i, i < k → e' i = e i) → e' k = 0 → Car s n (k + 1) 0 e') := Hid.mk (fun e' h1 h2 => by
            have := HC.out.step (e' := e') hs h1 (by rw [hpz]; exact h2)
            rw [hpz] at this
            exact this)
          go_wp2_with (at_builtin; refine ap_own rfl _ _ 121 3 .i64 8 Tryz.underlying121 infoInt (by decide) (by rfl) (n := k) (m := 1) (by rfl) (own_kept hO ((Below.refl _ wr).alloc (Nat.le_refl _) _)) (by rfl) (r := fun _ => 0) (fun j hj => by obtain rfl : j = 0 := (by omega); exact cell_of_row _ _ 0 _ _ _ (heap_alloc_new wr _)) (by omega) (hB.alloc hB.size _).size ?_; intro v2 w2 h2 hb2; refine Hid.out ?_)
          have CS := HS.out _ (cat_snoc k e (0)).1 (cat_snoc k e (0)).2
          have HC2 := Hid.mk CS
          have hB2 := (hB.alloc hB.size (.cells #[.int .i64 (0)] 3)).trans hb2
          clear HS CS hb2 hO HC
          refine Hid.mk ?_
          go_wp2_with fail
          go_roundg (max (n + 5) 18 - (k + 1))
          case rel => exact ⟨k + 1, _, _, Hid.mk (by omega), rfl, by go_num, HC2, h2, hB2⟩
          case measure => have := HM.out; omega
        · have hD := HC.out.done (by omega) (by omega) hkm
          obtain ⟨g, cg, rfl, hg1, hg2, hg3⟩ := own_row hO (by omega)
          go_wp2_with fail
          go_ret
          exact ⟨g, cg, k, rfl, e, hD, hO, hB⟩
end Go.Proofs.YtbkbcfimpaolmaaGreat
/-
  Own text. What rest of the document's answer for poly gives: the number by 2^130 - 5.
-/
namespace Go.Proofs.YtbkbcfimpaolmaaGreat
open Go.RowKit Go.Proofs
set_option maxRecDepth 100000
theorem dval_one {s : Nat → Int} {i : Nat} : ∀ {n : Nat}, (∀ j, j < n → 0 ≤ s j) → i < n → 256 ^ i * s i ≤ dval s n
  | 0, _, h => by omega
  | n + 1, hs, h => by
    have h0 := dval_nonneg (s := s) (n := n) (fun j hj => hs j (by omega))
    unfold dval
    by_cases e : i = n
    · subst e; omega
    · have h1 := dval_one (n := n) (fun j hj => hs j (by omega)) (show i < n by omega)
      have h2 := Int.mul_nonneg (Int.le_of_lt (p256 n)) (hs n (by omega))
      omega
theorem dval_comp (e : Nat → Int) : ∀ n, dval (fun i => 255 - e i) n = 256 ^ n - 1 - dval e n
  | 0 => by simp [dval]
  | n + 1 => by
    unfold dval
    rw [dval_comp e n, Int.mul_sub, Int.pow_succ]
    omega
/-- When a number below 2^130 is 2^130 - 5 at least. -/
theorem least_iff {e : Nat → Int} {m : Nat} (hm : 18 ≤ m) (he : Dg 256 m e) (hX : dval e m < W130) :
    (e 16 = 3 ∧ 251 ≤ e 0 ∧ ∀ i, 1 ≤ i → i < 16 → e i = 255) ↔ P130 ≤ dval e m := by
  have hlt := hX
  have h17 : dval e m = dval e 17 := by
    refine dval_tail (by omega) (fun i h1 h2 => ?_)
    have h3 := dval_one (s := e) (fun j hj => (he j hj).1) h2
    have h4 := he i h2
    rcases Int.lt_or_le 0 (e i) with h | h
    · exfalso
      have h5 : (256 : Int) ^ 17 ≤ 256 ^ i := by
        obtain ⟨d, hd⟩ : ∃ d, i = 17 + d := ⟨i - 17, by omega⟩
        rw [hd, Int.pow_add]
        have := p256 d
        have h6 : (256 : Int) ^ 17 * 1 ≤ 256 ^ 17 * 256 ^ d := Int.mul_le_mul_of_nonneg_left (by omega) (by decide)
        omega
      have h6 : (256 : Int) ^ i * 1 ≤ 256 ^ i * e i := Int.mul_le_mul_of_nonneg_left (by omega) (Int.le_of_lt (p256 i))
      have h7 : (256 : Int) ^ 17 = 87112285931760246646623899502532662132736 := by decide
      unfold W130 at hlt
      omega
    · omega
  have e17 : dval e 17 = dval e 16 + 340282366920938463463374607431768211456 * e 16 := by
    show dval e 16 + 256 ^ 16 * e 16 = _
    rw [pow16]
  have hc := dval_comp e 16
  rw [pow16] at hc
  have h16 := he 16 (by omega)
  have hn := dval_nonneg (s := fun i => 255 - e i) (n := 16) (fun i hi => by have := he i (by omega); omega)
  have hl := dval_nonneg (s := e) (n := 16) (fun i hi => (he i (by omega)).1)
  unfold W130 at hlt
  unfold P130
  rw [h17, e17] at hlt ⊢
  constructor
  · rintro ⟨h1, h2, h3⟩
    have hz : dval (fun i => 255 - e i) 16 = 255 - e 0 := by
      have := dval_tail (s := fun i => 255 - e i) (n := 1) (m := 16) (by omega) (fun i h4 h5 => by have := h3 i h4 h5; omega)
      rw [this]
      simp [dval]
    omega
  · intro hge
    have h163 : e 16 = 3 := by omega
    have hsm : dval (fun i => 255 - e i) 16 ≤ 4 := by omega
    have hnn : ∀ j, j < 16 → 0 ≤ 255 - e j := fun j hj => by have := he j (by omega); omega
    refine ⟨h163, ?_, fun i h1 h2 => ?_⟩
    · have := dval_one (s := fun i => 255 - e i) (i := 0) (n := 16) hnn (by omega)
      simp at this
      omega
    · have h3 := dval_one (s := fun i => 255 - e i) (i := i) (n := 16) hnn h2
      have h4 := hnn i h2
      rcases Int.lt_or_le 0 (255 - e i) with h | h
      · exfalso
        have h5 : (256 : Int) ^ 1 ≤ 256 ^ i := by
          obtain ⟨d, hd⟩ : ∃ d, i = 1 + d := ⟨i - 1, by omega⟩
          rw [hd, Int.pow_add]
          have := p256 d
          have h6 : (256 : Int) ^ 1 * 1 ≤ 256 ^ 1 * 256 ^ d := Int.mul_le_mul_of_nonneg_left (by omega) (by decide)
          omega
        have h6 : (256 : Int) ^ i * 1 ≤ 256 ^ i * (255 - e i) := Int.mul_le_mul_of_nonneg_left (by omega) (Int.le_of_lt (p256 i))
        simp at h5
        omega
      · have := he i (by omega)
        omega
theorem least_val {e : Nat → Int} {m : Nat} (hm : 18 ≤ m) (he : Dg 256 m e) (hX : dval e m < W130) (h1 : e 16 = 3) (h3 : ∀ i, 1 ≤ i → i < 16 → e i = 255) : dval e m = W130 - 256 + e 0 := by
  have hc := dval_comp e 16
  rw [pow16] at hc
  have hz : dval (fun i => 255 - e i) 16 = 255 - e 0 := by
    have := dval_tail (s := fun i => 255 - e i) (n := 1) (m := 16) (by omega) (fun i h4 h5 => by have := h3 i h4 h5; omega)
    rw [this]
    simp [dval]
  have h17 : dval e 17 = dval e 16 + 340282366920938463463374607431768211456 * e 16 := by
    show dval e 16 + 256 ^ 16 * e 16 = _
    rw [pow16]
  have hs := dval_shift e 17 (m - 17)
  rw [show 17 + (m - 17) = m by omega] at hs
  have hn := dval_nonneg (s := fun j => e (17 + j)) (n := m - 17) (fun i hi => (he (17 + i) (by omega)).1)
  have hp : (256 : Int) ^ 17 = 87112285931760246646623899502532662132736 := by decide
  have h0 := he 0 (by omega)
  rw [hp] at hs
  unfold W130 at *
  omega
theorem hid_b {x : Nat → Int} {m : Nat} (hx : Dg 256 m x) (j : Nat) : 0 ≤ hid (pad x m) j ∧ hid (pad x m) j < 256 := by
  have hp : ∀ i, 0 ≤ pad x m i ∧ pad x m i < 256 := fun i => by
    unfold pad
    split
    · exact hx i (by assumption)
    · omega
  have h1 := hp (16 + j)
  have h2 := hp (17 + j)
  unfold hid
  omega
theorem own_set {w : World} {B g c : Nat} {e : TypeId} {n : Nat} {k : IntKind} {s : Nat → Int} (h : w.ownsRow B e 1 (.slice (some ⟨g, 0, none⟩) n c) n (nums k n s)) (i : Nat) (v : Int) (hi : i < n) : (w.setCell ⟨g, i, none⟩ (.int k v)).ownsRow B e 1 (.slice (some ⟨g, 0, none⟩) n c) n (nums k n (upd s i v)) := by
  have h1 := (World.ownsRow.stored h i (.int k v)).1
  have e1 : (nums k n s).set i (.int k v) = nums k n (upd s i v) := by
    apply List.ext_getElem?
    intro j
    rw [List.getElem?_set]
    by_cases hj : i = j
    · subst hj
      rw [if_pos rfl, if_pos (by rw [nums_len]; exact hi), nums_at k n _ hi]
      simp [upd]
    · rw [if_neg hj]
      by_cases h2 : j < n
      · rw [nums_at k n s h2, nums_at k n _ h2]
        unfold upd
        rw [if_neg (fun h => hj h.symm)]
      · rw [List.getElem?_eq_none (by rw [nums_len]; omega), List.getElem?_eq_none (by rw [nums_len]; omega)]
  rw [e1] at h1
  exact h1
end Go.Proofs.YtbkbcfimpaolmaaGreat
/-
  Own text. The walk of rest of the document's answer for poly.
-/
namespace Go.Proofs.YtbkbcfimpaolmaaGreat
open Go.RowKit Go.Proofs
set_option maxRecDepth 100000
theorem some_step (hd : Nat → Int) (j : Nat) (h : ∀ j, 0 ≤ hd j ∧ hd j < 256) : decide (0 < dval hd (j + 1)) = (decide (0 < dval hd j) || decide (0 < hd j)) := by
  have h0 := dval_nonneg (s := hd) (n := j) (fun i _ => (h i).1)
  have h1 := (h j).1
  have hp := p256 j
  show decide (0 < dval hd j + 256 ^ j * hd j) = _
  rcases Int.lt_or_le 0 (hd j) with hj | hj
  · have h2 : (0 : Int) < 256 ^ j * hd j := Int.mul_pos hp hj
    rw [decide_eq_true (by omega), decide_eq_true hj]
    simp
  · rw [show hd j = 0 by omega]
    simp
/-- A slice of m digits, a row of one's own. -/
def DigS (w : World) (B g c m : Nat) (e : Nat → Int) : Prop := w.ownsRow B 3 1 (.slice (some ⟨g, 0, none⟩) m c) m (nums .i64 m e)
theorem DigS.row {w : World} {B g c m : Nat} {e : Nat → Int} (h : DigS w B g c m e) (hm : 0 < m) : RowAt w g .i64 3 m e := by
  obtain ⟨b, cp, h1, _, _, h2⟩ := own_row h hm
  simp only [Value.slice.injEq, Option.some.injEq, Addr.mk.injEq, and_true, true_and] at h1
  rw [h1.1]
  exact h2
theorem DigS.cap {w : World} {B g c m : Nat} {e : Nat → Int} (h : DigS w B g c m e) (hm : 0 < m) : m ≤ c := by
  obtain ⟨b, cp, h1, _, h2, _⟩ := own_row h hm
  simp only [Value.slice.injEq, Option.some.injEq, Addr.mk.injEq, and_true, true_and] at h1
  omega
theorem DigS.base {w : World} {B g c m : Nat} {e : Nat → Int} (h : DigS w B g c m e) : B ≤ g := own_base h g rfl
theorem DigS.lt {w : World} {B g c m : Nat} {e : Nat → Int} (h : DigS w B g c m e) : g < w.heap.size := by
  rcases h.2 with ⟨h', _⟩ | ⟨g', cap', cur, h', _, hg, _⟩
  · simp at h'
  · simp only [Value.slice.injEq, Option.some.injEq, Addr.mk.injEq, and_true, true_and] at h'
    rw [h'.1]
    exact heap_lt hg
theorem DigS.block {w w' : World} {B g c m : Nat} {e : Nat → Int} (h : DigS w B g c m e) (hb : w'.heap[g]? = w.heap[g]?) : DigS w' B g c m e := by
  refine ⟨h.1, ?_⟩
  rcases h.2 with hn | ⟨g', cap, cur, hv, hB, hg, rest⟩
  · exact .inl hn
  · have e := hv
    simp only [Value.slice.injEq, Option.some.injEq, Addr.mk.injEq, and_true, true_and] at e
    obtain ⟨rfl, rfl⟩ := e
    exact .inr ⟨g, c, cur, hv, hB, hb.trans hg, rest⟩
theorem DigS.kept {w w' : World} {B g c m : Nat} {e : Nat → Int} (h : DigS w B g c m e) (hb : Below w.heap.size w w') : DigS w' B g c m e := own_kept h hb
theorem DigS.below {w w' : World} {B C g c m : Nat} {e : Nat → Int} (h : DigS w B g c m e) (hb : Below C w w') (hC : g < C) : DigS w' B g c m e := h.block (hb.block g hC)
theorem DigS.other {w : World} {B g c m b i : Nat} {e : Nat → Int} (h : DigS w B g c m e) (v : Value) (hne : g ≠ b) : DigS (w.setCell ⟨b, i, none⟩ v) B g c m e := h.block (only_set.block g hne)
theorem own_any {w : World} {B C : Nat} {e : TypeId} {v : Value} {n : Nat} {xs : List Value} (h : w.ownsRow B e 1 v n xs) (hC : C ≤ B) : w.ownsRow C e 1 v n xs := by
  refine ⟨h.1, ?_⟩
  rcases h.2 with hn | ⟨g, cap, cur, hv, hB, rest⟩
  · exact .inl hn
  · exact .inr ⟨g, cap, cur, hv, Nat.le_trans hC hB, rest⟩
/-- Is it 2^130 - 5 at least, as far as digit i? -/
def lst (e : Nat → Int) : Nat → Bool
  | 0 => decide (e 16 = 3) && decide (251 ≤ e 0)
  | i + 1 => lst e i && decide (e (i + 1) = 255)
theorem lst_iff (e : Nat → Int) : ∀ i, lst e i = true ↔ (e 16 = 3 ∧ 251 ≤ e 0 ∧ ∀ q, 1 ≤ q → q < i + 1 → e q = 255)
  | 0 => by
    simp only [lst, Bool.and_eq_true, decide_eq_true_eq]
    exact ⟨fun h => ⟨h.1, h.2, fun q h1 h2 => by omega⟩, fun h => ⟨h.1, h.2.1⟩⟩
  | i + 1 => by
    simp only [lst, Bool.and_eq_true, decide_eq_true_eq, lst_iff e i]
    constructor
    · rintro ⟨⟨h1, h2, h3⟩, h4⟩
      refine ⟨h1, h2, fun q h5 h6 => ?_⟩
      by_cases hq : q = i + 1
      · rw [hq]; exact h4
      · exact h3 q h5 (by omega)
    · rintro ⟨h1, h2, h3⟩
      exact ⟨⟨h1, h2, fun q h5 h6 => h3 q h5 (by omega)⟩, h3 (i + 1) (by omega) (by omega)⟩
theorem mk18 (w : World) : (Instr.makeSlice 121 (.int .i64 18) (.int .i64 18)).run Tryz.prog w = .ok (.slice (some ⟨w.heap.size, 0, none⟩) 18 18) (w.alloc (.cells (WA .i64 18 fun _ => 0) 3)) := by
  have h := run_make_row' (P := Tryz.prog) 121 3 (.int .i64 0) 8 Tryz.underlying121 infoInt rfl .i64 .i64 18 (by omega) (by omega) w
  rw [show madeCells #[Value.int .i64 0] 18 = WA .i64 18 (fun _ => 0) from by kernel_rfl] at h
  exact h
theorem own_arr {w : World} {g n : Nat} {s : Nat → Int} (h : ArrAt w g .i64 3 n s) {B : Nat} (hB : B ≤ g) (hn : n ≤ 1000000) : DigS w B g n n s := by
  refine ⟨by rw [nums_len]; omega, .inr ⟨g, n, _, rfl, hB, h, Nat.le_refl _, by unfold maxLen; omega, by rw [WA_size]; omega, ?_⟩⟩
  rw [Nat.mul_one, List.take_of_length_le (by simp [WA])]
  simp [WA, nums]
def RestOK (V : Int) (w w' : World) (g c m : Nat) : Prop := ∃ e, 18 ≤ m ∧ m ≤ 46 ∧ Dg 256 m e ∧ dval e m = V % P130 ∧ DigS w' w.heap.size g c m e ∧ Below w.heap.size w w'
set_option maxHeartbeats 4000000 in
set_option maxRecDepth 100000 in
theorem rest_run (s : Nat → Int) (n b cp : Nat) (w : World) (hR : RowAt w b .i64 3 n s) (hs : Dg 8796093022208 n s) (hn : n ≤ 41) :
    Calls Tryz.prog 80 #[.slice (some ⟨b, 0, none⟩) n cp] w fun r w' => ∃ g c m, r = .returned (.slice (some ⟨g, 0, none⟩) m c) ∧ RestOK (dval s n) w w' g c m := by
  obtain ⟨V, HV⟩ : ∃ V, Hid (dval s n = V) := ⟨_, Hid.mk rfl⟩
  have hV0 : 0 ≤ V := by rw [← HV.out]; exact dval_nonneg (fun i hi => (hs i hi).1)
  rw [HV.out]
  have hCar := fun w (hR : RowAt w b .i64 3 n s) => carried_run s n b cp w hR hs (by omega)
  go_enter Tryz.func80, Tryz.ntmps80
  go_wp2_with fail
  refine (hCar _ hR).mono ?_
  rintro r v1 ⟨g, c, m, e, rfl, hC, hO, hb⟩
  have hm1 := hC.lo
  have hm2 : m ≤ 46 := by have := hC.hi; omega
  have hde := hC.dg
  have hnum : dval e m = V := by rw [hC.num, HV.out]
  replace hO : DigS v1 w.heap.size g c m e := hO
  clear hC hR hCar
  go_wp2_with fail
  go_loopg [0] V.toNat (fun gm xv v => ∃ (g c m : Nat) (e : Nat → Int), xv = .slice (some ⟨g, 0, none⟩) m c ∧ Hid ((dval e m).toNat ≤ gm) ∧ Hid (dval e m % P130 = V % P130) ∧ 18 ≤ m ∧ m ≤ 46 ∧ Hid (Dg 256 m e) ∧ DigS v w.heap.size g c m e ∧ Below w.heap.size w v)
  case atStart => exact ⟨g, c, m, e, rfl, Hid.mk (by rw [hnum]; exact Nat.le_refl _), Hid.mk (by rw [hnum]), hm1, hm2, Hid.mk hde, hO, hb⟩
  case round =>
    clear hm1 hm2 hde hnum hO hb
    obtain ⟨g, c, m, e, rfl, HG, HP, hm1, hm2, HD, hO, hB⟩ := hrel
    obtain ⟨hd, HH⟩ : ∃ f, Hid (hid (pad e m) = f) := ⟨_, Hid.mk rfl⟩
    have hhb : ∀ j, 0 ≤ hd j ∧ hd j < 256 := fun j => HH.out ▸ hid_b HD.out j
    generalize wr = wo at *
    generalize gk = go at *
    go_wp2_with fail
    go_loopg [3, 4, 5] (m - 16) (fun gm hv sv iv v => ∃ j : Nat, Hid (gm + j = m - 16) ∧ iv = .int .i64 ((16 + j : Nat) : Int) ∧ sv = .bool (decide (0 < dval hd j)) ∧ v.ownsRow wo.heap.size 3 1 hv j (nums .i64 j hd) ∧ Below wo.heap.size wo v)
    case atStart => exact ⟨0, Hid.mk (by omega), rfl, by simp [dval], World.ownsRow_nil wo _ _ _, Below.refl _ _⟩
    case round =>
      obtain ⟨j, HJ, rfl, rfl, hh, hbw⟩ := hrel
      have hjm : j ≤ m - 16 := by have := HJ.out; omega
      by_cases hjl : j < m - 16
      · have hx := (hO.below hbw hO.lt).row (by omega)
        have c1 := hx.cell (16 + j) (by omega)
        have d1 := HD.out (16 + j) (by omega)
        by_cases hl : 17 + j < m
        · have c2 := hx.cell (16 + j + 1) (by omega)
          have d2 := HD.out (16 + j + 1) (by omega)
          have hq : (e (16 + j)).tdiv 4 = e (16 + j) / 4 := Int.tdiv_eq_ediv_of_nonneg d1.1
          have hr : (e (16 + j + 1)).tmod 4 = e (16 + j + 1) % 4 := Int.tmod_eq_emod_of_nonneg d2.1
          have hv : e (16 + j) / 4 + e (16 + j + 1) % 4 * 64 = hd j := by
            rw [← HH.out]
            unfold hid pad
            rw [if_pos (by omega), if_pos (by omega), show 17 + j = 16 + j + 1 by omega]
          by_cases hsm : 0 < dval hd j
          · have hsd : decide (0 < dval hd j) = true := decide_eq_true hsm
            go_wp2_with (at_builtin; refine ap_own rfl _ _ 121 3 .i64 8 Tryz.underlying121 infoInt (by decide) (by rfl) (n := j) (m := 1) (by rfl) (own_kept hh ((Below.refl _ wr).alloc (Nat.le_refl _) _)) (by rfl) (r := fun _ => hd j) (fun q hq => by obtain rfl : q = 0 := (by omega); exact cell_of_row _ _ 0 _ _ _ (heap_alloc_new wr _)) (by omega) (hbw.alloc hbw.size _).size ?_; intro v2 w2 h2 hb2; refine Hid.out ?_)
            rw [nums_congr (cat_one j hd)] at h2
            have hb3 := (hbw.alloc hbw.size (.cells #[.int .i64 (hd j)] 3)).trans hb2
            clear hb2 hh
            refine Hid.mk ?_
            go_wp2_with fail
            go_roundg (m - 16 - (j + 1))
            case rel => exact ⟨j + 1, Hid.mk (by omega), by go_num, by rw [some_step hd j hhb, hsd]; rfl, h2, hb3⟩
            case measure => have := HJ.out; omega
          · have hsd : decide (0 < dval hd j) = false := decide_eq_false hsm
            by_cases hdp : 0 < hd j
            · have hdd : decide (0 < hd j) = true := decide_eq_true hdp
              go_wp2_with (at_builtin; refine ap_own rfl _ _ 121 3 .i64 8 Tryz.underlying121 infoInt (by decide) (by rfl) (n := j) (m := 1) (by rfl) (own_kept hh ((Below.refl _ wr).alloc (Nat.le_refl _) _)) (by rfl) (r := fun _ => hd j) (fun q hq => by obtain rfl : q = 0 := (by omega); exact cell_of_row _ _ 0 _ _ _ (heap_alloc_new wr _)) (by omega) (hbw.alloc hbw.size _).size ?_; intro v2 w2 h2 hb2; refine Hid.out ?_)
              rw [nums_congr (cat_one j hd)] at h2
              have hb3 := (hbw.alloc hbw.size (.cells #[.int .i64 (hd j)] 3)).trans hb2
              clear hb2 hh
              refine Hid.mk ?_
              go_wp2_with fail
              go_roundg (m - 16 - (j + 1))
              case rel => exact ⟨j + 1, Hid.mk (by omega), by go_num, by rw [some_step hd j hhb, hsd, hdd]; rfl, h2, hb3⟩
              case measure => have := HJ.out; omega
            · have hdd : decide (0 < hd j) = false := decide_eq_false hdp
              go_wp2_with (at_builtin; refine ap_own rfl _ _ 121 3 .i64 8 Tryz.underlying121 infoInt (by decide) (by rfl) (n := j) (m := 1) (by rfl) (own_kept hh ((Below.refl _ wr).alloc (Nat.le_refl _) _)) (by rfl) (r := fun _ => hd j) (fun q hq => by obtain rfl : q = 0 := (by omega); exact cell_of_row _ _ 0 _ _ _ (heap_alloc_new wr _)) (by omega) (hbw.alloc hbw.size _).size ?_; intro v2 w2 h2 hb2; refine Hid.out ?_)
              rw [nums_congr (cat_one j hd)] at h2
              have hb3 := (hbw.alloc hbw.size (.cells #[.int .i64 (hd j)] 3)).trans hb2
              clear hb2 hh
              refine Hid.mk ?_
              go_wp2_with fail
              go_roundg (m - 16 - (j + 1))
              case rel => exact ⟨j + 1, Hid.mk (by omega), by go_num, by rw [some_step hd j hhb, hsd, hdd]; rfl, h2, hb3⟩
              case measure => have := HJ.out; omega
        · have hq : (e (16 + j)).tdiv 4 = e (16 + j) / 4 := Int.tdiv_eq_ediv_of_nonneg d1.1
          have hv : e (16 + j) / 4 = hd j := by
            rw [← HH.out]
            unfold hid pad
            rw [if_pos (by omega), if_neg (by omega)]
            omega
          by_cases hsm : 0 < dval hd j
          · have hsd : decide (0 < dval hd j) = true := decide_eq_true hsm
            go_wp2_with (at_builtin; refine ap_own rfl _ _ 121 3 .i64 8 Tryz.underlying121 infoInt (by decide) (by rfl) (n := j) (m := 1) (by rfl) (own_kept hh ((Below.refl _ wr).alloc (Nat.le_refl _) _)) (by rfl) (r := fun _ => hd j) (fun q hq => by obtain rfl : q = 0 := (by omega); exact cell_of_row _ _ 0 _ _ _ (heap_alloc_new wr _)) (by omega) (hbw.alloc hbw.size _).size ?_; intro v2 w2 h2 hb2; refine Hid.out ?_)
            rw [nums_congr (cat_one j hd)] at h2
            have hb3 := (hbw.alloc hbw.size (.cells #[.int .i64 (hd j)] 3)).trans hb2
            clear hb2 hh
            refine Hid.mk ?_
            go_wp2_with fail
            go_roundg (m - 16 - (j + 1))
            case rel => exact ⟨j + 1, Hid.mk (by omega), by go_num, by rw [some_step hd j hhb, hsd]; rfl, h2, hb3⟩
            case measure => have := HJ.out; omega
          · have hsd : decide (0 < dval hd j) = false := decide_eq_false hsm
            by_cases hdp : 0 < hd j
            · have hdd : decide (0 < hd j) = true := decide_eq_true hdp
              go_wp2_with (at_builtin; refine ap_own rfl _ _ 121 3 .i64 8 Tryz.underlying121 infoInt (by decide) (by rfl) (n := j) (m := 1) (by rfl) (own_kept hh ((Below.refl _ wr).alloc (Nat.le_refl _) _)) (by rfl) (r := fun _ => hd j) (fun q hq => by obtain rfl : q = 0 := (by omega); exact cell_of_row _ _ 0 _ _ _ (heap_alloc_new wr _)) (by omega) (hbw.alloc hbw.size _).size ?_; intro v2 w2 h2 hb2; refine Hid.out ?_)
              rw [nums_congr (cat_one j hd)] at h2
              have hb3 := (hbw.alloc hbw.size (.cells #[.int .i64 (hd j)] 3)).trans hb2
              clear hb2 hh
              refine Hid.mk ?_
              go_wp2_with fail
              go_roundg (m - 16 - (j + 1))
              case rel => exact ⟨j + 1, Hid.mk (by omega), by go_num, by rw [some_step hd j hhb, hsd, hdd]; rfl, h2, hb3⟩
              case measure => have := HJ.out; omega
            · have hdd : decide (0 < hd j) = false := decide_eq_false hdp
              go_wp2_with (at_builtin; refine ap_own rfl _ _ 121 3 .i64 8 Tryz.underlying121 infoInt (by decide) (by rfl) (n := j) (m := 1) (by rfl) (own_kept hh ((Below.refl _ wr).alloc (Nat.le_refl _) _)) (by rfl) (r := fun _ => hd j) (fun q hq => by obtain rfl : q = 0 := (by omega); exact cell_of_row _ _ 0 _ _ _ (heap_alloc_new wr _)) (by omega) (hbw.alloc hbw.size _).size ?_; intro v2 w2 h2 hb2; refine Hid.out ?_)
              rw [nums_congr (cat_one j hd)] at h2
              have hb3 := (hbw.alloc hbw.size (.cells #[.int .i64 (hd j)] 3)).trans hb2
              clear hb2 hh
              refine Hid.mk ?_
              go_wp2_with fail
              go_roundg (m - 16 - (j + 1))
              case rel => exact ⟨j + 1, Hid.mk (by omega), by go_num, by rw [some_step hd j hhb, hsd, hdd]; rfl, h2, hb3⟩
              case measure => have := HJ.out; omega
      · have hj2 : j = m - 16 := by omega
        subst hj2
        clear hjl hjm HJ
        have hsp := hid_split e m (by omega) HD.out
        rw [HH.out] at hsp
        have HSP := Hid.mk hsp
        clear hsp
        by_cases hH : 0 < dval hd (m - 16)
        · have hsd : decide (0 < dval hd (m - 16)) = true := decide_eq_true hH
          obtain ⟨gh, ch, rfl, hgh, hch, rh⟩ := own_row hh (by omega)
          have hx := (hO.below hbw hO.lt).row (by omega)
          have hcap : (17 : Int) ≤ (c : Int) := by have := hO.cap (by omega); omega
          have hfd : decide ((16 : Int) + ((m - 16 : Nat) : Int) < (m : Int)) = false := decide_eq_false (by omega)
          have HX : Hid (∀ q, q < 17 → (wr.alloc (.cells #[] 3)).cell? ⟨g, 0 + q, none⟩ = some (.int .i64 (e q))) := Hid.mk (fun q hq => by rw [Nat.zero_add]; exact (hx.alloc _).cell q (by omega))
          go_wp2_with (at_builtin; refine ap_full rfl _ _ 121 3 .i64 8 Tryz.underlying121 infoInt (by decide) (by rfl) (n := 0) (m := 17) (f := e) (by rfl) (fun q hq => by omega) (by rfl) (r := e) HX.out (by decide) (by decide) ?_; intro va v2 h2 hb2; refine Hid.out ?_)
          clear HX
          rw [nums_congr (s := cat 0 e e) (t := e) (fun i _ => by simp [cat])] at h2
          obtain ⟨gy, cy, rfl, hgy, hcy, ry⟩ := own_row h2 (by decide)
          have hsz : (wr.alloc (.cells #[] 3)).heap.size = wr.heap.size + 1 := by simp
          rw [hsz] at h2 hgy
          replace h2 : DigS v2 (wr.heap.size + 1) gy cy 17 e := h2
          have rh2 : RowAt v2 gh .i64 3 (m - 16) hd := (rh.alloc _).below hb2 (by rw [hsz]; have := rh.lt; omega)
          have hzh : gh < wr.heap.size := rh.lt
          have hB2 : Below w.heap.size w v2 := ((hB.trans (hbw.mono hB.size)).alloc (by have := hB.size; have := hbw.size; omega) _).trans (hb2.mono (by rw [hsz]; have := hB.size; have := hbw.size; omega))
          clear hb2 ry rh hh hx hO hbw
          have hzw : w.heap.size ≤ wr.heap.size := by have := hB.size; omega
          refine Hid.mk ?_
          simp only [Nat.zero_add]
          have c16 := (h2.row (by decide)).cell 16 (by decide)
          have f16 := (h2.row (by decide)).free 16 (by decide)
          have d16 := HD.out 16 (by omega)
          have hr16 : (e 16).tmod 4 = e 16 % 4 := Int.tmod_eq_emod_of_nonneg d16.1
          go_wp2_with fail
          obtain ⟨By, hBy⟩ : ∃ B, wr.heap.size + 1 = B := ⟨_, rfl⟩
          rw [hBy] at h2 hgy
          have hghB : gh < By := by omega
          have hwB : w.heap.size ≤ By := by omega
          obtain ⟨LO, HLO⟩ : ∃ L, Hid (dval e 16 + 340282366920938463463374607431768211456 * (pad e m 16 % 4) = L) := ⟨_, Hid.mk rfl⟩
          rw [HLO.out] at HSP
          have h3 := own_set h2 16 (e 16 % 4) (by decide)
          have rh3 := rh2.other (g := gy) (i := 16) (.int .i64 (e 16 % 4)) (by omega)
          have hB3 := Below.setCell hB2 (p := ⟨gy, 16, none⟩) (by simp; omega) (.int .i64 (e 16 % 4))
          have HD3 : Hid (dval (upd e 16 (e 16 % 4)) 17 = LO + 5 * dval hd 0) := Hid.mk (by
            rw [dval_upd (by decide), ← HLO.out]
            show dval e 16 + 256 ^ 16 * e 16 + 256 ^ 16 * (e 16 % 4 - e 16) = _
            rw [show pad e m 16 = e 16 from by unfold pad; rw [if_pos (by omega)], pow16]
            simp only [dval]
            omega)
          have HE1 : Hid (∀ i, i < 17 → 0 ≤ upd e 16 (e 16 % 4) i ∧ upd e 16 (e 16 % 4) i < 256) := Hid.mk (fun i hi => by
            unfold upd
            split
            · omega
            · exact HD.out i (by omega))
          generalize v2.setCell ⟨gy, 16, none⟩ (.int .i64 (e 16 % 4)) = v3 at *
          generalize wr = wq at *
          generalize gk = gq at *
          go_loopg [7, 8] (m - 16) (fun gm yv iv v => ∃ (j L : Nat) (t : Nat → Int) (gy cy : Nat), Hid (gm + j = m - 16) ∧ yv = .slice (some ⟨gy, 0, none⟩) L cy ∧ iv = .int .i64 (j : Int) ∧ Hid (L = max 17 j) ∧ DigS v By gy cy L t ∧ Hid (∀ i, i < L → 0 ≤ t i ∧ t i < 2000) ∧ Hid (∀ i, j ≤ i → i < L → t i < 256) ∧ Hid (dval t L = LO + 5 * dval hd j) ∧ RowAt v gh .i64 3 (m - 16) hd ∧ Below w.heap.size w v)
          case atStart => exact ⟨0, 17, _, gy, cy, Hid.mk (by omega), rfl, rfl, Hid.mk (by omega), h3, Hid.mk (fun i hi => by have := HE1.out i hi; omega), Hid.mk (fun i _ hi => (HE1.out i hi).2), HD3, rh3, hB3⟩
          case round =>
            clear h3 rh3 hB3 HD3 HE1 h2 rh2 hB2 c16 f16 d16 hr16 hgy hcy
            obtain ⟨j, L, t, gy, cy, HJ, rfl, rfl, HL, hD, H1, H2, H3, rh, hB3⟩ := hrel
            have hLL := HL.out
            have hjm : j ≤ m - 16 := by have := HJ.out; omega
            by_cases hjl : j < m - 16
            · by_cases h17 : j < 17
              · have hL17 : L = max 17 (j + 1) := by omega
                have cyj := (hD.row (by omega)).cell j (by omega)
                have fyj := (hD.row (by omega)).free j (by omega)
                have chj := rh.cell j hjl
                have hhj := hhb j
                have htj := H1.out j (by omega)
                have ht5 : t j < 256 := H2.out j (Nat.le_refl _) (by omega)
                have HN : Hid (dval (upd t j (t j + 5 * hd j)) L = LO + 5 * dval hd (j + 1)) := Hid.mk (by
                  rw [dval_upd (by omega), H3.out]
                  show LO + 5 * dval hd j + 256 ^ j * (t j + 5 * hd j - t j) = LO + 5 * (dval hd j + 256 ^ j * hd j)
                  rw [show t j + 5 * hd j - t j = 5 * hd j by omega, Int.mul_add, ← Int.mul_assoc 5, Int.mul_comm 5 (256 ^ j), Int.mul_assoc]
                  omega)
                have HB1 : Hid (∀ i, i < L → 0 ≤ upd t j (t j + 5 * hd j) i ∧ upd t j (t j + 5 * hd j) i < 2000) := Hid.mk (fun i hi => by
                  unfold upd
                  split
                  · omega
                  · exact H1.out i hi)
                have HB2 : Hid (∀ i, j + 1 ≤ i → i < L → upd t j (t j + 5 * hd j) i < 256) := Hid.mk (fun i h1 h2 => by
                  unfold upd
                  rw [if_neg (by omega)]
                  exact H2.out i (by omega) h2)
                have hlj : (j : Int) < (L : Int) := by omega
                have hlh : (j : Int) < ((m - 16 : Nat) : Int) := by omega
                have hgyb := hD.base
                generalize hx5 : t j = x5 at *
                generalize hx6 : hd j = x6 at *
                go_wp2_with fail
                go_region
                go_wp2_with fail
                go_roundg (m - 16 - (j + 1))
                case rel => exact ⟨j + 1, L, _, gy, cy, Hid.mk (by omega), rfl, by go_num, Hid.mk (by omega), own_set hD j _ (by omega), HB1, HB2, HN, rh.other _ (by omega), (Below.setCell hB3 (p := ⟨gy, j, none⟩) (by simp; omega) _).drew⟩
                case measure => have := HJ.out; omega
              · have hLj : L = j := by omega
                have HA1 : Hid (∀ i, i < L + 1 → 0 ≤ cat L t (fun _ => 0) i ∧ cat L t (fun _ => 0) i < 2000) := Hid.mk (fun i hi => by
                  unfold cat
                  split
                  · exact H1.out i (by assumption)
                  · show 0 ≤ (0 : Int) ∧ (0 : Int) < 2000
                    omega)
                have HA2 : Hid (∀ i, j ≤ i → i < L + 1 → cat L t (fun _ => 0) i < 256) := Hid.mk (fun i h1 h2 => by
                  unfold cat
                  rw [if_neg (by omega)]
                  show (0 : Int) < 256
                  omega)
                have HA3 : Hid (dval (cat L t (fun _ => 0)) (L + 1) = LO + 5 * dval hd j) := Hid.mk (by
                  show dval (cat L t (fun _ => 0)) L + 256 ^ L * cat L t (fun _ => 0) L = _
                  rw [dval_congr (cat_snoc L t 0).1, (cat_snoc L t 0).2, H3.out]
                  omega)
                have hlt0 := hD.lt
                have hbs0 := hD.base
                have hge : (L : Int) ≤ (j : Int) := by omega
                go_wp2_with (at_builtin; refine ap_own rfl _ _ 121 3 .i64 8 Tryz.underlying121 infoInt (by decide) (by rfl) (n := L) (m := 1) (by rfl) (own_kept hD ((Below.refl _ wr).alloc (Nat.le_refl _) _)) (by rfl) (r := fun _ => 0) (fun q hq => by obtain rfl : q = 0 := (by omega); exact cell_of_row _ _ 0 _ _ _ (heap_alloc_new wr _)) (by omega) (by simp; omega) ?_; intro vb w2 h4 hb4; refine Hid.out ?_)
                obtain ⟨gz, cz, rfl, hgz, hcz, rz⟩ := own_row h4 (by omega)
                replace h4 : DigS w2 By gz cz (L + 1) (cat L t (fun _ => 0)) := h4
                have rh4 : RowAt w2 gh .i64 3 (m - 16) hd := (rh.alloc _).below hb4 hghB
                have hB4 : Below w.heap.size w w2 := (hB3.alloc hB3.size _).trans (hb4.mono hwB)
                clear hb4 rz hgz hcz hD rh hB3 hlt0 hbs0 hge
                refine Hid.mk ?_
                have hL17 : L + 1 = max 17 (j + 1) := by omega
                generalize cat L t (fun _ => 0) = t2 at *
                generalize hL2 : L + 1 = L2 at *
                have cyj := (h4.row (by omega)).cell j (by omega)
                have fyj := (h4.row (by omega)).free j (by omega)
                have chj := rh4.cell j hjl
                have hhj := hhb j
                have htj := HA1.out j (by omega)
                have ht5 : t2 j < 256 := HA2.out j (Nat.le_refl _) (by omega)
                have HN : Hid (dval (upd t2 j (t2 j + 5 * hd j)) L2 = LO + 5 * dval hd (j + 1)) := Hid.mk (by
                  rw [dval_upd (by omega), HA3.out]
                  show LO + 5 * dval hd j + 256 ^ j * (t2 j + 5 * hd j - t2 j) = LO + 5 * (dval hd j + 256 ^ j * hd j)
                  rw [show t2 j + 5 * hd j - t2 j = 5 * hd j by omega, Int.mul_add, ← Int.mul_assoc 5, Int.mul_comm 5 (256 ^ j), Int.mul_assoc]
                  omega)
                have HB1 : Hid (∀ i, i < L2 → 0 ≤ upd t2 j (t2 j + 5 * hd j) i ∧ upd t2 j (t2 j + 5 * hd j) i < 2000) := Hid.mk (fun i hi => by
                  unfold upd
                  split
                  · omega
                  · exact HA1.out i hi)
                have HB2 : Hid (∀ i, j + 1 ≤ i → i < L2 → upd t2 j (t2 j + 5 * hd j) i < 256) := Hid.mk (fun i h1 h2 => by
                  unfold upd
                  rw [if_neg (by omega)]
                  exact HA2.out i (by omega) h2)
                have hlj : (j : Int) < (L2 : Int) := by omega
                have hlh : (j : Int) < ((m - 16 : Nat) : Int) := by omega
                have hgyb := h4.base
                generalize hx5 : t2 j = x5 at *
                generalize hx6 : hd j = x6 at *
                go_wp2_with fail
                go_region
                go_wp2_with fail
                go_roundg (m - 16 - (j + 1))
                case rel => exact ⟨j + 1, L2, _, gz, cz, Hid.mk (by omega), rfl, by go_num, Hid.mk (by omega), own_set h4 j _ (by omega), HB1, HB2, HN, rh4.other _ (by omega), (Below.setCell hB4 (p := ⟨gz, j, none⟩) (by simp; omega) _).drew⟩
                case measure => have := HJ.out; omega
            · have hj2 : j = m - 16 := by omega
              rw [hj2] at H3
              have HQ := H3
              have hL30 : L ≤ 30 := by omega
              have hL17 : 17 ≤ L := by omega
              have hdc := fun w (hR : RowAt w gy .i64 3 L t) => carried_run t L gy cy w hR (fun i hi => by have := H1.out i hi; omega) (by omega)
              have hge : ¬ ((j : Int) < ((m - 16 : Nat) : Int)) := by omega
              clear hLL hj2 hjl hjm
              go_wp2_with fail
              refine (hdc _ (hD.row (by omega))).mono ?_
              rintro r v5 ⟨g5, c5, m5, e5, rfl, hC5, hO5, hb5⟩
              have hB5 := hB3.trans (hb5.mono hB3.size)
              have hz5 : w.heap.size ≤ wr.heap.size := hB3.size
              have hn5 : dval e5 m5 = LO + 5 * dval hd (m - 16) := by rw [hC5.num, HQ.out]
              have hv5 := HSP.out
              have hO6 : DigS v5 w.heap.size g5 c5 m5 e5 := own_any hO5 hz5
              have HG5 : Hid ((LO + 5 * dval hd (m - 16)).toNat < go) := Hid.mk (by
                have h1 := HG.out
                have h2 := hv5.1
                have h3 := hv5.2.1
                unfold W130 at h2
                omega)
              have HP5 : Hid ((LO + 5 * dval hd (m - 16)) % P130 = V % P130) := Hid.mk (by
                rw [← HP.out, hv5.1]
                unfold W130 P130
                omega)
              have hm5 := hC5.lo
              have hm6 : m5 ≤ 46 := by have := hC5.hi; omega
              have HD5 := Hid.mk hC5.dg
              have HN5 := Hid.mk hn5
              clear hv5 hn5 hC5 hb5 hO5 hdc
              go_wp2_with fail
              go_roundg ((LO + 5 * dval hd (m - 16)).toNat)
              case rel => exact ⟨g5, c5, m5, e5, rfl, Hid.mk (by rw [HN5.out]; exact Nat.le_refl _), Hid.mk (by rw [HN5.out]; exact HP5.out), hm5, hm6, HD5, hO6, hB5⟩
              case measure => exact HG5.out
        · have hsd : decide (0 < dval hd (m - 16)) = false := decide_eq_false hH
          have hX := HSP.out
          have hnn := dval_nonneg (s := hd) (n := m - 16) (fun i _ => (hhb i).1)
          have hXl : dval e m < W130 := by
            have h1 := hX.1
            rw [show dval hd (m - 16) = 0 by omega] at h1
            have h2 := hX.2.2
            omega
          have hX0 : 0 ≤ dval e m := dval_nonneg (fun i hi => (HD.out i hi).1)
          have HI := Hid.mk (least_iff hm1 HD.out hXl)
          have HW := Hid.mk (fun h1 h3 => least_val hm1 HD.out hXl h1 h3)
          have HXL := Hid.mk hXl
          have hbo := hB.trans (hbw.mono hB.size)
          replace hO := hO.below hbw hO.lt
          clear hX hnn hXl hbw hh HSP hH
          have hxr := hO.row (by omega)
          have c16 := hxr.cell 16 (by omega)
          have c0 := hxr.cell 0 (by omega)
          have hfd : decide ((16 : Int) + ((m - 16 : Nat) : Int) < (m : Int)) = false := decide_eq_false (by omega)
          generalize wr = wq at *
          generalize gk = gq at *
          by_cases h163 : e 16 = 3
          · by_cases h251 : 251 ≤ e 0
            · have h251b := h251
              go_wp2_with fail
              go_loopg [9, 10] 15 (fun gm lv iv v => ∃ i : Nat, Hid (gm + i = 15) ∧ lv = .bool (lst e i) ∧ iv = .int .i64 ((i + 1 : Nat) : Int) ∧ v = wq)
              case atStart => exact ⟨0, Hid.mk rfl, by unfold lst; rw [decide_eq_true h163, decide_eq_true (show 251 ≤ e 0 by omega)]; rfl, rfl, rfl⟩
              case round =>
                obtain ⟨i, HI2, rfl, rfl, rfl⟩ := hrel
                have hi15 : i ≤ 15 := by have := HI2.out; omega
                by_cases hil : i < 15
                · have ci := hxr.cell (i + 1) (by omega)
                  have hil2 : (i : Int) + 1 < 16 := by omega
                  cases hls : lst e i with
                  | false =>
                    have HS : Hid (Value.bool false = .bool (lst e (i + 1))) := Hid.mk (by unfold lst; rw [hls]; rfl)
                    go_wp2_with fail
                    go_roundg (15 - (i + 1))
                    case rel => exact ⟨i + 1, Hid.mk (by omega), HS.out, by go_num, rfl⟩
                    case measure => have := HI2.out; omega
                  | true =>
                    by_cases h255 : e (i + 1) = 255
                    · have HS : Hid (Value.bool true = .bool (lst e (i + 1))) := Hid.mk (by unfold lst; rw [hls, decide_eq_true h255]; rfl)
                      go_wp2_with fail
                      go_roundg (15 - (i + 1))
                      case rel => exact ⟨i + 1, Hid.mk (by omega), HS.out, by go_num, rfl⟩
                      case measure => have := HI2.out; omega
                    · have HS : Hid (Value.bool false = .bool (lst e (i + 1))) := Hid.mk (by unfold lst; rw [hls, decide_eq_false h255]; rfl)
                      have hbe : (e (i + 1) == 255) = false := by simpa using h255
                      go_wp2_with fail
                      go_roundg (15 - (i + 1))
                      case rel => exact ⟨i + 1, Hid.mk (by omega), HS.out, by go_num, rfl⟩
                      case measure => have := HI2.out; omega
                · have hi2 : i = 15 := by omega
                  subst hi2
                  cases hls : lst e 15 with
                  | false =>
                    have HR : Hid (dval e m = V % P130) := Hid.mk (by
                      have h1 : ¬ P130 ≤ dval e m := fun h => by
                        have := HI.out.2 h
                        rw [(lst_iff e 15).2 this] at hls
                        cases hls
                      rw [← HP.out, Int.emod_eq_of_lt hX0 (by omega)])
                    go_wp2_with fail
                    go_ret
                    exact ⟨g, c, m, rfl, e, hm1, hm2, HD.out, HR.out, hO, hbo⟩
                  | true =>
                    have hall := (lst_iff e 15).1 hls
                    have HR : Hid (e 0 - 251 = V % P130) := Hid.mk (by
                      have h1 := HW.out hall.1 hall.2.2
                      have h2 := HXL.out
                      rw [← HP.out, h1]
                      have h3 : W130 - 256 + e 0 = (e 0 - 251) + P130 := by unfold W130 P130; omega
                      rw [h3, Int.add_emod_right, Int.emod_eq_of_lt (by omega) (by unfold P130; have := HD.out 0 (by omega); omega)])
                    have he0 : 251 ≤ e 0 := hall.2.1
                    have he1 := (HD.out 0 (by omega)).2
                    have hmk := mk18 wr
                    have G : ArrAt (wr.alloc (.cells (WA .i64 18 fun _ => 0) 3)) wr.heap.size .i64 3 18 (fun _ => 0) := heap_alloc_new wr _
                    have cz := G.cell 0 (by decide)
                    have fz := G.free 0
                    have cx0 := (hxr.alloc (.cells (WA .i64 18 fun _ => 0) 3)).cell 0 (by omega)
                    have G2 := Hid.mk (own_arr (B := w.heap.size) (G.set 0 (e 0 - 251) (by decide)) hbo.size (by decide))
                    have HV2 : Hid (dval (upd (fun _ => 0) 0 (e 0 - 251)) 18 = V % P130) := Hid.mk (by
                      rw [dval_upd (by decide), ← HR.out, show dval (fun _ => 0) 18 = 0 by decide]
                      simp)
                    have HB2 := Hid.mk (Below.setCell (hbo.alloc hbo.size (.cells (WA .i64 18 fun _ => 0) 3)) (p := ⟨wr.heap.size, 0, none⟩) hbo.size (.int .i64 (e 0 - 251)))
                    clear hall G
                    generalize wr.alloc (.cells (WA .i64 18 fun _ => 0) 3) = wz at *
                    go_wp2_with fail
                    go_ret
                    exact ⟨_, 18, 18, rfl, _, by omega, by omega, fun i hi => by unfold upd; dsimp only; split <;> omega, HV2.out, G2.out, HB2.out⟩
            · have h251b : e 0 < 251 := by omega
              go_wp2_with fail
              go_loopg [9, 10] 15 (fun gm lv iv v => ∃ i : Nat, Hid (gm + i = 15) ∧ lv = .bool (lst e i) ∧ iv = .int .i64 ((i + 1 : Nat) : Int) ∧ v = wq)
              case atStart => exact ⟨0, Hid.mk rfl, by unfold lst; rw [decide_eq_false (show ¬ 251 ≤ e 0 by omega), Bool.and_false], rfl, rfl⟩
              case round =>
                obtain ⟨i, HI2, rfl, rfl, rfl⟩ := hrel
                have hi15 : i ≤ 15 := by have := HI2.out; omega
                by_cases hil : i < 15
                · have ci := hxr.cell (i + 1) (by omega)
                  have hil2 : (i : Int) + 1 < 16 := by omega
                  cases hls : lst e i with
                  | false =>
                    have HS : Hid (Value.bool false = .bool (lst e (i + 1))) := Hid.mk (by unfold lst; rw [hls]; rfl)
                    go_wp2_with fail
                    go_roundg (15 - (i + 1))
                    case rel => exact ⟨i + 1, Hid.mk (by omega), HS.out, by go_num, rfl⟩
                    case measure => have := HI2.out; omega
                  | true =>
                    by_cases h255 : e (i + 1) = 255
                    · have HS : Hid (Value.bool true = .bool (lst e (i + 1))) := Hid.mk (by unfold lst; rw [hls, decide_eq_true h255]; rfl)
                      go_wp2_with fail
                      go_roundg (15 - (i + 1))
                      case rel => exact ⟨i + 1, Hid.mk (by omega), HS.out, by go_num, rfl⟩
                      case measure => have := HI2.out; omega
                    · have HS : Hid (Value.bool false = .bool (lst e (i + 1))) := Hid.mk (by unfold lst; rw [hls, decide_eq_false h255]; rfl)
                      have hbe : (e (i + 1) == 255) = false := by simpa using h255
                      go_wp2_with fail
                      go_roundg (15 - (i + 1))
                      case rel => exact ⟨i + 1, Hid.mk (by omega), HS.out, by go_num, rfl⟩
                      case measure => have := HI2.out; omega
                · have hi2 : i = 15 := by omega
                  subst hi2
                  cases hls : lst e 15 with
                  | false =>
                    have HR : Hid (dval e m = V % P130) := Hid.mk (by
                      have h1 : ¬ P130 ≤ dval e m := fun h => by
                        have := HI.out.2 h
                        rw [(lst_iff e 15).2 this] at hls
                        cases hls
                      rw [← HP.out, Int.emod_eq_of_lt hX0 (by omega)])
                    go_wp2_with fail
                    go_ret
                    exact ⟨g, c, m, rfl, e, hm1, hm2, HD.out, HR.out, hO, hbo⟩
                  | true =>
                    have hall := (lst_iff e 15).1 hls
                    exact absurd hall.2.1 (by omega)
          · have h163b := h163
            go_wp2_with fail
            go_loopg [9, 10] 15 (fun gm lv iv v => ∃ i : Nat, Hid (gm + i = 15) ∧ lv = .bool (lst e i) ∧ iv = .int .i64 ((i + 1 : Nat) : Int) ∧ v = wq)
            case atStart => exact ⟨0, Hid.mk rfl, by unfold lst; rw [decide_eq_false h163]; rfl, rfl, rfl⟩
            case round =>
              obtain ⟨i, HI2, rfl, rfl, rfl⟩ := hrel
              have hi15 : i ≤ 15 := by have := HI2.out; omega
              by_cases hil : i < 15
              · have ci := hxr.cell (i + 1) (by omega)
                have hil2 : (i : Int) + 1 < 16 := by omega
                cases hls : lst e i with
                | false =>
                  have HS : Hid (Value.bool false = .bool (lst e (i + 1))) := Hid.mk (by unfold lst; rw [hls]; rfl)
                  go_wp2_with fail
                  go_roundg (15 - (i + 1))
                  case rel => exact ⟨i + 1, Hid.mk (by omega), HS.out, by go_num, rfl⟩
                  case measure => have := HI2.out; omega
                | true =>
                  by_cases h255 : e (i + 1) = 255
                  · have HS : Hid (Value.bool true = .bool (lst e (i + 1))) := Hid.mk (by unfold lst; rw [hls, decide_eq_true h255]; rfl)
                    go_wp2_with fail
                    go_roundg (15 - (i + 1))
                    case rel => exact ⟨i + 1, Hid.mk (by omega), HS.out, by go_num, rfl⟩
                    case measure => have := HI2.out; omega
                  · have HS : Hid (Value.bool false = .bool (lst e (i + 1))) := Hid.mk (by unfold lst; rw [hls, decide_eq_false h255]; rfl)
                    have hbe : (e (i + 1) == 255) = false := by simpa using h255
                    go_wp2_with fail
                    go_roundg (15 - (i + 1))
                    case rel => exact ⟨i + 1, Hid.mk (by omega), HS.out, by go_num, rfl⟩
                    case measure => have := HI2.out; omega
              · have hi2 : i = 15 := by omega
                subst hi2
                cases hls : lst e 15 with
                | false =>
                  have HR : Hid (dval e m = V % P130) := Hid.mk (by
                    have h1 : ¬ P130 ≤ dval e m := fun h => by
                      have := HI.out.2 h
                      rw [(lst_iff e 15).2 this] at hls
                      cases hls
                    rw [← HP.out, Int.emod_eq_of_lt hX0 (by omega)])
                  go_wp2_with fail
                  go_ret
                  exact ⟨g, c, m, rfl, e, hm1, hm2, HD.out, HR.out, hO, hbo⟩
                | true =>
                  have hall := (lst_iff e 15).1 hls
                  exact absurd hall.1 h163
end Go.Proofs.YtbkbcfimpaolmaaGreat
/-
  Own text. Poly1305 by numbers: r, s, the blocks, the mark.
-/
namespace Go.Proofs.YtbkbcfimpaolmaaGreat
open Go.RowKit Go.Proofs
set_option maxRecDepth 100000
/-- Digit i of r. -/
def rdig (key : Nat → Int) (i : Nat) : Int := if i % 4 = 3 then key i % 16 else if 0 < i ∧ i % 4 = 0 then key i / 4 * 4 else key i
def rN (key : Nat → Int) : Int := dval (rdig key) 16
def sN (key : Nat → Int) : Int := dval (fun i => key (16 + i)) 16
theorem rdig_b {key : Nat → Int} (hk : Byts 32 key) : Dg 256 16 (rdig key) := fun i hi => by
  have := hk i (by omega)
  unfold rdig
  split
  · omega
  · split <;> omega
/-- The number of a block: n bytes from at on, and a byte 1 behind them. -/
def blkN (f : Nat → Int) (at' n : Nat) : Int := dval (fun i => f (at' + i)) n + 256 ^ n
/-- What has come together behind k blocks. -/
def accN (r : Int) (f : Nat → Int) (L : Nat) : Nat → Int
  | 0 => 0
  | k + 1 => (accN r f L k + blkN f (16 * k) (min 16 (L - 16 * k))) * r % P130
theorem accN_b (r : Int) (f : Nat → Int) (L k : Nat) : 0 ≤ accN r f L k ∧ accN r f L k < P130 := by
  cases k with
  | zero =>
    refine ⟨Int.le_refl _, ?_⟩
    show (0 : Int) < P130
    unfold P130
    decide
  | succ k => exact ⟨Int.emod_nonneg _ (by unfold P130; decide), Int.emod_lt_of_pos _ (by unfold P130; decide)⟩
/-- The mark, as a number. -/
def markN (key : Nat → Int) (f : Nat → Int) (L : Nat) : Int := (accN (rN key) f L ((L + 15) / 16) + sN key) % 340282366920938463463374607431768211456
/-- Digit i of a number. -/
def digN (X : Int) (i : Nat) : Int := X / 256 ^ i % 256
theorem digN_b (X : Int) (i : Nat) : 0 ≤ digN X i ∧ digN X i < 256 := by unfold digN; omega
theorem dig_of {e : Nat → Int} : ∀ {m : Nat}, Dg 256 m e → ∀ i, i < m → e i = digN (dval e m) i
  | 0, _, i, h => by omega
  | m + 1, he, i, h => by
    have hs := dval_shift e i (m + 1 - i)
    rw [show i + (m + 1 - i) = m + 1 by omega] at hs
    have h1 := dval_nonneg (s := e) (n := i) (fun j hj => (he j (by omega)).1)
    have h2 := dval_lt (s := e) (n := i) (fun j hj => he j (by omega))
    have h3 := dval_shift (fun j => e (i + j)) 1 (m - i)
    rw [show 1 + (m - i) = m + 1 - i by omega] at h3
    have h4 : dval (fun j => e (i + j)) 1 = e i := by simp [dval]
    rw [h4] at h3
    unfold digN
    rw [hs, Int.add_mul_ediv_left _ _ (Int.ne_of_gt (p256 i)), Int.ediv_eq_zero_of_lt h1 h2, Int.zero_add, h3]
    have h5 := he i h
    simp only [Int.pow_succ, Int.pow_zero, Int.one_mul]
    omega
theorem dval_high {e : Nat → Int} {m : Nat} (hm : 17 ≤ m) (he : Dg 256 m e) (hX : dval e m < W130) : dval e m = dval e 17 ∧ ∀ i, 17 ≤ i → i < m → e i = 0 := by
  have key : ∀ i, 17 ≤ i → i < m → e i = 0 := fun i h1 h2 => by
    have h3 := dval_one (s := e) (fun j hj => (he j hj).1) h2
    have h4 := he i h2
    rcases Int.lt_or_le 0 (e i) with h | h
    · exfalso
      have h5 : (256 : Int) ^ 17 ≤ 256 ^ i := by
        obtain ⟨d, hd⟩ : ∃ d, i = 17 + d := ⟨i - 17, by omega⟩
        rw [hd, Int.pow_add]
        have := p256 d
        have h6 : (256 : Int) ^ 17 * 1 ≤ 256 ^ 17 * 256 ^ d := Int.mul_le_mul_of_nonneg_left (by omega) (by decide)
        omega
      have h6 : (256 : Int) ^ i * 1 ≤ 256 ^ i * e i := Int.mul_le_mul_of_nonneg_left (by omega) (Int.le_of_lt (p256 i))
      have h7 : (256 : Int) ^ 17 = 87112285931760246646623899502532662132736 := by decide
      unfold W130 at hX
      omega
    · omega
  exact ⟨dval_tail hm (fun i h1 h2 => key i h1 h2), key⟩
/-- Adding a digit at a place. -/
theorem dval_add {s : Nat → Int} {i n : Nat} {v : Int} (h : i < n) : dval (upd s i (s i + v)) n = dval s n + 256 ^ i * v := by
  rw [dval_upd h, show s i + v - s i = v by omega]
/-- Digits of a sum as they come together: the first j of g added. -/
def addd (s g : Nat → Int) (j : Nat) (i : Nat) : Int := if i < j then s i + g i else s i
theorem addd_step (s g : Nat → Int) (j : Nat) : upd (addd s g j) j (addd s g j j + g j) = addd s g (j + 1) := by
  funext i
  unfold upd addd
  by_cases e : i = j
  · subst e; simp
  · rw [if_neg e]
    by_cases h : i < j
    · rw [if_pos h, if_pos (by omega)]
    · rw [if_neg h, if_neg (by omega)]
theorem dval_addd {s g : Nat → Int} : ∀ {j n : Nat}, j ≤ n → dval (addd s g j) n = dval s n + dval g j
  | 0, n, _ => by rw [dval_congr (t := s) (fun i _ => by unfold addd; rw [if_neg (by omega)])]; simp [dval]
  | j + 1, n, h => by
    rw [← addd_step, dval_add (by omega), dval_addd (by omega)]
    show _ = dval s n + (dval g j + 256 ^ j * g j)
    omega
theorem mkI (n : Nat) (hn : n ≤ 1000000) (h : madeCells #[Value.int .i64 0] n = WA .i64 n (fun _ => 0)) (w : World) : (Instr.makeSlice 121 (.int .i64 (n : Int)) (.int .i64 (n : Int))).run Tryz.prog w = .ok (.slice (some ⟨w.heap.size, 0, none⟩) n n) (w.alloc (.cells (WA .i64 n fun _ => 0) 3)) := by
  have h1 := run_make_row' (P := Tryz.prog) 121 3 (.int .i64 0) 8 Tryz.underlying121 infoInt rfl .i64 .i64 n (by omega) (by omega) w
  rw [h] at h1
  exact h1
theorem mk16 (w : World) : (Instr.makeSlice 121 (.int .i64 16) (.int .i64 16)).run Tryz.prog w = .ok (.slice (some ⟨w.heap.size, 0, none⟩) 16 16) (w.alloc (.cells (WA .i64 16 fun _ => 0) 3)) := mkI 16 (by decide) (by kernel_rfl) w
theorem mk40 (w : World) : (Instr.makeSlice 121 (.int .i64 40) (.int .i64 40)).run Tryz.prog w = .ok (.slice (some ⟨w.heap.size, 0, none⟩) 40 40) (w.alloc (.cells (WA .i64 40 fun _ => 0) 3)) := mkI 40 (by decide) (by kernel_rfl) w
theorem mk_step {ops : Array Oper} {rest : List Oper} {d : Option Tmp} {t : TypeId} {ps : String} {af : Array Edge} {a : Act} {w : World} {Q : Exit → Act → World → Prop} {n : Nat} (hr : (Instr.makeSlice 121 (.int .i64 (n : Int)) (.int .i64 (n : Int))).run Tryz.prog w = .ok (.slice (some ⟨w.heap.size, 0, none⟩) n n) (w.alloc (.cells (WA .i64 n fun _ => 0) 3)))
    (h : ∀ w2, ArrAt w2 w.heap.size .i64 3 n (fun _ => 0) → Below w.heap.size w w2 → w2.heap.size = w.heap.size + 1 → wpList Tryz.prog ops Q rest (a.put d (.slice (some ⟨w.heap.size, 0, none⟩) n n)) w2) :
    wpList Tryz.prog ops Q ({ dst := d, op := .makeSlice 121 (.const (.int .i64 (n : Int))) (.const (.int .i64 (n : Int))), type := t, pos := ps, after := af, guard := none } :: rest) a w := by
  refine wl_act rfl ?_
  unfold Oper.wp execOp
  simp only [Act.eval, Sem.run_bind, hr, Result.andThen_ok, Sem.run_pure, Oper.upon]
  exact h _ (heap_alloc_new w _) ((Below.refl _ _).alloc (Nat.le_refl _) _) (by simp)
/-- The first i digits of r. -/
def rpart (key : Nat → Int) (i j : Nat) : Int := if j < i then rdig key j else 0
theorem rpart_step (key : Nat → Int) (i : Nat) (v : Int) (h : v = rdig key i) : upd (rpart key i) i v = rpart key (i + 1) := by
  subst h
  funext j
  unfold upd rpart
  by_cases e : j = i
  · subst e; simp
  · rw [if_neg e]
    by_cases h : j < i
    · rw [if_pos h, if_pos (by omega)]
    · rw [if_neg h, if_neg (by omega)]
theorem digN_mod (X : Int) (i : Nat) (h : i < 16) : digN (X % 340282366920938463463374607431768211456) i = digN X i := by
  unfold digN
  have e : (340282366920938463463374607431768211456 : Int) = 256 ^ i * (256 * 256 ^ (15 - i)) := by
    rw [← pow16, ← Int.mul_assoc, Int.mul_assoc, show (256 : Int) * 256 ^ (15 - i) = 256 ^ (16 - i) from by rw [show 16 - i = (15 - i) + 1 by omega, Int.pow_succ, Int.mul_comm], ← Int.pow_add]
    congr 1
    omega
  have h1 : X % 340282366920938463463374607431768211456 = X - 340282366920938463463374607431768211456 * (X / 340282366920938463463374607431768211456) := by omega
  generalize X / 340282366920938463463374607431768211456 = Y at h1
  rw [h1, e, Int.mul_assoc, show X - 256 ^ i * (256 * 256 ^ (15 - i) * Y) = X + 256 ^ i * (-(256 * 256 ^ (15 - i) * Y)) by rw [Int.mul_neg]; omega, Int.add_mul_ediv_left _ _ (Int.ne_of_gt (p256 i)), Int.mul_assoc]
  omega
/-- A product digit by digit. -/
theorem prod_step (z h r : Nat → Int) (R : Int) (i k : Nat) (hik : i + k < 40) (hz : dval z 40 = dval h i * R + 256 ^ i * (h i * dval r k)) : dval (upd z (i + k) (z (i + k) + h i * r k)) 40 = dval h i * R + 256 ^ i * (h i * dval r (k + 1)) := by
  rw [dval_add hik, hz]
  show dval h i * R + 256 ^ i * (h i * dval r k) + 256 ^ (i + k) * (h i * r k) = dval h i * R + 256 ^ i * (h i * (dval r k + 256 ^ k * r k))
  rw [Int.mul_add, Int.mul_add, Int.pow_add, Int.mul_assoc, ← Int.mul_assoc (256 ^ k), Int.mul_comm (256 ^ k) (h i), Int.mul_assoc]
  omega
theorem prod_row (h r : Nat → Int) (i : Nat) : dval h i * dval r 16 + 256 ^ i * (h i * dval r 16) = dval h (i + 1) * dval r 16 := by
  show _ = (dval h i + 256 ^ i * h i) * dval r 16
  rw [Int.add_mul, Int.mul_assoc]
theorem conv_b {n : Int} (h : 0 ≤ n ∧ n < 256) (w : World) : (convert 5 3 (.int .u8 n)).run Tryz.prog w = .ok (.int .i64 n) w := by
  simp [go_sem, i64_wrap (n := n) (by omega) (by omega)]
end Go.Proofs.YtbkbcfimpaolmaaGreat
/-
  Own text. Digits to the base 2^26 as functions: their number, carries, products by 2^130 - 5. No program is named here.
-/
namespace Go.Proofs.YtbkbcfimpaolmaaGreat
open Go.RowKit Go.Proofs
set_option maxRecDepth 100000
/-- The number of the first n digits to the base 2^26, the lowest first. -/
def qv (s : Nat → Int) : Nat → Int
  | 0 => 0
  | n + 1 => qv s n + 67108864 ^ n * s n
theorem pQ (n : Nat) : (0 : Int) < 67108864 ^ n := Int.pow_pos (by decide)
theorem qv_congr {s t : Nat → Int} : ∀ {n : Nat}, (∀ i, i < n → s i = t i) → qv s n = qv t n
  | 0, _ => rfl
  | n + 1, h => by unfold qv; rw [qv_congr (fun i hi => h i (by omega)), h n (by omega)]
theorem qv_nonneg {s : Nat → Int} : ∀ {n : Nat}, (∀ i, i < n → 0 ≤ s i) → 0 ≤ qv s n
  | 0, _ => by simp [qv]
  | n + 1, h => by
    have h1 := qv_nonneg (n := n) (fun i hi => h i (by omega))
    have h2 := Int.mul_nonneg (Int.le_of_lt (pQ n)) (h n (by omega))
    unfold qv; omega
theorem qv_upd {s : Nat → Int} {i : Nat} {v : Int} : ∀ {n : Nat}, i < n → qv (upd s i v) n = qv s n + 67108864 ^ i * (v - s i)
  | 0, h => by omega
  | n + 1, h => by
    unfold qv
    by_cases e : i = n
    · subst e
      rw [qv_congr (t := s) (fun j hj => by unfold upd; rw [if_neg (by omega)])]
      unfold upd
      rw [if_pos rfl, Int.mul_sub]
      omega
    · rw [qv_upd (by omega)]
      unfold upd
      rw [if_neg (fun h => e h.symm)]
      omega
theorem qv_add {s : Nat → Int} {i n : Nat} {v : Int} (h : i < n) : qv (upd s i (s i + v)) n = qv s n + 67108864 ^ i * v := by
  rw [qv_upd h, show s i + v - s i = v by omega]
theorem qv_shift (s : Nat → Int) (a : Nat) : ∀ (n : Nat), qv s (a + n) = qv s a + 67108864 ^ a * qv (fun j => s (a + j)) n
  | 0 => by simp [qv]
  | n + 1 => by
    show qv s (a + n) + 67108864 ^ (a + n) * s (a + n) = qv s a + 67108864 ^ a * (qv (fun j => s (a + j)) n + 67108864 ^ n * s (a + n))
    rw [qv_shift s a n, Int.mul_add, Int.pow_add, Int.mul_assoc]
    omega
/-- Five digits, written out. -/
theorem qv5 (s : Nat → Int) : qv s 5 = s 0 + 67108864 * s 1 + 4503599627370496 * s 2 + 302231454903657293676544 * s 3 + 20282409603651670423947251286016 * s 4 := by
  simp only [qv, Int.reducePow, Int.pow_zero, Int.one_mul]
  omega
/-- What is carried into digit i. -/
def cc (x : Nat → Int) : Nat → Int
  | 0 => 0
  | i + 1 => (x i + cc x i) / 67108864
def cd (x : Nat → Int) (i : Nat) : Int := (x i + cc x i) % 67108864
theorem cd_b (x : Nat → Int) (i : Nat) : 0 ≤ cd x i ∧ cd x i < 67108864 := by unfold cd; omega
theorem cc_b {x : Nat → Int} {n : Nat} (hx : Dg 9223372036854775808 n x) : ∀ i, i ≤ n → 0 ≤ cc x i ∧ cc x i < 274877906944
  | 0, _ => by simp [cc]
  | i + 1, h => by
    have ih := cc_b hx i (by omega)
    have h1 := hx i (by omega)
    show 0 ≤ (x i + cc x i) / 67108864 ∧ (x i + cc x i) / 67108864 < 274877906944
    omega
theorem qv_cd (x : Nat → Int) : ∀ n, qv (cd x) n + 67108864 ^ n * cc x n = qv x n
  | 0 => by simp [qv, cc]
  | n + 1 => by
    have ih := qv_cd x n
    show qv (cd x) n + 67108864 ^ n * cd x n + 67108864 ^ (n + 1) * ((x n + cc x n) / 67108864) = qv x n + 67108864 ^ n * x n
    have e : cd x n + 67108864 * ((x n + cc x n) / 67108864) = x n + cc x n := by unfold cd; omega
    rw [Int.pow_succ, Int.mul_assoc]
    generalize (x n + cc x n) / 67108864 = q at *
    have e2 : (67108864 : Int) ^ n * (cd x n + 67108864 * q) = 67108864 ^ n * (x n + cc x n) := by rw [e]
    rw [Int.mul_add, Int.mul_add] at e2
    omega
theorem q5 : (67108864 : Int) ^ 5 = W130 := by decide
theorem cd_lt (x : Nat → Int) : 0 ≤ qv (cd x) 5 ∧ qv (cd x) 5 < W130 := by
  have h0 := cd_b x 0
  have h1 := cd_b x 1
  have h2 := cd_b x 2
  have h3 := cd_b x 3
  have h4 := cd_b x 4
  rw [qv5]
  unfold W130
  omega
theorem cd_num (x : Nat → Int) : qv (cd x) 5 = qv x 5 % W130 ∧ cc x 5 = qv x 5 / W130 := by
  have h := qv_cd x 5
  have hb := cd_lt x
  rw [q5] at h
  unfold W130 at *
  omega
/-- Sums of a block and what has come together. -/
structure Sm (x : Nat → Int) : Prop where
  a : ∀ i, i < 5 → 0 ≤ x i
  b : ∀ i, i < 5 → i ≠ 1 → x i < 67108864
  c : x 1 < 67141632
theorem Sm.dg {x : Nat → Int} (h : Sm x) : Dg 67141632 5 x := fun i hi => ⟨h.a i hi, by
  by_cases e : i = 1
  · subst e; exact h.c
  · have := h.b i hi e; omega⟩
theorem Sm.of {x : Nat → Int} (h : Dg 67108864 5 x) : Sm x := ⟨fun i hi => (h i hi).1, fun i hi _ => (h i hi).2, by have := h 1 (by omega); omega⟩
theorem Sm.lt {x : Nat → Int} (h : Sm x) : 0 ≤ qv x 5 ∧ qv x 5 < W130 + 4398046511104 := by
  have h0 := h.b 0 (by omega) (by omega)
  have h2 := h.b 2 (by omega) (by omega)
  have h3 := h.b 3 (by omega) (by omega)
  have h4 := h.b 4 (by omega) (by omega)
  have h1 := h.c
  have k0 := h.a 0 (by omega)
  have k1 := h.a 1 (by omega)
  have k2 := h.a 2 (by omega)
  have k3 := h.a 3 (by omega)
  have k4 := h.a 4 (by omega)
  rw [qv5]
  unfold W130
  omega
/-- The first k digits of two added. -/
def qadd (x y : Nat → Int) (k i : Nat) : Int := if i < k then x i + y i else x i
theorem qadd_step (s g : Nat → Int) (j : Nat) : upd (qadd s g j) j (qadd s g j j + g j) = qadd s g (j + 1) := by
  funext i
  unfold upd qadd
  by_cases e : i = j
  · subst e; simp
  · rw [if_neg e]
    by_cases h : i < j
    · rw [if_pos h, if_pos (by omega)]
    · rw [if_neg h, if_neg (by omega)]
theorem qv_sum (x y : Nat → Int) : ∀ n, qv (fun i => x i + y i) n = qv x n + qv y n
  | 0 => rfl
  | n + 1 => by
    have ih := qv_sum x y n
    unfold qv
    rw [ih, Int.mul_add]
    omega
theorem qprod_step (z h r : Nat → Int) (R : Int) (i k : Nat) (hik : i + k < 10) (hz : qv z 10 = qv h i * R + 67108864 ^ i * (h i * qv r k)) : qv (upd z (i + k) (z (i + k) + h i * r k)) 10 = qv h i * R + 67108864 ^ i * (h i * qv r (k + 1)) := by
  rw [qv_add hik, hz]
  show qv h i * R + 67108864 ^ i * (h i * qv r k) + 67108864 ^ (i + k) * (h i * r k) = qv h i * R + 67108864 ^ i * (h i * (qv r k + 67108864 ^ k * r k))
  rw [Int.mul_add, Int.mul_add, Int.pow_add, Int.mul_assoc, ← Int.mul_assoc (67108864 ^ k), Int.mul_comm (67108864 ^ k) (h i), Int.mul_assoc]
  omega
theorem qprod_row (h r : Nat → Int) (i : Nat) : qv h i * qv r 5 + 67108864 ^ i * (h i * qv r 5) = qv h (i + 1) * qv r 5 := by
  show _ = (qv h i + 67108864 ^ i * h i) * qv r 5
  rw [Int.add_mul, Int.mul_assoc]
/-- The first k digits of the folded product. -/
def fold5 (z : Nat → Int) (k i : Nat) : Int := if i < k then z i + 5 * z (i + 5) else 0
theorem fold5_step (z : Nat → Int) (k : Nat) : upd (fold5 z k) k (z k + 5 * z (k + 5)) = fold5 z (k + 1) := by
  funext i
  unfold upd fold5
  by_cases e : i = k
  · subst e; simp
  · rw [if_neg e]
    by_cases h : i < k
    · rw [if_pos h, if_pos (by omega)]
    · rw [if_neg h, if_neg (by omega)]
theorem fold5_num (z : Nat → Int) : qv z 10 = qv (fold5 z 5) 5 + P130 * qv (fun j => z (5 + j)) 5 := by
  have h := qv_shift z 5 5
  rw [q5] at h
  rw [show (5 + 5 : Nat) = 10 from rfl] at h
  rw [h, qv5 z, qv5 (fun j => z (5 + j)), qv5 (fold5 z 5)]
  simp only [fold5, show (0 : Nat) < 5 from by decide, show (1 : Nat) < 5 from by decide, show (2 : Nat) < 5 from by decide, show (3 : Nat) < 5 from by decide, show (4 : Nat) < 5 from by decide, if_true, Nat.add_zero, Nat.zero_add, Nat.reduceAdd]
  unfold W130 P130
  omega
/-- The last steps of a product: what went beyond 2^130 comes back five times. -/
def back5 (x : Nat → Int) (i : Nat) : Int := if i = 0 then (cd x 0 + 5 * cc x 5) % 67108864 else if i = 1 then cd x 1 + (cd x 0 + 5 * cc x 5) / 67108864 else cd x i
theorem back5_num {x : Nat → Int} : ∃ q, qv x 5 = qv (back5 x) 5 + P130 * q := by
  have h := qv_cd x 5
  rw [q5, qv5 (cd x)] at h
  refine ⟨cc x 5, ?_⟩
  rw [qv5 (back5 x)]
  simp only [back5, if_true, show (1 : Nat) ≠ 0 from by decide, show (2 : Nat) ≠ 0 from by decide, show (3 : Nat) ≠ 0 from by decide, show (4 : Nat) ≠ 0 from by decide, show (2 : Nat) ≠ 1 from by decide, show (3 : Nat) ≠ 1 from by decide, show (4 : Nat) ≠ 1 from by decide, if_false]
  unfold W130 at h
  unfold P130
  omega
theorem back5_sm {x : Nat → Int} (hx : Dg 9223372036854775808 5 x) : Sm (back5 x) := by
  have hc := cc_b hx 5 (Nat.le_refl _)
  have h0 := cd_b x 0
  have h1 := cd_b x 1
  refine ⟨fun i hi => ?_, fun i hi h => ?_, ?_⟩
  · have := cd_b x i
    unfold back5
    split
    · omega
    · split <;> omega
  · have := cd_b x i
    unfold back5
    rw [if_neg h]
    split <;> omega
  · show cd x 1 + (cd x 0 + 5 * cc x 5) / 67108864 < 67141632
    omega
theorem back5_upd (x : Nat → Int) (i : Nat) : upd (upd (upd (cd x) 0 (cd x 0 + 5 * cc x 5)) 1 (cd x 1 + (cd x 0 + 5 * cc x 5) / 67108864)) 0 ((cd x 0 + 5 * cc x 5) % 67108864) i = back5 x i := by
  unfold upd back5
  by_cases e0 : i = 0
  · simp only [e0, if_true]
  · by_cases e1 : i = 1
    · simp only [e1, if_true, if_neg (show ¬ (1 = 0) by decide)]
    · simp only [if_neg e0, if_neg e1]
theorem ediv0 {a b : Int} (h0 : 0 ≤ a) (h1 : a < b) : a / b = 0 ∧ a % b = a := ⟨Int.ediv_eq_zero_of_lt h0 h1, Int.emod_eq_of_lt h0 h1⟩
theorem ediv1 {a b : Int} (h0 : b ≤ a) (h1 : a < b + b) : a / b = 1 ∧ a % b = a - b := by
  have hb : 0 < b := by omega
  have e : a = (a - b) + b * 1 := by omega
  have e2 := Int.add_mul_ediv_left (a - b) 1 (show b ≠ 0 by omega)
  have e3 := Int.add_mul_emod_self_left (a - b) b 1
  rw [← e] at e2 e3
  have h := ediv0 (a := a - b) (b := b) (by omega) (by omega)
  omega
theorem least_arith {X : Int} (h0 : 0 ≤ X) (h1 : X < W130 + 4398046511104) :
    ((X % W130 + 5 * (X / W130)) % W130 + 5 * (((X % W130 + 5 * (X / W130)) % W130 + 5) / W130)) % W130 = X % P130 := by
  have hW : W130 = P130 + 5 := by decide
  have hP : 4398046511104 + 1000 < P130 := by decide
  generalize W130 = W at *
  generalize P130 = P at *
  by_cases c : X < W
  · obtain ⟨a1, a2⟩ := ediv0 h0 c
    rw [a1, a2, show X + 5 * 0 = X by omega, a2]
    by_cases d : X + 5 < W
    · rw [(ediv0 (by omega) d).1, show X + 5 * 0 = X by omega, a2, (ediv0 h0 (show X < P by omega)).2]
    · rw [(ediv1 (a := X + 5) (b := W) (by omega) (by omega)).1, show X + 5 * 1 = X + 5 by omega, (ediv1 (a := X + 5) (b := W) (by omega) (by omega)).2, (ediv1 (a := X) (b := P) (by omega) (by omega)).2]
      omega
  · obtain ⟨a1, a2⟩ := ediv1 (a := X) (b := W) (by omega) (by omega)
    rw [a1, a2, (ediv0 (a := X - W + 5 * 1) (b := W) (by omega) (by omega)).2, (ediv0 (a := X - W + 5 * 1 + 5) (b := W) (by omega) (by omega)).1, (ediv0 (a := X - W + 5 * 1 + 5 * 0) (b := W) (by omega) (by omega)).2, (ediv1 (a := X) (b := P) (by omega) (by omega)).2]
    omega
/-- The least number that stands for the same. -/
theorem least_num {x x1 rc x3 : Nat → Int} (h : Sm x) (h1 : x1 = upd (cd x) 0 (cd x 0 + 5 * cc x 5)) (hr : rc = upd (cd x1) 0 (cd x1 0 + 5)) (h3 : x3 = upd (cd x1) 0 (cd x1 0 + 5 * cc rc 5)) : qv (cd x3) 5 = qv x 5 % P130 := by
  have hX := h.lt
  have e1 : qv x1 5 = qv (cd x) 5 + 5 * cc x 5 := by rw [h1, qv_add (by decide)]; simp
  have e2 : qv rc 5 = qv (cd x1) 5 + 5 := by rw [hr, qv_add (by decide)]; simp
  have e3 : qv x3 5 = qv (cd x1) 5 + 5 * cc rc 5 := by rw [h3, qv_add (by decide)]; simp
  have n0 := cd_num x
  have n1 := cd_num x1
  have n2 := cd_num rc
  have n3 := cd_num x3
  rw [n3.1, e3, n2.2, e2, n1.1, e1, n0.1, n0.2]
  exact least_arith hX.1 hX.2
theorem cd0_dg {x : Nat → Int} {v : Int} (h0 : 0 ≤ v) (h1 : v < 9223372036854775808) : Dg 9223372036854775808 5 (upd (cd x) 0 v) := fun i _ => by
  have := cd_b x i
  unfold upd
  split <;> omega
end Go.Proofs.YtbkbcfimpaolmaaGreat
/-
  Own text. What carried of package poly answers: a contract over the translation.
-/
namespace Go.Proofs.YtbkbcfimpaolmaaGreat
open Go.RowKit Go.Proofs
set_option maxRecDepth 100000
theorem isL : IsArr 147 5 := ⟨_, _, Tryz.underlying147, by kernel_rfl⟩
theorem isS2 : IsArr 150 2 := ⟨_, _, Tryz.underlying150, by kernel_rfl⟩
theorem isW10 : IsArr 163 10 := ⟨_, _, Tryz.underlying163, by kernel_rfl⟩
theorem isM17 : IsArr 166 17 := ⟨_, _, Tryz.underlying166, by kernel_rfl⟩
theorem w64 {z : Int} (h0 : 0 ≤ z) (h1 : z < 18446744073709551616) : IntKind.u64.wrap z = z := by rw [IntKind.wrap_u64]; omega
theorem and26 {z : Int} (h0 : 0 ≤ z) (h1 : z < 18446744073709551616) : bits BinOp.and IntKind.u64 z 67108863 = z % 67108864 := by
  obtain ⟨n, rfl⟩ := Int.eq_ofNat_of_zero_le h0
  rw [show (67108863 : Int) = ((67108863 : Nat) : Int) from rfl, bits_and_u64_nat _ _ (by omega) (by omega)]
  have := Nat.and_two_pow_sub_one_eq_mod n 26
  rw [show (2 ^ 26 - 1 : Nat) = 67108863 from rfl] at this
  rw [this]
  omega
/-- What carried has done by round i. -/
def cpart (x : Nat → Int) (i j : Nat) : Int := if j < i then cd x j else x j
theorem cpart_step (x : Nat → Int) (i : Nat) : upd (cpart x i) i (cd x i) = cpart x (i + 1) := by
  funext j
  unfold upd cpart
  by_cases e : j = i
  · subst e; simp
  · rw [if_neg e]
    by_cases h : j < i
    · rw [if_pos h, if_pos (by omega)]
    · rw [if_neg h, if_neg (by omega)]
set_option maxHeartbeats 4000000 in
theorem pcarried_run (x : Nat → Int) (w : World) (hx : Dg 9223372036854775808 5 x) :
    Calls Tryz.prog 118 #[.agg (WA .u64 5 x)] w fun e w' => e = .returned (.tuple #[.agg (WA .u64 5 (cd x)), .int .u64 (cc x 5)]) ∧ Below w.heap.size w w' := by
  have g0 : ArrAt ((w.alloc (.cells (WA .u64 5 x) 147)).alloc (.cells (WA .u64 5 fun _ => 0) 147)) w.heap.size .u64 147 5 x := heap_alloc2_old w _ _
  have g1 : ArrAt ((w.alloc (.cells (WA .u64 5 x) 147)).alloc (.cells (WA .u64 5 fun _ => 0) 147)) (w.heap.size + 1) .u64 147 5 (fun _ => 0) := heap_alloc2_new w _ _
  have hB : Below w.heap.size w ((w.alloc (.cells (WA .u64 5 x) 147)).alloc (.cells (WA .u64 5 fun _ => 0) 147)) := ((Below.refl _ w).alloc (by simp) _).alloc (by simp) _
  go_enter Tryz.func118, Tryz.ntmps118
  go_wp2_with fail
  go_loopg [4, 6] 5 (fun gm cv iv v => ∃ i : Nat, Hid (gm + i = 5) ∧ iv = .int .i64 (i : Int) ∧ cv = .int .u64 (cc x i) ∧ ArrAt v w.heap.size .u64 147 5 (cpart x i) ∧ ArrAt v (w.heap.size + 1) .u64 147 5 (fun _ => 0) ∧ Below w.heap.size w v)
  case atStart => exact ⟨0, Hid.mk rfl, rfl, rfl, g0, g1, hB⟩
  case round =>
    clear g0 g1 hB
    obtain ⟨i, HI, rfl, rfl, g0, g1, hB⟩ := hrel
    have hi5 : i ≤ 5 := by have := HI.out; omega
    by_cases hil : i < 5
    · have ck := g0.cell i (by omega)
      have fr := g0.free i
      have hxi := hx i hil
      have hci := cc_b hx i hi5
      have e0 : cpart x i i = x i := by unfold cpart; rw [if_neg (by omega)]
      rw [e0] at ck
      have hw := w64 (z := x i + cc x i) (by omega) (by omega)
      have ha := and26 (z := x i + cc x i) (by omega) (by omega)
      go_wp2_with fail
      go_roundg (5 - (i + 1))
      case rel =>
        refine ⟨i + 1, Hid.mk (by omega), by go_num, rfl, ?_, (g1.other _ (by omega)).other _ (by omega), Below.setCell (Below.setCell hB (by simp) _) (by simp) _⟩
        rw [← cpart_step x i, ← upd_upd _ i (x i + cc x i)]
        exact (g0.set i _ hil).set i _ hil
      case measure => have := HI.out; omega
    · have hi2 : i = 5 := by omega
      subst hi2
      replace g0 := g0.congr (s' := cd x) (fun j hj => by unfold cpart; rw [if_pos hj])
      go_wp2_with (first | refine ld_arr isL g0 (by rfl) ?_ | (refine st_arr isL g1 (by rfl) (by rfl) ?_; intro w2 g2 o2; refine Hid.out ?_))
      refine Hid.mk ?_
      go_wp2_with fail
      refine bodyPost_ret (v := .tuple #[.agg (WA .u64 5 (cd x)), .int .u64 (cc x 5)]) (results_cellt Tryz.results118 _ _ (w.heap.size + 1) (by rfl) (by rfl) (WA .u64 5 (cd x)) g2 (by kernel_rfl) Tryz.underlying147 rfl) rfl ⟨rfl, ?_⟩
      exact hB.trans (o2.below (by omega))
end Go.Proofs.YtbkbcfimpaolmaaGreat
/-
  Own text. What times of package poly answers: a contract over the translation.
-/
namespace Go.Proofs.YtbkbcfimpaolmaaGreat
open Go.RowKit Go.Proofs
set_option maxRecDepth 100000
/-- A product of digits, as it comes together. -/
structure Wide (x y : Nat → Int) (i j : Nat) (z : Nat → Int) : Prop where
  b : ∀ k, k < 10 → 0 ≤ z k ∧ z k ≤ ((5 * i + j : Nat) : Int) * 18014398509481984
  num : qv z 10 = qv x i * qv y 5 + 67108864 ^ i * (x i * qv y j)
theorem Wide.step {x y : Nat → Int} {i j : Nat} {z : Nat → Int} (h : Wide x y i j z) (hx : Dg 268435456 5 x) (hy : Dg 67108864 5 y) (hi : i < 5) (hj : j < 5) : Wide x y i (j + 1) (upd z (i + j) (z (i + j) + x i * y j)) ∧ 0 ≤ x i * y j ∧ x i * y j ≤ 18014398509481984 := by
  have h1 := hx i hi
  have h2 := hy j hj
  have p0 : 0 ≤ x i * y j := Int.mul_nonneg h1.1 h2.1
  have p1 : x i * y j ≤ 268435456 * 67108864 := Int.mul_le_mul (by omega) (by omega) h2.1 (by omega)
  refine ⟨⟨fun k hk => ?_, qprod_step z x y _ i j (by omega) h.num⟩, p0, by omega⟩
  have hb := h.b k hk
  unfold upd
  split
  · rename_i e; subst e; omega
  · omega
theorem Wide.row {x y : Nat → Int} {i : Nat} {z : Nat → Int} (h : Wide x y i 5 z) : Wide x y (i + 1) 0 z := by
  refine ⟨fun k hk => ?_, ?_⟩
  · have := h.b k hk; omega
  · rw [h.num, qprod_row]; simp [qv]
theorem wide_z (w : World) : (zeroValue 163).run Tryz.prog w = .ok (.agg (WA .u64 10 fun _ => 0)) w := by kernel_rfl
set_option maxHeartbeats 8000000 in
theorem ptimes_run (x y : Nat → Int) (w : World) (hx : Dg 268435456 5 x) (hy : Dg 67108864 5 y) :
    Calls Tryz.prog 112 #[.agg (WA .u64 5 x), .agg (WA .u64 5 y)] w fun e w' => ∃ z, Sm z ∧ (∃ q, qv x 5 * qv y 5 = qv z 5 + P130 * q) ∧ e = .returned (.agg (WA .u64 5 z)) ∧ Below w.heap.size w w' := by
  have g0 : ArrAt ((((w.alloc (.cells (WA .u64 5 x) 147)).alloc (.cells (WA .u64 5 y) 147)).alloc (.cells (WA .u64 5 fun _ => 0) 147)).alloc (.cells (WA .u64 10 fun _ => 0) 163)) w.heap.size .u64 147 5 x := (show ArrAt (((w.alloc (.cells (WA .u64 5 x) 147)).alloc (.cells (WA .u64 5 y) 147)).alloc (.cells (WA .u64 5 fun _ => 0) 147)) w.heap.size .u64 147 5 x from heap_a31 w _ _ _).alloc _
  have g1 : ArrAt ((((w.alloc (.cells (WA .u64 5 x) 147)).alloc (.cells (WA .u64 5 y) 147)).alloc (.cells (WA .u64 5 fun _ => 0) 147)).alloc (.cells (WA .u64 10 fun _ => 0) 163)) (w.heap.size + 1) .u64 147 5 y := (show ArrAt (((w.alloc (.cells (WA .u64 5 x) 147)).alloc (.cells (WA .u64 5 y) 147)).alloc (.cells (WA .u64 5 fun _ => 0) 147)) (w.heap.size + 1) .u64 147 5 y from heap_a32 w _ _ _).alloc _
  have g2 : ArrAt ((((w.alloc (.cells (WA .u64 5 x) 147)).alloc (.cells (WA .u64 5 y) 147)).alloc (.cells (WA .u64 5 fun _ => 0) 147)).alloc (.cells (WA .u64 10 fun _ => 0) 163)) (w.heap.size + 1 + 1) .u64 147 5 (fun _ => 0) := (show ArrAt (((w.alloc (.cells (WA .u64 5 x) 147)).alloc (.cells (WA .u64 5 y) 147)).alloc (.cells (WA .u64 5 fun _ => 0) 147)) (w.heap.size + 1 + 1) .u64 147 5 (fun _ => 0) from heap_a3 w _ _ _).alloc _
  have g3 : ArrAt ((((w.alloc (.cells (WA .u64 5 x) 147)).alloc (.cells (WA .u64 5 y) 147)).alloc (.cells (WA .u64 5 fun _ => 0) 147)).alloc (.cells (WA .u64 10 fun _ => 0) 163)) (w.heap.size + 1 + 1 + 1) .u64 163 10 (fun _ => 0) := heap_a4 w _ _ _ _
  have hB : Below w.heap.size w ((((w.alloc (.cells (WA .u64 5 x) 147)).alloc (.cells (WA .u64 5 y) 147)).alloc (.cells (WA .u64 5 fun _ => 0) 147)).alloc (.cells (WA .u64 10 fun _ => 0) 163)) := ((((Below.refl _ w).alloc (by simp) _).alloc (by simp) _).alloc (by simp; omega) _).alloc (by simp; omega) _
  have HX := Hid.mk hx
  have HY := Hid.mk hy
  clear hx hy
  go_enter Tryz.func112, Tryz.ntmps112
  go_wp2_with fail
  go_loopg [11] 5 (fun gm iv v => ∃ (i : Nat) (z : Nat → Int), Hid (gm + i = 5) ∧ iv = .int .i64 (i : Int) ∧ Hid (Wide x y i 0 z) ∧ ArrAt v (w.heap.size + 1 + 1 + 1) .u64 163 10 z ∧ ArrAt v w.heap.size .u64 147 5 x ∧ ArrAt v (w.heap.size + 1) .u64 147 5 y ∧ ArrAt v (w.heap.size + 1 + 1) .u64 147 5 (fun _ => 0) ∧ Below w.heap.size w v)
  case atStart => exact ⟨0, fun _ => 0, Hid.mk rfl, rfl, Hid.mk ⟨fun k _ => by show 0 ≤ (0 : Int) ∧ (0 : Int) ≤ _; omega, by simp [qv]⟩, g3, g0, g1, g2, hB⟩
  case round =>
    clear g0 g1 g2 g3 hB
    obtain ⟨i, z, HI, rfl, HW, g3, g0, g1, g2, hB⟩ := hrel
    have hi5 : i ≤ 5 := by have := HI.out; omega
    by_cases hil : i < 5
    · have hdi : decide ((i : Int) < 5) = true := decide_eq_true (by omega)
      go_wp2_with fail
      generalize wr = wy at *
      generalize gk = gy at *
      go_loopg [14] 5 (fun gm jv v => ∃ (j : Nat) (z : Nat → Int), Hid (gm + j = 5) ∧ jv = .int .i64 (j : Int) ∧ Hid (Wide x y i j z) ∧ ArrAt v (w.heap.size + 1 + 1 + 1) .u64 163 10 z ∧ ArrAt v w.heap.size .u64 147 5 x ∧ ArrAt v (w.heap.size + 1) .u64 147 5 y ∧ ArrAt v (w.heap.size + 1 + 1) .u64 147 5 (fun _ => 0) ∧ Below w.heap.size w v)
      case atStart => exact ⟨0, z, Hid.mk rfl, rfl, HW, g3, g0, g1, g2, hB⟩
      case round =>
        clear g0 g1 g2 g3 hB HW
        obtain ⟨j, z, HJ, rfl, HW, g3, g0, g1, g2, hB⟩ := hrel
        have hj5 : j ≤ 5 := by have := HJ.out; omega
        by_cases hjl : j < 5
        · have cz := g3.cell (i + j) (by omega)
          have fz := g3.free (i + j)
          have cx := g0.cell i hil
          have cy := g1.cell j hjl
          obtain ⟨hst, hp0, hp1⟩ := HW.out.step HX.out HY.out hil hjl
          have HST := Hid.mk hst
          clear hst
          have hzb := HW.out.b (i + j) (by omega)
          have g32 := Hid.mk (g3.set (i + j) (z (i + j) + x i * y j) (by omega))
          obtain ⟨pr, hpr2⟩ : ∃ pr, x i * y j = pr := ⟨_, rfl⟩
          rw [hpr2] at HST hp0 hp1 g32
          generalize hx1 : z (i + j) = x1 at *
          generalize hx2 : x i = x2 at *
          generalize hx3 : y j = x3 at *
          have hw1 := w64 (z := pr) (by omega) (by omega)
          have hw2 := w64 (z := x1 + pr) (by omega) (by omega)
          have hijb : (i : Int) + (j : Int) < 10 := by omega
          clear hzb
          go_wp2_with fail
          go_region
          go_wp2_with fail
          go_roundg (5 - (j + 1))
          case rel => exact ⟨j + 1, _, Hid.mk (by omega), by go_num, HST, g32.out, g0.other _ (by omega), g1.other _ (by omega), g2.other _ (by omega), (Below.setCell hB (p := ⟨w.heap.size + 1 + 1 + 1, i + j, none⟩) (by simp; omega) _).drew⟩
          case measure => have := HJ.out; omega
        · have hj2 : j = 5 := by omega
          subst hj2
          have HW2 := Hid.mk HW.out.row
          clear HW HJ hjl hj5
          go_wp2_with fail
          go_roundg (5 - (i + 1))
          case rel => exact ⟨i + 1, z, Hid.mk (by omega), by go_num, HW2, g3, g0, g1, g2, hB⟩
          case measure => have := HI.out; omega
    · have hi2 : i = 5 := by omega
      subst hi2
      have HZB : Hid (∀ k, k < 10 → 0 ≤ z k ∧ z k ≤ 450359962737049600) := Hid.mk (fun k hk => by have := HW.out.b k hk; omega)
      have HN : Hid (qv x 5 * qv y 5 = qv z 10) := Hid.mk (by rw [HW.out.num]; simp [qv])
      clear HW HI hil hi5
      have gn : ∀ o, o = Obj.cells (WA .u64 5 fun _ => 0) 147 (0, 0) → ArrAt (wr.alloc o) wr.heap.size .u64 147 5 (fun _ => 0) := fun o ho => by rw [ho]; exact heap_alloc_new wr _
      have hz3 := g3.lt
      have hBS := hB.size
      generalize gk = gz at *
      generalize wr = wz at *
      go_wp2_with fail
      go_loopg [33] 5 (fun gm iv v => ∃ i : Nat, Hid (gm + i = 5) ∧ iv = .int .i64 (i : Int) ∧ ArrAt v wz.heap.size .u64 147 5 (fold5 z i) ∧ ArrAt v (w.heap.size + 1 + 1 + 1) .u64 163 10 z ∧ ArrAt v (w.heap.size + 1 + 1) .u64 147 5 (fun _ => 0) ∧ Below w.heap.size w v)
      case atStart => exact ⟨0, Hid.mk rfl, rfl, (gn _ rfl).congr (fun j _ => by unfold fold5; rw [if_neg (by omega)]), g3.alloc _, g2.alloc _, hB.alloc (by omega) _⟩
      case round =>
        clear g0 g1 g2 g3 hB gn
        obtain ⟨i, HI, rfl, g4, g3, g2, hB⟩ := hrel
        have hi5 : i ≤ 5 := by have := HI.out; omega
        by_cases hil : i < 5
        · have c0 := g3.cell i (by omega)
          have c5 := g3.cell (i + 5) (by omega)
          have c4 := g4.cell i hil
          have f4 := g4.free i
          have hb0 := HZB.out i (by omega)
          have hb5 := HZB.out (i + 5) (by omega)
          have g42 := Hid.mk (g4.set i (z i + 5 * z (i + 5)) hil)
          rw [fold5_step] at g42
          have hi10 : (i : Int) + 5 < 10 := by omega
          have hi10' : (i : Int) < 10 := by omega
          generalize hx1 : z i = x1 at *
          generalize hx2 : z (i + 5) = x2 at *
          have hw1 := w64 (z := 5 * x2) (by omega) (by omega)
          have hw2 := w64 (z := x1 + 5 * x2) (by omega) (by omega)
          go_wp2_with fail
          go_region
          go_wp2_with fail
          go_roundg (5 - (i + 1))
          case rel => exact ⟨i + 1, Hid.mk (by omega), by go_num, g42.out, g3.other _ (by omega), g2.other _ (by omega), (Below.setCell hB (p := ⟨wz.heap.size, i, none⟩) (by simp; omega) _).drew⟩
          case measure => have := HI.out; omega
        · have hi2 : i = 5 := by omega
          subst hi2
          have HF : Hid (Dg 9223372036854775808 5 (fold5 z 5)) := Hid.mk (fun k hk => by
            have h1 := HZB.out k (by omega)
            have h2 := HZB.out (k + 5) (by omega)
            unfold fold5
            rw [if_pos hk]
            omega)
          have HQ := Hid.mk (And.intro (fold5_num z) (back5_num (x := fold5 z 5)))
          generalize fold5 z 5 = f at *
          clear HI hil hi5
          go_wp2_with (refine ld_arr isL g4 (by rfl) ?_)
          refine (pcarried_run f wr HF.out).mono ?_
          rintro e v5 ⟨rfl, hb5⟩
          have hz4 := g4.lt
          replace g4 := g4.kept hb5
          replace g2 := g2.kept hb5
          replace hB := hB.trans (hb5.mono hB.size)
          clear g3 hb5
          go_wp2_with (refine st_arr isL g4 (by rfl) (by rfl) ?_; intro w6 g5 o5; refine Hid.out ?_)
          replace g2 := g2.only o5 (by omega)
          replace hB := hB.trans (o5.below (by omega))
          clear o5 g4
          have hc := cc_b HF.out 5 (Nat.le_refl _)
          have h0 := cd_b f 0
          have h1 := cd_b f 1
          have c0 := g5.cell 0 (by decide)
          have c1 := g5.cell 1 (by decide)
          have f0 := g5.free 0
          have f1 := g5.free 1
          have gF := (((g5.set 0 (cd f 0 + 5 * cc f 5) (by decide)).set 1 (cd f 1 + (cd f 0 + 5 * cc f 5) / 67108864) (by decide)).set 0 ((cd f 0 + 5 * cc f 5) % 67108864) (by decide)).congr (s' := back5 f) (fun i _ => back5_upd f i)
          have hBF := Below.setCell (p := ⟨wz.heap.size, 0, none⟩) (Below.setCell (p := ⟨wz.heap.size, 1, none⟩) (Below.setCell (p := ⟨wz.heap.size, 0, none⟩) hB (by simp; omega) (.int .u64 (cd f 0 + 5 * cc f 5))) (by simp; omega) (.int .u64 (cd f 1 + (cd f 0 + 5 * cc f 5) / 67108864))) (by simp; omega) (.int .u64 ((cd f 0 + 5 * cc f 5) % 67108864))
          have gR := ((g2.other (g := wz.heap.size) (i := 0) (.int .u64 (cd f 0 + 5 * cc f 5)) (by omega)).other (g := wz.heap.size) (i := 1) (.int .u64 (cd f 1 + (cd f 0 + 5 * cc f 5) / 67108864)) (by omega)).other (g := wz.heap.size) (i := 0) (.int .u64 ((cd f 0 + 5 * cc f 5) % 67108864)) (by omega)
          have hF := back5_sm HF.out
          clear g2 hB g5
          generalize cd f 0 = d0 at *
          generalize cd f 1 = d1 at *
          generalize cc f 5 = c5 at *
          have hw1 := w64 (z := 5 * c5) (by omega) (by omega)
          have hw2 := w64 (z := d0 + 5 * c5) (by omega) (by omega)
          have hw3 := w64 (z := d1 + (d0 + 5 * c5) / 67108864) (by omega) (by omega)
          have ha := and26 (z := d0 + 5 * c5) (by omega) (by omega)
          refine Hid.mk ?_
          go_wp2_with (first | refine ld_arr isL gF (by rfl) ?_ | (refine st_arr isL gR (by rfl) (by rfl) ?_; intro w7 g7 o7; refine Hid.out ?_))
          refine Hid.mk ?_
          go_wp2_with fail
          refine bodyPost_ret (v := .agg (WA .u64 5 (back5 f))) (res_arr Tryz.results112 isL g7 (by rfl)) rfl ⟨back5 f, hF, ?_, rfl, hBF.trans (o7.below (by omega))⟩
          obtain ⟨q, hq⟩ := HQ.out.2
          refine ⟨q + qv (fun j => z (5 + j)) 5, ?_⟩
          rw [HN.out, HQ.out.1, hq, Int.mul_add]
          omega
end Go.Proofs.YtbkbcfimpaolmaaGreat
/-
  Own text. What least of package poly answers: a contract over the translation.
-/
namespace Go.Proofs.YtbkbcfimpaolmaaGreat
open Go.RowKit Go.Proofs
set_option maxRecDepth 100000
set_option maxHeartbeats 8000000 in
theorem pleast_run (x : Nat → Int) (w : World) (hx : Sm x) :
    Calls Tryz.prog 115 #[.agg (WA .u64 5 x)] w fun e w' => ∃ z, Dg 67108864 5 z ∧ qv z 5 = qv x 5 % P130 ∧ e = .returned (.agg (WA .u64 5 z)) ∧ Below w.heap.size w w' := by
  have g0 : ArrAt ((w.alloc (.cells (WA .u64 5 x) 147)).alloc (.cells (WA .u64 5 fun _ => 0) 147)) w.heap.size .u64 147 5 x := heap_alloc2_old w _ _
  have g1 : ArrAt ((w.alloc (.cells (WA .u64 5 x) 147)).alloc (.cells (WA .u64 5 fun _ => 0) 147)) (w.heap.size + 1) .u64 147 5 (fun _ => 0) := heap_alloc2_new w _ _
  have hB : Below w.heap.size w ((w.alloc (.cells (WA .u64 5 x) 147)).alloc (.cells (WA .u64 5 fun _ => 0) 147)) := ((Below.refl _ w).alloc (by simp) _).alloc (by simp) _
  obtain ⟨x1, h1⟩ : ∃ x1, x1 = upd (cd x) 0 (cd x 0 + 5 * cc x 5) := ⟨_, rfl⟩
  obtain ⟨rc, hr⟩ : ∃ rc, rc = upd (cd x1) 0 (cd x1 0 + 5) := ⟨_, rfl⟩
  obtain ⟨x3, h3⟩ : ∃ x3, x3 = upd (cd x1) 0 (cd x1 0 + 5 * cc rc 5) := ⟨_, rfl⟩
  have HN := Hid.mk (least_num hx h1 hr h3)
  have dx : Dg 9223372036854775808 5 x := fun i hi => by have := hx.dg i hi; omega
  have hcx := cc_b dx 5 (Nat.le_refl _)
  have hd := cd_b x 0
  have d1 : Dg 9223372036854775808 5 x1 := by rw [h1]; exact cd0_dg (by omega) (by omega)
  have hd1 := cd_b x1 0
  have dr : Dg 9223372036854775808 5 rc := by rw [hr]; exact cd0_dg (by omega) (by omega)
  have hcr := cc_b dr 5 (Nat.le_refl _)
  have d3 : Dg 9223372036854775808 5 x3 := by rw [h3]; exact cd0_dg (by omega) (by omega)
  have hw1 := w64 (z := 5 * cc x 5) (by omega) (by omega)
  have hw2 := w64 (z := cd x 0 + 5 * cc x 5) (by omega) (by omega)
  have hw3 := w64 (z := cd x1 0 + 5) (by omega) (by omega)
  have hw4 := w64 (z := 5 * cc rc 5) (by omega) (by omega)
  have hw5 := w64 (z := cd x1 0 + 5 * cc rc 5) (by omega) (by omega)
  have HD := Hid.mk (And.intro dx (And.intro d1 (And.intro dr d3)))
  have H1 := Hid.mk h1
  have HR := Hid.mk hr
  have H3 := Hid.mk h3
  clear dx d1 dr d3 hd hd1 hcx hcr h1 hr h3 hx
  go_enter Tryz.func115, Tryz.ntmps115
  go_wp2_with (refine ld_arr isL g0 (by rfl) ?_)
  refine (pcarried_run x _ HD.out.1).mono ?_
  rintro e v1 ⟨rfl, hb⟩
  replace g0 := g0.kept hb
  replace g1 := g1.kept hb
  replace hB := hB.trans (hb.mono hB.size)
  clear hb
  go_wp2_with (refine st_arr isL g0 (by rfl) (by rfl) ?_; intro v2 g2 o2; refine Hid.out ?_)
  replace g0 := g2
  replace g1 := g1.only o2 (by omega)
  replace hB := hB.trans (o2.below (Nat.le_refl _))
  clear o2 g2
  have c0 := g0.cell 0 (by decide)
  have f0 := g0.free 0
  replace g0 := g0.set 0 (cd x 0 + 5 * cc x 5) (by decide)
  rw [← H1.out] at g0
  replace g1 := g1.other (g := w.heap.size) (i := 0) (.int .u64 (cd x 0 + 5 * cc x 5)) (by omega)
  replace hB := Below.setCell (p := ⟨w.heap.size, 0, none⟩) hB (by simp) (.int .u64 (cd x 0 + 5 * cc x 5))
  refine Hid.mk ?_
  go_wp2_with (refine ld_arr isL g0 (by rfl) ?_)
  refine (pcarried_run x1 _ HD.out.2.1).mono ?_
  rintro e v3 ⟨rfl, hb⟩
  clear c0 f0
  replace g0 := g0.kept hb
  replace g1 := g1.kept hb
  replace hB := hB.trans (hb.mono hB.size)
  clear hb
  go_wp2_with (refine st_arr isL g0 (by rfl) (by rfl) ?_; intro v4 g2 o2; refine Hid.out ?_)
  replace g0 := g2
  replace g1 := g1.only o2 (by omega)
  replace hB := hB.trans (o2.below (Nat.le_refl _))
  clear o2 g2
  have gn : ∀ o, o = Obj.cells (WA .u64 5 fun _ => 0) 147 (0, 0) → ArrAt (v4.alloc o) v4.heap.size .u64 147 5 (fun _ => 0) := fun o ho => by rw [ho]; exact heap_alloc_new v4 _
  have hz := g1.lt
  refine Hid.mk ?_
  go_wp2_with (first | refine ld_arr isL g0 (by rfl) ?_ | (refine st_arr isL (gn _ rfl) (by rfl) (by rfl) ?_; intro v5 g2 o2; refine Hid.out ?_))
  replace g0 := (g0.alloc _).only o2 (by omega)
  replace g1 := (g1.alloc _).only o2 (by omega)
  have hz2 := hB.size
  replace hB := (hB.alloc (by omega) _).trans (o2.below (by omega))
  clear o2
  clear gn
  have c0 := g2.cell 0 (by decide)
  have f0 := g2.free 0
  replace g2 := g2.set 0 (cd x1 0 + 5) (by decide)
  rw [← HR.out] at g2
  replace g0 := g0.other (g := v4.heap.size) (i := 0) (.int .u64 (cd x1 0 + 5)) (by omega)
  replace g1 := g1.other (g := v4.heap.size) (i := 0) (.int .u64 (cd x1 0 + 5)) (by omega)
  replace hB := Below.setCell (p := ⟨v4.heap.size, 0, none⟩) hB (by simp; omega) (.int .u64 (cd x1 0 + 5))
  refine Hid.mk ?_
  go_wp2_with (refine ld_arr isL g2 (by rfl) ?_)
  refine (pcarried_run rc _ HD.out.2.2.1).mono ?_
  rintro e v6 ⟨rfl, hb⟩
  clear c0 f0 g2
  replace g0 := g0.kept hb
  replace g1 := g1.kept hb
  replace hB := hB.trans (hb.mono hB.size)
  clear hb
  have c0 := g0.cell 0 (by decide)
  have f0 := g0.free 0
  replace g0 := g0.set 0 (cd x1 0 + 5 * cc rc 5) (by decide)
  rw [← H3.out] at g0
  replace g1 := g1.other (g := w.heap.size) (i := 0) (.int .u64 (cd x1 0 + 5 * cc rc 5)) (by omega)
  replace hB := Below.setCell (p := ⟨w.heap.size, 0, none⟩) hB (by simp) (.int .u64 (cd x1 0 + 5 * cc rc 5))
  go_wp2_with (refine ld_arr isL g0 (by rfl) ?_)
  refine (pcarried_run x3 _ HD.out.2.2.2).mono ?_
  rintro e v7 ⟨rfl, hb⟩
  clear c0 f0
  replace g0 := g0.kept hb
  replace g1 := g1.kept hb
  replace hB := hB.trans (hb.mono hB.size)
  clear hb
  go_wp2_with (refine st_arr isL g0 (by rfl) (by rfl) ?_; intro v8 g2 o2; refine Hid.out ?_)
  replace g0 := g2
  replace g1 := g1.only o2 (by omega)
  replace hB := hB.trans (o2.below (Nat.le_refl _))
  clear o2 g2
  refine Hid.mk ?_
  go_wp2_with (first | refine ld_arr isL g0 (by rfl) ?_ | (refine st_arr isL g1 (by rfl) (by rfl) ?_; intro v9 g2 o2; refine Hid.out ?_))
  refine Hid.mk ?_
  go_wp2_with fail
  exact bodyPost_ret (v := .agg (WA .u64 5 (cd x3))) (res_arr Tryz.results115 isL g2 (by rfl)) rfl ⟨cd x3, fun i _ => cd_b x3 i, HN.out, rfl, hB.trans (o2.below (by omega))⟩
end Go.Proofs.YtbkbcfimpaolmaaGreat
/-
  Own text. What word, putWord and limbsOf of package poly answer: contracts over the translation.
-/
namespace Go.Proofs.YtbkbcfimpaolmaaGreat
open Go.RowKit Go.Proofs
set_option maxRecDepth 100000
def Byte (x : Int) : Prop := 0 ≤ x ∧ x < 256
theorem or_shift (a b : Int) (k : Nat) (ha : 0 ≤ a) (hb : 0 ≤ b) (hk : a < 2 ^ k) (hs : a + b * 2 ^ k < 18446744073709551616) :
    bits BinOp.or IntKind.u64 a (b * 2 ^ k) = a + b * 2 ^ k := by
  obtain ⟨A, rfl⟩ := Int.eq_ofNat_of_zero_le ha
  obtain ⟨B, rfl⟩ := Int.eq_ofNat_of_zero_le hb
  have e : ((B : Int) * 2 ^ k) = ((B * 2 ^ k : Nat) : Int) := by rw [Int.natCast_mul, Int.natCast_pow]; rfl
  have hA : A < 2 ^ k := by exact_mod_cast hk
  rw [e] at hs ⊢
  rw [bits_or_u64_nat _ _ (by omega) (by omega), Nat.or_comm, Nat.mul_comm, ← Nat.two_pow_add_eq_or_of_lt hA B]
  omega
theorem wrap_u64_id (z : Int) (h0 : 0 ≤ z) (h1 : z < 18446744073709551616) : IntKind.u64.wrap z = z := w64 h0 h1
theorem or_256 (a b : Int) (ha : 0 ≤ a) (h : a < 256) (hb : Byte b) : bits BinOp.or IntKind.u64 a (IntKind.u64.wrap (IntKind.u64.wrap b * 256)) = a + b * 256 := by
  unfold Byte at hb
  rw [wrap_u64_id b (by omega) (by omega), wrap_u64_id _ (by omega) (by omega)]
  exact or_shift a b 8 ha hb.1 h (by omega)
theorem word_num (x0 x1 x2 x3 x4 x5 x6 x7 : Int) (h0 : Byte x0) (h1 : Byte x1) (h2 : Byte x2) (h3 : Byte x3) (h4 : Byte x4) (h5 : Byte x5) (h6 : Byte x6) (h7 : Byte x7) :
    bits BinOp.or IntKind.u64
      (bits BinOp.or IntKind.u64
        (bits BinOp.or IntKind.u64
          (bits BinOp.or IntKind.u64
            (bits BinOp.or IntKind.u64
              (bits BinOp.or IntKind.u64
                (bits BinOp.or IntKind.u64 (IntKind.u64.wrap x0)
                  (IntKind.u64.wrap (IntKind.u64.wrap x1 * 256)))
                (IntKind.u64.wrap (IntKind.u64.wrap x2 * 65536)))
              (IntKind.u64.wrap (IntKind.u64.wrap x3 * 16777216)))
            (IntKind.u64.wrap (IntKind.u64.wrap x4 * 4294967296)))
          (IntKind.u64.wrap (IntKind.u64.wrap x5 * 1099511627776)))
        (IntKind.u64.wrap (IntKind.u64.wrap x6 * 281474976710656)))
      (IntKind.u64.wrap (IntKind.u64.wrap x7 * 72057594037927936)) =
    x0 + x1 * 256 + x2 * 65536 + x3 * 16777216 + x4 * 4294967296 + x5 * 1099511627776 + x6 * 281474976710656 + x7 * 72057594037927936 := by
  unfold Byte at *
  rw [wrap_u64_id x0 (by omega) (by omega), wrap_u64_id x1 (by omega) (by omega), wrap_u64_id x2 (by omega) (by omega), wrap_u64_id x3 (by omega) (by omega),
    wrap_u64_id x4 (by omega) (by omega), wrap_u64_id x5 (by omega) (by omega), wrap_u64_id x6 (by omega) (by omega), wrap_u64_id x7 (by omega) (by omega)]
  rw [wrap_u64_id (x1 * 256) (by omega) (by omega), wrap_u64_id (x2 * 65536) (by omega) (by omega), wrap_u64_id (x3 * 16777216) (by omega) (by omega),
    wrap_u64_id (x4 * 4294967296) (by omega) (by omega), wrap_u64_id (x5 * 1099511627776) (by omega) (by omega), wrap_u64_id (x6 * 281474976710656) (by omega) (by omega), wrap_u64_id (x7 * 72057594037927936) (by omega) (by omega)]
  rw [show bits BinOp.or IntKind.u64 x0 (x1 * 256) = x0 + x1 * 256 from or_shift _ _ 8 (by omega) (by omega) (by omega) (by omega)]
  rw [show bits BinOp.or IntKind.u64 (x0 + x1 * 256) (x2 * 65536) = x0 + x1 * 256 + x2 * 65536 from or_shift _ _ 16 (by omega) (by omega) (by omega) (by omega)]
  rw [show bits BinOp.or IntKind.u64 (x0 + x1 * 256 + x2 * 65536) (x3 * 16777216) = x0 + x1 * 256 + x2 * 65536 + x3 * 16777216 from or_shift _ _ 24 (by omega) (by omega) (by omega) (by omega)]
  rw [show bits BinOp.or IntKind.u64 (x0 + x1 * 256 + x2 * 65536 + x3 * 16777216) (x4 * 4294967296) = x0 + x1 * 256 + x2 * 65536 + x3 * 16777216 + x4 * 4294967296 from or_shift _ _ 32 (by omega) (by omega) (by omega) (by omega)]
  rw [show bits BinOp.or IntKind.u64 (x0 + x1 * 256 + x2 * 65536 + x3 * 16777216 + x4 * 4294967296) (x5 * 1099511627776) = x0 + x1 * 256 + x2 * 65536 + x3 * 16777216 + x4 * 4294967296 + x5 * 1099511627776 from or_shift _ _ 40 (by omega) (by omega) (by omega) (by omega)]
  rw [show bits BinOp.or IntKind.u64 (x0 + x1 * 256 + x2 * 65536 + x3 * 16777216 + x4 * 4294967296 + x5 * 1099511627776) (x6 * 281474976710656) = x0 + x1 * 256 + x2 * 65536 + x3 * 16777216 + x4 * 4294967296 + x5 * 1099511627776 + x6 * 281474976710656 from or_shift _ _ 48 (by omega) (by omega) (by omega) (by omega)]
  exact or_shift _ _ 56 (by omega) (by omega) (by omega) (by omega)
/-- Eight bytes, the lowest first, as a number. -/
def V8 (x0 x1 x2 x3 x4 x5 x6 x7 : Int) : Int := x0 + x1 * 256 + x2 * 65536 + x3 * 16777216 + x4 * 4294967296 + x5 * 1099511627776 + x6 * 281474976710656 + x7 * 72057594037927936
theorem ret_int {k : IntKind} {a b : Int} (h : a = b) : Ending.returned (.int k a) = .returned (.int k b) := by rw [h]
set_option maxHeartbeats 1000000 in
theorem word_any (b off cap : Nat) (x0 x1 x2 x3 x4 x5 x6 x7 : Int) (w : World) (h0 : Byte x0) (h1 : Byte x1) (h2 : Byte x2) (h3 : Byte x3) (h4 : Byte x4) (h5 : Byte x5) (h6 : Byte x6) (h7 : Byte x7)
    (c0 : w.cell? ⟨b, off, none⟩ = some (.int .u8 x0)) (c1 : w.cell? ⟨b, off + 1, none⟩ = some (.int .u8 x1))
    (c2 : w.cell? ⟨b, off + 2, none⟩ = some (.int .u8 x2)) (c3 : w.cell? ⟨b, off + 3, none⟩ = some (.int .u8 x3))
    (c4 : w.cell? ⟨b, off + 4, none⟩ = some (.int .u8 x4)) (c5 : w.cell? ⟨b, off + 5, none⟩ = some (.int .u8 x5))
    (c6 : w.cell? ⟨b, off + 6, none⟩ = some (.int .u8 x6)) (c7 : w.cell? ⟨b, off + 7, none⟩ = some (.int .u8 x7)) :
    Calls Tryz.prog 106 #[.slice (some ⟨b, off, none⟩) 8 cap] w fun e w' => e = .returned (.int .u64 (V8 x0 x1 x2 x3 x4 x5 x6 x7)) ∧ ∃ n, w' = w.drewN n := by
  go_enter Tryz.func106, Tryz.ntmps106
  go_wp2
  go_quiet (fail)
  go_wp2
  go_ret
  exact ⟨ret_int (word_num x0 x1 x2 x3 x4 x5 x6 x7 h0 h1 h2 h3 h4 h5 h6 h7), _, rfl⟩
theorem V8_dval (s : Nat → Int) : V8 (s 0) (s 1) (s 2) (s 3) (s 4) (s 5) (s 6) (s 7) = dval s 8 := by
  simp only [dval, V8, Int.reducePow, Int.pow_zero]
  omega
theorem pword_run (b off cap : Nat) (s : Nat → Int) (w : World) (hs : Byts 8 s) (hc : ∀ j, j < 8 → w.cell? ⟨b, off + j, none⟩ = some (.int .u8 (s j))) :
    Calls Tryz.prog 106 #[.slice (some ⟨b, off, none⟩) 8 cap] w fun e w' => e = .returned (.int .u64 (dval s 8)) ∧ Below w.heap.size w w' := by
  rw [← V8_dval]
  refine (word_any b off cap _ _ _ _ _ _ _ _ w (hs 0 (by decide)) (hs 1 (by decide)) (hs 2 (by decide)) (hs 3 (by decide)) (hs 4 (by decide)) (hs 5 (by decide)) (hs 6 (by decide)) (hs 7 (by decide))
    (hc 0 (by decide)) (hc 1 (by decide)) (hc 2 (by decide)) (hc 3 (by decide)) (hc 4 (by decide)) (hc 5 (by decide)) (hc 6 (by decide)) (hc 7 (by decide))).mono ?_
  rintro e w' ⟨rfl, n, rfl⟩
  exact ⟨rfl, ⟨rfl, rfl, rfl, Nat.le_refl _, fun _ _ => rfl⟩⟩
theorem dval8_b {s : Nat → Int} (hs : Byts 8 s) : 0 ≤ dval s 8 ∧ dval s 8 < 18446744073709551616 := by
  have h1 := dval_nonneg (s := s) (n := 8) (fun i hi => (hs i hi).1)
  have h2 := dval_lt (s := s) (n := 8) hs
  rw [show (256 : Int) ^ 8 = 18446744073709551616 from by decide] at h2
  exact ⟨h1, h2⟩
/-- Five numbers as a row. -/
def pk5 (a0 a1 a2 a3 a4 : Int) : Nat → Int
  | 0 => a0
  | 1 => a1
  | 2 => a2
  | 3 => a3
  | 4 => a4
  | _ => 0
theorem or_and (low high : Int) (hl : 0 ≤ low ∧ low < 18446744073709551616) :
    bits BinOp.and IntKind.u64 (bits BinOp.or IntKind.u64 (low / 4503599627370496) (IntKind.u64.wrap (high * 4096))) 67108863 = low / 4503599627370496 + high % 16384 * 4096 := by
  have e : IntKind.u64.wrap (high * 4096) = (high % 4503599627370496) * 2 ^ 12 := by rw [IntKind.wrap_u64]; omega
  rw [e, or_shift _ _ 12 (by omega) (by omega) (by omega) (by omega), and26 (by omega) (by omega)]
  omega
/-- The digits of low + high * 2^64 + top * 2^128. -/
def lofs (low high top : Int) : Nat → Int := pk5 (low % 67108864) (low / 67108864 % 67108864) (low / 4503599627370496 + high % 16384 * 4096) (high / 16384 % 67108864) (high / 1099511627776 + top * 16777216)
theorem lofs_dg {low high top : Int} (hl : 0 ≤ low ∧ low < 18446744073709551616) (hh : 0 ≤ high ∧ high < 18446744073709551616) (ht : 0 ≤ top ∧ top < 4) : Dg 67108864 5 (lofs low high top) := by
  intro i hi
  match i, hi with
  | 0, _ => show 0 ≤ low % 67108864 ∧ low % 67108864 < 67108864; omega
  | 1, _ => show 0 ≤ low / 67108864 % 67108864 ∧ low / 67108864 % 67108864 < 67108864; omega
  | 2, _ => show 0 ≤ low / 4503599627370496 + high % 16384 * 4096 ∧ low / 4503599627370496 + high % 16384 * 4096 < 67108864; omega
  | 3, _ => show 0 ≤ high / 16384 % 67108864 ∧ high / 16384 % 67108864 < 67108864; omega
  | 4, _ => show 0 ≤ high / 1099511627776 + top * 16777216 ∧ high / 1099511627776 + top * 16777216 < 67108864; omega
theorem lofs_num (low high top : Int) : qv (lofs low high top) 5 = low + 18446744073709551616 * high + 340282366920938463463374607431768211456 * top := by
  rw [qv5]
  simp only [lofs, pk5]
  omega
set_option maxHeartbeats 4000000 in
theorem limbsOf_run (low high top : Int) (w : World) (hl : 0 ≤ low ∧ low < 18446744073709551616) (hh : 0 ≤ high ∧ high < 18446744073709551616) (ht : 0 ≤ top ∧ top < 4) :
    Calls Tryz.prog 105 #[.int .u64 low, .int .u64 high, .int .u64 top] w fun e w' => e = .returned (.agg (WA .u64 5 (lofs low high top))) ∧ Below w.heap.size w w' := by
  go_enter Tryz.func105, Tryz.ntmps105
  go_wp2_with fail
  have e2 := or_and low high hl
  have e4 : bits BinOp.or IntKind.u64 (high / 1099511627776) (top * 16777216) = high / 1099511627776 + top * 16777216 := or_shift _ _ 24 (by omega) (by omega) (by omega) (by omega)
  have e0 := and26 (z := low) (by omega) (by omega)
  have e1 := and26 (z := low / 67108864) (by omega) (by omega)
  have e3 := and26 (z := high / 16384) (by omega) (by omega)
  rw [e0, e1, e2, e3, e4]
  exact bodyPost_ret (v := .agg (WA .u64 5 (lofs low high top))) (res_arr Tryz.results105 isL (show ArrAt _ w.heap.size .u64 147 5 (lofs low high top) from heap_alloc_new w _) (by rfl)) rfl ⟨rfl, (Below.refl _ w).alloc (Nat.le_refl _) _⟩
theorem dval_digN8 (lo hi : Int) (i : Nat) (h : i < 8) : digN lo i = digN (lo + 18446744073709551616 * hi) i := by
  unfold digN
  have e : (18446744073709551616 : Int) = 256 ^ i * (256 * 256 ^ (7 - i)) := by
    rw [show (18446744073709551616 : Int) = 256 ^ 8 by decide, ← Int.mul_assoc, Int.mul_assoc, show (256 : Int) * 256 ^ (7 - i) = 256 ^ (8 - i) from by rw [show 8 - i = (7 - i) + 1 by omega, Int.pow_succ, Int.mul_comm], ← Int.pow_add]
    congr 1
    omega
  rw [e, Int.mul_assoc, Int.add_mul_ediv_left _ _ (Int.ne_of_gt (p256 i)), Int.mul_assoc]
  omega
end Go.Proofs.YtbkbcfimpaolmaaGreat
/-
  Own text. What putWord and mark of package poly answer: contracts over the translation.
-/
namespace Go.Proofs.YtbkbcfimpaolmaaGreat
open Go.RowKit Go.Proofs
set_option maxRecDepth 100000
def U64 (x : Int) : Prop := 0 ≤ x ∧ x < 18446744073709551616
def Bit (c : Int) : Prop := c = 0 ∨ c = 1
/-- lo and hi are the low word and the carry of x + y + c. -/
def Sum3 (x y c lo hi : Int) : Prop := U64 lo ∧ Bit hi ∧ lo + 18446744073709551616 * hi = x + y + c
theorem add64_run (x y c : Int) (hx : U64 x) (hy : U64 y) (hc : Bit c) (w : World) :
    ∃ lo hi, Sum3 x y c lo hi ∧ (callFunc 116 #[.int .u64 x, .int .u64 y, .int .u64 c]).run Tryz.prog w =
      .ok (.value (.tuple #[.int .u64 lo, .int .u64 hi])) w := by
  unfold U64 at hx hy
  unfold Bit at hc
  refine ⟨(x + y + c) % 18446744073709551616, (x + y + c) / 18446744073709551616, ⟨⟨?_, ?_⟩, ?_, ?_⟩, ?_⟩
  · omega
  · omega
  · unfold Bit; omega
  · omega
  rw [run_callFunc_extern Tryz.func116 (by kernel_rfl) (by kernel_rfl) (by kernel_rfl) (e := add64Entry) (by kernel_rfl), run_add64 x y c (by omega) (by omega) (by omega) (by omega)]
  rfl
theorem add64_all {x y c : Int} (hx : U64 x) (hy : U64 y) (hc : Bit c) :
    ∃ lo hi, Sum3 x y c lo hi ∧ ∀ w, (callFunc 116 #[.int .u64 x, .int .u64 y, .int .u64 c]).run Tryz.prog w =
      .ok (.value (.tuple #[.int .u64 lo, .int .u64 hi])) w := by
  obtain ⟨lo, hi, hs, _⟩ := add64_run x y c hx hy hc default
  refine ⟨lo, hi, hs, fun w => ?_⟩
  obtain ⟨lo', hi', hs', e⟩ := add64_run x y c hx hy hc w
  have e1 : lo' = lo ∧ hi' = hi := by unfold Sum3 U64 Bit at hs hs'; omega
  rw [e, e1.1, e1.2]
set_option maxHeartbeats 1000000 in
theorem pputWord_walk (b off cap : Nat) (x : Int) (v0 v1 v2 v3 v4 v5 v6 v7 : Value) (w : World)
    (c0 : w.cell? ⟨b, off, none⟩ = some v0) (c1 : w.cell? ⟨b, off + 1, none⟩ = some v1)
    (c2 : w.cell? ⟨b, off + 2, none⟩ = some v2) (c3 : w.cell? ⟨b, off + 3, none⟩ = some v3)
    (c4 : w.cell? ⟨b, off + 4, none⟩ = some v4) (c5 : w.cell? ⟨b, off + 5, none⟩ = some v5)
    (c6 : w.cell? ⟨b, off + 6, none⟩ = some v6) (c7 : w.cell? ⟨b, off + 7, none⟩ = some v7)
    (f0 : w.frozen? ⟨b, off, none⟩ = false) (f1 : w.frozen? ⟨b, off + 1, none⟩ = false)
    (f2 : w.frozen? ⟨b, off + 2, none⟩ = false) (f3 : w.frozen? ⟨b, off + 3, none⟩ = false)
    (f4 : w.frozen? ⟨b, off + 4, none⟩ = false) (f5 : w.frozen? ⟨b, off + 5, none⟩ = false)
    (f6 : w.frozen? ⟨b, off + 6, none⟩ = false) (f7 : w.frozen? ⟨b, off + 7, none⟩ = false) :
    Calls Tryz.prog 117 #[.slice (some ⟨b, off, none⟩) 8 cap, .int .u64 x] w fun e w' => e = .returned (.tuple #[]) ∧
      w' = (((((((w.setCell ⟨b, off, none⟩ (.int .u8 (x % 256))).setCell ⟨b, off + 1, none⟩ (.int .u8 (x / 256 % 256))).setCell ⟨b, off + 2, none⟩ (.int .u8 (x / 65536 % 256))).setCell
        ⟨b, off + 3, none⟩ (.int .u8 (x / 16777216 % 256))).setCell ⟨b, off + 4, none⟩ (.int .u8 (x / 4294967296 % 256))).setCell ⟨b, off + 5, none⟩ (.int .u8 (x / 1099511627776 % 256))).setCell
        ⟨b, off + 6, none⟩ (.int .u8 (x / 281474976710656 % 256))).setCell ⟨b, off + 7, none⟩ (.int .u8 (x / 72057594037927936 % 256)) := by
  go_enter Tryz.func117, Tryz.ntmps117
  go_wp2
  go_end0
  exact ⟨rfl, rfl⟩
theorem pput_run (b off cap n : Nat) (x : Int) (s : Nat → Int) (t : TypeId) (w : World) (hg : ArrAt w b .u8 t n s) (ho : off + 8 ≤ n) :
    Calls Tryz.prog 117 #[.slice (some ⟨b, off, none⟩) 8 cap, .int .u64 x] w fun e w' => e = .returned (.tuple #[]) ∧ ArrAt w' b .u8 t n (over s off 8 (digN x)) ∧ Only b w w' := by
  refine (pputWord_walk b off cap x _ _ _ _ _ _ _ _ w (hg.cell _ (by omega)) (hg.cell _ (by omega)) (hg.cell _ (by omega)) (hg.cell _ (by omega)) (hg.cell _ (by omega)) (hg.cell _ (by omega)) (hg.cell _ (by omega)) (hg.cell _ (by omega)) (hg.free _) (hg.free _) (hg.free _) (hg.free _) (hg.free _) (hg.free _) (hg.free _) (hg.free _)).mono ?_
  rintro e w' ⟨rfl, rfl⟩
  refine ⟨rfl, ?_, ((((((((Only.refl b w).setCell _ _).setCell _ _).setCell _ _).setCell _ _).setCell _ _).setCell _ _).setCell _ _).setCell _ _⟩
  refine ((((((((hg.set off _ (by omega)).set (off + 1) _ (by omega)).set (off + 2) _ (by omega)).set (off + 3) _ (by omega)).set (off + 4) _ (by omega)).set (off + 5) _ (by omega)).set (off + 6) _ (by omega)).set (off + 7) _ (by omega)).congr ?_
  intro i _
  unfold over upd digN
  by_cases h : off ≤ i ∧ i < off + 8
  · obtain ⟨k, rfl⟩ : ∃ k, i = off + k := ⟨i - off, by omega⟩
    have hk : k < 8 := by omega
    rw [if_pos h, Nat.add_sub_cancel_left]
    match k, hk with
    | 0, _ => simp
    | 1, _ => simp
    | 2, _ => simp
    | 3, _ => simp
    | 4, _ => simp
    | 5, _ => simp
    | 6, _ => simp
    | 7, _ => simp
  · rw [if_neg h]
    rw [if_neg (by omega), if_neg (by omega), if_neg (by omega), if_neg (by omega), if_neg (by omega), if_neg (by omega), if_neg (by omega), if_neg (by omega)]
theorem mark_words (lo hi : Int) (hl : U64 lo) (i : Nat) (h : i < 16) : over (over (fun _ => 0) 0 8 (digN lo)) 8 8 (digN hi) i = digN (lo + 18446744073709551616 * hi) i := by
  unfold U64 at hl
  have e : (18446744073709551616 : Int) = 256 ^ 8 := by decide
  unfold over
  by_cases h8 : 8 ≤ i
  · rw [if_pos (by omega)]
    obtain ⟨k, rfl⟩ : ∃ k, i = 8 + k := ⟨i - 8, by omega⟩
    rw [Nat.add_sub_cancel_left]
    unfold digN
    rw [Int.pow_add, ← e, ← Int.ediv_ediv_of_nonneg (by omega), Int.add_mul_ediv_left _ _ (by omega), Int.ediv_eq_zero_of_lt hl.1 hl.2, Int.zero_add]
  · rw [if_neg (by omega), if_pos (by omega)]
    rw [Nat.sub_zero]
    have hd := dval_digN8 lo hi i (by omega)
    rw [hd]
set_option maxHeartbeats 8000000 in
theorem pmark_run (x s : Nat → Int) (w : World) (hx : Sm x) (hs0 : U64 (s 0)) (hs1 : U64 (s 1)) :
    Calls Tryz.prog 109 #[.agg (WA .u64 5 x), .agg (WA .u64 2 s)] w fun e w' => e = .returned (.agg (WA .u8 16 (digN ((qv x 5 % P130 + (s 0 + 18446744073709551616 * s 1)) % 340282366920938463463374607431768211456)))) ∧ Below w.heap.size w w' := by
  have g0 : ArrAt (((w.alloc (.cells (WA .u64 5 x) 147)).alloc (.cells (WA .u64 2 s) 150)).alloc (.cells (WA .u8 16 fun _ => 0) 92)) w.heap.size .u64 147 5 x := heap_a31 w _ _ _
  have g1 : ArrAt (((w.alloc (.cells (WA .u64 5 x) 147)).alloc (.cells (WA .u64 2 s) 150)).alloc (.cells (WA .u8 16 fun _ => 0) 92)) (w.heap.size + 1) .u64 150 2 s := heap_a32 w _ _ _
  have g2 : ArrAt (((w.alloc (.cells (WA .u64 5 x) 147)).alloc (.cells (WA .u64 2 s) 150)).alloc (.cells (WA .u8 16 fun _ => 0) 92)) (w.heap.size + 1 + 1) .u8 92 16 (fun _ => 0) := heap_a3 w _ _ _
  have hB : Below w.heap.size w (((w.alloc (.cells (WA .u64 5 x) 147)).alloc (.cells (WA .u64 2 s) 150)).alloc (.cells (WA .u8 16 fun _ => 0) 92)) := (((Below.refl _ w).alloc (by simp) _).alloc (by simp) _).alloc (by simp; omega) _
  go_enter Tryz.func109, Tryz.ntmps109
  go_wp2_with (refine ld_arr isL g0 (by rfl) ?_)
  refine (pleast_run x _ hx).mono ?_
  rintro e v1 ⟨z, hz, hq, rfl, hb⟩
  replace g0 := g0.kept hb
  replace g1 := g1.kept hb
  replace g2 := g2.kept hb
  replace hB := hB.trans (hb.mono hB.size)
  clear hb
  go_wp2_with (refine st_arr isL g0 (by rfl) (by rfl) ?_; intro v2 g3 o2; refine Hid.out ?_)
  replace g0 := g3
  replace g1 := g1.only o2 (by omega)
  replace g2 := g2.only o2 (by omega)
  replace hB := hB.trans (o2.below (Nat.le_refl _))
  clear o2 g3
  have c0 := g0.cell 0 (by decide)
  have c1 := g0.cell 1 (by decide)
  have c2 := g0.cell 2 (by decide)
  have c3 := g0.cell 3 (by decide)
  have c4 := g0.cell 4 (by decide)
  have d0 := g1.cell 0 (by decide)
  have d1 := g1.cell 1 (by decide)
  have z0 := hz 0 (by decide)
  have z1 := hz 1 (by decide)
  have z2 := hz 2 (by decide)
  have z3 := hz 3 (by decide)
  have z4 := hz 4 (by decide)
  rw [qv5] at hq
  have e1 := w64 (z := z 1 * 67108864) (by omega) (by omega)
  have e2 : IntKind.u64.wrap (z 2 * 4503599627370496) = (z 2 % 4096) * 4503599627370496 := by rw [IntKind.wrap_u64]; omega
  have e3 : bits BinOp.or IntKind.u64 (z 0) (z 1 * 67108864) = z 0 + z 1 * 67108864 := or_shift _ _ 26 (by omega) (by omega) (by omega) (by omega)
  have e4 : bits BinOp.or IntKind.u64 (z 0 + z 1 * 67108864) ((z 2 % 4096) * 4503599627370496) = z 0 + z 1 * 67108864 + (z 2 % 4096) * 4503599627370496 := or_shift _ _ 52 (by omega) (by omega) (by omega) (by omega)
  have e5 := w64 (z := z 3 * 16384) (by omega) (by omega)
  have e6 : IntKind.u64.wrap (z 4 * 1099511627776) = (z 4 % 16777216) * 1099511627776 := by rw [IntKind.wrap_u64]; omega
  have e7 : bits BinOp.or IntKind.u64 (z 2 / 4096) (z 3 * 16384) = z 2 / 4096 + z 3 * 16384 := or_shift _ _ 14 (by omega) (by omega) (by omega) (by omega)
  have e8 : bits BinOp.or IntKind.u64 (z 2 / 4096 + z 3 * 16384) ((z 4 % 16777216) * 1099511627776) = z 2 / 4096 + z 3 * 16384 + (z 4 % 16777216) * 1099511627776 := or_shift _ _ 40 (by omega) (by omega) (by omega) (by omega)
  obtain ⟨lo, ca, hlo, r1⟩ := add64_all (x := z 0 + z 1 * 67108864 + (z 2 % 4096) * 4503599627370496) (y := s 0) (c := 0) (by unfold U64; omega) hs0 (Or.inl rfl)
  obtain ⟨hi, cb, hhi, r2⟩ := add64_all (x := z 2 / 4096 + z 3 * 16384 + (z 4 % 16777216) * 1099511627776) (y := s 1) (c := ca) (by unfold U64; omega) hs1 hlo.2.1
  have HM : Hid ((qv x 5 % P130 + (s 0 + 18446744073709551616 * s 1)) % 340282366920938463463374607431768211456 = lo + 18446744073709551616 * hi) := Hid.mk (by
    obtain ⟨p1, p2, p3⟩ := hlo
    obtain ⟨q1, q2, q3⟩ := hhi
    unfold U64 at *
    unfold Bit at *
    rw [← hq]
    omega)
  have hlo' := Hid.mk hlo.1
  have gn : ∀ o, o = Obj.cells (WA .u8 16 fun _ => 0) 92 (0, 0) → ArrAt (v2.alloc o) v2.heap.size .u8 92 16 (fun _ => 0) := fun o ho => by rw [ho]; exact heap_alloc_new v2 _
  have hz2 := g2.lt
  clear hlo hhi z0 z1 z2 z3 z4 hs0 hs1 hq hz hx
  refine Hid.mk ?_
  go_wp2_with fail
  refine (pput_run v2.heap.size 0 _ 16 lo (fun _ => 0) 92 _ (gn _ rfl) (by decide)).mono ?_
  rintro e v3 ⟨rfl, g3, o3⟩
  replace g2 := (g2.alloc _).only o3 (by omega)
  have hBS := hB.size
  replace hB := (hB.alloc (by omega) _).trans (o3.below (by omega))
  clear o3 gn c0 c1 c2 c3 c4 d0 d1 g0 g1 r1 r2 e1 e2 e3 e4 e5 e6 e7 e8
  go_wp2_with fail
  refine (pput_run v2.heap.size 8 _ 16 hi _ 92 _ g3 (by decide)).mono ?_
  rintro e v4 ⟨rfl, g4, o4⟩
  replace g2 := g2.only o4 (by omega)
  replace hB := hB.trans (o4.below (by omega))
  replace g4 := g4.congr (s' := digN ((qv x 5 % P130 + (s 0 + 18446744073709551616 * s 1)) % 340282366920938463463374607431768211456)) (fun i hi => by rw [HM.out]; exact mark_words lo _ hlo'.out i hi)
  clear o4 g3
  go_wp2_with (first | refine ld_arr isArr16 g4 (by rfl) ?_ | (refine st_arr isArr16 g2 (by rfl) (by rfl) ?_; intro v5 g5 o5; refine Hid.out ?_))
  refine Hid.mk ?_
  go_wp2_with fail
  exact bodyPost_ret (res_arr Tryz.results109 isArr16 g5 (by rfl)) rfl ⟨rfl, hB.trans (o5.below (by omega))⟩
end Go.Proofs.YtbkbcfimpaolmaaGreat
