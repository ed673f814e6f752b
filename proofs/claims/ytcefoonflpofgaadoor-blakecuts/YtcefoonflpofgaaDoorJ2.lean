/-
  Own text. Slices of texts; texts one behind the other.
-/
import Derived.Test.YtcefoonflpofgaaDoorJ1
import Derived.Lib.AppendStr
import Derived.Laws.BytesArg
import Derived.Laws.AppendOwnNone
import Derived.Tactics
namespace Go.Proofs.YtcefoonflpofgaaDoor
open Go.RowKit Go.Proofs Go.Lib
/-- The texts of a row, one behind the other. -/
def joinB (ts : Nat → ByteArray) : Nat → ByteArray
  | 0 => ByteArray.empty
  | n + 1 => joinB ts n ++ ts n
theorem strCells_cat (s t : ByteArray) : strCells (s ++ t) = strCells s ++ strCells t := by
  simp [strCells, ByteArray.data_append]
theorem joinB_mono (ts : Nat → ByteArray) {i n : Nat} (h : i ≤ n) : (joinB ts i).size ≤ (joinB ts n).size := by
  induction h with
  | refl => exact Nat.le_refl _
  | step _ ih => refine Nat.le_trans ih ?_; rw [joinB, ByteArray.size_append]; omega
theorem strCells_nums (s : ByteArray) : strCells s = nums .u8 s.size (txt s) := by
  have h := nums_bytes (n := s.size) (f := txt s) (fun j _ => txt_b s j)
  rw [h]
  have e := congrArg (fun x => x.data.toList) (mkS_txt s)
  simp only [mkS] at e
  rw [e]
  rfl
/-- A slice of texts. -/
def Strs (w : World) (v : Value) (n : Nat) (ts : Nat → ByteArray) : Prop := ∃ a c, v = .slice a n c ∧ (0 < n → ∃ p, a = some p ∧ ∀ j, j < n → w.cell? (p.add j) = some (.string (ts j)))
theorem str_own {w : World} {v : Value} {s : ByteArray} {B : Nat} (h : w.ownsRow B 5 1 v s.size (strCells s)) : (convert 41 9 v).run Tryd.prog w = .ok (.string s) w := by
  by_cases h0 : 0 < s.size
  · rw [strCells_nums] at h
    obtain ⟨b, cp, rfl, _, _, hr⟩ := own_row h h0
    rw [str_back s.size b cp w s.size (txt s) hr (fun j _ => txt_b s j) rfl, mkS_txt]
  · have hz : s.size = 0 := by omega
    have hs : s = ByteArray.empty := by simpa using hz
    subst hs
    rcases h.2 with ⟨rfl, _⟩ | ⟨g, cap, cur, rfl, hb, hg, _⟩
    · exact run_convert_bytes_nil (P := Tryd.prog) w 41 5 Tryd.underlying41 Tryd.underlying5 0 0 9 Tryd.underlying9
    · have h := run_convert_bytes_back (P := Tryd.prog) w 41 9 5 ⟨g, 0, none⟩ cap [] Tryd.underlying41 Tryd.underlying5 Tryd.underlying9 (fun j hj => by simp at hj)
      exact h
theorem infoByte1 : ∃ i, Tryd.prog.info? 5 = some i ∧ i.zero = some (.int .u8 0) ∧ i.size = 1 ∧ i.bytes = 1 := by
  obtain ⟨i, h, a, b, c⟩ := info_parts infoByte
  exact ⟨i, h, a, b, c⟩
theorem txt_append (A B : ByteArray) (j : Nat) : txt (A ++ B) j = if j < A.size then txt A j else txt B (j - A.size) := by
  unfold txt
  rw [ByteArray.data_append, Array.toList_append]
  have hA : A.data.toList.length = A.size := by simp
  simp only [List.getD_eq_getElem?_getD]
  by_cases h : j < A.size
  · rw [if_pos h, List.getElem?_append_left (by rw [hA]; exact h)]
  · rw [if_neg h, List.getElem?_append_right (by rw [hA]; omega), hA]
/-- Bytes behind bytes, behind bytes. -/
theorem cat_join (n : Nat) (f : Nat → Int) (A B : ByteArray) : cat (n + A.size) (cat n f (txt A)) (txt B) = cat n f (txt (A ++ B)) := by
  funext j
  unfold cat
  rw [txt_append]
  by_cases h1 : j < n + A.size
  · rw [if_pos h1]
    by_cases h2 : j < n
    · rw [if_pos h2, if_pos h2]
    · rw [if_neg h2, if_neg h2, if_pos (by omega)]
  · rw [if_neg h1, if_neg (by omega), if_neg (by omega)]
    congr 1
    omega
theorem txt_empty (j : Nat) : txt ByteArray.empty j = 0 := by simp [txt]
theorem Strs.touch {w w' : World} {v : Value} {n : Nat} {ts : Nat → ByteArray} {b : Nat} (h : Strs w v n ts) (hb : ∀ p n' c, v = .slice (some p) n' c → p.block ≠ b) (ht : Touch (fun x => x = b) w w') : Strs w' v n ts := by
  obtain ⟨a, c, rfl, hp⟩ := h
  refine ⟨a, c, rfl, fun hn => ?_⟩
  obtain ⟨p, rfl, hc⟩ := hp hn
  refine ⟨p, rfl, fun j hj => ?_⟩
  have h0 := hc j hj
  have hl := World.block_lt_of_cell? _ _ h0
  have hpb : (p.add j).block = p.block := by unfold Addr.add; split <;> rfl
  have e := ht.block (p.add j).block hl (fun e => hb p n c rfl (by rw [← hpb]; exact e))
  rw [← h0]
  exact World.cell?_of_block (w := w) e
theorem Strs.kept {w w' : World} {v : Value} {n : Nat} {ts : Nat → ByteArray} (h : Strs w v n ts) (hk : ∀ k, k < w.heap.size → w'.heap[k]? = w.heap[k]?) : Strs w' v n ts := by
  obtain ⟨a, c, rfl, hp⟩ := h
  refine ⟨a, c, rfl, fun hn => ?_⟩
  obtain ⟨p, rfl, hc⟩ := hp hn
  refine ⟨p, rfl, fun j hj => ?_⟩
  have h0 := hc j hj
  rw [← h0]
  exact World.cell?_of_block (w := w) (hk _ (World.block_lt_of_cell? _ _ h0))
theorem Strs.below {w w' : World} {v : Value} {n : Nat} {ts : Nat → ByteArray} (h : Strs w v n ts) (hb : Below w.heap.size w w') : Strs w' v n ts := h.kept (fun k hk => hb.block k hk)
theorem belowT {B b : Nat} {u v w : World} (h : Below B u v) (ht : Touch (fun x => x = b) v w) (hb : B ≤ b) (hB : B ≤ u.heap.size) : Below B u w :=
  ⟨ht.os.trans h.os, ht.tape.trans h.tape, ht.output.trans h.output, Nat.le_trans h.size ht.size, fun k hk => (ht.block k (by have := h.size; omega) (by omega)).trans (h.block k hk)⟩
theorem ArrAt.touch {w w' : World} {g b : Nat} {k : IntKind} {t : TypeId} {n : Nat} {s : Nat → Int} (h : ArrAt w g k t n s) (ht : Touch (fun x => x = b) w w') (hg : g ≠ b) : ArrAt w' g k t n s := h.block (ht.block g h.lt hg)
theorem cat0 (f r : Nat → Int) : cat 0 f r = r := by
  funext i
  unfold cat
  rw [if_neg (by omega), Nat.sub_zero]
theorem run_bs1 (s : ByteArray) (w : World) : (Instr.buildSlice 22 1 #[(0, .string s)]).run Tryd.prog w = .ok (.slice (some ⟨w.heap.size, 0, none⟩) 1 1) (w.alloc (.cells #[.string s] 9)) := by simp [go_sem]
theorem run_bs2 (s t : ByteArray) (w : World) : (Instr.buildSlice 22 2 #[(0, .string s), (1, .string t)]).run Tryd.prog w = .ok (.slice (some ⟨w.heap.size, 0, none⟩) 2 2) (w.alloc (.cells #[.string s, .string t] 9)) := by simp [go_sem]
def one1 (s : ByteArray) : Nat → ByteArray := fun _ => s
def two2 (s t : ByteArray) : Nat → ByteArray
  | 0 => s
  | _ => t
theorem join1 (s : ByteArray) : joinB (one1 s) 1 = s := by simp [joinB, one1]
theorem join2 (s t : ByteArray) : joinB (two2 s t) 2 = s ++ t := by simp [joinB, two2]
theorem strs1 {w : World} {b : Nat} {s : ByteArray} (h : w.heap[b]? = some (.cells #[.string s] 9 (0, 0))) : Strs w (.slice (some ⟨b, 0, none⟩) 1 1) 1 (one1 s) :=
  ⟨_, _, rfl, fun _ => ⟨_, rfl, fun j hj => by
    obtain rfl : j = 0 := by omega
    rw [Addr.add_lit, cell_of_row w b _ _ _ _ h]
    rfl⟩⟩
theorem strs2 {w : World} {b : Nat} {s t : ByteArray} (h : w.heap[b]? = some (.cells #[.string s, .string t] 9 (0, 0))) : Strs w (.slice (some ⟨b, 0, none⟩) 2 2) 2 (two2 s t) :=
  ⟨_, _, rfl, fun _ => ⟨_, rfl, fun j hj => by
    rw [Addr.add_lit, cell_of_row w b _ _ _ _ h]
    match j, hj with
    | 0, _ => rfl
    | 1, _ => rfl⟩⟩
theorem act_bs1 {o : Oper} {a : Act} {w : World} {K : Act → World → Prop} {Q : Exit → Act → World → Prop} {x : Operand} (ho : o.op = .buildSlice 22 1 #[(0, x)]) {s : ByteArray} (hx : a.eval x = .string s)
    (h : ∀ v, v.heap[w.heap.size]? = some (.cells #[.string s] 9 (0, 0)) → Below w.heap.size w v → K (a.put o.dst (.slice (some ⟨w.heap.size, 0, none⟩) 1 1)) v) : o.wp Tryd.prog a w K Q := by
  have hr := run_bs1 s w
  unfold Oper.wp execOp
  simp only [ho, List.map_toArray, List.map_cons, List.map_nil, hx, Sem.run_bind, hr, Result.andThen_ok, Sem.run_pure, Oper.upon]
  exact h _ (heap_alloc_new w _) ((Below.refl _ _).alloc (Nat.le_refl _) _)
theorem act_bs2 {o : Oper} {a : Act} {w : World} {K : Act → World → Prop} {Q : Exit → Act → World → Prop} {x y : Operand} (ho : o.op = .buildSlice 22 2 #[(0, x), (1, y)]) {s t : ByteArray} (hx : a.eval x = .string s) (hy : a.eval y = .string t)
    (h : ∀ v, v.heap[w.heap.size]? = some (.cells #[.string s, .string t] 9 (0, 0)) → Below w.heap.size w v → K (a.put o.dst (.slice (some ⟨w.heap.size, 0, none⟩) 2 2)) v) : o.wp Tryd.prog a w K Q := by
  have hr := run_bs2 s t w
  unfold Oper.wp execOp
  simp only [ho, List.map_toArray, List.map_cons, List.map_nil, hx, hy, Sem.run_bind, hr, Result.andThen_ok, Sem.run_pure, Oper.upon]
  exact h _ (heap_alloc_new w _) ((Below.refl _ _).alloc (Nat.le_refl _) _)
def strW (n : Nat) (ts : Nat → ByteArray) : List Value := (List.range n).map fun i => .string (ts i)
theorem strW_len (n : Nat) (ts : Nat → ByteArray) : (strW n ts).length = n := by simp [strW]
theorem strW_at (n : Nat) (ts : Nat → ByteArray) {j : Nat} (h : j < n) : (strW n ts)[j]? = some (.string (ts j)) := by simp [strW, h]
theorem strW_get {n : Nat} {ts : Nat → ByteArray} {j : Nat} {u : Value} (h : (strW n ts)[j]? = some u) : j < n ∧ u = .string (ts j) := by
  have hj : j < n := by have := (List.getElem?_eq_some_iff.1 h).1; simpa [strW] using this
  refine ⟨hj, ?_⟩
  rw [strW_at n ts hj] at h
  exact (Option.some.inj h).symm
theorem strW_one {n : Nat} {ts : Nat → ByteArray} : ∀ u ∈ strW n ts, u.oneCell' = true := fun u hu => by
  obtain ⟨i, _, rfl⟩ := List.mem_map.1 hu
  rfl
theorem infoStr : (Tryd.prog.info? 9).map (fun i => (i.zero, i.size, i.bytes)) = some (some (.string ⟨#[]⟩), 1, 16) := by kernel_rfl
theorem run_append_none {w : World} {B : Nat} {v : Value} {n : Nat} {xs : List Value} (ty : TypeId) (c : Nat) (hown : w.ownsRow B 9 1 v n xs) : (Builtin.append_ #[22, 22] ty #[v, .slice none 0 c]).run Tryd.prog w = .ok v w := by
  obtain ⟨i, hi, _⟩ := info_parts infoStr
  rcases hown.2 with ⟨rfl, rfl⟩ | ⟨g, cap, cur, rfl, _, _, hnc, _⟩
  · simp [Builtin.append_, run_underlying Tryd.underlying22, sizeOf, typeInfo, hi, Builtin.lenOf, Builtin.firstCells]
  · simp [Builtin.append_, run_underlying Tryd.underlying22, sizeOf, typeInfo, hi, Builtin.lenOf, Builtin.firstCells, hnc, storeCells]
/-- 'append(x, ..)' of texts to a row of one's own. -/
theorem ap_strs {ops : Array Oper} {rest : List Oper} {d : Option Tmp} {s x : Operand} {ty : TypeId} {ps : String} {af : Array Edge} {a : Act} {w : World} {Q : Exit → Act → World → Prop}
    {B k n : Nat} {xs : List Value} {v0 vx : Value} {ts : Nat → ByteArray} (hs : a.eval s = v0) (hx : a.eval x = vx) (hD : w.ownsRow B 9 1 v0 k xs) (hS : Strs w vx n ts) (hl : k + n < 4000000) (hB : B ≤ w.heap.size)
    (h : ∀ v' w', w'.ownsRow B 9 1 v' (k + n) (xs ++ strW n ts) → Below B w w' → wpList Tryd.prog ops Q rest (a.put d v') w') :
    wpList Tryd.prog ops Q ({ dst := d, op := .call { callee := .builtin .append, args := #[s, x], argTypes := #[22, 22] }, type := ty, pos := ps, after := af, guard := none } :: rest) a w := by
  obtain ⟨ad, c, rfl, hp⟩ := hS
  cases ad with
  | none =>
    have hn : n = 0 := by
      rcases Nat.eq_zero_or_pos n with h0 | h0
      · exact h0
      · obtain ⟨p, hp1, _⟩ := hp h0
        cases hp1
    subst hn
    refine wpList_plain rfl fun K hK => ?_
    have hrun := run_append_none ty c hD
    unfold Oper.wp
    simp [execOp, resolve, invoke, builtin, hs, hx, hrun, Result.andThen]
    exact hK _ _ (h v0 w (by simpa [strW] using hD) (Below.refl _ _))
  | some p =>
    obtain ⟨i0, hi, hz0, hz1, hz2⟩ := info_parts infoStr
    refine wpList_append_own w rfl s x 22 rfl B 9 i0 (.string ⟨#[]⟩) 1 16 Tryd.underlying22 hi hz0 hz1 hz2 rfl (by decide) _ k _ hs hD p n c (strW n ts) hx (by rw [strW_len]; omega) ?_ strW_one ?_ ?_ hB ?_
    · intro j u hj
      obtain ⟨hj2, rfl⟩ := strW_get hj
      obtain ⟨q, hq, hc⟩ := hp (by omega)
      obtain rfl := Option.some.inj hq
      exact hc j hj2
    · unfold maxLen; omega
    · omega
    · intro v' w1 hown hgrow _
      exact h v' w1 hown (Below.grow hgrow hB (own_base hD))
/-- The row of texts behind the appends. -/
theorem own_strs {w : World} {B : Nat} {v : Value} {n : Nat} {ts : Nat → ByteArray} {q : ByteArray} (h : w.ownsRow B 9 1 v (n + 1) (strW n ts ++ [.string q])) : ∃ g cap cur, v = .slice (some ⟨g, 0, none⟩) (n + 1) cap ∧ B ≤ g ∧ n + 1 ≤ cap ∧ w.heap[g]? = some (.cells cur 9 (0, 0)) ∧ (∀ j, j < n → cur[j]? = some (.string (ts j))) ∧ cur[n]? = some (.string q) := by
  rcases h.2 with ⟨_, h0⟩ | ⟨g, cap, cur, rfl, hb, hg, hc, _, hs, ht⟩
  · omega
  · rw [Nat.mul_one] at ht
    have key : ∀ j, j < n + 1 → cur[j]? = (strW n ts ++ [.string q])[j]? := fun j hj => by
      rw [← ht, List.getElem?_take, if_pos hj]
      simp
    refine ⟨g, cap, cur, rfl, hb, hc, hg, fun j hj => ?_, ?_⟩
    · rw [key j (by omega), List.getElem?_append_left (by rw [strW_len]; exact hj), strW_at n ts hj]
    · rw [key n (by omega), List.getElem?_append_right (by rw [strW_len]; exact Nat.le_refl _), strW_len]
      simp
theorem strs_row' {w : World} {g n cap : Nat} {cur : Array Value} {ts : Nat → ByteArray} (h : w.heap[g]? = some (.cells cur 9 (0, 0))) (hc : ∀ j, j < n → cur[j]? = some (.string (ts j))) : Strs w (.slice (some ⟨g, 0, none⟩) n cap) n ts :=
  ⟨_, _, rfl, fun _ => ⟨_, rfl, fun j hj => by
    rw [Addr.add_lit, cell_of_row w g _ _ _ _ h, Nat.zero_add]
    exact hc j hj⟩⟩
theorem exec_lenV {a : Act} {o : Oper} {w : World} {x : Operand} (ho : o.op = .call { callee := .builtin .len, args := #[x], argTypes := #[22] }) {ad : Option Addr} {n c : Nat} (hx : a.eval x = .slice ad n c) : (execOp a.eval o).run Tryd.prog w = .ok (.value (.int .i64 (n : Int))) w := by
  have hr : (Builtin.len_ #[22] o.type #[.slice ad n c]).run Tryd.prog w = .ok (goInt n) w := by simp [go_sem]
  simp [execOp, ho, resolve, invoke, builtin, hx, hr, goInt]
theorem size_str (w : World) : (sizeOf (Tryd.prog.elem 22)).run Tryd.prog w = .ok 1 w := by kernel_rfl
theorem load_str {w : World} {p : Addr} {s : ByteArray} (h : w.cell? p = some (.string s)) : (Instr.loadAt 9 (.pointer (some p))).run Tryd.prog w = .ok (.string s) w := by
  simp [go_sem, h]
theorem slStr (ad : Option Addr) (n m c : Nat) (w : World) (h : n ≤ c) : (Instr.sliceAt 22 (.slice ad m c) none (some (.int .i64 (n : Int))) none).run Tryd.prog w = .ok (.slice ad n c) w := by
  have h2 : (n : Int) ≤ (c : Int) := by omega
  cases ad <;> simp [go_sem, h2]
theorem run_bs0 (w : World) : (Instr.buildSlice 22 0 #[]).run Tryd.prog w = .ok (.slice (some ⟨w.heap.size, 0, none⟩) 0 0) (w.alloc (.cells #[] 9)) := by simp [go_sem]
theorem wl_bs0 {ops : Array Oper} {rest : List Oper} {d : Option Tmp} {ty : TypeId} {ps : String} {af : Array Edge} {a : Act} {w : World} {Q : Exit → Act → World → Prop}
    (h : ∀ w2, w2.ownsRow w.heap.size 9 1 (.slice (some ⟨w.heap.size, 0, none⟩) 0 0) 0 [] → Below w.heap.size w w2 → wpList Tryd.prog ops Q rest (a.put d (.slice (some ⟨w.heap.size, 0, none⟩) 0 0)) w2) :
    wpList Tryd.prog ops Q ({ dst := d, op := .buildSlice 22 0 #[], type := ty, pos := ps, after := af, guard := none } :: rest) a w := by
  have hr := run_bs0 w
  refine wl_act rfl ?_
  unfold Oper.wp execOp
  simp only [List.map_toArray, List.map_nil, Sem.run_bind, hr, Result.andThen_ok, Sem.run_pure, Oper.upon]
  exact h _ (World.ownsRow_lit w #[] 0 (Nat.le_refl _) (by unfold maxLen; omega) rfl) ((Below.refl _ _).alloc (Nat.le_refl _) _)
theorem wl_bs1 {ops : Array Oper} {rest : List Oper} {d : Option Tmp} {x : Operand} {ty : TypeId} {ps : String} {af : Array Edge} {a : Act} {w : World} {Q : Exit → Act → World → Prop} {s : ByteArray} (hx : a.eval x = .string s)
    (h : ∀ w2, Strs w2 (.slice (some ⟨w.heap.size, 0, none⟩) 1 1) 1 (one1 s) → Below w.heap.size w w2 → w2.heap.size = w.heap.size + 1 → wpList Tryd.prog ops Q rest (a.put d (.slice (some ⟨w.heap.size, 0, none⟩) 1 1)) w2) :
    wpList Tryd.prog ops Q ({ dst := d, op := .buildSlice 22 1 #[(0, x)], type := ty, pos := ps, after := af, guard := none } :: rest) a w := by
  have hr := run_bs1 s w
  refine wl_act rfl ?_
  unfold Oper.wp execOp
  simp only [List.map_toArray, List.map_cons, List.map_nil, hx, Sem.run_bind, hr, Result.andThen_ok, Sem.run_pure, Oper.upon]
  exact h _ (strs1 (heap_alloc_new w _)) ((Below.refl _ _).alloc (Nat.le_refl _) _) (by simp)
theorem wl_bs2 {ops : Array Oper} {rest : List Oper} {d : Option Tmp} {x y : Operand} {ty : TypeId} {ps : String} {af : Array Edge} {a : Act} {w : World} {Q : Exit → Act → World → Prop} {s t : ByteArray} (hx : a.eval x = .string s) (hy : a.eval y = .string t)
    (h : ∀ w2, Strs w2 (.slice (some ⟨w.heap.size, 0, none⟩) 2 2) 2 (two2 s t) → Below w.heap.size w w2 → w2.heap.size = w.heap.size + 1 → wpList Tryd.prog ops Q rest (a.put d (.slice (some ⟨w.heap.size, 0, none⟩) 2 2)) w2) :
    wpList Tryd.prog ops Q ({ dst := d, op := .buildSlice 22 2 #[(0, x), (1, y)], type := ty, pos := ps, after := af, guard := none } :: rest) a w := by
  have hr := run_bs2 s t w
  refine wl_act rfl ?_
  unfold Oper.wp execOp
  simp only [List.map_toArray, List.map_cons, List.map_nil, hx, hy, Sem.run_bind, hr, Result.andThen_ok, Sem.run_pure, Oper.upon]
  exact h _ (strs2 (heap_alloc_new w _)) ((Below.refl _ _).alloc (Nat.le_refl _) _) (by simp)
theorem same_ext {a b : ByteArray} (hl : a.size = b.size) (h : ∀ j, j < a.size → txt a j = txt b j) : a = b := by
  refine ByteArray.ext (Array.ext hl (fun i h1 h2 => ?_))
  have := h i h1
  rw [← txt_get h1, ← txt_get (s := b) h2] at this
  have h3 : (a.data[i].toNat : Int) = b.data[i].toNat := this
  exact UInt8.toNat_inj.1 (Int.ofNat.inj h3)
theorem xor_zero {x y : Nat} : x ^^^ y = 0 ↔ x = y := by
  constructor
  · intro h
    have h2 : x ^^^ y ^^^ y = x := by rw [Nat.xor_assoc, Nat.xor_self, Nat.xor_zero]
    rw [h, Nat.zero_xor] at h2
    exact h2.symm
  · rintro rfl
    exact Nat.xor_self _
theorem strW_app {k n : Nat} {ts ts' : Nat → ByteArray} (h : ∀ j, j < n → ts' j = ts (k + j)) : strW k ts ++ strW n ts' = strW (k + n) ts := by
  unfold strW
  rw [List.range_add, List.map_append, List.map_map]
  congr 1
  refine List.map_congr_left (fun j hj => ?_)
  simp [h j (List.mem_range.1 hj)]
theorem own_Strs {w : World} {B : Nat} {v : Value} {n : Nat} {ts : Nat → ByteArray} (h : w.ownsRow B 9 1 v n (strW n ts)) (hn : 0 < n) : Strs w v n ts := by
  rcases h.2 with ⟨_, h0⟩ | ⟨g, cap, cur, rfl, hb, hg, hc, _, hs, ht⟩
  · omega
  · refine strs_row' hg (fun j hj => ?_)
    rw [Nat.mul_one] at ht
    have e : cur[j]? = (strW n ts)[j]? := by
      rw [← ht, List.getElem?_take, if_pos hj]
      simp
    rw [e, strW_at n ts hj]
theorem app_left (a b : ByteArray) : (a ++ b).extract 0 a.size = a := ByteArray.extract_append_eq_left rfl
theorem app_right (a b : ByteArray) : (a ++ b).extract a.size (a ++ b).size = b := by
  have hs : (a ++ b).size = a.size + b.size := ByteArray.size_append
  refine same_ext (by rw [extract_size, hs]; omega) (fun j hj => ?_)
  rw [extract_size, hs] at hj
  rw [txt_extract _ _ _ (by omega), txt_append, if_neg (by omega), Nat.add_sub_cancel_left]
theorem app_cut (s : ByteArray) (n : Nat) (h : n ≤ s.size) : s.extract 0 n ++ s.extract n s.size = s := by
  have h1 := take_size s n h
  refine same_ext (by rw [ByteArray.size_append, h1, extract_size]; omega) (fun j hj => ?_)
  rw [ByteArray.size_append, h1, extract_size] at hj
  rw [txt_append, h1]
  by_cases e : j < n
  · rw [if_pos e, txt_take s n j e h]
  · rw [if_neg e, txt_extract _ _ _ (by omega), show n + (j - n) = j by omega]
set_option maxHeartbeats 4000000 in
theorem joined_run (v : Value) (n : Nat) (ts : Nat → ByteArray) (w : World) (hv : Strs w v n ts) (hn : n < 4611686018427387904) (hs : (joinB ts n).size ≤ 140737488355328) :
    Calls Tryd.prog 10 #[v] w fun e w' => e = .returned (.string (joinB ts n)) ∧ Below w.heap.size w w' := by
  obtain ⟨a, c, rfl, hp⟩ := hv
  have HP := Hid.mk hp
  clear hp
  obtain ⟨inf, hi1, hi2, hi3, hi4⟩ := infoByte1
  have HI4 := Hid.mk (And.intro hi1 (And.intro hi2 (And.intro hi3 hi4)))
  clear hi1 hi2 hi3 hi4
  go_enter Tryd.func10, Tryd.ntmps10
  go_wp2_with fail
  go_loopg [3, 4] n (fun gm ov iv v => ∃ i : Nat, Hid (gm + i = n) ∧ iv = .int .i64 (i : Int) ∧ Hid (v.ownsRow w.heap.size 5 1 ov (joinB ts i).size (strCells (joinB ts i))) ∧ Below w.heap.size w v)
  case atStart => exact ⟨0, Hid.mk rfl, rfl, Hid.mk ⟨rfl, .inl ⟨rfl, rfl⟩⟩, Below.refl _ w⟩
  case round =>
    obtain ⟨i, HI, rfl, hO, hB⟩ := hrel
    have hin : i ≤ n := by have := HI.out; omega
    by_cases hil : i < n
    · obtain ⟨p, rfl, hc⟩ := HP.out (by omega)
      have hc0 := hc i hil
      have hc1 : wr.cell? (p.add i) = some (.string (ts i)) := (hB.cell (World.block_lt_of_cell? _ _ hc0)).trans hc0
      have hsz : (joinB ts i).size + (ts i).size ≤ 140737488355328 := by
        have h1 := joinB_mono ts (show i + 1 ≤ n from hil)
        rw [joinB, ByteArray.size_append] at h1
        omega
      clear hc0
      go_wp2_with (at_builtin; refine wpList_append_own_string _ rfl _ _ 41 9 (by rfl) w.heap.size 5 inf Tryd.underlying41 Tryd.underlying9 HI4.out.1 HI4.out.2.1 HI4.out.2.2.1 HI4.out.2.2.2 _ _ _ (by rfl) hO.out (ts i) (by rfl) (by unfold maxLen; omega) hsz hB.size ?_; intro vb v4 h4 hg4 _; refine Hid.out ?_)
      have hB4 := hB.trans (Below.grow hg4 hB.size (own_base hO.out))
      rw [← strCells_cat, ← ByteArray.size_append] at h4
      refine Hid.mk ?_
      go_wp2_with fail
      go_roundg (n - (i + 1))
      case rel => exact ⟨i + 1, Hid.mk (by omega), by go_num, Hid.mk h4, hB4⟩
      case measure => have := HI.out; omega
    · have hi2 : i = n := by omega
      subst hi2
      have hcv := str_own hO.out
      go_wp2_with fail
      go_ret
      exact ⟨rfl, hB⟩
end Go.Proofs.YtcefoonflpofgaaDoor
/-
  Own text. The document's answer for blake: turned words, the beginnings, the orders.
-/
namespace Go.Proofs.YtcefoonflpofgaaDoor
open Go.RowKit Go.Proofs
/-- A word, turned n downwards. -/
def rotd (x : Int) (n : Nat) : Int := rotw x (32 - n)
theorem or_rotd64 (x : Int) (n : Nat) (hx : W32 x) (hn : n ≤ 32) (p q : Int) (hp : p = ((2 ^ n : Nat) : Int)) (hq : q = ((2 ^ (32 - n) : Nat) : Int)) : bits .or .i64 (x / p) (x * q % 4294967296) = rotd x n := by
  unfold W32 at hx
  obtain ⟨m, rfl⟩ := Int.eq_ofNat_of_zero_le hx.1
  subst hp; subst hq
  have e1 : (m : Int) * ((2 ^ (32 - n) : Nat) : Int) % 4294967296 = ((m * 2 ^ (32 - n) % 4294967296 : Nat) : Int) := by simp
  have e2 : (m : Int) / ((2 ^ n : Nat) : Int) = ((m / 2 ^ n : Nat) : Int) := by simp
  have h1 := Nat.mod_lt (m * 2 ^ (32 - n)) (show 4294967296 > 0 by decide)
  have h2 : m / 2 ^ n < 4294967296 := Nat.lt_of_le_of_lt (Nat.div_le_self _ _) (by omega)
  rw [e1, e2, i64_or ⟨Int.natCast_nonneg _, Int.ofNat_lt.2 h2⟩ ⟨Int.natCast_nonneg _, Int.ofNat_lt.2 h1⟩]
  simp only [Int.toNat_natCast, rotw, rotd]
  rw [Nat.or_comm, show 32 - (32 - n) = n by omega]
theorem rotd_w {x : Int} (n : Nat) (hx : W32 x) : W32 (rotd x n) := rotw_w _ hx
theorem down_run (x : Int) (n : Nat) (w : World) (hx : W32 x) (hn : n = 7 ∨ n = 8 ∨ n = 12 ∨ n = 16) :
    Calls Tryd.prog 35 #[.int .i64 x, .int .i64 n] w fun e w' => e = .returned (.int .i64 (rotd x n)) ∧ Below w.heap.size w w' := by
  have key : ∀ p q : Int, p = ((2 ^ n : Nat) : Int) → q = ((2 ^ (32 - n) : Nat) : Int) → bits .or .i64 (x / p) (x * q % 4294967296) = rotd x n := fun p q => or_rotd64 x n hx (by omega) p q
  unfold W32 at hx
  go_enter Tryd.func35, Tryd.ntmps35
  rcases hn with rfl | rfl | rfl | rfl
  · have e2 := key 128 33554432 (by decide) (by decide)
    have e3 : (x * 33554432).tmod 4294967296 = x * 33554432 % 4294967296 := Int.tmod_eq_emod_of_nonneg (by omega)
    go_wp2
    go_region
    go_wp2
    go_ret
    exact ⟨rfl, (Below.refl _ _).drew⟩
  · have e2 := key 256 16777216 (by decide) (by decide)
    have e3 : (x * 16777216).tmod 4294967296 = x * 16777216 % 4294967296 := Int.tmod_eq_emod_of_nonneg (by omega)
    go_wp2
    go_region
    go_wp2
    go_ret
    exact ⟨rfl, (Below.refl _ _).drew⟩
  · have e2 := key 4096 1048576 (by decide) (by decide)
    have e3 : (x * 1048576).tmod 4294967296 = x * 1048576 % 4294967296 := Int.tmod_eq_emod_of_nonneg (by omega)
    go_wp2
    go_region
    go_wp2
    go_ret
    exact ⟨rfl, (Below.refl _ _).drew⟩
  · have e2 := key 65536 65536 (by decide) (by decide)
    have e3 : (x * 65536).tmod 4294967296 = x * 65536 % 4294967296 := Int.tmod_eq_emod_of_nonneg (by omega)
    go_wp2
    go_region
    go_wp2
    go_ret
    exact ⟨rfl, (Below.refl _ _).drew⟩
/-- The eight beginnings. -/
def bgn (i : Nat) : Int := [1779033703, 3144134277, 1013904242, 2773480762, 1359893119, 2600822924, 528734635, 1541459225].getD i 0
theorem bgn_w (i : Nat) : W32 (bgn i) := by
  unfold bgn W32
  by_cases h : i < 8
  · have : ∀ i, i < 8 → 0 ≤ bgn i ∧ bgn i < 4294967296 := by decide +kernel
    exact this i h
  · rw [List.getD_eq_getElem?_getD, List.getElem?_eq_none (by simp; omega)]
    decide
theorem begin_run (w : World) : Calls Tryd.prog 27 #[] w fun e w' => e = .returned (.slice (some ⟨w.heap.size, 0, none⟩) 8 8) ∧ ArrAt w' w.heap.size .i64 3 8 bgn ∧ Below w.heap.size w w' := by
  go_enter Tryd.func27, Tryd.ntmps27
  go_wp2
  go_ret
  exact ⟨rfl, heap_alloc_new w _, (Below.refl _ w).alloc (Nat.le_refl _) _⟩
/-- The ten orders. -/
def ordL : List (List Nat) := [
  [0, 1, 2, 3, 4, 5, 6, 7, 8, 9, 10, 11, 12, 13, 14, 15],
  [14, 10, 4, 8, 9, 15, 13, 6, 1, 12, 0, 2, 11, 7, 5, 3],
  [11, 8, 12, 0, 5, 2, 15, 13, 10, 14, 3, 6, 7, 1, 9, 4],
  [7, 9, 3, 1, 13, 12, 11, 14, 2, 6, 5, 10, 4, 0, 15, 8],
  [9, 0, 5, 7, 2, 4, 10, 15, 14, 1, 11, 12, 6, 8, 3, 13],
  [2, 12, 6, 10, 0, 11, 8, 3, 4, 13, 7, 5, 15, 14, 1, 9],
  [12, 5, 1, 15, 14, 13, 4, 10, 0, 7, 6, 3, 9, 2, 8, 11],
  [13, 11, 7, 14, 12, 1, 3, 9, 5, 0, 15, 4, 8, 6, 2, 10],
  [6, 15, 14, 9, 11, 3, 0, 8, 12, 2, 13, 7, 1, 4, 10, 5],
  [10, 2, 8, 4, 7, 6, 1, 5, 15, 11, 9, 14, 3, 12, 13, 0]]
def ord (s i : Nat) : Nat := (ordL.getD s []).getD i 0
def ordI (s i : Nat) : Int := (ord s i : Int)
theorem ord_lt : ∀ s, s < 10 → ∀ i, i < 16 → ord s i < 16 := by decide +kernel
/-- Blocks that are made one behind the other. -/
def allocs (w : World) : List Obj → World
  | [] => w
  | o :: os => allocs (w.alloc o) os
theorem allocs_below : ∀ (os : List Obj) (w : World) (B : Nat), B ≤ w.heap.size → Below B w (allocs w os)
  | [], w, B, _ => Below.refl B w
  | o :: os, w, B, h => ((Below.refl B w).alloc h o).trans (allocs_below os (w.alloc o) B (by simp; omega))
theorem allocs_at : ∀ (os : List Obj) (w : World) (i : Nat) (o : Obj), os[i]? = some o → (allocs w os).heap[w.heap.size + i]? = some o
  | [], _, _, _, h => by simp at h
  | a :: os, w, 0, o, h => by
    have e : a = o := by simpa using h
    subst e
    have h1 := heap_alloc_new w a
    have hb := allocs_below os (w.alloc a) (w.heap.size + 1) (by simp)
    have h2 := hb.block w.heap.size (by omega)
    exact h2.trans h1
  | a :: os, w, i + 1, o, h => by
    have h1 := allocs_at os (w.alloc a) i o (by simpa using h)
    have e : (w.alloc a).heap.size + i = w.heap.size + (i + 1) := by simp; omega
    rw [e] at h1
    exact h1
def ordOut (b : Nat) : Array Value := ((List.range 10).map fun s => Value.slice (some ⟨b + s, 0, none⟩) 16 16).toArray
def ordRows (b : Nat) : List Obj := (List.range 10).map (fun s => Obj.cells (WA .i64 16 (ordI s)) 3 (0, 0)) ++ [Obj.cells (ordOut b) 59 (0, 0)]
theorem orders_end (w u : World) (h : u = allocs w (ordRows w.heap.size)) : (∀ s, s < 10 → u.cell? ⟨w.heap.size + 10, s, none⟩ = some (.slice (some ⟨w.heap.size + s, 0, none⟩) 16 16) ∧ ArrAt u (w.heap.size + s) .i64 3 16 (ordI s)) ∧ Below w.heap.size w u := by
  subst h
  refine ⟨fun s hs => ⟨?_, ?_⟩, allocs_below _ _ _ (Nat.le_refl _)⟩
  · have h := allocs_at (ordRows w.heap.size) w 10 _ (by unfold ordRows; rw [List.getElem?_append_right (by simp)]; rfl)
    rw [cell_of_row _ _ _ _ _ _ h]
    unfold ordOut
    simp [hs]
  · refine allocs_at (ordRows w.heap.size) w s _ ?_
    unfold ordRows
    rw [List.getElem?_append_left (by simpa using hs)]
    simp [hs]
set_option maxHeartbeats 4000000 in
theorem orders_run (w : World) : Calls Tryd.prog 30 #[] w fun e w' => e = .returned (.slice (some ⟨w.heap.size + 10, 0, none⟩) 10 10) ∧ (∀ s, s < 10 → w'.cell? ⟨w.heap.size + 10, s, none⟩ = some (.slice (some ⟨w.heap.size + s, 0, none⟩) 16 16) ∧ ArrAt w' (w.heap.size + s) .i64 3 16 (ordI s)) ∧ Below w.heap.size w w' := by
  go_enter Tryd.func30, Tryd.ntmps30
  go_wp2
  go_ret
  exact ⟨rfl, orders_end w _ (by kernel_rfl)⟩
end Go.Proofs.YtcefoonflpofgaaDoor
/-
  Own text. What mix of the document's answer for blake does.
-/
namespace Go.Proofs.YtcefoonflpofgaaDoor
open Go.RowKit Go.Proofs
theorem enterDown (args : Array Value) (w : World) : (callFunc 35 args).run Tryd.prog w = .ok (.enter 35 args) w := by kernel_rfl
theorem sum3_lo {x y z : Int} (hx : W32 x) (hy : W32 y) (hz : W32 z) : -9223372036854775808 ≤ x + y + z := by unfold W32 at *; omega
theorem sum3_hi {x y z : Int} (hx : W32 x) (hy : W32 y) (hz : W32 z) : x + y + z < 9223372036854775808 := by unfold W32 at *; omega
theorem add3 (x y z : Int) : addw (addw x y) z = (x + y + z) % 4294967296 := by unfold addw; omega
theorem exec_rem2 {a : Act} {o : Oper} {w : World} {q : Operand} (ho : o.op = .binOp .rem 3 q (.const (.int .i64 4294967296)) 3) {x y : Int} (hq : a.eval q = .int .i64 (x + y)) (hx : W32 x) (hy : W32 y) : (execOp a.eval o).run Tryd.prog w = .ok (.value (.int .i64 (addw x y))) w := by
  unfold W32 at hx hy
  have e : (x + y).tmod 4294967296 = addw x y := by unfold addw; rw [Int.tmod_eq_emod_of_nonneg (by omega)]
  exact exec_bin ho rfl hq rfl (by simp [go_sem, e])
theorem exec_rem3 {a : Act} {o : Oper} {w : World} {q : Operand} (ho : o.op = .binOp .rem 3 q (.const (.int .i64 4294967296)) 3) {x y z : Int} (hq : a.eval q = .int .i64 (x + y + z)) (hx : W32 x) (hy : W32 y) (hz : W32 z) : (execOp a.eval o).run Tryd.prog w = .ok (.value (.int .i64 (addw (addw x y) z))) w := by
  unfold W32 at hx hy hz
  have e : (x + y + z).tmod 4294967296 = addw (addw x y) z := by rw [add3, Int.tmod_eq_emod_of_nonneg (by omega)]
  exact exec_bin ho rfl hq rfl (by simp [go_sem, e])
/-- Mixing four of the words with two others. -/
def mixR (s : Nat → Int) (a b c d : Nat) (x y : Int) : Nat → Int :=
  let s1 := upd s a (addw (addw (s a) (s b)) x)
  let s2 := upd s1 d (rotd (xorw (s1 d) (s1 a)) 16)
  let s3 := upd s2 c (addw (s2 c) (s2 d))
  let s4 := upd s3 b (rotd (xorw (s3 b) (s3 c)) 12)
  let s5 := upd s4 a (addw (addw (s4 a) (s4 b)) y)
  let s6 := upd s5 d (rotd (xorw (s5 d) (s5 a)) 8)
  let s7 := upd s6 c (addw (s6 c) (s6 d))
  upd s7 b (rotd (xorw (s7 b) (s7 c)) 7)
set_option maxHeartbeats 4000000 in
set_option maxRecDepth 100000 in
theorem rmix_run (b n cp : Nat) (s0 : Nat → Int) (a y c d : Nat) (x z : Int) (w : World) (hR : RowAt w b .i64 3 n s0) (Ws0 : ∀ i, i < n → W32 (s0 i)) (ha : a < n) (hy : y < n) (hc : c < n) (hd : d < n) (hx : W32 x) (hz : W32 z) :
    Calls Tryd.prog 31 #[.slice (some ⟨b, 0, none⟩) n cp, .int .i64 (a : Int), .int .i64 (y : Int), .int .i64 (c : Int), .int .i64 (d : Int), .int .i64 x, .int .i64 z] w fun e w' =>
      e = .returned (.tuple #[]) ∧ RowAt w' b .i64 3 n (mixR s0 a y c d x z) ∧ (∀ i, i < n → W32 (mixR s0 a y c d x z i)) ∧ Touch (fun k => k = b) w w' := by
  have hT := Touch.refl (fun k => k = b) w
  go_enter Tryd.func31, Tryd.ntmps31
  obtain ⟨s1, hs1⟩ : ∃ f, upd s0 a (addw (addw (s0 a) (s0 y)) x) = f := ⟨_, rfl⟩
  have Ws1 : ∀ i, i < n → W32 (s1 i) := by rw [← hs1]; exact w32_upd Ws0 (addw_w _ _)
  go_wp2_with fail
  refine wp_region3 (Touch (fun k => k = b) w) w.heap.size
    [(b, ⟨rowOb .i64 3 n s0, [(15, rowOb .i64 3 n s1)]⟩)]
    [kv (.slice (some ⟨b, 0, none⟩) n cp), kv (.int .i64 (a : Int)), kv (.slice (some ⟨b, 0, none⟩) n cp), kv (.int .i64 (a : Int)), kv (.pointer (some ⟨b, 0 + a, none⟩)), kv (.int .i64 (s0 a)), kv (.slice (some ⟨b, 0, none⟩) n cp), kv (.int .i64 (y : Int)), kv (.pointer (some ⟨b, 0 + y, none⟩)), kv (.int .i64 (s0 y)), kv (.int .i64 (s0 a + s0 y)), kv (.int .i64 x), kv (.int .i64 (s0 a + s0 y + x)), kv (.int .i64 (addw (addw (s0 a) (s0 y)) x)), kv (.pointer (some ⟨b, 0 + a, none⟩)), .val fun _ => True]
    [.none, .none, .none, .none, .none, .none, .none, .none, .none, .none, .none, .none, .none, .none, .none, .base 0 1]
    [some 14, some 15, some 16, some 17, some 18, some 19, some 20, some 21, some 22, some 23, some 24, some 25, some 26, some 27, some 28, none]
    [(0, .slice (some ⟨b, 0, none⟩) n cp), (1, .int .i64 (a : Int)), (2, .int .i64 (y : Int)), (5, .int .i64 x)]
    [[], [], [], [], [.slot 2, .slot 3], [.slot 4, .base 0 0], [], [], [.slot 6, .slot 7], [.slot 8, .base 0 0], [.slot 5, .slot 9], [], [.slot 10, .slot 11], [.slot 12], [.slot 0, .slot 1], [.slot 14, .base 0 0, .slot 13]]
    [.base 0 1] [14, 15, 16, 17, 18, 19, 20, 21, 22, 23, 24, 25, 26, 27, 28]
    rfl (by kernel_rfl) ⟨rfl, rfl, rfl, rfl, trivial⟩ (Touch.drew hT) (Nat.le_refl _) ⟨⟨RowAt.lt hR, hR⟩, trivial⟩ ⟨trivial, trivial⟩ (touch_S hT.size)
    ⟨
      -- 0
      (fun Q aq ww own hS hBg fr kn => .inl ⟨trivial, fun K hK => wp_value (exec_move rfl fr.1) (hK _ _ ⟨Touch.refl _ _, rfl⟩)⟩),
      -- 1
      (fun Q aq ww own hS hBg fr kn => .inl ⟨trivial, fun K hK => wp_value (exec_move rfl fr.2.1) (hK _ _ ⟨Touch.refl _ _, rfl⟩)⟩),
      -- 2
      (fun Q aq ww own hS hBg fr kn => .inl ⟨trivial, fun K hK => wp_value (exec_move rfl fr.1) (hK _ _ ⟨Touch.refl _ _, rfl⟩)⟩),
      -- 3
      (fun Q aq ww own hS hBg fr kn => .inl ⟨trivial, fun K hK => wp_value (exec_move rfl fr.2.1) (hK _ _ ⟨Touch.refl _ _, rfl⟩)⟩),
      -- 4
      (fun Q aq ww own hS hBg fr kn => .inl ⟨trivial, fun K hK => wp_value (exec_idx rfl Tryd.underlying59 size_int kn.1 kn.2.1 ha) (hK _ _ ⟨Touch.refl _ _, rfl⟩)⟩),
      -- 5
      (fun Q aq ww own hS hBg fr kn => .inl ⟨trivial, fun K hK => wp_value (exec_ld rfl kn.1 (load_int (cell0 kn.2.1 ha))) (hK _ _ ⟨Touch.refl _ _, rfl⟩)⟩),
      -- 6
      (fun Q aq ww own hS hBg fr kn => .inl ⟨trivial, fun K hK => wp_value (exec_move rfl fr.1) (hK _ _ ⟨Touch.refl _ _, rfl⟩)⟩),
      -- 7
      (fun Q aq ww own hS hBg fr kn => .inl ⟨trivial, fun K hK => wp_value (exec_move rfl fr.2.2.1) (hK _ _ ⟨Touch.refl _ _, rfl⟩)⟩),
      -- 8
      (fun Q aq ww own hS hBg fr kn => .inl ⟨trivial, fun K hK => wp_value (exec_idx rfl Tryd.underlying59 size_int kn.1 kn.2.1 hy) (hK _ _ ⟨Touch.refl _ _, rfl⟩)⟩),
      -- 9
      (fun Q aq ww own hS hBg fr kn => .inl ⟨trivial, fun K hK => wp_value (exec_ld rfl kn.1 (load_int (cell0 kn.2.1 hy))) (hK _ _ ⟨Touch.refl _ _, rfl⟩)⟩),
      -- 10
      (fun Q aq ww own hS hBg fr kn => .inl ⟨trivial, fun K hK => wp_value (exec_add rfl kn.1 kn.2.1 (sum_lo (Ws0 a ha) (Ws0 y hy)) (sum_hi (Ws0 a ha) (Ws0 y hy))) (hK _ _ ⟨Touch.refl _ _, rfl⟩)⟩),
      -- 11
      (fun Q aq ww own hS hBg fr kn => .inl ⟨trivial, fun K hK => wp_value (exec_move rfl fr.2.2.2.1) (hK _ _ ⟨Touch.refl _ _, rfl⟩)⟩),
      -- 12
      (fun Q aq ww own hS hBg fr kn => .inl ⟨trivial, fun K hK => wp_value (exec_add rfl kn.1 kn.2.1 (sum3_lo (Ws0 a ha) (Ws0 y hy) hx) (sum3_hi (Ws0 a ha) (Ws0 y hy) hx)) (hK _ _ ⟨Touch.refl _ _, rfl⟩)⟩),
      -- 13
      (fun Q aq ww own hS hBg fr kn => .inl ⟨trivial, fun K hK => wp_value (exec_rem3 rfl kn.1 (Ws0 a ha) (Ws0 y hy) hx) (hK _ _ ⟨Touch.refl _ _, rfl⟩)⟩),
      -- 14
      (fun Q aq ww own hS hBg fr kn => .inl ⟨trivial, fun K hK => wp_value (exec_idx rfl Tryd.underlying59 size_int kn.1 kn.2.1 ha) (hK _ _ ⟨Touch.refl _ _, rfl⟩)⟩),
      -- 15
      (fun Q aq ww own hS hBg fr kn => .inl ⟨trivial, fun K hK => act_cell rfl (ptr0 kn.1) kn.2.2.1 kn.2.1 ha (fun w2 hg ho => hK _ _ ⟨⟨touch_only ho, hs1 ▸ hg⟩, trivial⟩)⟩),
      trivial⟩ ?_
  intro vs0 own v1 hT0 hs0 kn inj
  clear inj
  replace hR : RowAt v1 b .i64 3 n s1 := kn.1
  clear kn hs0
  replace hT := hT0
  clear hT0 own
  simp only [putAll, Act.put, List.setIfInBounds_toArray, List.set_cons_zero, List.set_cons_succ]
  obtain ⟨s2, hs2⟩ : ∃ f, upd s1 d (rotd (xorw (s1 d) (s1 a)) 16) = f := ⟨_, rfl⟩
  have Ws2 : ∀ i, i < n → W32 (s2 i) := by rw [← hs2]; exact w32_upd Ws1 (rotd_w 16 (xorw_w (Ws1 d hd) (Ws1 a ha)))
  go_wp2_with fail
  refine wp_region3 (Touch (fun k => k = b) w) v1.heap.size
    [(b, ⟨rowOb .i64 3 n s1, [(13, rowOb .i64 3 n s2)]⟩)]
    [kv (.slice (some ⟨b, 0, none⟩) n cp), kv (.int .i64 (d : Int)), kv (.slice (some ⟨b, 0, none⟩) n cp), kv (.int .i64 (d : Int)), kv (.pointer (some ⟨b, 0 + d, none⟩)), kv (.int .i64 (s1 d)), kv (.slice (some ⟨b, 0, none⟩) n cp), kv (.int .i64 (a : Int)), kv (.pointer (some ⟨b, 0 + a, none⟩)), kv (.int .i64 (s1 a)), kv (.int .i64 (xorw (s1 d) (s1 a))), kv (.int .i64 (rotd (xorw (s1 d) (s1 a)) 16)), kv (.pointer (some ⟨b, 0 + d, none⟩)), .val fun _ => True]
    [.none, .none, .none, .none, .none, .none, .none, .none, .none, .none, .none, .none, .none, .base 0 1]
    [some 29, some 30, some 31, some 32, some 33, some 34, some 35, some 36, some 37, some 38, some 39, some 40, some 41, none]
    [(0, .slice (some ⟨b, 0, none⟩) n cp), (4, .int .i64 (d : Int)), (1, .int .i64 (a : Int))]
    [[], [], [], [], [.slot 2, .slot 3], [.slot 4, .base 0 0], [], [], [.slot 6, .slot 7], [.slot 8, .base 0 0], [.slot 5, .slot 9], [.slot 10], [.slot 0, .slot 1], [.slot 12, .base 0 0, .slot 11]]
    [.base 0 1] [29, 30, 31, 32, 33, 34, 35, 36, 37, 38, 39, 40, 41]
    rfl (by kernel_rfl) ⟨rfl, rfl, rfl, trivial⟩ (Touch.drew hT) (Nat.le_refl _) ⟨⟨RowAt.lt hR, hR⟩, trivial⟩ ⟨trivial, trivial⟩ (touch_S hT.size)
    ⟨
      -- 0
      (fun Q aq ww own hS hBg fr kn => .inl ⟨trivial, fun K hK => wp_value (exec_move rfl fr.1) (hK _ _ ⟨Touch.refl _ _, rfl⟩)⟩),
      -- 1
      (fun Q aq ww own hS hBg fr kn => .inl ⟨trivial, fun K hK => wp_value (exec_move rfl fr.2.1) (hK _ _ ⟨Touch.refl _ _, rfl⟩)⟩),
      -- 2
      (fun Q aq ww own hS hBg fr kn => .inl ⟨trivial, fun K hK => wp_value (exec_move rfl fr.1) (hK _ _ ⟨Touch.refl _ _, rfl⟩)⟩),
      -- 3
      (fun Q aq ww own hS hBg fr kn => .inl ⟨trivial, fun K hK => wp_value (exec_move rfl fr.2.1) (hK _ _ ⟨Touch.refl _ _, rfl⟩)⟩),
      -- 4
      (fun Q aq ww own hS hBg fr kn => .inl ⟨trivial, fun K hK => wp_value (exec_idx rfl Tryd.underlying59 size_int kn.1 kn.2.1 hd) (hK _ _ ⟨Touch.refl _ _, rfl⟩)⟩),
      -- 5
      (fun Q aq ww own hS hBg fr kn => .inl ⟨trivial, fun K hK => wp_value (exec_ld rfl kn.1 (load_int (cell0 kn.2.1 hd))) (hK _ _ ⟨Touch.refl _ _, rfl⟩)⟩),
      -- 6
      (fun Q aq ww own hS hBg fr kn => .inl ⟨trivial, fun K hK => wp_value (exec_move rfl fr.1) (hK _ _ ⟨Touch.refl _ _, rfl⟩)⟩),
      -- 7
      (fun Q aq ww own hS hBg fr kn => .inl ⟨trivial, fun K hK => wp_value (exec_move rfl fr.2.2.1) (hK _ _ ⟨Touch.refl _ _, rfl⟩)⟩),
      -- 8
      (fun Q aq ww own hS hBg fr kn => .inl ⟨trivial, fun K hK => wp_value (exec_idx rfl Tryd.underlying59 size_int kn.1 kn.2.1 ha) (hK _ _ ⟨Touch.refl _ _, rfl⟩)⟩),
      -- 9
      (fun Q aq ww own hS hBg fr kn => .inl ⟨trivial, fun K hK => wp_value (exec_ld rfl kn.1 (load_int (cell0 kn.2.1 ha))) (hK _ _ ⟨Touch.refl _ _, rfl⟩)⟩),
      -- 10
      (fun Q aq ww own hS hBg fr kn => .inl ⟨trivial, fun K hK => wp_value (exec_xor rfl kn.1 kn.2.1 (Ws1 d hd) (Ws1 a ha)) (hK _ _ ⟨Touch.refl _ _, rfl⟩)⟩),
      -- 11
      (fun Q aq ww own hS hBg fr kn => .inl ⟨trivial, fun K hK => stepc enterDown rfl (args2 kn.1 rfl) (down_run _ 16 _ (xorw_w (Ws1 d hd) (Ws1 a ha)) (by decide)) (fun w' hb => hK _ _ ⟨touch_below hb, rfl⟩)⟩),
      -- 12
      (fun Q aq ww own hS hBg fr kn => .inl ⟨trivial, fun K hK => wp_value (exec_idx rfl Tryd.underlying59 size_int kn.1 kn.2.1 hd) (hK _ _ ⟨Touch.refl _ _, rfl⟩)⟩),
      -- 13
      (fun Q aq ww own hS hBg fr kn => .inl ⟨trivial, fun K hK => act_cell rfl (ptr0 kn.1) kn.2.2.1 kn.2.1 hd (fun w2 hg ho => hK _ _ ⟨⟨touch_only ho, hs2 ▸ hg⟩, trivial⟩)⟩),
      trivial⟩ ?_
  intro vs1 own v2 hT1 hs1 kn inj
  clear inj
  replace hR : RowAt v2 b .i64 3 n s2 := kn.1
  clear kn hs1
  replace hT := hT1
  clear hT1 own
  simp only [putAll, Act.put, List.setIfInBounds_toArray, List.set_cons_zero, List.set_cons_succ]
  obtain ⟨s3, hs3⟩ : ∃ f, upd s2 c (addw (s2 c) (s2 d)) = f := ⟨_, rfl⟩
  have Ws3 : ∀ i, i < n → W32 (s3 i) := by rw [← hs3]; exact w32_upd Ws2 (addw_w _ _)
  go_wp2_with fail
  refine wp_region3 (Touch (fun k => k = b) w) v2.heap.size
    [(b, ⟨rowOb .i64 3 n s2, [(13, rowOb .i64 3 n s3)]⟩)]
    [kv (.slice (some ⟨b, 0, none⟩) n cp), kv (.int .i64 (c : Int)), kv (.slice (some ⟨b, 0, none⟩) n cp), kv (.int .i64 (c : Int)), kv (.pointer (some ⟨b, 0 + c, none⟩)), kv (.int .i64 (s2 c)), kv (.slice (some ⟨b, 0, none⟩) n cp), kv (.int .i64 (d : Int)), kv (.pointer (some ⟨b, 0 + d, none⟩)), kv (.int .i64 (s2 d)), kv (.int .i64 (s2 c + s2 d)), kv (.int .i64 (addw (s2 c) (s2 d))), kv (.pointer (some ⟨b, 0 + c, none⟩)), .val fun _ => True]
    [.none, .none, .none, .none, .none, .none, .none, .none, .none, .none, .none, .none, .none, .base 0 1]
    [some 42, some 43, some 44, some 45, some 46, some 47, some 48, some 49, some 50, some 51, some 52, some 53, some 54, none]
    [(0, .slice (some ⟨b, 0, none⟩) n cp), (3, .int .i64 (c : Int)), (4, .int .i64 (d : Int))]
    [[], [], [], [], [.slot 2, .slot 3], [.slot 4, .base 0 0], [], [], [.slot 6, .slot 7], [.slot 8, .base 0 0], [.slot 5, .slot 9], [.slot 10], [.slot 0, .slot 1], [.slot 12, .base 0 0, .slot 11]]
    [.base 0 1] [42, 43, 44, 45, 46, 47, 48, 49, 50, 51, 52, 53, 54]
    rfl (by kernel_rfl) ⟨rfl, rfl, rfl, trivial⟩ (Touch.drew hT) (Nat.le_refl _) ⟨⟨RowAt.lt hR, hR⟩, trivial⟩ ⟨trivial, trivial⟩ (touch_S hT.size)
    ⟨
      -- 0
      (fun Q aq ww own hS hBg fr kn => .inl ⟨trivial, fun K hK => wp_value (exec_move rfl fr.1) (hK _ _ ⟨Touch.refl _ _, rfl⟩)⟩),
      -- 1
      (fun Q aq ww own hS hBg fr kn => .inl ⟨trivial, fun K hK => wp_value (exec_move rfl fr.2.1) (hK _ _ ⟨Touch.refl _ _, rfl⟩)⟩),
      -- 2
      (fun Q aq ww own hS hBg fr kn => .inl ⟨trivial, fun K hK => wp_value (exec_move rfl fr.1) (hK _ _ ⟨Touch.refl _ _, rfl⟩)⟩),
      -- 3
      (fun Q aq ww own hS hBg fr kn => .inl ⟨trivial, fun K hK => wp_value (exec_move rfl fr.2.1) (hK _ _ ⟨Touch.refl _ _, rfl⟩)⟩),
      -- 4
      (fun Q aq ww own hS hBg fr kn => .inl ⟨trivial, fun K hK => wp_value (exec_idx rfl Tryd.underlying59 size_int kn.1 kn.2.1 hc) (hK _ _ ⟨Touch.refl _ _, rfl⟩)⟩),
      -- 5
      (fun Q aq ww own hS hBg fr kn => .inl ⟨trivial, fun K hK => wp_value (exec_ld rfl kn.1 (load_int (cell0 kn.2.1 hc))) (hK _ _ ⟨Touch.refl _ _, rfl⟩)⟩),
      -- 6
      (fun Q aq ww own hS hBg fr kn => .inl ⟨trivial, fun K hK => wp_value (exec_move rfl fr.1) (hK _ _ ⟨Touch.refl _ _, rfl⟩)⟩),
      -- 7
      (fun Q aq ww own hS hBg fr kn => .inl ⟨trivial, fun K hK => wp_value (exec_move rfl fr.2.2.1) (hK _ _ ⟨Touch.refl _ _, rfl⟩)⟩),
      -- 8
      (fun Q aq ww own hS hBg fr kn => .inl ⟨trivial, fun K hK => wp_value (exec_idx rfl Tryd.underlying59 size_int kn.1 kn.2.1 hd) (hK _ _ ⟨Touch.refl _ _, rfl⟩)⟩),
      -- 9
      (fun Q aq ww own hS hBg fr kn => .inl ⟨trivial, fun K hK => wp_value (exec_ld rfl kn.1 (load_int (cell0 kn.2.1 hd))) (hK _ _ ⟨Touch.refl _ _, rfl⟩)⟩),
      -- 10
      (fun Q aq ww own hS hBg fr kn => .inl ⟨trivial, fun K hK => wp_value (exec_add rfl kn.1 kn.2.1 (sum_lo (Ws2 c hc) (Ws2 d hd)) (sum_hi (Ws2 c hc) (Ws2 d hd))) (hK _ _ ⟨Touch.refl _ _, rfl⟩)⟩),
      -- 11
      (fun Q aq ww own hS hBg fr kn => .inl ⟨trivial, fun K hK => wp_value (exec_rem2 rfl kn.1 (Ws2 c hc) (Ws2 d hd)) (hK _ _ ⟨Touch.refl _ _, rfl⟩)⟩),
      -- 12
      (fun Q aq ww own hS hBg fr kn => .inl ⟨trivial, fun K hK => wp_value (exec_idx rfl Tryd.underlying59 size_int kn.1 kn.2.1 hc) (hK _ _ ⟨Touch.refl _ _, rfl⟩)⟩),
      -- 13
      (fun Q aq ww own hS hBg fr kn => .inl ⟨trivial, fun K hK => act_cell rfl (ptr0 kn.1) kn.2.2.1 kn.2.1 hc (fun w2 hg ho => hK _ _ ⟨⟨touch_only ho, hs3 ▸ hg⟩, trivial⟩)⟩),
      trivial⟩ ?_
  intro vs2 own v3 hT2 hs2 kn inj
  clear inj
  replace hR : RowAt v3 b .i64 3 n s3 := kn.1
  clear kn hs2
  replace hT := hT2
  clear hT2 own
  simp only [putAll, Act.put, List.setIfInBounds_toArray, List.set_cons_zero, List.set_cons_succ]
  obtain ⟨s4, hs4⟩ : ∃ f, upd s3 y (rotd (xorw (s3 y) (s3 c)) 12) = f := ⟨_, rfl⟩
  have Ws4 : ∀ i, i < n → W32 (s4 i) := by rw [← hs4]; exact w32_upd Ws3 (rotd_w 12 (xorw_w (Ws3 y hy) (Ws3 c hc)))
  go_wp2_with fail
  refine wp_region3 (Touch (fun k => k = b) w) v3.heap.size
    [(b, ⟨rowOb .i64 3 n s3, [(13, rowOb .i64 3 n s4)]⟩)]
    [kv (.slice (some ⟨b, 0, none⟩) n cp), kv (.int .i64 (y : Int)), kv (.slice (some ⟨b, 0, none⟩) n cp), kv (.int .i64 (y : Int)), kv (.pointer (some ⟨b, 0 + y, none⟩)), kv (.int .i64 (s3 y)), kv (.slice (some ⟨b, 0, none⟩) n cp), kv (.int .i64 (c : Int)), kv (.pointer (some ⟨b, 0 + c, none⟩)), kv (.int .i64 (s3 c)), kv (.int .i64 (xorw (s3 y) (s3 c))), kv (.int .i64 (rotd (xorw (s3 y) (s3 c)) 12)), kv (.pointer (some ⟨b, 0 + y, none⟩)), .val fun _ => True]
    [.none, .none, .none, .none, .none, .none, .none, .none, .none, .none, .none, .none, .none, .base 0 1]
    [some 55, some 56, some 57, some 58, some 59, some 60, some 61, some 62, some 63, some 64, some 65, some 66, some 67, none]
    [(0, .slice (some ⟨b, 0, none⟩) n cp), (2, .int .i64 (y : Int)), (3, .int .i64 (c : Int))]
    [[], [], [], [], [.slot 2, .slot 3], [.slot 4, .base 0 0], [], [], [.slot 6, .slot 7], [.slot 8, .base 0 0], [.slot 5, .slot 9], [.slot 10], [.slot 0, .slot 1], [.slot 12, .base 0 0, .slot 11]]
    [.base 0 1] [55, 56, 57, 58, 59, 60, 61, 62, 63, 64, 65, 66, 67]
    rfl (by kernel_rfl) ⟨rfl, rfl, rfl, trivial⟩ (Touch.drew hT) (Nat.le_refl _) ⟨⟨RowAt.lt hR, hR⟩, trivial⟩ ⟨trivial, trivial⟩ (touch_S hT.size)
    ⟨
      -- 0
      (fun Q aq ww own hS hBg fr kn => .inl ⟨trivial, fun K hK => wp_value (exec_move rfl fr.1) (hK _ _ ⟨Touch.refl _ _, rfl⟩)⟩),
      -- 1
      (fun Q aq ww own hS hBg fr kn => .inl ⟨trivial, fun K hK => wp_value (exec_move rfl fr.2.1) (hK _ _ ⟨Touch.refl _ _, rfl⟩)⟩),
      -- 2
      (fun Q aq ww own hS hBg fr kn => .inl ⟨trivial, fun K hK => wp_value (exec_move rfl fr.1) (hK _ _ ⟨Touch.refl _ _, rfl⟩)⟩),
      -- 3
      (fun Q aq ww own hS hBg fr kn => .inl ⟨trivial, fun K hK => wp_value (exec_move rfl fr.2.1) (hK _ _ ⟨Touch.refl _ _, rfl⟩)⟩),
      -- 4
      (fun Q aq ww own hS hBg fr kn => .inl ⟨trivial, fun K hK => wp_value (exec_idx rfl Tryd.underlying59 size_int kn.1 kn.2.1 hy) (hK _ _ ⟨Touch.refl _ _, rfl⟩)⟩),
      -- 5
      (fun Q aq ww own hS hBg fr kn => .inl ⟨trivial, fun K hK => wp_value (exec_ld rfl kn.1 (load_int (cell0 kn.2.1 hy))) (hK _ _ ⟨Touch.refl _ _, rfl⟩)⟩),
      -- 6
      (fun Q aq ww own hS hBg fr kn => .inl ⟨trivial, fun K hK => wp_value (exec_move rfl fr.1) (hK _ _ ⟨Touch.refl _ _, rfl⟩)⟩),
      -- 7
      (fun Q aq ww own hS hBg fr kn => .inl ⟨trivial, fun K hK => wp_value (exec_move rfl fr.2.2.1) (hK _ _ ⟨Touch.refl _ _, rfl⟩)⟩),
      -- 8
      (fun Q aq ww own hS hBg fr kn => .inl ⟨trivial, fun K hK => wp_value (exec_idx rfl Tryd.underlying59 size_int kn.1 kn.2.1 hc) (hK _ _ ⟨Touch.refl _ _, rfl⟩)⟩),
      -- 9
      (fun Q aq ww own hS hBg fr kn => .inl ⟨trivial, fun K hK => wp_value (exec_ld rfl kn.1 (load_int (cell0 kn.2.1 hc))) (hK _ _ ⟨Touch.refl _ _, rfl⟩)⟩),
      -- 10
      (fun Q aq ww own hS hBg fr kn => .inl ⟨trivial, fun K hK => wp_value (exec_xor rfl kn.1 kn.2.1 (Ws3 y hy) (Ws3 c hc)) (hK _ _ ⟨Touch.refl _ _, rfl⟩)⟩),
      -- 11
      (fun Q aq ww own hS hBg fr kn => .inl ⟨trivial, fun K hK => stepc enterDown rfl (args2 kn.1 rfl) (down_run _ 12 _ (xorw_w (Ws3 y hy) (Ws3 c hc)) (by decide)) (fun w' hb => hK _ _ ⟨touch_below hb, rfl⟩)⟩),
      -- 12
      (fun Q aq ww own hS hBg fr kn => .inl ⟨trivial, fun K hK => wp_value (exec_idx rfl Tryd.underlying59 size_int kn.1 kn.2.1 hy) (hK _ _ ⟨Touch.refl _ _, rfl⟩)⟩),
      -- 13
      (fun Q aq ww own hS hBg fr kn => .inl ⟨trivial, fun K hK => act_cell rfl (ptr0 kn.1) kn.2.2.1 kn.2.1 hy (fun w2 hg ho => hK _ _ ⟨⟨touch_only ho, hs4 ▸ hg⟩, trivial⟩)⟩),
      trivial⟩ ?_
  intro vs3 own v4 hT3 hs3 kn inj
  clear inj
  replace hR : RowAt v4 b .i64 3 n s4 := kn.1
  clear kn hs3
  replace hT := hT3
  clear hT3 own
  simp only [putAll, Act.put, List.setIfInBounds_toArray, List.set_cons_zero, List.set_cons_succ]
  obtain ⟨s5, hs5⟩ : ∃ f, upd s4 a (addw (addw (s4 a) (s4 y)) z) = f := ⟨_, rfl⟩
  have Ws5 : ∀ i, i < n → W32 (s5 i) := by rw [← hs5]; exact w32_upd Ws4 (addw_w _ _)
  go_wp2_with fail
  refine wp_region3 (Touch (fun k => k = b) w) v4.heap.size
    [(b, ⟨rowOb .i64 3 n s4, [(15, rowOb .i64 3 n s5)]⟩)]
    [kv (.slice (some ⟨b, 0, none⟩) n cp), kv (.int .i64 (a : Int)), kv (.slice (some ⟨b, 0, none⟩) n cp), kv (.int .i64 (a : Int)), kv (.pointer (some ⟨b, 0 + a, none⟩)), kv (.int .i64 (s4 a)), kv (.slice (some ⟨b, 0, none⟩) n cp), kv (.int .i64 (y : Int)), kv (.pointer (some ⟨b, 0 + y, none⟩)), kv (.int .i64 (s4 y)), kv (.int .i64 (s4 a + s4 y)), kv (.int .i64 z), kv (.int .i64 (s4 a + s4 y + z)), kv (.int .i64 (addw (addw (s4 a) (s4 y)) z)), kv (.pointer (some ⟨b, 0 + a, none⟩)), .val fun _ => True]
    [.none, .none, .none, .none, .none, .none, .none, .none, .none, .none, .none, .none, .none, .none, .none, .base 0 1]
    [some 68, some 69, some 70, some 71, some 72, some 73, some 74, some 75, some 76, some 77, some 78, some 79, some 80, some 81, some 82, none]
    [(0, .slice (some ⟨b, 0, none⟩) n cp), (1, .int .i64 (a : Int)), (2, .int .i64 (y : Int)), (6, .int .i64 z)]
    [[], [], [], [], [.slot 2, .slot 3], [.slot 4, .base 0 0], [], [], [.slot 6, .slot 7], [.slot 8, .base 0 0], [.slot 5, .slot 9], [], [.slot 10, .slot 11], [.slot 12], [.slot 0, .slot 1], [.slot 14, .base 0 0, .slot 13]]
    [.base 0 1] [68, 69, 70, 71, 72, 73, 74, 75, 76, 77, 78, 79, 80, 81, 82]
    rfl (by kernel_rfl) ⟨rfl, rfl, rfl, rfl, trivial⟩ (Touch.drew hT) (Nat.le_refl _) ⟨⟨RowAt.lt hR, hR⟩, trivial⟩ ⟨trivial, trivial⟩ (touch_S hT.size)
    ⟨
      -- 0
      (fun Q aq ww own hS hBg fr kn => .inl ⟨trivial, fun K hK => wp_value (exec_move rfl fr.1) (hK _ _ ⟨Touch.refl _ _, rfl⟩)⟩),
      -- 1
      (fun Q aq ww own hS hBg fr kn => .inl ⟨trivial, fun K hK => wp_value (exec_move rfl fr.2.1) (hK _ _ ⟨Touch.refl _ _, rfl⟩)⟩),
      -- 2
      (fun Q aq ww own hS hBg fr kn => .inl ⟨trivial, fun K hK => wp_value (exec_move rfl fr.1) (hK _ _ ⟨Touch.refl _ _, rfl⟩)⟩),
      -- 3
      (fun Q aq ww own hS hBg fr kn => .inl ⟨trivial, fun K hK => wp_value (exec_move rfl fr.2.1) (hK _ _ ⟨Touch.refl _ _, rfl⟩)⟩),
      -- 4
      (fun Q aq ww own hS hBg fr kn => .inl ⟨trivial, fun K hK => wp_value (exec_idx rfl Tryd.underlying59 size_int kn.1 kn.2.1 ha) (hK _ _ ⟨Touch.refl _ _, rfl⟩)⟩),
      -- 5
      (fun Q aq ww own hS hBg fr kn => .inl ⟨trivial, fun K hK => wp_value (exec_ld rfl kn.1 (load_int (cell0 kn.2.1 ha))) (hK _ _ ⟨Touch.refl _ _, rfl⟩)⟩),
      -- 6
      (fun Q aq ww own hS hBg fr kn => .inl ⟨trivial, fun K hK => wp_value (exec_move rfl fr.1) (hK _ _ ⟨Touch.refl _ _, rfl⟩)⟩),
      -- 7
      (fun Q aq ww own hS hBg fr kn => .inl ⟨trivial, fun K hK => wp_value (exec_move rfl fr.2.2.1) (hK _ _ ⟨Touch.refl _ _, rfl⟩)⟩),
      -- 8
      (fun Q aq ww own hS hBg fr kn => .inl ⟨trivial, fun K hK => wp_value (exec_idx rfl Tryd.underlying59 size_int kn.1 kn.2.1 hy) (hK _ _ ⟨Touch.refl _ _, rfl⟩)⟩),
      -- 9
      (fun Q aq ww own hS hBg fr kn => .inl ⟨trivial, fun K hK => wp_value (exec_ld rfl kn.1 (load_int (cell0 kn.2.1 hy))) (hK _ _ ⟨Touch.refl _ _, rfl⟩)⟩),
      -- 10
      (fun Q aq ww own hS hBg fr kn => .inl ⟨trivial, fun K hK => wp_value (exec_add rfl kn.1 kn.2.1 (sum_lo (Ws4 a ha) (Ws4 y hy)) (sum_hi (Ws4 a ha) (Ws4 y hy))) (hK _ _ ⟨Touch.refl _ _, rfl⟩)⟩),
      -- 11
      (fun Q aq ww own hS hBg fr kn => .inl ⟨trivial, fun K hK => wp_value (exec_move rfl fr.2.2.2.1) (hK _ _ ⟨Touch.refl _ _, rfl⟩)⟩),
      -- 12
      (fun Q aq ww own hS hBg fr kn => .inl ⟨trivial, fun K hK => wp_value (exec_add rfl kn.1 kn.2.1 (sum3_lo (Ws4 a ha) (Ws4 y hy) hz) (sum3_hi (Ws4 a ha) (Ws4 y hy) hz)) (hK _ _ ⟨Touch.refl _ _, rfl⟩)⟩),
      -- 13
      (fun Q aq ww own hS hBg fr kn => .inl ⟨trivial, fun K hK => wp_value (exec_rem3 rfl kn.1 (Ws4 a ha) (Ws4 y hy) hz) (hK _ _ ⟨Touch.refl _ _, rfl⟩)⟩),
      -- 14
      (fun Q aq ww own hS hBg fr kn => .inl ⟨trivial, fun K hK => wp_value (exec_idx rfl Tryd.underlying59 size_int kn.1 kn.2.1 ha) (hK _ _ ⟨Touch.refl _ _, rfl⟩)⟩),
      -- 15
      (fun Q aq ww own hS hBg fr kn => .inl ⟨trivial, fun K hK => act_cell rfl (ptr0 kn.1) kn.2.2.1 kn.2.1 ha (fun w2 hg ho => hK _ _ ⟨⟨touch_only ho, hs5 ▸ hg⟩, trivial⟩)⟩),
      trivial⟩ ?_
  intro vs4 own v5 hT4 hs4 kn inj
  clear inj
  replace hR : RowAt v5 b .i64 3 n s5 := kn.1
  clear kn hs4
  replace hT := hT4
  clear hT4 own
  simp only [putAll, Act.put, List.setIfInBounds_toArray, List.set_cons_zero, List.set_cons_succ]
  obtain ⟨s6, hs6⟩ : ∃ f, upd s5 d (rotd (xorw (s5 d) (s5 a)) 8) = f := ⟨_, rfl⟩
  have Ws6 : ∀ i, i < n → W32 (s6 i) := by rw [← hs6]; exact w32_upd Ws5 (rotd_w 8 (xorw_w (Ws5 d hd) (Ws5 a ha)))
  go_wp2_with fail
  refine wp_region3 (Touch (fun k => k = b) w) v5.heap.size
    [(b, ⟨rowOb .i64 3 n s5, [(13, rowOb .i64 3 n s6)]⟩)]
    [kv (.slice (some ⟨b, 0, none⟩) n cp), kv (.int .i64 (d : Int)), kv (.slice (some ⟨b, 0, none⟩) n cp), kv (.int .i64 (d : Int)), kv (.pointer (some ⟨b, 0 + d, none⟩)), kv (.int .i64 (s5 d)), kv (.slice (some ⟨b, 0, none⟩) n cp), kv (.int .i64 (a : Int)), kv (.pointer (some ⟨b, 0 + a, none⟩)), kv (.int .i64 (s5 a)), kv (.int .i64 (xorw (s5 d) (s5 a))), kv (.int .i64 (rotd (xorw (s5 d) (s5 a)) 8)), kv (.pointer (some ⟨b, 0 + d, none⟩)), .val fun _ => True]
    [.none, .none, .none, .none, .none, .none, .none, .none, .none, .none, .none, .none, .none, .base 0 1]
    [some 83, some 84, some 85, some 86, some 87, some 88, some 89, some 90, some 91, some 92, some 93, some 94, some 95, none]
    [(0, .slice (some ⟨b, 0, none⟩) n cp), (4, .int .i64 (d : Int)), (1, .int .i64 (a : Int))]
    [[], [], [], [], [.slot 2, .slot 3], [.slot 4, .base 0 0], [], [], [.slot 6, .slot 7], [.slot 8, .base 0 0], [.slot 5, .slot 9], [.slot 10], [.slot 0, .slot 1], [.slot 12, .base 0 0, .slot 11]]
    [.base 0 1] [83, 84, 85, 86, 87, 88, 89, 90, 91, 92, 93, 94, 95]
    rfl (by kernel_rfl) ⟨rfl, rfl, rfl, trivial⟩ (Touch.drew hT) (Nat.le_refl _) ⟨⟨RowAt.lt hR, hR⟩, trivial⟩ ⟨trivial, trivial⟩ (touch_S hT.size)
    ⟨
      -- 0
      (fun Q aq ww own hS hBg fr kn => .inl ⟨trivial, fun K hK => wp_value (exec_move rfl fr.1) (hK _ _ ⟨Touch.refl _ _, rfl⟩)⟩),
      -- 1
      (fun Q aq ww own hS hBg fr kn => .inl ⟨trivial, fun K hK => wp_value (exec_move rfl fr.2.1) (hK _ _ ⟨Touch.refl _ _, rfl⟩)⟩),
      -- 2
      (fun Q aq ww own hS hBg fr kn => .inl ⟨trivial, fun K hK => wp_value (exec_move rfl fr.1) (hK _ _ ⟨Touch.refl _ _, rfl⟩)⟩),
      -- 3
      (fun Q aq ww own hS hBg fr kn => .inl ⟨trivial, fun K hK => wp_value (exec_move rfl fr.2.1) (hK _ _ ⟨Touch.refl _ _, rfl⟩)⟩),
      -- 4
      (fun Q aq ww own hS hBg fr kn => .inl ⟨trivial, fun K hK => wp_value (exec_idx rfl Tryd.underlying59 size_int kn.1 kn.2.1 hd) (hK _ _ ⟨Touch.refl _ _, rfl⟩)⟩),
      -- 5
      (fun Q aq ww own hS hBg fr kn => .inl ⟨trivial, fun K hK => wp_value (exec_ld rfl kn.1 (load_int (cell0 kn.2.1 hd))) (hK _ _ ⟨Touch.refl _ _, rfl⟩)⟩),
      -- 6
      (fun Q aq ww own hS hBg fr kn => .inl ⟨trivial, fun K hK => wp_value (exec_move rfl fr.1) (hK _ _ ⟨Touch.refl _ _, rfl⟩)⟩),
      -- 7
      (fun Q aq ww own hS hBg fr kn => .inl ⟨trivial, fun K hK => wp_value (exec_move rfl fr.2.2.1) (hK _ _ ⟨Touch.refl _ _, rfl⟩)⟩),
      -- 8
      (fun Q aq ww own hS hBg fr kn => .inl ⟨trivial, fun K hK => wp_value (exec_idx rfl Tryd.underlying59 size_int kn.1 kn.2.1 ha) (hK _ _ ⟨Touch.refl _ _, rfl⟩)⟩),
      -- 9
      (fun Q aq ww own hS hBg fr kn => .inl ⟨trivial, fun K hK => wp_value (exec_ld rfl kn.1 (load_int (cell0 kn.2.1 ha))) (hK _ _ ⟨Touch.refl _ _, rfl⟩)⟩),
      -- 10
      (fun Q aq ww own hS hBg fr kn => .inl ⟨trivial, fun K hK => wp_value (exec_xor rfl kn.1 kn.2.1 (Ws5 d hd) (Ws5 a ha)) (hK _ _ ⟨Touch.refl _ _, rfl⟩)⟩),
      -- 11
      (fun Q aq ww own hS hBg fr kn => .inl ⟨trivial, fun K hK => stepc enterDown rfl (args2 kn.1 rfl) (down_run _ 8 _ (xorw_w (Ws5 d hd) (Ws5 a ha)) (by decide)) (fun w' hb => hK _ _ ⟨touch_below hb, rfl⟩)⟩),
      -- 12
      (fun Q aq ww own hS hBg fr kn => .inl ⟨trivial, fun K hK => wp_value (exec_idx rfl Tryd.underlying59 size_int kn.1 kn.2.1 hd) (hK _ _ ⟨Touch.refl _ _, rfl⟩)⟩),
      -- 13
      (fun Q aq ww own hS hBg fr kn => .inl ⟨trivial, fun K hK => act_cell rfl (ptr0 kn.1) kn.2.2.1 kn.2.1 hd (fun w2 hg ho => hK _ _ ⟨⟨touch_only ho, hs6 ▸ hg⟩, trivial⟩)⟩),
      trivial⟩ ?_
  intro vs5 own v6 hT5 hs5 kn inj
  clear inj
  replace hR : RowAt v6 b .i64 3 n s6 := kn.1
  clear kn hs5
  replace hT := hT5
  clear hT5 own
  simp only [putAll, Act.put, List.setIfInBounds_toArray, List.set_cons_zero, List.set_cons_succ]
  obtain ⟨s7, hs7⟩ : ∃ f, upd s6 c (addw (s6 c) (s6 d)) = f := ⟨_, rfl⟩
  have Ws7 : ∀ i, i < n → W32 (s7 i) := by rw [← hs7]; exact w32_upd Ws6 (addw_w _ _)
  go_wp2_with fail
  refine wp_region3 (Touch (fun k => k = b) w) v6.heap.size
    [(b, ⟨rowOb .i64 3 n s6, [(13, rowOb .i64 3 n s7)]⟩)]
    [kv (.slice (some ⟨b, 0, none⟩) n cp), kv (.int .i64 (c : Int)), kv (.slice (some ⟨b, 0, none⟩) n cp), kv (.int .i64 (c : Int)), kv (.pointer (some ⟨b, 0 + c, none⟩)), kv (.int .i64 (s6 c)), kv (.slice (some ⟨b, 0, none⟩) n cp), kv (.int .i64 (d : Int)), kv (.pointer (some ⟨b, 0 + d, none⟩)), kv (.int .i64 (s6 d)), kv (.int .i64 (s6 c + s6 d)), kv (.int .i64 (addw (s6 c) (s6 d))), kv (.pointer (some ⟨b, 0 + c, none⟩)), .val fun _ => True]
    [.none, .none, .none, .none, .none, .none, .none, .none, .none, .none, .none, .none, .none, .base 0 1]
    [some 96, some 97, some 98, some 99, some 100, some 101, some 102, some 103, some 104, some 105, some 106, some 107, some 108, none]
    [(0, .slice (some ⟨b, 0, none⟩) n cp), (3, .int .i64 (c : Int)), (4, .int .i64 (d : Int))]
    [[], [], [], [], [.slot 2, .slot 3], [.slot 4, .base 0 0], [], [], [.slot 6, .slot 7], [.slot 8, .base 0 0], [.slot 5, .slot 9], [.slot 10], [.slot 0, .slot 1], [.slot 12, .base 0 0, .slot 11]]
    [.base 0 1] [96, 97, 98, 99, 100, 101, 102, 103, 104, 105, 106, 107, 108]
    rfl (by kernel_rfl) ⟨rfl, rfl, rfl, trivial⟩ (Touch.drew hT) (Nat.le_refl _) ⟨⟨RowAt.lt hR, hR⟩, trivial⟩ ⟨trivial, trivial⟩ (touch_S hT.size)
    ⟨
      -- 0
      (fun Q aq ww own hS hBg fr kn => .inl ⟨trivial, fun K hK => wp_value (exec_move rfl fr.1) (hK _ _ ⟨Touch.refl _ _, rfl⟩)⟩),
      -- 1
      (fun Q aq ww own hS hBg fr kn => .inl ⟨trivial, fun K hK => wp_value (exec_move rfl fr.2.1) (hK _ _ ⟨Touch.refl _ _, rfl⟩)⟩),
      -- 2
      (fun Q aq ww own hS hBg fr kn => .inl ⟨trivial, fun K hK => wp_value (exec_move rfl fr.1) (hK _ _ ⟨Touch.refl _ _, rfl⟩)⟩),
      -- 3
      (fun Q aq ww own hS hBg fr kn => .inl ⟨trivial, fun K hK => wp_value (exec_move rfl fr.2.1) (hK _ _ ⟨Touch.refl _ _, rfl⟩)⟩),
      -- 4
      (fun Q aq ww own hS hBg fr kn => .inl ⟨trivial, fun K hK => wp_value (exec_idx rfl Tryd.underlying59 size_int kn.1 kn.2.1 hc) (hK _ _ ⟨Touch.refl _ _, rfl⟩)⟩),
      -- 5
      (fun Q aq ww own hS hBg fr kn => .inl ⟨trivial, fun K hK => wp_value (exec_ld rfl kn.1 (load_int (cell0 kn.2.1 hc))) (hK _ _ ⟨Touch.refl _ _, rfl⟩)⟩),
      -- 6
      (fun Q aq ww own hS hBg fr kn => .inl ⟨trivial, fun K hK => wp_value (exec_move rfl fr.1) (hK _ _ ⟨Touch.refl _ _, rfl⟩)⟩),
      -- 7
      (fun Q aq ww own hS hBg fr kn => .inl ⟨trivial, fun K hK => wp_value (exec_move rfl fr.2.2.1) (hK _ _ ⟨Touch.refl _ _, rfl⟩)⟩),
      -- 8
      (fun Q aq ww own hS hBg fr kn => .inl ⟨trivial, fun K hK => wp_value (exec_idx rfl Tryd.underlying59 size_int kn.1 kn.2.1 hd) (hK _ _ ⟨Touch.refl _ _, rfl⟩)⟩),
      -- 9
      (fun Q aq ww own hS hBg fr kn => .inl ⟨trivial, fun K hK => wp_value (exec_ld rfl kn.1 (load_int (cell0 kn.2.1 hd))) (hK _ _ ⟨Touch.refl _ _, rfl⟩)⟩),
      -- 10
      (fun Q aq ww own hS hBg fr kn => .inl ⟨trivial, fun K hK => wp_value (exec_add rfl kn.1 kn.2.1 (sum_lo (Ws6 c hc) (Ws6 d hd)) (sum_hi (Ws6 c hc) (Ws6 d hd))) (hK _ _ ⟨Touch.refl _ _, rfl⟩)⟩),
      -- 11
      (fun Q aq ww own hS hBg fr kn => .inl ⟨trivial, fun K hK => wp_value (exec_rem2 rfl kn.1 (Ws6 c hc) (Ws6 d hd)) (hK _ _ ⟨Touch.refl _ _, rfl⟩)⟩),
      -- 12
      (fun Q aq ww own hS hBg fr kn => .inl ⟨trivial, fun K hK => wp_value (exec_idx rfl Tryd.underlying59 size_int kn.1 kn.2.1 hc) (hK _ _ ⟨Touch.refl _ _, rfl⟩)⟩),
      -- 13
      (fun Q aq ww own hS hBg fr kn => .inl ⟨trivial, fun K hK => act_cell rfl (ptr0 kn.1) kn.2.2.1 kn.2.1 hc (fun w2 hg ho => hK _ _ ⟨⟨touch_only ho, hs7 ▸ hg⟩, trivial⟩)⟩),
      trivial⟩ ?_
  intro vs6 own v7 hT6 hs6 kn inj
  clear inj
  replace hR : RowAt v7 b .i64 3 n s7 := kn.1
  clear kn hs6
  replace hT := hT6
  clear hT6 own
  simp only [putAll, Act.put, List.setIfInBounds_toArray, List.set_cons_zero, List.set_cons_succ]
  obtain ⟨s8, hs8⟩ : ∃ f, upd s7 y (rotd (xorw (s7 y) (s7 c)) 7) = f := ⟨_, rfl⟩
  have Ws8 : ∀ i, i < n → W32 (s8 i) := by rw [← hs8]; exact w32_upd Ws7 (rotd_w 7 (xorw_w (Ws7 y hy) (Ws7 c hc)))
  go_wp2_with fail
  refine wp_region3 (Touch (fun k => k = b) w) v7.heap.size
    [(b, ⟨rowOb .i64 3 n s7, [(13, rowOb .i64 3 n s8)]⟩)]
    [kv (.slice (some ⟨b, 0, none⟩) n cp), kv (.int .i64 (y : Int)), kv (.slice (some ⟨b, 0, none⟩) n cp), kv (.int .i64 (y : Int)), kv (.pointer (some ⟨b, 0 + y, none⟩)), kv (.int .i64 (s7 y)), kv (.slice (some ⟨b, 0, none⟩) n cp), kv (.int .i64 (c : Int)), kv (.pointer (some ⟨b, 0 + c, none⟩)), kv (.int .i64 (s7 c)), kv (.int .i64 (xorw (s7 y) (s7 c))), kv (.int .i64 (rotd (xorw (s7 y) (s7 c)) 7)), kv (.pointer (some ⟨b, 0 + y, none⟩)), .val fun _ => True]
    [.none, .none, .none, .none, .none, .none, .none, .none, .none, .none, .none, .none, .none, .base 0 1]
    [some 109, some 110, some 111, some 112, some 113, some 114, some 115, some 116, some 117, some 118, some 119, some 120, some 121, none]
    [(0, .slice (some ⟨b, 0, none⟩) n cp), (2, .int .i64 (y : Int)), (3, .int .i64 (c : Int))]
    [[], [], [], [], [.slot 2, .slot 3], [.slot 4, .base 0 0], [], [], [.slot 6, .slot 7], [.slot 8, .base 0 0], [.slot 5, .slot 9], [.slot 10], [.slot 0, .slot 1], [.slot 12, .base 0 0, .slot 11]]
    [.base 0 1] [109, 110, 111, 112, 113, 114, 115, 116, 117, 118, 119, 120, 121]
    rfl (by kernel_rfl) ⟨rfl, rfl, rfl, trivial⟩ (Touch.drew hT) (Nat.le_refl _) ⟨⟨RowAt.lt hR, hR⟩, trivial⟩ ⟨trivial, trivial⟩ (touch_S hT.size)
    ⟨
      -- 0
      (fun Q aq ww own hS hBg fr kn => .inl ⟨trivial, fun K hK => wp_value (exec_move rfl fr.1) (hK _ _ ⟨Touch.refl _ _, rfl⟩)⟩),
      -- 1
      (fun Q aq ww own hS hBg fr kn => .inl ⟨trivial, fun K hK => wp_value (exec_move rfl fr.2.1) (hK _ _ ⟨Touch.refl _ _, rfl⟩)⟩),
      -- 2
      (fun Q aq ww own hS hBg fr kn => .inl ⟨trivial, fun K hK => wp_value (exec_move rfl fr.1) (hK _ _ ⟨Touch.refl _ _, rfl⟩)⟩),
      -- 3
      (fun Q aq ww own hS hBg fr kn => .inl ⟨trivial, fun K hK => wp_value (exec_move rfl fr.2.1) (hK _ _ ⟨Touch.refl _ _, rfl⟩)⟩),
      -- 4
      (fun Q aq ww own hS hBg fr kn => .inl ⟨trivial, fun K hK => wp_value (exec_idx rfl Tryd.underlying59 size_int kn.1 kn.2.1 hy) (hK _ _ ⟨Touch.refl _ _, rfl⟩)⟩),
      -- 5
      (fun Q aq ww own hS hBg fr kn => .inl ⟨trivial, fun K hK => wp_value (exec_ld rfl kn.1 (load_int (cell0 kn.2.1 hy))) (hK _ _ ⟨Touch.refl _ _, rfl⟩)⟩),
      -- 6
      (fun Q aq ww own hS hBg fr kn => .inl ⟨trivial, fun K hK => wp_value (exec_move rfl fr.1) (hK _ _ ⟨Touch.refl _ _, rfl⟩)⟩),
      -- 7
      (fun Q aq ww own hS hBg fr kn => .inl ⟨trivial, fun K hK => wp_value (exec_move rfl fr.2.2.1) (hK _ _ ⟨Touch.refl _ _, rfl⟩)⟩),
      -- 8
      (fun Q aq ww own hS hBg fr kn => .inl ⟨trivial, fun K hK => wp_value (exec_idx rfl Tryd.underlying59 size_int kn.1 kn.2.1 hc) (hK _ _ ⟨Touch.refl _ _, rfl⟩)⟩),
      -- 9
      (fun Q aq ww own hS hBg fr kn => .inl ⟨trivial, fun K hK => wp_value (exec_ld rfl kn.1 (load_int (cell0 kn.2.1 hc))) (hK _ _ ⟨Touch.refl _ _, rfl⟩)⟩),
      -- 10
      (fun Q aq ww own hS hBg fr kn => .inl ⟨trivial, fun K hK => wp_value (exec_xor rfl kn.1 kn.2.1 (Ws7 y hy) (Ws7 c hc)) (hK _ _ ⟨Touch.refl _ _, rfl⟩)⟩),
      -- 11
      (fun Q aq ww own hS hBg fr kn => .inl ⟨trivial, fun K hK => stepc enterDown rfl (args2 kn.1 rfl) (down_run _ 7 _ (xorw_w (Ws7 y hy) (Ws7 c hc)) (by decide)) (fun w' hb => hK _ _ ⟨touch_below hb, rfl⟩)⟩),
      -- 12
      (fun Q aq ww own hS hBg fr kn => .inl ⟨trivial, fun K hK => wp_value (exec_idx rfl Tryd.underlying59 size_int kn.1 kn.2.1 hy) (hK _ _ ⟨Touch.refl _ _, rfl⟩)⟩),
      -- 13
      (fun Q aq ww own hS hBg fr kn => .inl ⟨trivial, fun K hK => act_cell rfl (ptr0 kn.1) kn.2.2.1 kn.2.1 hy (fun w2 hg ho => hK _ _ ⟨⟨touch_only ho, hs8 ▸ hg⟩, trivial⟩)⟩),
      trivial⟩ ?_
  intro vs7 own v8 hT7 hs7 kn inj
  clear inj
  replace hR : RowAt v8 b .i64 3 n s8 := kn.1
  clear kn hs7
  replace hT := hT7
  clear hT7 own
  simp only [putAll, Act.put, List.setIfInBounds_toArray, List.set_cons_zero, List.set_cons_succ]
  go_wp2_with fail
  have e : mixR s0 a y c d x z = s8 := by
    unfold mixR
    simp only [hs1, hs2, hs3, hs4, hs5, hs6, hs7, hs8]
  rw [e]
  refine bodyPost_end (results_none rfl _ _ _) rfl ?_
  exact ⟨rfl, hR, Ws8, hT⟩
end Go.Proofs.YtcefoonflpofgaaDoor
/-
  Own text. A region that leaves its order open, cut in two: behind the first m operations, whatever their order, the others come one by one. No program is named here.
-/
namespace Go.Proofs.YtcefoonflpofgaaDoor
open Go
section
variable {P : Program} {ops : Array Oper} {Q : Exit → Act → World → Prop}
def headOps (ops : Array Oper) (m : Nat) : Array Oper := (ops.toList.take m).toArray
def cutQ (P : Program) (ops : Array Oper) (Q : Exit → Act → World → Prop) (m : Nat) : Exit → Act → World → Prop
  | .normal, a, w => wpList P ops Q (ops.toList.drop m) a w
  | e, a, w => Q e a w
theorem upon_cut {m : Nat} {o : Oper} {a : Act} {K : Act → World → Prop} {r : Result Next} : o.upon P a K (cutQ P ops Q m) r = o.upon P a K Q r := by
  cases r with
  | ok n w => cases n <;> rfl
  | halt x w => cases x <;> rfl
theorem head_at {m i : Nat} (h : i < m) : (headOps ops m)[i]? = ops[i]? := by
  simp [headOps, h]
theorem head_none {m i : Nat} (h : m ≤ i) : (headOps ops m)[i]? = none := by
  simp [headOps, List.getElem?_take]
  omega
def waits (o : Oper) (j : Nat) : Bool := o.after.any (fun e => Region.binds .any e && e.on == j)
def cutB (ops : Array Oper) (m : Nat) : Bool :=
  decide (m < ops.size) && ops.all (·.guard.isNone) &&
  (List.range ops.size).all (fun i => match ops[i]? with | some o => o.after.all (fun e => decide (e.on < i)) | none => true) &&
  (List.range m).all (fun j => (List.range (m + 1)).any (fun i => decide (j < i) && (match ops[i]? with | some o => waits o j | none => false))) &&
  (List.range ops.size).all (fun i => decide (i ≤ m) || (match ops[i]? with | some o => waits o (i - 1) | none => false))
theorem any_mem {α : Type} {l : Array α} {p : α → Bool} (h : l.any p = true) : ∃ e ∈ l, p e = true := by
  obtain ⟨i, hi, hp⟩ := Array.any_eq_true.1 h
  exact ⟨l[i], Array.getElem_mem hi, hp⟩
theorem getD_rep (n j : Nat) : (Array.replicate n false).getD j false = false := by
  rw [Array.getD_eq_getD_getElem?]
  by_cases h : j < n
  · rw [Array.getElem?_eq_getElem (by simpa using h)]
    simp
  · rw [Array.getElem?_eq_none (by simp; omega)]
    rfl
theorem wanted_none {o : Oper} {ys : Nat → Option Bool} (h : o.guard.isNone = true) : Region.wanted o ys = true := by
  cases hg : o.guard with
  | none => simp [Region.wanted, hg]
  | some x => rw [hg] at h; cases h
/-- Which came up already, and that with each all that it waits for did. -/
structure Closed (ops : Array Oper) (listed : Array Bool) : Prop where
  size : listed.size = ops.size
  down : ∀ (i : Nat) (o : Oper), listed.getD i false = true → ops[i]? = some o → ∀ e ∈ o.after, Region.binds .any e = true → listed.getD e.on false = true
theorem getD_both {listed : Array Bool} {i : Nat} (h : i < listed.size) : listed.getD i true = listed.getD i false := by simp [h]
theorem Closed.set {listed : Array Bool} {i : Nat} (h : Closed ops listed) (hi : i ∈ Region.ready .any ops listed) : Closed ops (listed.setIfInBounds i true) := by
  obtain ⟨hun, o, ho, hall⟩ := mem_ready.1 hi
  refine ⟨by simp [h.size], fun j oj hj hoj e he hb => ?_⟩
  have key : listed.getD e.on false = true := by
    by_cases hij : i = j
    · subst hij
      rw [ho] at hoj
      obtain rfl := Option.some.inj hoj
      exact hall e he hb
    · rw [getD_set_ne false hij] at hj
      exact h.down j oj hj hoj e he hb
  by_cases hie : i = e.on
  · have hl : i < listed.size := by
      rcases Nat.lt_or_ge i listed.size with h1 | h1
      · exact h1
      · simp [Array.getElem?_eq_none h1] at hun
    rw [← hie]
    simp [hl]
  · rw [getD_set_ne false hie]
    exact key
/-- THE LAW: a region, cut. -/
theorem wp_region_cut {id : Nat} {a0 : Act} {w0 : World} (m : Nat) (hm : P.follows .mixedOrders = true) (hc : cutB ops m = true)
    (h : wpAny P .any (headOps ops m) (cutQ P ops Q m) (headOps ops m).size (Array.replicate (headOps ops m).size false) a0 { w0 with drawn := w0.drawn + 1 }) : (Code.region id ops true).wp P Q a0 w0 := by
  simp only [cutB, Bool.and_eq_true, decide_eq_true_eq] at hc
  obtain ⟨⟨⟨⟨hlt, hgd⟩, hdn⟩, hwt⟩, hch⟩ := hc
  have hhs : (headOps ops m).size = m := by simp [headOps]; omega
  have guard : ∀ (i : Nat) (o : Oper), ops[i]? = some o → o.guard.isNone = true := fun i o ho => by
    have hi := (Array.getElem?_eq_some_iff.1 ho)
    have := Array.all_eq_true.1 hgd i hi.1
    rw [hi.2] at this
    exact this
  have down : ∀ (i : Nat) (o : Oper), ops[i]? = some o → ∀ e ∈ o.after, e.on < i := fun i o ho e he => by
    have h1 := List.all_eq_true.1 hdn i (List.mem_range.2 (Array.getElem?_eq_some_iff.1 ho).1)
    simp only [ho] at h1
    have h2 := Array.all_eq_true_iff_forall_mem.1 h1 e he
    simpa using h2
  have chain : ∀ (i : Nat) (o : Oper), ops[i]? = some o → m < i → ∃ e ∈ o.after, Region.binds .any e = true ∧ e.on = i - 1 := fun i o ho hi => by
    have h1 := List.all_eq_true.1 hch i (List.mem_range.2 (Array.getElem?_eq_some_iff.1 ho).1)
    simp only [ho, Bool.or_eq_true, decide_eq_true_eq] at h1
    rcases h1 with h1 | h1
    · omega
    · unfold waits at h1
      obtain ⟨e, he, hh⟩ := any_mem h1
      simp only [Bool.and_eq_true, beq_iff_eq] at hh
      exact ⟨e, he, hh.1, hh.2⟩
  have succ : ∀ j, j < m → ∃ (i : Nat) (o : Oper), j < i ∧ i ≤ m ∧ ops[i]? = some o ∧ ∃ e ∈ o.after, Region.binds .any e = true ∧ e.on = j := fun j hj => by
    have h1 := List.all_eq_true.1 hwt j (List.mem_range.2 hj)
    obtain ⟨i, hi, hh⟩ := List.any_eq_true.1 h1
    simp only [Bool.and_eq_true, decide_eq_true_eq] at hh
    obtain ⟨hji, hw⟩ := hh
    cases ho : ops[i]? with
    | none => simp only [ho] at hw; cases hw
    | some o =>
      simp only [ho] at hw
      unfold waits at hw
      obtain ⟨e, he, hh⟩ := any_mem hw
      simp only [Bool.and_eq_true, beq_iff_eq] at hh
      exact ⟨i, o, hji, by have := List.mem_range.1 hi; omega, ho, e, he, hh.1, hh.2⟩
  have full : ∀ listed, Closed ops listed → m ∈ Region.ready .any ops listed → ∀ j, j < m → listed.getD j false = true := fun listed hcl hr => by
    obtain ⟨_, om, hom, hall⟩ := mem_ready.1 hr
    have key : ∀ d j, j < m → m - j ≤ d → listed.getD j false = true := by
      intro d
      induction d with
      | zero => intro j hj hd; omega
      | succ d ih =>
        intro j hj hd
        obtain ⟨i, o, hji, him, ho, e, he, hb, hon⟩ := succ j hj
        by_cases e1 : i = m
        · subst e1
          rw [hom] at ho
          obtain rfl := Option.some.inj ho
          rw [← hon]
          exact hall e he hb
        · rw [← hon]
          exact hcl.down i o (ih i (by omega) (by omega)) ho e he hb
    exact fun j hj => key m j hj (by omega)
  have done : ∀ listed, Closed ops listed → Region.ready .any ops listed = [] → ∀ j, j < ops.size → listed.getD j false = true := fun listed hcl hr => by
    have key : ∀ d j, j ≤ d → j < ops.size → listed.getD j false = true := by
      intro d
      induction d with
      | zero =>
        intro j hj hjs
        have hj0 : j = 0 := by omega
        subst hj0
        rcases Bool.eq_false_or_eq_true (listed.getD 0 false) with h1 | h1
        · exact h1
        · exfalso
          have ho : ops[0]? = some (ops[0]'hjs) := Array.getElem?_eq_getElem hjs
          have : 0 ∈ Region.ready .any ops listed := mem_ready.2 ⟨by rw [getD_both (by rw [hcl.size]; exact hjs)]; exact h1, _, ho, fun e he _ => by have := down 0 _ ho e he; omega⟩
          rw [hr] at this
          cases this
      | succ d ih =>
        intro j hj hjs
        rcases Bool.eq_false_or_eq_true (listed.getD j false) with h1 | h1
        · exact h1
        · exfalso
          have ho : ops[j]? = some (ops[j]'hjs) := Array.getElem?_eq_getElem hjs
          have : j ∈ Region.ready .any ops listed := mem_ready.2 ⟨by rw [getD_both (by rw [hcl.size]; exact hjs)]; exact h1, _, ho, fun e he _ => by have := down j _ ho e he; exact ih e.on (by omega) (by omega)⟩
          rw [hr] at this
          cases this
    exact fun j hj => key j j (Nat.le_refl _) hj
  refine wp_region_any hm (wpAny_inv (fun listed a w => Closed ops listed ∧
    ((∃ fuel lh, lh.size = m ∧ (∀ j, j < m → lh.getD j false = listed.getD j false) ∧ (∀ j, m ≤ j → listed.getD j false = false) ∧ wpAny P .any (headOps ops m) (cutQ P ops Q m) fuel lh a w) ∨
     (∃ t, 0 < t ∧ (∀ j, j < ops.size → (listed.getD j false = true ↔ j < m + t)) ∧ wpList P ops Q (ops.toList.drop (m + t)) a w))) ?_ ?_ ops.size _ a0 _ ?_ ?_)
  · rintro listed a w i ⟨hcl, hI⟩ hi
    have hi0 := hi
    obtain ⟨hun, o, ho, hall⟩ := mem_ready.1 hi
    have his : i < ops.size := (Array.getElem?_eq_some_iff.1 ho).1
    have hls : i < listed.size := by rw [hcl.size]; exact his
    have hunf : listed.getD i false = false := by rw [← getD_both hls]; exact hun
    have hcl' := hcl.set hi0
    have tailStep : ∀ t, (∀ j, j < ops.size → (listed.getD j false = true ↔ j < m + t)) → i = m + t → wpList P ops Q (ops.toList.drop (m + t)) a w → wpOp P ops Q i (fun a' w' => Closed ops (listed.setIfInBounds i true) ∧
        ((∃ fuel lh, lh.size = m ∧ (∀ j, j < m → lh.getD j false = (listed.setIfInBounds i true).getD j false) ∧ (∀ j, m ≤ j → (listed.setIfInBounds i true).getD j false = false) ∧ wpAny P .any (headOps ops m) (cutQ P ops Q m) fuel lh a' w') ∨
         (∃ t, 0 < t ∧ (∀ j, j < ops.size → ((listed.setIfInBounds i true).getD j false = true ↔ j < m + t)) ∧ wpList P ops Q (ops.toList.drop (m + t)) a' w'))) a w := fun t hl hit hw => by
      have hd : ops.toList.drop (m + t) = o :: ops.toList.drop (m + (t + 1)) := by
        rw [List.drop_eq_getElem_cons (by simpa [← hit] using his)]
        congr 1
        have := (Array.getElem?_eq_some_iff.1 ho).2
        simpa [← hit] using this
      rw [hd] at hw
      unfold wpList at hw
      rw [if_pos (wanted_none (guard i o ho))] at hw
      unfold wpOp
      simp only [ho]
      rw [if_pos (wanted_none (guard i o ho))]
      refine hw.imp (Oper.wp_mono fun a' w' hh => ⟨hcl', .inr ⟨t + 1, by omega, fun j hj => ?_, hh⟩⟩) (fun x => x)
      by_cases hij : i = j
      · subst hij
        simp [hls]
        omega
      · rw [getD_set_ne false hij, hl j hj]
        omega
    rcases hI with ⟨fuel, lh, hlh, heq, hta, hw⟩ | ⟨t, ht, hl, hw⟩
    · by_cases him : i < m
      · have hmem : i ∈ Region.ready .any (headOps ops m) lh := mem_ready.2 ⟨by rw [getD_both (by omega), heq i him]; exact hunf, o, by rw [head_at him]; exact ho, fun e he hb => by
          have h1 := hall e he hb
          have h2 := down i o ho e he
          rw [heq _ (by omega)]
          exact h1⟩
        cases fuel with
        | zero =>
          rw [hw.1] at hmem
          cases hmem
        | succ fuel =>
          have h1 := hw.2 i hmem
          unfold wpOp at h1 ⊢
          simp only [head_at him, ho] at h1 ⊢
          rw [if_pos (wanted_none (guard i o ho))] at h1 ⊢
          have mk : ∀ a' w', wpAny P .any (headOps ops m) (cutQ P ops Q m) fuel (lh.setIfInBounds i true) a' w' → Closed ops (listed.setIfInBounds i true) ∧
              ((∃ fuel lh, lh.size = m ∧ (∀ j, j < m → lh.getD j false = (listed.setIfInBounds i true).getD j false) ∧ (∀ j, m ≤ j → (listed.setIfInBounds i true).getD j false = false) ∧ wpAny P .any (headOps ops m) (cutQ P ops Q m) fuel lh a' w') ∨
               (∃ t, 0 < t ∧ (∀ j, j < ops.size → ((listed.setIfInBounds i true).getD j false = true ↔ j < m + t)) ∧ wpList P ops Q (ops.toList.drop (m + t)) a' w')) := fun a' w' hh =>
            ⟨hcl', .inl ⟨fuel, lh.setIfInBounds i true, by simp [hlh], fun j hj => by
              by_cases hij : i = j
              · subst hij
                simp [hls, hlh, him]
              · rw [getD_set_ne false hij, getD_set_ne false hij]
                exact heq j hj, fun j hj => by rw [getD_set_ne false (by omega)]; exact hta j hj, hh⟩⟩
          rcases h1 with h1 | ⟨h1, h2⟩
          · left
            unfold Oper.wp at h1
            rw [upon_cut] at h1
            exact Oper.wp_mono mk h1
          · exact .inr ⟨h1, h2⟩
      · have hie : i = m := by
          rcases Nat.lt_or_ge m i with h1 | h1
          · obtain ⟨e, he, hb, hon⟩ := chain i o ho h1
            have h2 := hall e he hb
            rw [hon, hta _ (by omega)] at h2
            cases h2
          · omega
        subst hie
        have hf := full listed hcl hi0
        have hnil : Region.ready .any (headOps ops i) lh = [] := by
          cases hr : Region.ready .any (headOps ops i) lh with
          | nil => rfl
          | cons x l =>
            exfalso
            have hx : x ∈ Region.ready .any (headOps ops i) lh := by rw [hr]; simp
            obtain ⟨h1, ox, hox, _⟩ := mem_ready.1 hx
            have hxs := (Array.getElem?_eq_some_iff.1 hox).1
            rw [hhs] at hxs
            rw [getD_both (by omega), heq x hxs, hf x hxs] at h1
            cases h1
        have hq : wpList P ops Q (ops.toList.drop (i + 0)) a w := by
          cases fuel with
          | zero => exact hw.2
          | succ fuel => exact hw.1 hnil
        refine tailStep 0 (fun j hj => ?_) rfl hq
        constructor
        · intro h1
          rcases Nat.lt_or_ge j i with h2 | h2
          · omega
          · rw [hta j h2] at h1
            cases h1
        · intro h1
          exact hf j (by omega)
    · have hit : i = m + t := by
        have h0 : ¬ i < m + t := fun h1 => by
          rw [(hl i his).2 h1] at hunf
          cases hunf
        rcases Nat.lt_or_ge (m + t) i with h1 | h1
        · obtain ⟨e, he, hb, hon⟩ := chain i o ho (by omega)
          have h2 := hall e he hb
          rw [hon] at h2
          have := (hl (i - 1) (by omega)).1 h2
          omega
        · omega
      exact tailStep t hl hit hw
  · rintro listed a w ⟨hcl, hI⟩ hr
    have hd := done listed hcl hr
    rcases hI with ⟨fuel, lh, hlh, heq, hta, hw⟩ | ⟨t, ht, hl, hw⟩
    · exfalso
      have h1 := hd m hlt
      rw [hta m (Nat.le_refl _)] at h1
      cases h1
    · have hle : ops.size ≤ m + t := by
        rcases Nat.lt_or_ge (m + t) ops.size with h1 | h1
        · have := (hl (m + t) h1).1 (hd _ h1)
          omega
        · exact h1
      rw [List.drop_eq_nil_of_le (by simpa using hle)] at hw
      exact hw
  · unfold leftOf
    refine Nat.le_trans (List.length_filter_le _ _) ?_
    simp
  · refine ⟨⟨by simp, fun i o hi => ?_⟩, .inl ⟨_, _, by rw [Array.size_replicate, hhs], fun j hj => ?_, fun j hj => ?_, h⟩⟩
    · rw [getD_rep] at hi
      cases hi
    · rw [getD_rep, getD_rep]
    · exact getD_rep _ _
end
end Go.Proofs.YtcefoonflpofgaaDoor
/-
  Own text. Numbers that stand for places; steps over them.
-/
namespace Go.Proofs.YtcefoonflpofgaaDoor
open Go.RowKit Go.Proofs
theorem exec_mulN {a : Act} {o : Oper} {w : World} {x y : Operand} (ho : o.op = .binOp .mul 3 x y 3) {m n : Nat} (hx : a.eval x = .int .i64 (m : Int)) (hy : a.eval y = .int .i64 (n : Int)) (h : m * n < 9223372036854775808) : (execOp a.eval o).run Tryd.prog w = .ok (.value (.int .i64 ((m * n : Nat) : Int))) w := by
  have e : (m : Int) * (n : Int) = ((m * n : Nat) : Int) := by simp
  rw [← e]
  exact exec_mul ho hx hy (by rw [e]; omega) (by rw [e]; omega)
theorem exec_addN {a : Act} {o : Oper} {w : World} {x y : Operand} (ho : o.op = .binOp .add 3 x y 3) {m n : Nat} (hx : a.eval x = .int .i64 (m : Int)) (hy : a.eval y = .int .i64 (n : Int)) (h : m + n < 9223372036854775808) : (execOp a.eval o).run Tryd.prog w = .ok (.value (.int .i64 ((m + n : Nat) : Int))) w := by
  have e : (m : Int) + (n : Int) = ((m + n : Nat) : Int) := by simp
  rw [← e]
  exact exec_add ho hx hy (by omega) (by omega)
theorem exec_remN {a : Act} {o : Oper} {w : World} {x y : Operand} (ho : o.op = .binOp .rem 3 x y 3) {m n : Nat} (hx : a.eval x = .int .i64 (m : Int)) (hy : a.eval y = .int .i64 (n : Int)) (h : 0 < n) : (execOp a.eval o).run Tryd.prog w = .ok (.value (.int .i64 ((m % n : Nat) : Int))) w := by
  have e : (m : Int).tmod (n : Int) = ((m % n : Nat) : Int) := by rw [Int.tmod_eq_emod_of_nonneg (by omega)]; simp
  have hn : ¬ n = 0 := by omega
  exact exec_bin ho rfl hx hy (by simp [go_sem, hn, e])
theorem conv_bi {n : Int} (h : 0 ≤ n ∧ n < 256) (w : World) : (convert 5 3 (.int .u8 n)).run Tryd.prog w = .ok (.int .i64 n) w := by
  simp [go_sem, i64_wrap (n := n) (by omega) (by omega)]
/-- The word of four bytes. -/
def bwd (s : Nat → Int) (i : Nat) : Int := s (4 * i) + 256 * s (4 * i + 1) + 65536 * s (4 * i + 2) + 16777216 * s (4 * i + 3)
theorem bwd_w {n : Nat} {s : Nat → Int} (h : Byts n s) {i : Nat} (hi : 4 * i + 4 ≤ n) : W32 (bwd s i) := by
  have h0 := h (4 * i) (by omega)
  have h1 := h (4 * i + 1) (by omega)
  have h2 := h (4 * i + 2) (by omega)
  have h3 := h (4 * i + 3) (by omega)
  unfold W32 bwd
  omega
/-- A column, a diagonal, a round, ten rounds. -/
def colB (m : Nat → Int) (s : Nat) (v : Nat → Int) : Nat → Nat → Int
  | 0 => v
  | k + 1 => mixR (colB m s v k) k (4 + k) (8 + k) (12 + k) (m (ord s (2 * k))) (m (ord s (2 * k + 1)))
def diaB (m : Nat → Int) (s : Nat) (v : Nat → Int) : Nat → Nat → Int
  | 0 => v
  | k + 1 => mixR (diaB m s v k) k (4 + (k + 1) % 4) (8 + (k + 2) % 4) (12 + (k + 3) % 4) (m (ord s (8 + 2 * k))) (m (ord s (9 + 2 * k)))
def tenB (m : Nat → Int) (v : Nat → Int) : Nat → Nat → Int
  | 0 => v
  | k + 1 => diaB m k (colB m k (tenB m v k) 4) 4
/-- The sixteen words that the rounds begin with. -/
def begV (h : Nat → Int) (t : Int) (last : Bool) (i : Nat) : Int :=
  if i < 8 then h i else if i = 12 then xorw (bgn 4) (t % 4294967296) else if i = 13 then xorw (bgn 5) (t / 4294967296) else if i = 14 ∧ last = true then xorw (bgn 6) 4294967295 else bgn (i - 8)
/-- A block, taken. -/
def takeF (h s : Nat → Int) (t : Int) (last : Bool) (i : Nat) : Int := xorw (xorw (h i) (tenB (bwd s) (begV h t last) 10 i)) (tenB (bwd s) (begV h t last) 10 (i + 8))
end Go.Proofs.YtcefoonflpofgaaDoor
/-
  Own text. The tables of package blake in memory; what bits.RotateLeft32 and mixed give.
-/
namespace Go.Proofs.YtcefoonflpofgaaDoor
open Go.RowKit Go.Proofs
/-- The two tables of the package: the eight beginnings, the ten orders. -/
structure Tabs (w : World) : Prop where
  beg : ∀ i, i < 8 → w.cell? ⟨0, i, none⟩ = some (.int .u32 (bgn i))
  ord : ∀ s, s < 10 → ∀ i, i < 16 → w.cell? ⟨1, s * 16 + i, none⟩ = some (.int .u8 (ordI s i))
theorem Tabs.two {w : World} (h : Tabs w) : 2 ≤ w.heap.size := World.block_lt_of_cell? w _ (h.ord 0 (by decide) 0 (by decide))
theorem Tabs.block {w w' : World} (h : Tabs w) (h0 : w'.heap[0]? = w.heap[0]?) (h1 : w'.heap[1]? = w.heap[1]?) : Tabs w' :=
  ⟨fun i hi => (World.cell?_of_block (w := w) h0).trans (h.beg i hi), fun s hs i hi => (World.cell?_of_block (w := w) h1).trans (h.ord s hs i hi)⟩
theorem Tabs.below {B : Nat} {w w' : World} (h : Tabs w) (hb : Below B w w') (hB : 2 ≤ B) : Tabs w' := h.block (hb.block 0 (by omega)) (hb.block 1 (by omega))
theorem Tabs.kept {w w' : World} (h : Tabs w) (hb : Below w.heap.size w w') : Tabs w' := h.below hb h.two
theorem Tabs.touch {b : Nat} {w w' : World} (h : Tabs w) (ht : Touch (fun x => x = b) w w') (hb : 2 ≤ b) : Tabs w' := by
  have := h.two
  exact h.block (ht.block 0 (by omega) (by omega)) (ht.block 1 (by omega) (by omega))
theorem Tabs.only {b : Nat} {w w' : World} (h : Tabs w) (ht : Only b w w') (hb : 2 ≤ b) : Tabs w' := h.block (ht.block 0 (by omega)) (ht.block 1 (by omega))
theorem Tabs.alloc {w : World} (h : Tabs w) (o : Obj) : Tabs (w.alloc o) := h.kept ((Below.refl _ w).alloc (Nat.le_refl _) o)
theorem Tabs.drew {w : World} (h : Tabs w) : Tabs w.drew := ⟨h.beg, h.ord⟩
theorem or_rotw (x : Int) (n : Nat) (hx : W32 x) (p q : Int) (hp : p = ((2 ^ n : Nat) : Int)) (hq : q = ((2 ^ (32 - n) : Nat) : Int)) : bits .or .u32 (x * p % 4294967296) (x / q) = rotw x n := by
  unfold W32 at hx
  obtain ⟨m, rfl⟩ := Int.eq_ofNat_of_zero_le hx.1
  subst hp; subst hq
  have e1 : (m : Int) * ((2 ^ n : Nat) : Int) % 4294967296 = ((m * 2 ^ n % 4294967296 : Nat) : Int) := by simp
  have e2 : (m : Int) / ((2 ^ (32 - n) : Nat) : Int) = ((m / 2 ^ (32 - n) : Nat) : Int) := by simp
  rw [e1, e2, u32_or_nat _ _ (Nat.mod_lt _ (by decide)) (Nat.lt_of_le_of_lt (Nat.div_le_self _ _) (by omega))]
  simp [rotw]
theorem rotn_run (x : Int) (n : Nat) (w : World) (hx : W32 x) (hn : n = 7 ∨ n = 8 ∨ n = 12 ∨ n = 16) :
    Calls Tryd.prog 37 #[.int .u32 x, .int .i64 (-(n : Int))] w fun e w' => e = .returned (.int .u32 (rotd x n)) ∧ w' = w := by
  have key : ∀ (m : Nat) (p q : Int), m = 32 - n → p = ((2 ^ m : Nat) : Int) → q = ((2 ^ (32 - m) : Nat) : Int) → bits .or .u32 (x * p % 4294967296) (x / q) = rotd x n := fun m p q hm hp hq => by subst hm; exact or_rotw x _ hx p q hp hq
  unfold W32 at hx
  go_enter Tryd.func37, Tryd.ntmps37
  rcases hn with rfl | rfl | rfl | rfl
  · have e1 : bits .and .u64 (IntKind.u64.wrap (-7)) 31 = 25 := by decide
    have e2 := key 25 33554432 128 (by decide) (by decide) (by decide)
    go_wp2
    go_ret
    exact ⟨rfl, rfl⟩
  · have e1 : bits .and .u64 (IntKind.u64.wrap (-8)) 31 = 24 := by decide
    have e2 := key 24 16777216 256 (by decide) (by decide) (by decide)
    go_wp2
    go_ret
    exact ⟨rfl, rfl⟩
  · have e1 : bits .and .u64 (IntKind.u64.wrap (-12)) 31 = 20 := by decide
    have e2 := key 20 1048576 4096 (by decide) (by decide) (by decide)
    go_wp2
    go_ret
    exact ⟨rfl, rfl⟩
  · have e1 : bits .and .u64 (IntKind.u64.wrap (-16)) 31 = 16 := by decide
    have e2 := key 16 65536 65536 (by decide) (by decide) (by decide)
    go_wp2
    go_ret
    exact ⟨rfl, rfl⟩
theorem xor_u32 {x y : Int} (hx : W32 x) (hy : W32 y) : bits .xor .u32 x y = xorw x y := u32_xor x y hx.1 hx.2 hy.1 hy.2
theorem addw_three (a b x : Int) : addw (addw a b) x = addw a (addw b x) := by unfold addw; omega
/-- Four words with two more mixed in. -/
def mixQ (q : Q4w) (x y : Int) : Q4w :=
  let a1 := addw q.a (addw q.b x)
  let d1 := rotd (xorw q.d a1) 16
  let c1 := addw q.c d1
  let b1 := rotd (xorw q.b c1) 12
  let a2 := addw a1 (addw b1 y)
  let d2 := rotd (xorw d1 a2) 8
  let c2 := addw c1 d2
  ⟨a2, rotd (xorw b1 c2) 7, c2, d2⟩
theorem mixed_run (a b c d x y : Int) (w : World) (hb : W32 b) (hd : W32 d) :
    Calls Tryd.prog 36 #[.int .u32 a, .int .u32 b, .int .u32 c, .int .u32 d, .int .u32 x, .int .u32 y] w fun e w' =>
      e = .returned (.tuple #[.int .u32 (mixQ ⟨a, b, c, d⟩ x y).a, .int .u32 (mixQ ⟨a, b, c, d⟩ x y).b, .int .u32 (mixQ ⟨a, b, c, d⟩ x y).c, .int .u32 (mixQ ⟨a, b, c, d⟩ x y).d]) ∧ w' = w := by
  unfold mixQ
  dsimp only
  obtain ⟨a0, h0⟩ : ∃ z, addw b x = z := ⟨_, rfl⟩
  rw [h0]
  obtain ⟨a1, h1⟩ : ∃ z, addw a a0 = z := ⟨_, rfl⟩
  rw [h1]
  have ha1 := h1 ▸ addw_w a a0
  obtain ⟨x1, g1⟩ : ∃ z, xorw d a1 = z := ⟨_, rfl⟩
  rw [g1]
  have hx1 := g1 ▸ xorw_w hd ha1
  rw [← xor_u32 hd ha1] at g1
  obtain ⟨d1, k1⟩ : ∃ z, rotd x1 16 = z := ⟨_, rfl⟩
  rw [k1]
  have hd1 := k1 ▸ rotd_w 16 hx1
  obtain ⟨c1, h2⟩ : ∃ z, addw c d1 = z := ⟨_, rfl⟩
  rw [h2]
  have hc1 := h2 ▸ addw_w c d1
  obtain ⟨x2, g2⟩ : ∃ z, xorw b c1 = z := ⟨_, rfl⟩
  rw [g2]
  have hx2 := g2 ▸ xorw_w hb hc1
  rw [← xor_u32 hb hc1] at g2
  obtain ⟨b1, k2⟩ : ∃ z, rotd x2 12 = z := ⟨_, rfl⟩
  rw [k2]
  have hb1 := k2 ▸ rotd_w 12 hx2
  obtain ⟨b0, h30⟩ : ∃ z, addw b1 y = z := ⟨_, rfl⟩
  rw [h30]
  obtain ⟨a2, h3⟩ : ∃ z, addw a1 b0 = z := ⟨_, rfl⟩
  rw [h3]
  have ha2 := h3 ▸ addw_w a1 b0
  obtain ⟨x3, g3⟩ : ∃ z, xorw d1 a2 = z := ⟨_, rfl⟩
  rw [g3]
  have hx3 := g3 ▸ xorw_w hd1 ha2
  rw [← xor_u32 hd1 ha2] at g3
  obtain ⟨d2, k3⟩ : ∃ z, rotd x3 8 = z := ⟨_, rfl⟩
  rw [k3]
  have hd2 := k3 ▸ rotd_w 8 hx3
  obtain ⟨c2, h4⟩ : ∃ z, addw c1 d2 = z := ⟨_, rfl⟩
  rw [h4]
  have hc2 := h4 ▸ addw_w c1 d2
  obtain ⟨x4, g4⟩ : ∃ z, xorw b1 c2 = z := ⟨_, rfl⟩
  rw [g4]
  have hx4 := g4 ▸ xorw_w hb1 hc2
  rw [← xor_u32 hb1 hc2] at g4
  obtain ⟨b2, k4⟩ : ∃ z, rotd x4 7 = z := ⟨_, rfl⟩
  rw [k4]
  unfold addw at h0 h1 h2 h30 h3 h4
  have r1 : Calls Tryd.prog 37 #[.int .u32 x1, .int .i64 (-16)] w fun e w' => e = .returned (.int .u32 (rotd x1 16)) ∧ w' = w := rotn_run x1 16 w hx1 (by decide)
  have r2 : Calls Tryd.prog 37 #[.int .u32 x2, .int .i64 (-12)] w fun e w' => e = .returned (.int .u32 (rotd x2 12)) ∧ w' = w := rotn_run x2 12 w hx2 (by decide)
  have r3 : Calls Tryd.prog 37 #[.int .u32 x3, .int .i64 (-8)] w fun e w' => e = .returned (.int .u32 (rotd x3 8)) ∧ w' = w := rotn_run x3 8 w hx3 (by decide)
  have r4 : Calls Tryd.prog 37 #[.int .u32 x4, .int .i64 (-7)] w fun e w' => e = .returned (.int .u32 (rotd x4 7)) ∧ w' = w := rotn_run x4 7 w hx4 (by decide)
  rw [k1] at r1; rw [k2] at r2; rw [k3] at r3; rw [k4] at r4
  clear k1 k2 k3 k4
  unfold W32 at *
  go_enter Tryd.func36, Tryd.ntmps36
  go_wp2_with fail
  refine r1.mono ?_
  rintro e w1 ⟨rfl, rfl⟩
  go_wp2_with fail
  refine r2.mono ?_
  rintro e w2 ⟨rfl, rfl⟩
  go_wp2_with fail
  refine r3.mono ?_
  rintro e w3 ⟨rfl, rfl⟩
  go_wp2_with fail
  refine r4.mono ?_
  rintro e w4 ⟨rfl, rfl⟩
  go_wp2_with fail
  exact bodyPost_ret (v := .tuple #[.int .u32 a2, .int .u32 b2, .int .u32 c2, .int .u32 d2]) (by simp [results, Tryd.results36, go_sem]) rfl ⟨rfl, rfl⟩
/-- The words at four places, with two more mixed in. -/
def mrow (s : Nat → Int) (a b c d : Nat) (x y : Int) : Nat → Int :=
  upd (upd (upd (upd s a (mixQ ⟨s a, s b, s c, s d⟩ x y).a) b (mixQ ⟨s a, s b, s c, s d⟩ x y).b) c (mixQ ⟨s a, s b, s c, s d⟩ x y).c) d (mixQ ⟨s a, s b, s c, s d⟩ x y).d
theorem mixR_eq (s : Nat → Int) {a b c d : Nat} (x y : Int) (h1 : a ≠ b) (h2 : a ≠ c) (h3 : a ≠ d) (h4 : b ≠ c) (h5 : b ≠ d) (h6 : c ≠ d) : mixR s a b c d x y = mrow s a b c d x y := by
  funext i
  simp only [mixR, mrow, mixQ, upd]
  have h1' := Ne.symm h1
  have h2' := Ne.symm h2
  have h3' := Ne.symm h3
  have h4' := Ne.symm h4
  have h5' := Ne.symm h5
  have h6' := Ne.symm h6
  simp only [if_pos, if_neg h1, if_neg h2, if_neg h3, if_neg h4, if_neg h5, if_neg h6, if_neg h1', if_neg h2', if_neg h3', if_neg h4', if_neg h5', if_neg h6']
  by_cases ed : i = d
  · subst ed; simp [h5', h6', addw_three]
  · by_cases ec : i = c
    · subst ec; simp [h4', h6, addw_three]
    · by_cases eb : i = b
      · subst eb; simp [h4, h5, addw_three]
      · by_cases ea : i = a
        · subst ea; simp [eb, ec, ed, addw_three]
        · simp [ea, eb, ec, ed]
theorem mrow_w {n : Nat} {s : Nat → Int} {a b c d : Nat} {x y : Int} (h : ∀ i, i < n → W32 (s i)) (hb : b < n) (hd : d < n) : ∀ i, i < n → W32 (mrow s a b c d x y i) := by
  have wb := h b hb
  have wd := h d hd
  refine w32_upd (w32_upd (w32_upd (w32_upd h ?_) ?_) ?_) ?_
  · exact addw_w _ _
  · exact rotd_w 7 (xorw_w (rotd_w 12 (xorw_w wb (addw_w _ _))) (addw_w _ _))
  · exact addw_w _ _
  · exact rotd_w 8 (xorw_w (rotd_w 16 (xorw_w wd (addw_w _ _))) (addw_w _ _))
end Go.Proofs.YtcefoonflpofgaaDoor
/-
  Own text. What round of package blake gives: a round of the ten.
-/
namespace Go.Proofs.YtcefoonflpofgaaDoor
open Go.RowKit Go.Proofs
/-- A round: sixteen words mixed in. -/
def rndM (s m : Nat → Int) : Nat → Int :=
  mrow (mrow (mrow (mrow (mrow (mrow (mrow (mrow (s) 0 4 8 12 (m 0) (m 1)) 1 5 9 13 (m 2) (m 3)) 2 6 10 14 (m 4) (m 5)) 3 7 11 15 (m 6) (m 7)) 0 5 10 15 (m 8) (m 9)) 1 6 11 12 (m 10) (m 11)) 2 7 8 13 (m 12) (m 13)) 3 4 9 14 (m 14) (m 15)
theorem isW : IsArr 68 16 := ⟨_, _, Tryd.underlying68, by kernel_rfl⟩
theorem round_eq (m : Nat → Int) (k : Nat) (v : Nat → Int) : diaB m k (colB m k v 4) 4 = rndM v (fun j => m (ord k j)) := by
  have e : diaB m k (colB m k v 4) 4 = mixR (mixR (mixR (mixR (mixR (mixR (mixR (mixR (v) 0 4 8 12 (m (ord k 0)) (m (ord k 1))) 1 5 9 13 (m (ord k 2)) (m (ord k 3))) 2 6 10 14 (m (ord k 4)) (m (ord k 5))) 3 7 11 15 (m (ord k 6)) (m (ord k 7))) 0 5 10 15 (m (ord k 8)) (m (ord k 9))) 1 6 11 12 (m (ord k 10)) (m (ord k 11))) 2 7 8 13 (m (ord k 12)) (m (ord k 13))) 3 4 9 14 (m (ord k 14)) (m (ord k 15)) := rfl
  rw [e]
  simp only [mixR_eq _ _ _ (show (0 : Nat) ≠ 4 by decide) (show (0 : Nat) ≠ 8 by decide) (show (0 : Nat) ≠ 12 by decide) (show (4 : Nat) ≠ 8 by decide) (show (4 : Nat) ≠ 12 by decide) (show (8 : Nat) ≠ 12 by decide),
    mixR_eq _ _ _ (show (1 : Nat) ≠ 5 by decide) (show (1 : Nat) ≠ 9 by decide) (show (1 : Nat) ≠ 13 by decide) (show (5 : Nat) ≠ 9 by decide) (show (5 : Nat) ≠ 13 by decide) (show (9 : Nat) ≠ 13 by decide),
    mixR_eq _ _ _ (show (2 : Nat) ≠ 6 by decide) (show (2 : Nat) ≠ 10 by decide) (show (2 : Nat) ≠ 14 by decide) (show (6 : Nat) ≠ 10 by decide) (show (6 : Nat) ≠ 14 by decide) (show (10 : Nat) ≠ 14 by decide),
    mixR_eq _ _ _ (show (3 : Nat) ≠ 7 by decide) (show (3 : Nat) ≠ 11 by decide) (show (3 : Nat) ≠ 15 by decide) (show (7 : Nat) ≠ 11 by decide) (show (7 : Nat) ≠ 15 by decide) (show (11 : Nat) ≠ 15 by decide),
    mixR_eq _ _ _ (show (0 : Nat) ≠ 5 by decide) (show (0 : Nat) ≠ 10 by decide) (show (0 : Nat) ≠ 15 by decide) (show (5 : Nat) ≠ 10 by decide) (show (5 : Nat) ≠ 15 by decide) (show (10 : Nat) ≠ 15 by decide),
    mixR_eq _ _ _ (show (1 : Nat) ≠ 6 by decide) (show (1 : Nat) ≠ 11 by decide) (show (1 : Nat) ≠ 12 by decide) (show (6 : Nat) ≠ 11 by decide) (show (6 : Nat) ≠ 12 by decide) (show (11 : Nat) ≠ 12 by decide),
    mixR_eq _ _ _ (show (2 : Nat) ≠ 7 by decide) (show (2 : Nat) ≠ 8 by decide) (show (2 : Nat) ≠ 13 by decide) (show (7 : Nat) ≠ 8 by decide) (show (7 : Nat) ≠ 13 by decide) (show (8 : Nat) ≠ 13 by decide),
    mixR_eq _ _ _ (show (3 : Nat) ≠ 4 by decide) (show (3 : Nat) ≠ 9 by decide) (show (3 : Nat) ≠ 14 by decide) (show (4 : Nat) ≠ 9 by decide) (show (4 : Nat) ≠ 14 by decide) (show (9 : Nat) ≠ 14 by decide)]
  rfl
theorem rndM_w {s m : Nat → Int} (h : ∀ i, i < 16 → W32 (s i)) : ∀ i, i < 16 → W32 (rndM s m i) := mrow_w (mrow_w (mrow_w (mrow_w (mrow_w (mrow_w (mrow_w (mrow_w (h) (by decide) (by decide)) (by decide) (by decide)) (by decide) (by decide)) (by decide) (by decide)) (by decide) (by decide)) (by decide) (by decide)) (by decide) (by decide)) (by decide) (by decide)
set_option maxHeartbeats 8000000 in
set_option maxRecDepth 100000 in
theorem round_run (s0 m : Nat → Int) (w : World) (W0 : ∀ i, i < 16 → W32 (s0 i)) :
    Calls Tryd.prog 33 #[.agg (WA .u32 16 s0), .agg (WA .u32 16 m)] w fun e w' => e = .returned (.agg (WA .u32 16 (rndM s0 m))) ∧ Below w.heap.size w w' := by
  have g : ArrAt (((w.alloc (.cells (WA .u32 16 s0) 68)).alloc (.cells (WA .u32 16 m) 68)).alloc (.cells (WA .u32 16 fun _ => 0) 68)) w.heap.size .u32 68 16 s0 := heap_a31 w _ _ _
  have gm : ArrAt (((w.alloc (.cells (WA .u32 16 s0) 68)).alloc (.cells (WA .u32 16 m) 68)).alloc (.cells (WA .u32 16 fun _ => 0) 68)) (w.heap.size + 1) .u32 68 16 m := heap_a32 w _ _ _
  have g1 : ArrAt (((w.alloc (.cells (WA .u32 16 s0) 68)).alloc (.cells (WA .u32 16 m) 68)).alloc (.cells (WA .u32 16 fun _ => 0) 68)) (w.heap.size + 1 + 1) .u32 68 16 (fun _ => 0) := heap_a3 w _ _ _
  have hB : Below w.heap.size w (((w.alloc (.cells (WA .u32 16 s0) 68)).alloc (.cells (WA .u32 16 m) 68)).alloc (.cells (WA .u32 16 fun _ => 0) 68)) := (((Below.refl _ w).alloc (by simp) _).alloc (by simp) _).alloc (by simp; omega) _
  obtain ⟨z, hz⟩ : ∃ z, rndM s0 m = z := ⟨_, rfl⟩
  rw [hz]
  have HN := Hid.mk hz
  clear hz
  unfold rndM at HN
  go_enter Tryd.func33, Tryd.ntmps33
  go_wp2_with (first | (refine ld_cell g (by rfl) (by decide) ?_) | (refine ld_cell gm (by rfl) (by decide) ?_))
  refine (mixed_run (s0 0) (s0 4) (s0 8) (s0 12) (m 0) (m 1) _ (W0 4 (by decide)) (W0 12 (by decide))).mono ?_
  rintro e vq ⟨rfl, rfl⟩
  go_wp2_with (first | (refine st_cell (i := 12) g (by rfl) (by rfl) (by decide) ?_; clear g; intro v2 g o2; replace gm := gm.only o2 (by omega); replace g1 := g1.only o2 (by omega); replace hB := hB.trans (o2.below (Nat.le_refl _)); clear o2; refine Hid.out ?_) | (refine st_cell g (by rfl) (by rfl) (by decide) ?_; clear g; intro v2 g o2; replace gm := gm.only o2 (by omega); replace g1 := g1.only o2 (by omega); replace hB := hB.trans (o2.below (Nat.le_refl _)); clear o2))
  replace g : ArrAt v2 w.heap.size .u32 68 16 (mrow s0 0 4 8 12 (m 0) (m 1)) := g
  have W1 := mrow_w (a := 0) (b := 4) (c := 8) (d := 12) (x := (m 0)) (y := (m 1)) W0 (by decide) (by decide)
  generalize mrow s0 0 4 8 12 (m 0) (m 1) = s1 at *
  clear W0
  refine Hid.mk ?_
  go_wp2_with (first | (refine ld_cell g (by rfl) (by decide) ?_) | (refine ld_cell gm (by rfl) (by decide) ?_))
  refine (mixed_run (s1 1) (s1 5) (s1 9) (s1 13) (m 2) (m 3) _ (W1 5 (by decide)) (W1 13 (by decide))).mono ?_
  rintro e vq ⟨rfl, rfl⟩
  go_wp2_with (first | (refine st_cell (i := 13) g (by rfl) (by rfl) (by decide) ?_; clear g; intro v2 g o2; replace gm := gm.only o2 (by omega); replace g1 := g1.only o2 (by omega); replace hB := hB.trans (o2.below (Nat.le_refl _)); clear o2; refine Hid.out ?_) | (refine st_cell g (by rfl) (by rfl) (by decide) ?_; clear g; intro v2 g o2; replace gm := gm.only o2 (by omega); replace g1 := g1.only o2 (by omega); replace hB := hB.trans (o2.below (Nat.le_refl _)); clear o2))
  replace g : ArrAt v2 w.heap.size .u32 68 16 (mrow s1 1 5 9 13 (m 2) (m 3)) := g
  have W2 := mrow_w (a := 1) (b := 5) (c := 9) (d := 13) (x := (m 2)) (y := (m 3)) W1 (by decide) (by decide)
  generalize mrow s1 1 5 9 13 (m 2) (m 3) = s2 at *
  clear W1
  refine Hid.mk ?_
  go_wp2_with (first | (refine ld_cell g (by rfl) (by decide) ?_) | (refine ld_cell gm (by rfl) (by decide) ?_))
  refine (mixed_run (s2 2) (s2 6) (s2 10) (s2 14) (m 4) (m 5) _ (W2 6 (by decide)) (W2 14 (by decide))).mono ?_
  rintro e vq ⟨rfl, rfl⟩
  go_wp2_with (first | (refine st_cell (i := 14) g (by rfl) (by rfl) (by decide) ?_; clear g; intro v2 g o2; replace gm := gm.only o2 (by omega); replace g1 := g1.only o2 (by omega); replace hB := hB.trans (o2.below (Nat.le_refl _)); clear o2; refine Hid.out ?_) | (refine st_cell g (by rfl) (by rfl) (by decide) ?_; clear g; intro v2 g o2; replace gm := gm.only o2 (by omega); replace g1 := g1.only o2 (by omega); replace hB := hB.trans (o2.below (Nat.le_refl _)); clear o2))
  replace g : ArrAt v2 w.heap.size .u32 68 16 (mrow s2 2 6 10 14 (m 4) (m 5)) := g
  have W3 := mrow_w (a := 2) (b := 6) (c := 10) (d := 14) (x := (m 4)) (y := (m 5)) W2 (by decide) (by decide)
  generalize mrow s2 2 6 10 14 (m 4) (m 5) = s3 at *
  clear W2
  refine Hid.mk ?_
  go_wp2_with (first | (refine ld_cell g (by rfl) (by decide) ?_) | (refine ld_cell gm (by rfl) (by decide) ?_))
  refine (mixed_run (s3 3) (s3 7) (s3 11) (s3 15) (m 6) (m 7) _ (W3 7 (by decide)) (W3 15 (by decide))).mono ?_
  rintro e vq ⟨rfl, rfl⟩
  go_wp2_with (first | (refine st_cell (i := 15) g (by rfl) (by rfl) (by decide) ?_; clear g; intro v2 g o2; replace gm := gm.only o2 (by omega); replace g1 := g1.only o2 (by omega); replace hB := hB.trans (o2.below (Nat.le_refl _)); clear o2; refine Hid.out ?_) | (refine st_cell g (by rfl) (by rfl) (by decide) ?_; clear g; intro v2 g o2; replace gm := gm.only o2 (by omega); replace g1 := g1.only o2 (by omega); replace hB := hB.trans (o2.below (Nat.le_refl _)); clear o2))
  replace g : ArrAt v2 w.heap.size .u32 68 16 (mrow s3 3 7 11 15 (m 6) (m 7)) := g
  have W4 := mrow_w (a := 3) (b := 7) (c := 11) (d := 15) (x := (m 6)) (y := (m 7)) W3 (by decide) (by decide)
  generalize mrow s3 3 7 11 15 (m 6) (m 7) = s4 at *
  clear W3
  refine Hid.mk ?_
  go_wp2_with (first | (refine ld_cell g (by rfl) (by decide) ?_) | (refine ld_cell gm (by rfl) (by decide) ?_))
  refine (mixed_run (s4 0) (s4 5) (s4 10) (s4 15) (m 8) (m 9) _ (W4 5 (by decide)) (W4 15 (by decide))).mono ?_
  rintro e vq ⟨rfl, rfl⟩
  go_wp2_with (first | (refine st_cell (i := 15) g (by rfl) (by rfl) (by decide) ?_; clear g; intro v2 g o2; replace gm := gm.only o2 (by omega); replace g1 := g1.only o2 (by omega); replace hB := hB.trans (o2.below (Nat.le_refl _)); clear o2; refine Hid.out ?_) | (refine st_cell g (by rfl) (by rfl) (by decide) ?_; clear g; intro v2 g o2; replace gm := gm.only o2 (by omega); replace g1 := g1.only o2 (by omega); replace hB := hB.trans (o2.below (Nat.le_refl _)); clear o2))
  replace g : ArrAt v2 w.heap.size .u32 68 16 (mrow s4 0 5 10 15 (m 8) (m 9)) := g
  have W5 := mrow_w (a := 0) (b := 5) (c := 10) (d := 15) (x := (m 8)) (y := (m 9)) W4 (by decide) (by decide)
  generalize mrow s4 0 5 10 15 (m 8) (m 9) = s5 at *
  clear W4
  refine Hid.mk ?_
  go_wp2_with (first | (refine ld_cell g (by rfl) (by decide) ?_) | (refine ld_cell gm (by rfl) (by decide) ?_))
  refine (mixed_run (s5 1) (s5 6) (s5 11) (s5 12) (m 10) (m 11) _ (W5 6 (by decide)) (W5 12 (by decide))).mono ?_
  rintro e vq ⟨rfl, rfl⟩
  go_wp2_with (first | (refine st_cell (i := 12) g (by rfl) (by rfl) (by decide) ?_; clear g; intro v2 g o2; replace gm := gm.only o2 (by omega); replace g1 := g1.only o2 (by omega); replace hB := hB.trans (o2.below (Nat.le_refl _)); clear o2; refine Hid.out ?_) | (refine st_cell g (by rfl) (by rfl) (by decide) ?_; clear g; intro v2 g o2; replace gm := gm.only o2 (by omega); replace g1 := g1.only o2 (by omega); replace hB := hB.trans (o2.below (Nat.le_refl _)); clear o2))
  replace g : ArrAt v2 w.heap.size .u32 68 16 (mrow s5 1 6 11 12 (m 10) (m 11)) := g
  have W6 := mrow_w (a := 1) (b := 6) (c := 11) (d := 12) (x := (m 10)) (y := (m 11)) W5 (by decide) (by decide)
  generalize mrow s5 1 6 11 12 (m 10) (m 11) = s6 at *
  clear W5
  refine Hid.mk ?_
  go_wp2_with (first | (refine ld_cell g (by rfl) (by decide) ?_) | (refine ld_cell gm (by rfl) (by decide) ?_))
  refine (mixed_run (s6 2) (s6 7) (s6 8) (s6 13) (m 12) (m 13) _ (W6 7 (by decide)) (W6 13 (by decide))).mono ?_
  rintro e vq ⟨rfl, rfl⟩
  go_wp2_with (first | (refine st_cell (i := 13) g (by rfl) (by rfl) (by decide) ?_; clear g; intro v2 g o2; replace gm := gm.only o2 (by omega); replace g1 := g1.only o2 (by omega); replace hB := hB.trans (o2.below (Nat.le_refl _)); clear o2; refine Hid.out ?_) | (refine st_cell g (by rfl) (by rfl) (by decide) ?_; clear g; intro v2 g o2; replace gm := gm.only o2 (by omega); replace g1 := g1.only o2 (by omega); replace hB := hB.trans (o2.below (Nat.le_refl _)); clear o2))
  replace g : ArrAt v2 w.heap.size .u32 68 16 (mrow s6 2 7 8 13 (m 12) (m 13)) := g
  have W7 := mrow_w (a := 2) (b := 7) (c := 8) (d := 13) (x := (m 12)) (y := (m 13)) W6 (by decide) (by decide)
  generalize mrow s6 2 7 8 13 (m 12) (m 13) = s7 at *
  clear W6
  refine Hid.mk ?_
  go_wp2_with (first | (refine ld_cell g (by rfl) (by decide) ?_) | (refine ld_cell gm (by rfl) (by decide) ?_))
  refine (mixed_run (s7 3) (s7 4) (s7 9) (s7 14) (m 14) (m 15) _ (W7 4 (by decide)) (W7 14 (by decide))).mono ?_
  rintro e vq ⟨rfl, rfl⟩
  go_wp2_with (first | (refine st_cell (i := 14) g (by rfl) (by rfl) (by decide) ?_; clear g; intro v2 g o2; replace gm := gm.only o2 (by omega); replace g1 := g1.only o2 (by omega); replace hB := hB.trans (o2.below (Nat.le_refl _)); clear o2; refine Hid.out ?_) | (refine st_cell g (by rfl) (by rfl) (by decide) ?_; clear g; intro v2 g o2; replace gm := gm.only o2 (by omega); replace g1 := g1.only o2 (by omega); replace hB := hB.trans (o2.below (Nat.le_refl _)); clear o2))
  replace g : ArrAt v2 w.heap.size .u32 68 16 (mrow s7 3 4 9 14 (m 14) (m 15)) := g
  have W8 := mrow_w (a := 3) (b := 4) (c := 9) (d := 14) (x := (m 14)) (y := (m 15)) W7 (by decide) (by decide)
  rw [HN.out] at g
  refine Hid.mk ?_
  go_wp2_with (first | (refine ld_arr isW g (by rfl) ?_) | (refine st_arr isW g1 (by rfl) (by rfl) ?_; intro v4 g4 o4))
  exact bodyPost_ret (v := .agg (WA .u32 16 z)) (res_arr rfl isW g4 rfl) rfl ⟨rfl, hB.trans (o4.below (by omega))⟩
end Go.Proofs.YtcefoonflpofgaaDoor
/-
  Own text. What inOrder and wordsOf of package blake give.
-/
namespace Go.Proofs.YtcefoonflpofgaaDoor
open Go.RowKit Go.Proofs
/-- The first n of a row, zeros behind. -/
def prt (f : Nat → Int) (n i : Nat) : Int := if i < n then f i else 0
theorem prt_next (f : Nat → Int) (n : Nat) : upd (prt f n) n (f n) = prt f (n + 1) := by
  funext i
  unfold upd prt
  by_cases e : i = n
  · subst e; simp
  · rw [if_neg e]
    by_cases h : i < n
    · rw [if_pos h, if_pos (by omega)]
    · rw [if_neg h, if_neg (by omega)]
theorem prt_zero (f : Nat → Int) : prt f 0 = fun _ => 0 := by
  funext i
  unfold prt
  rw [if_neg (by omega)]
theorem prt_full {f : Nat → Int} {n : Nat} : ∀ i, i < n → prt f n i = f i := fun i hi => by unfold prt; rw [if_pos hi]
theorem isW' : IsArr 68 16 := ⟨_, _, Tryd.underlying68, by kernel_rfl⟩
set_option maxHeartbeats 4000000 in
theorem inOrder_run (s : Nat → Int) (k : Nat) (w : World) (hT : Tabs w) (hk : k < 10) :
    Calls Tryd.prog 34 #[.agg (WA .u32 16 s), .int .i64 (k : Int)] w fun e w' => e = .returned (.agg (WA .u32 16 fun j => s (ord k j))) ∧ Below w.heap.size w w' := by
  have g0 : ArrAt (((w.alloc (.cells (WA .u32 16 s) 68)).alloc (.cells (WA .u32 16 fun _ => 0) 68)).alloc (.cells (WA .u32 16 fun _ => 0) 68)) w.heap.size .u32 68 16 s := heap_a31 w _ _ _
  have g1 : ArrAt (((w.alloc (.cells (WA .u32 16 s) 68)).alloc (.cells (WA .u32 16 fun _ => 0) 68)).alloc (.cells (WA .u32 16 fun _ => 0) 68)) (w.heap.size + 1) .u32 68 16 (fun _ => 0) := heap_a32 w _ _ _
  have g2 : ArrAt (((w.alloc (.cells (WA .u32 16 s) 68)).alloc (.cells (WA .u32 16 fun _ => 0) 68)).alloc (.cells (WA .u32 16 fun _ => 0) 68)) (w.heap.size + 1 + 1) .u32 68 16 (fun _ => 0) := heap_a3 w _ _ _
  have hB : Below w.heap.size w (((w.alloc (.cells (WA .u32 16 s) 68)).alloc (.cells (WA .u32 16 fun _ => 0) 68)).alloc (.cells (WA .u32 16 fun _ => 0) 68)) := (((Below.refl _ w).alloc (by simp) _).alloc (by simp) _).alloc (by simp; omega) _
  have hTw := Hid.mk hT
  have h2 := hT.two
  go_enter Tryd.func34, Tryd.ntmps34
  go_wp2_with fail
  go_loopg [7] 16 (fun m i v => ∃ j : Nat, Hid (m + j = 16) ∧ i = .int .i64 j ∧ ArrAt v w.heap.size .u32 68 16 s ∧ ArrAt v (w.heap.size + 1) .u32 68 16 (fun _ => 0) ∧ ArrAt v (w.heap.size + 1 + 1) .u32 68 16 (prt (fun j => s (ord k j)) j) ∧ Below w.heap.size w v)
  case atStart => exact ⟨0, Hid.mk rfl, rfl, g0, g1, by rw [prt_zero]; exact g2, hB⟩
  case round =>
    clear g0 g1 g2 hB
    obtain ⟨j, HJ, rfl, g0, g1, g2, hB⟩ := hrel
    have hj16 : j ≤ 16 := by have := HJ.out; omega
    by_cases hlt : j < 16
    · have co := (hTw.out.below hB h2).ord k hk j hlt
      have hol := ord_lt k hk j hlt
      unfold ordI at co
      have HN := Hid.mk (prt_next (fun j => s (ord k j)) j)
      have cs := g0.cell (ord k j) hol
      have c2 := g2.cell j hlt
      have f2 := g2.free j
      generalize ord k j = o at *
      go_wp2_with fail
      go_roundg (16 - (j + 1))
      case rel => exact ⟨j + 1, Hid.mk (by omega), by go_num, g0.other _ (by omega), g1.other _ (by omega), by rw [← HN.out]; exact g2.set j _ hlt, Below.setCell hB (by simp; omega) _⟩
      case measure => have := HJ.out; omega
    · have hj2 : j = 16 := by omega
      subst hj2
      clear hlt hj16 HJ
      replace g2 := g2.congr (s' := fun j => s (ord k j)) prt_full
      go_wp2_with (first | (refine ld_arr isW' g2 (by rfl) ?_) | (refine st_arr isW' g1 (by rfl) (by rfl) ?_; intro v4 g4 o4))
      exact bodyPost_ret (v := .agg (WA .u32 16 fun j => s (ord k j))) (res_arr rfl isW' g4 rfl) rfl ⟨rfl, hB.trans (o4.below (by omega))⟩
theorem or_add (a b : Int) (k : Nat) (q : Int) (hq : q = ((2 ^ k : Nat) : Int)) (h0 : 0 ≤ a) (h1 : a < q) (h2 : a < 4294967296) (k0 : 0 ≤ b) (k1 : b * q < 4294967296) : bits .or .u32 a (b * q) = a + b * q := by
  obtain ⟨m, rfl⟩ := Int.eq_ofNat_of_zero_le h0
  obtain ⟨n, rfl⟩ := Int.eq_ofNat_of_zero_le k0
  subst hq
  have e : (n : Int) * ((2 ^ k : Nat) : Int) = ((2 ^ k * n : Nat) : Int) := by rw [Int.mul_comm]; rfl
  rw [e] at k1 ⊢
  have hm : m < 2 ^ k := Int.ofNat_lt.1 h1
  have hn : 2 ^ k * n < 4294967296 := Int.ofNat_lt.1 k1
  have h3 := Nat.two_pow_add_eq_or_of_lt hm n
  have hl : m < 4294967296 := by omega
  rw [u32_or_nat m _ hl hn, Nat.or_comm, ← h3]
  omega
/-- The first j bytes of word i. -/
def pwd (s : Nat → Int) (i : Nat) : Nat → Int
  | 0 => 0
  | 1 => s (4 * i)
  | 2 => s (4 * i) + s (4 * i + 1) * 256
  | 3 => s (4 * i) + s (4 * i + 1) * 256 + s (4 * i + 2) * 65536
  | _ => s (4 * i) + s (4 * i + 1) * 256 + s (4 * i + 2) * 65536 + s (4 * i + 3) * 16777216
theorem upd_upd (s : Nat → Int) (i : Nat) (x y : Int) : upd (upd s i x) i y = upd s i y := by
  funext j
  unfold upd
  split <;> rfl
theorem upd_self (s : Nat → Int) (i : Nat) (x : Int) (h : s i = x) : upd s i x = s := by
  funext j
  unfold upd
  split
  · subst_vars; rfl
  · rfl
theorem or_zero8 {x : Int} (h : 0 ≤ x ∧ x < 256) : bits .or .u32 0 x = x := by
  have := or_add 0 x 0 1 rfl (by omega) (by omega) (by omega) h.1 (by omega)
  simpa using this
set_option maxHeartbeats 8000000 in
theorem wordsOf_run (s : Nat → Int) (w : World) (hs : Byts 64 s) :
    Calls Tryd.prog 32 #[.agg (WA .u8 64 s)] w fun e w' => e = .returned (.agg (WA .u32 16 (bwd s))) ∧ Below w.heap.size w w' := by
  have g0 : ArrAt (((w.alloc (.cells (WA .u8 64 s) 48)).alloc (.cells (WA .u32 16 fun _ => 0) 68)).alloc (.cells (WA .u32 16 fun _ => 0) 68)) w.heap.size .u8 48 64 s := heap_a31 w _ _ _
  have g1 : ArrAt (((w.alloc (.cells (WA .u8 64 s) 48)).alloc (.cells (WA .u32 16 fun _ => 0) 68)).alloc (.cells (WA .u32 16 fun _ => 0) 68)) (w.heap.size + 1) .u32 68 16 (fun _ => 0) := heap_a32 w _ _ _
  have g2 : ArrAt (((w.alloc (.cells (WA .u8 64 s) 48)).alloc (.cells (WA .u32 16 fun _ => 0) 68)).alloc (.cells (WA .u32 16 fun _ => 0) 68)) (w.heap.size + 1 + 1) .u32 68 16 (fun _ => 0) := heap_a3 w _ _ _
  have hB : Below w.heap.size w (((w.alloc (.cells (WA .u8 64 s) 48)).alloc (.cells (WA .u32 16 fun _ => 0) 68)).alloc (.cells (WA .u32 16 fun _ => 0) 68)) := (((Below.refl _ w).alloc (by simp) _).alloc (by simp) _).alloc (by simp; omega) _
  go_enter Tryd.func32, Tryd.ntmps32
  go_wp2_with fail
  go_loopg [6] 16 (fun m i v => ∃ k : Nat, Hid (m + k = 16) ∧ i = .int .i64 k ∧ ArrAt v w.heap.size .u8 48 64 s ∧ ArrAt v (w.heap.size + 1) .u32 68 16 (fun _ => 0) ∧ ArrAt v (w.heap.size + 1 + 1) .u32 68 16 (prt (bwd s) k) ∧ Below w.heap.size w v)
  case atStart => exact ⟨0, Hid.mk rfl, rfl, g0, g1, by rw [prt_zero]; exact g2, hB⟩
  case round =>
    clear g0 g1 g2 hB
    obtain ⟨k, HK, rfl, g0, g1, g2, hB⟩ := hrel
    have hk16 : k ≤ 16 := by have := HK.out; omega
    by_cases hlt : k < 16
    · have HN := Hid.mk (prt_next (bwd s) k)
      have hd : decide ((k : Int) < 16) = true := by simp; omega
      go_wp2_with fail
      replace g2 : ArrAt wr (w.heap.size + 1 + 1) .u32 68 16 (upd (prt (bwd s) k) k (pwd s k 0)) := by rw [upd_self _ _ _ (by show prt (bwd s) k k = 0; unfold prt; rw [if_neg (by omega)])]; exact g2
      generalize prt (bwd s) k = p at *
      generalize wr = wo at *
      generalize gk = gz at *
      have h0 := hs (4 * k) (by omega)
      have h1 := hs (4 * k + 1) (by omega)
      have h2 := hs (4 * k + 2) (by omega)
      have h3 := hs (4 * k + 3) (by omega)
      have HH := Hid.mk (And.intro h0 (And.intro h1 (And.intro h2 h3)))
      clear h0 h1 h2 h3
      go_loopg [9] 4 (fun m i v => ∃ j : Nat, Hid (m + j = 4) ∧ i = .int .i64 j ∧ ArrAt v w.heap.size .u8 48 64 s ∧ ArrAt v (w.heap.size + 1) .u32 68 16 (fun _ => 0) ∧ ArrAt v (w.heap.size + 1 + 1) .u32 68 16 (upd p k (pwd s k j)) ∧ Below w.heap.size w v)
      case atStart => exact ⟨0, Hid.mk rfl, rfl, g0, g1, g2, hB⟩
      case round =>
        clear g0 g1 g2 hB
        obtain ⟨j, HJ, rfl, g0, g1, g2, hB⟩ := hrel
        have hj4 : j = 0 ∨ j = 1 ∨ j = 2 ∨ j = 3 ∨ j = 4 := by have := HJ.out; omega
        rcases hj4 with rfl | rfl | rfl | rfl | rfl
        · have e0 : bits .or .u32 0 (s (4 * k)) = s (4 * k) := or_zero8 HH.out.1
          have cb := g0.cell (4 * k) (by omega)
          have cw := g2.cell k hlt
          have fw := g2.free k
          rw [show upd p k (pwd s k 0) k = pwd s k 0 by unfold upd; rw [if_pos rfl]] at cw
          unfold pwd at cw
          have hb0 := HH.out.1
          have g2n := g2.set k (pwd s k 1) hlt
          rw [upd_upd] at g2n
          have HG := Hid.mk (g2n)
          clear g2n
          unfold pwd at HG
          go_wp2_with fail
          go_region
          go_wp2_with fail
          go_roundg 3
          case rel => exact ⟨1, Hid.mk rfl, by go_num, g0.other _ (by omega), g1.other _ (by omega), HG.out, (Below.setCell hB (by simp; omega) _).drew⟩
          case measure => have := HJ.out; omega
        · have e0 : bits .or .u32 (s (4 * k)) (s (4 * k + 1) * 256) = s (4 * k) + s (4 * k + 1) * 256 := by obtain ⟨h0, h1, h2, h3⟩ := HH.out; exact or_add _ _ 8 256 rfl (by omega) (by omega) (by omega) (by omega) (by omega)
          have cb := g0.cell (4 * k + 1) (by omega)
          have cw := g2.cell k hlt
          have fw := g2.free k
          rw [show upd p k (pwd s k 1) k = pwd s k 1 by unfold upd; rw [if_pos rfl]] at cw
          unfold pwd at cw
          have hb0 := HH.out.2.1
          have g2n := g2.set k (pwd s k 2) hlt
          rw [upd_upd] at g2n
          have HG := Hid.mk (g2n)
          clear g2n
          unfold pwd at HG
          go_wp2_with fail
          go_region
          go_wp2_with fail
          go_roundg 2
          case rel => exact ⟨2, Hid.mk rfl, by go_num, g0.other _ (by omega), g1.other _ (by omega), HG.out, (Below.setCell hB (by simp; omega) _).drew⟩
          case measure => have := HJ.out; omega
        · have e0 : bits .or .u32 (s (4 * k) + s (4 * k + 1) * 256) (s (4 * k + 2) * 65536) = s (4 * k) + s (4 * k + 1) * 256 + s (4 * k + 2) * 65536 := by obtain ⟨h0, h1, h2, h3⟩ := HH.out; exact or_add _ _ 16 65536 rfl (by omega) (by omega) (by omega) (by omega) (by omega)
          have cb := g0.cell (4 * k + 2) (by omega)
          have cw := g2.cell k hlt
          have fw := g2.free k
          rw [show upd p k (pwd s k 2) k = pwd s k 2 by unfold upd; rw [if_pos rfl]] at cw
          unfold pwd at cw
          have hb0 := HH.out.2.2.1
          have g2n := g2.set k (pwd s k 3) hlt
          rw [upd_upd] at g2n
          have HG := Hid.mk (g2n)
          clear g2n
          unfold pwd at HG
          go_wp2_with fail
          go_region
          go_wp2_with fail
          go_roundg 1
          case rel => exact ⟨3, Hid.mk rfl, by go_num, g0.other _ (by omega), g1.other _ (by omega), HG.out, (Below.setCell hB (by simp; omega) _).drew⟩
          case measure => have := HJ.out; omega
        · have e0 : bits .or .u32 (s (4 * k) + s (4 * k + 1) * 256 + s (4 * k + 2) * 65536) (s (4 * k + 3) * 16777216) = s (4 * k) + s (4 * k + 1) * 256 + s (4 * k + 2) * 65536 + s (4 * k + 3) * 16777216 := by obtain ⟨h0, h1, h2, h3⟩ := HH.out; exact or_add _ _ 24 16777216 rfl (by omega) (by omega) (by omega) (by omega) (by omega)
          have cb := g0.cell (4 * k + 3) (by omega)
          have cw := g2.cell k hlt
          have fw := g2.free k
          rw [show upd p k (pwd s k 3) k = pwd s k 3 by unfold upd; rw [if_pos rfl]] at cw
          unfold pwd at cw
          have hb0 := HH.out.2.2.2
          have g2n := g2.set k (pwd s k 4) hlt
          rw [upd_upd] at g2n
          have HG := Hid.mk (g2n)
          clear g2n
          unfold pwd at HG
          go_wp2_with fail
          go_region
          go_wp2_with fail
          go_roundg 0
          case rel => exact ⟨4, Hid.mk rfl, by go_num, g0.other _ (by omega), g1.other _ (by omega), HG.out, (Below.setCell hB (by simp; omega) _).drew⟩
          case measure => have := HJ.out; omega
        · replace g2 : ArrAt wr (w.heap.size + 1 + 1) .u32 68 16 (upd p k (bwd s k)) := by
            have e : pwd s k 4 = bwd s k := by show s (4 * k) + s (4 * k + 1) * 256 + s (4 * k + 2) * 65536 + s (4 * k + 3) * 16777216 = _; unfold bwd; omega
            rw [← e]
            exact g2
          rw [HN.out] at g2
          go_wp2_with fail
          go_roundg (16 - (k + 1))
          case rel => exact ⟨k + 1, Hid.mk (by omega), by go_num, g0, g1, g2, hB⟩
          case measure => have := HK.out; omega
    · have hk2 : k = 16 := by omega
      subst hk2
      clear hlt hk16 HK
      replace g2 := g2.congr (s' := bwd s) prt_full
      go_wp2_with (first | (refine ld_arr isW' g2 (by rfl) ?_) | (refine st_arr isW' g1 (by rfl) (by rfl) ?_; intro v4 g4 o4))
      exact bodyPost_ret (v := .agg (WA .u32 16 (bwd s))) (res_arr rfl isW' g4 rfl) rfl ⟨rfl, hB.trans (o4.below (by omega))⟩
end Go.Proofs.YtcefoonflpofgaaDoor
