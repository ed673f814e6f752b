/-
  Own text. Rows that grow by append, copies, == on arrays of bytes.
-/
import Derived.Test.YtfbeclleeehaaaaBw
import Derived.ArgAppend
import Derived.Laws.CopyOwn
import Derived.ChangeKeysEq
namespace Go.Proofs.Ytfbeclleeehaaaa
open Go.RowKit Go.Proofs
def nums (k : IntKind) (n : Nat) (s : Nat → Int) : List Value := (List.range n).map fun i => .int k (s i)
theorem nums_len (k : IntKind) (n : Nat) (s : Nat → Int) : (nums k n s).length = n := by simp [nums]
theorem nums_get {k : IntKind} {n : Nat} {s : Nat → Int} {j : Nat} {u : Value} (h : (nums k n s)[j]? = some u) : j < n ∧ u = .int k (s j) := by
  have hj : j < n := by have := (List.getElem?_eq_some_iff.1 h).1; simpa [nums] using this
  refine ⟨hj, ?_⟩
  simp [nums, hj] at h
  exact h.symm
theorem nums_at (k : IntKind) (n : Nat) (s : Nat → Int) {j : Nat} (h : j < n) : (nums k n s)[j]? = some (.int k (s j)) := by simp [nums, h]
theorem nums_one {k : IntKind} {n : Nat} {s : Nat → Int} : ∀ u ∈ nums k n s, u.oneCell' = true := fun u hu => by
  obtain ⟨i, _, rfl⟩ := List.mem_map.1 hu
  rfl
theorem nums_succ (k : IntKind) (n : Nat) (s : Nat → Int) : nums k (n + 1) s = nums k n s ++ [.int k (s n)] := by simp [nums, List.range_succ]
/-- Two rows, one behind the other. -/
def cat (n : Nat) (s r : Nat → Int) (i : Nat) : Int := if i < n then s i else r (i - n)
theorem nums_cat (k : IntKind) (n m : Nat) (s r : Nat → Int) : nums k n s ++ nums k m r = nums k (n + m) (cat n s r) := by
  apply List.ext_getElem?
  intro i
  by_cases h : i < n
  · rw [List.getElem?_append_left (by rw [nums_len]; exact h), nums_at k n s h, nums_at k _ _ (by omega)]; simp [cat, h]
  · rw [List.getElem?_append_right (by rw [nums_len]; omega), nums_len]
    by_cases h2 : i < n + m
    · rw [nums_at k m r (by omega), nums_at k _ _ h2]; simp [cat, h]
    · rw [List.getElem?_eq_none (by rw [nums_len]; omega), List.getElem?_eq_none (by rw [nums_len]; omega)]
theorem own_row {w : World} {B : Nat} {e : TypeId} {v : Value} {n : Nat} {k : IntKind} {s : Nat → Int} (h : w.ownsRow B e 1 v n (nums k n s)) (hn : 0 < n) : ∃ b cp, v = .slice (some ⟨b, 0, none⟩) n cp ∧ B ≤ b ∧ n ≤ cp ∧ RowAt w b k e n s := by
  rcases h.2 with ⟨_, h0⟩ | ⟨g, cap, cur, rfl, hb, hg, hc, _, hs, ht⟩
  · omega
  · refine ⟨g, cap, rfl, hb, hc, _, hg, cur, _, rfl, by omega, fun i _ => by simp, fun i hi => ?_⟩
    have h1 := nums_at k n s hi
    rw [← ht, List.getElem?_take, if_pos (by omega)] at h1
    simpa using h1
theorem infoInt : (Try.prog.info? 3).map (fun i => (i.zero, i.size, i.bytes)) = some (some (.int .i64 0), 1, 8) := by kernel_rfl
theorem infoByte : (Try.prog.info? 5).map (fun i => (i.zero, i.size, i.bytes)) = some (some (.int .u8 0), 1, 1) := by kernel_rfl
theorem Below.grow {B : Nat} {w w' : World} {row : Option Nat} (hg : w.grownBy w' row) (hB : B ≤ w.heap.size) (hr : ∀ k, row = some k → B ≤ k) : Below B w w' :=
  ⟨hg.os, hg.tape, hg.output, hg.size, fun k hk => hg.block k (by omega) (fun e => by have := hr k e.symm; omega)⟩
theorem own_base {w : World} {B : Nat} {e : TypeId} {v : Value} {n : Nat} {xs : List Value} (h : w.ownsRow B e 1 v n xs) : ∀ k, v.ownBlock = some k → B ≤ k := fun k hk => by
  rcases h.2 with ⟨rfl, _⟩ | ⟨g, cap, cur, rfl, hb, _⟩
  · cases hk
  · simp [Value.ownBlock] at hk; omega
/-- 'x = append(x, ..)' of a row of one's own. -/
theorem ap_own {ops : Array Oper} {rest : List Oper} {o : Oper} {a : Act} {w : World} {Q : Exit → Act → World → Prop} (hgd : o.guard = none) (s x : Operand) (t e : TypeId) (k : IntKind) (by' : Nat) (ht : Try.prog.underlying t = some (.slice e)) (hi : (Try.prog.info? e).map (fun i => (i.zero, i.size, i.bytes)) = some (some (.int k 0), 1, by')) (hby : by' ≤ 8)
    (ho : o.op = .call { callee := .builtin .append, args := #[s, x], argTypes := #[t, t] })
    {B n m c : Nat} {f r : Nat → Int} {v : Value} {b off : Nat} (hs : a.eval s = v) (hD : w.ownsRow B e 1 v n (nums k n f)) (hx : a.eval x = .slice (some ⟨b, off, none⟩) m c)
    (hc : ∀ j, j < m → w.cell? ⟨b, off + j, none⟩ = some (.int k (r j))) (hl : n + m < 1000000) (hB : B ≤ w.heap.size)
    (h : ∀ v' w', w'.ownsRow B e 1 v' (n + m) (nums k (n + m) (cat n f r)) → Below B w w' → wpList Try.prog ops Q rest (a.put o.dst v') w') : wpList Try.prog ops Q (o :: rest) a w := by
  obtain ⟨i0, hi, hz0, hz1, hz2⟩ := info_parts hi
  refine wpList_append_own w hgd s x t ho B e i0 (.int k 0) 1 by' ht hi hz0 hz1 hz2 rfl (by decide) _ n _ hs hD ⟨b, off, none⟩ m c (nums k m r) hx (by rw [nums_len]; omega) ?_ nums_one ?_ ?_ hB ?_
  · intro j u hj
    obtain ⟨hj2, rfl⟩ := nums_get hj
    rw [Addr.add_lit]
    exact hc j hj2
  · unfold maxLen; omega
  · have : (n + m) * by' ≤ (n + m) * 8 := Nat.mul_le_mul_left _ hby
    omega
  · intro v' w1 hown hgrow _
    rw [nums_cat] at hown
    exact h v' w1 hown (Below.grow hgrow hB (own_base hD))
/-- 'append(x, ..)' of a row that is full. -/
theorem ap_full {ops : Array Oper} {rest : List Oper} {o : Oper} {a : Act} {w : World} {Q : Exit → Act → World → Prop} (hgd : o.guard = none) (s x : Operand) (t e : TypeId) (k : IntKind) (by' : Nat) (ht : Try.prog.underlying t = some (.slice e)) (hi : (Try.prog.info? e).map (fun i => (i.zero, i.size, i.bytes)) = some (some (.int k 0), 1, by')) (hby : by' ≤ 8)
    (ho : o.op = .call { callee := .builtin .append, args := #[s, x], argTypes := #[t, t] })
    {n m c cap : Nat} {f r : Nat → Int} {b' b off : Nat} (hs : a.eval s = .slice (some ⟨b', 0, none⟩) n cap) (hf : ∀ j, j < n → w.cell? ⟨b', j, none⟩ = some (.int k (f j))) (hx : a.eval x = .slice (some ⟨b, off, none⟩) m c)
    (hc : ∀ j, j < m → w.cell? ⟨b, off + j, none⟩ = some (.int k (r j))) (hl : n + m < 1000000) (hcap : cap < n + m)
    (h : ∀ v' w', w'.ownsRow w.heap.size e 1 v' (n + m) (nums k (n + m) (cat n f r)) → Below w.heap.size w w' → wpList Try.prog ops Q rest (a.put o.dst v') w') : wpList Try.prog ops Q (o :: rest) a w := by
  obtain ⟨i0, hi, hz0, hz1, hz2⟩ := info_parts hi
  refine wpList_append_grows w hgd s x t ho e i0 (.int k 0) 1 by' ht hi hz0 hz1 hz2 rfl (by decide) (some ⟨b', 0, none⟩) n cap (nums k n f) hs (fun h => by cases h) (by rw [nums_len]; omega) ?_ ⟨b, off, none⟩ m c (nums k m r) hx (by rw [nums_len]; omega) ?_ nums_one hcap ?_ ?_ ?_
  · intro bb hb j u hj
    obtain ⟨hj2, rfl⟩ := nums_get hj
    simp only [Option.some.injEq] at hb
    subst hb
    rw [Addr.add_lit, Nat.zero_add]
    exact hf j hj2
  · intro j u hj
    obtain ⟨hj2, rfl⟩ := nums_get hj
    rw [Addr.add_lit]
    exact hc j hj2
  · unfold maxLen; omega
  · have : (n + m) * by' ≤ (n + m) * 8 := Nat.mul_le_mul_left _ hby
    omega
  · intro v' w1 hown hgrow
    rw [nums_cat] at hown
    exact h v' w1 hown (Below.grow hgrow (Nat.le_refl _) (fun k hk => by cases hk))
theorem nums_congr {k : IntKind} {n : Nat} {s t : Nat → Int} (h : ∀ i, i < n → s i = t i) : nums k n s = nums k n t := by
  unfold nums
  exact List.map_congr_left (fun i hi => by rw [h i (List.mem_range.1 hi)])
theorem own_kept {w w' : World} {B : Nat} {e : TypeId} {v : Value} {n : Nat} {xs : List Value} (h : w.ownsRow B e 1 v n xs) (hb : Below w.heap.size w w') : w'.ownsRow B e 1 v n xs := by
  refine ⟨h.1, ?_⟩
  rcases h.2 with hn | ⟨g, cap, cur, hv, hB, hg, rest⟩
  · exact .inl hn
  · exact .inr ⟨g, cap, cur, hv, hB, (hb.block g (heap_lt hg)).trans hg, rest⟩
theorem cat_one (n : Nat) (f : Nat → Int) : ∀ i, i < n + 1 → cat n f (fun _ => f n) i = f i := fun i hi => by
  unfold cat
  split
  · rfl
  · rw [show i = n by omega]
/-- A row, with others laid over a part of it. -/
def over (s : Nat → Int) (off m : Nat) (r : Nat → Int) (i : Nat) : Int := if off ≤ i ∧ i < off + m then r (i - off) else s i
theorem copy_arr {w : World} {g off dL dC b f sL sC n m : Nat} {t : TypeId} {s r : Nat → Int} (ty : TypeId) (hg : ArrAt w g .u8 t n s) (hm : m = Nat.min sL dL) (hfit : off + m ≤ n) (hr : ∀ j, j < m → w.cell? ⟨b, f + j, none⟩ = some (.int .u8 (r j))) :
    ∃ w', (Builtin.copy_ #[36, 36] ty #[.slice (some ⟨g, off, none⟩) dL dC, .slice (some ⟨b, f, none⟩) sL sC]).run Try.prog w = .ok (goInt m) w' ∧ ArrAt w' g .u8 t n (over s off m r) ∧ Only g w w' := by
  have h0 := run_copy_cells (P := Try.prog) w 36 36 ty 5 g off dL dC ⟨b, f, none⟩ sL sC (nums .u8 m r) Try.underlying36 (by kernel_rfl) (by rw [nums_len]; exact hm)
    (fun j v hj => by
      obtain ⟨hj2, rfl⟩ := nums_get hj
      rw [Addr.add_lit]
      exact hr j hj2)
    (fun j hj => by rw [nums_len] at hj; rw [hg.cell _ (by omega)]; rfl) (fun j _ => hg.free _) nums_one
  rw [nums_len] at h0
  obtain ⟨C', h1, h2, h3, h4, h5⟩ := setCells_heap (nums .u8 m r) off w _ hg (by rw [nums_len, WA_size]; exact hfit)
  rw [nums_len] at h3 h4
  rw [WA_size] at h2
  have e : C' = WA .u8 n (over s off m r) := WA_ext h2 (fun i hi => by
    unfold over
    by_cases h : off ≤ i ∧ i < off + m
    · rw [if_pos h]
      have := h3 (i - off) (by omega)
      rw [show off + (i - off) = i by omega] at this
      rw [this, nums_at .u8 m r (by omega)]
    · rw [if_neg h, h4 i (by omega), WA_get .u8 n s i hi])
  exact ⟨_, h0, by unfold ArrAt; rw [h1, e], h5⟩
theorem act_copy {o : Oper} {a : Act} {w : World} {K : Act → World → Prop} {Q : Exit → Act → World → Prop} {d s' : Operand} (ho : o.op = .call { callee := .builtin .copy, args := #[d, s'], argTypes := #[36, 36] })
    {g off dL dC b f sL sC n m : Nat} {t : TypeId} {s r : Nat → Int} (hd : a.eval d = .slice (some ⟨g, off, none⟩) dL dC) (hs : a.eval s' = .slice (some ⟨b, f, none⟩) sL sC) (hg : ArrAt w g .u8 t n s) (hm : m = Nat.min sL dL) (hfit : off + m ≤ n) (hr : ∀ j, j < m → w.cell? ⟨b, f + j, none⟩ = some (.int .u8 (r j)))
    (h : ∀ w', ArrAt w' g .u8 t n (over s off m r) → Only g w w' → K (a.put o.dst (goInt m)) w') : o.wp Try.prog a w K Q := by
  obtain ⟨w', hrun, h1, h2⟩ := copy_arr (dC := dC) (sC := sC) o.type hg hm hfit hr
  unfold Oper.wp
  simp [execOp, ho, resolve, invoke, builtin, hd, hs, hrun, Result.andThen]
  exact h w' h1 h2
theorem eqItems_WA (s : Nat → Int) (n d : Nat) (w : World) : ∀ (is : List Nat), (∀ i ∈ is, i < n) → (Op.eqItems (d + 1) 5 1 (WA .u8 n s) (WA .u8 n s) is).run Try.prog w = .ok true w
  | [], _ => by simp [Op.eqItems]
  | i :: is, h => by
    have hi : i < n := h i (by simp)
    have ih := eqItems_WA s n d w is (fun j hj => h j (by simp [hj]))
    have e1 : (part 5 (WA .u8 n s) (i * 1)).run Try.prog w = .ok (.int .u8 (s i)) w := by
      simp [part, WA_get, hi, go_sem]
    simp only [Op.eqItems, Sem.run_bind, e1, Result.andThen_ok, run_equalIn_int w d 5 .u8 .u8 _ _ Try.underlying5]
    simpa using ih
theorem cells5 : Try.prog.cellsOf 5 = 1 := by kernel_rfl
theorem info5 : (Try.prog.info? 5).isSome = true := by kernel_rfl
theorem equal_WA {t : TypeId} {n : Nat} (ht : Try.prog.underlying t = some (.array n 5)) (s : Nat → Int) (d : Nat) (w : World) : (Op.equalIn (d + 1 + 1) t (.agg (WA .u8 n s)) (.agg (WA .u8 n s))).run Try.prog w = .ok true w := by
  obtain ⟨i, hi⟩ := Option.isSome_iff_exists.1 info5
  rw [run_equalIn_array w (d + 1) (WA .u8 n s) (WA .u8 n s) ht hi, cells5]
  exact eqItems_WA s n d w _ (fun i hi => List.mem_range.1 hi)
theorem eql_WA {a : Act} {o : Oper} {w : World} {x y : Operand} {t u : TypeId} {n : Nat} (ho : o.op = .binOp .eql t x y u) (ht : Try.prog.underlying t = some (.array n 5)) (hg : Try.prog.eqGuardType Try.prog.depth t = false) {s : Nat → Int} (hx : a.eval x = .agg (WA .u8 n s)) (hy : a.eval y = .agg (WA .u8 n s)) :
    (execOp a.eval o).run Try.prog w = .ok (.value (.bool true)) w := by
  unfold execOp
  simp only [ho, hx, hy, Sem.run_bind, run_eqGuard_agg w .eql t x y _ _ hg, Result.andThen_ok, run_eql_struct, equal_WA ht s 9998 w, Sem.run_pure]
end Go.Proofs.Ytfbeclleeehaaaa
