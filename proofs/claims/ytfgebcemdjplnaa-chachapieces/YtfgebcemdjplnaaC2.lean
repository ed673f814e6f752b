/-
  Own text. Rows that grow by append; what square of the document's answer gives.
-/
import Derived.Test.YtfgebcemdjplnaaC1
import Derived.Test.YtfgebcemdjplnaaB3
import Derived.ArgAppend
namespace Go.Proofs.Ytfgebcemdjplnaa
open Go.RowKit Go.Proofs
def nums (k : IntKind) (n : Nat) (s : Nat → Int) : List Value := (List.range n).map fun i => .int k (s i)
theorem nums_len (k : IntKind) (n : Nat) (s : Nat → Int) : (nums k n s).length = n := by simp [nums]
theorem nums_get {k : IntKind} {n : Nat} {s : Nat → Int} {j : Nat} {u : Value} (h : (nums k n s)[j]? = some u) : j < n ∧ u = .int k (s j) := by
  have hj : j < n := by have := (List.getElem?_eq_some_iff.1 h).1; simpa [nums] using this
  refine ⟨hj, ?_⟩
  simp [nums, hj] at h
  exact h.symm
theorem nums_at (k : IntKind) (n : Nat) (s : Nat → Int) {j : Nat} (h : j < n) : (nums k n s)[j]? = some (.int k (s j)) := by simp [nums, h]
theorem nums_one {k : IntKind} {n : Nat} {s : Nat → Int} : ∀ u ∈ nums k n s, u.oneCell' = true := fun u hu => by
  obtain ⟨i, _, rfl⟩ := List.mem_map.1 hu
  rfl
theorem nums_succ (k : IntKind) (n : Nat) (s : Nat → Int) : nums k (n + 1) s = nums k n s ++ [.int k (s n)] := by simp [nums, List.range_succ]
/-- Two rows, one behind the other. -/
def cat (n : Nat) (s r : Nat → Int) (i : Nat) : Int := if i < n then s i else r (i - n)
theorem nums_cat (k : IntKind) (n m : Nat) (s r : Nat → Int) : nums k n s ++ nums k m r = nums k (n + m) (cat n s r) := by
  apply List.ext_getElem?
  intro i
  by_cases h : i < n
  · rw [List.getElem?_append_left (by rw [nums_len]; exact h), nums_at k n s h, nums_at k _ _ (by omega)]; simp [cat, h]
  · rw [List.getElem?_append_right (by rw [nums_len]; omega), nums_len]
    by_cases h2 : i < n + m
    · rw [nums_at k m r (by omega), nums_at k _ _ h2]; simp [cat, h]
    · rw [List.getElem?_eq_none (by rw [nums_len]; omega), List.getElem?_eq_none (by rw [nums_len]; omega)]
theorem own_row {w : World} {B : Nat} {e : TypeId} {v : Value} {n : Nat} {k : IntKind} {s : Nat → Int} (h : w.ownsRow B e 1 v n (nums k n s)) (hn : 0 < n) : ∃ b cp, v = .slice (some ⟨b, 0, none⟩) n cp ∧ B ≤ b ∧ n ≤ cp ∧ RowAt w b k e n s := by
  rcases h.2 with ⟨_, h0⟩ | ⟨g, cap, cur, rfl, hb, hg, hc, _, hs, ht⟩
  · omega
  · refine ⟨g, cap, rfl, hb, hc, _, hg, cur, _, rfl, by omega, fun i _ => by simp, fun i hi => ?_⟩
    have h1 := nums_at k n s hi
    rw [← ht, List.getElem?_take, if_pos (by omega)] at h1
    simpa using h1
theorem infoInt : (Try.prog.info? 3).map (fun i => (i.zero, i.size, i.bytes)) = some (some (.int .i64 0), 1, 8) := by kernel_rfl
theorem infoByte : (Try.prog.info? 5).map (fun i => (i.zero, i.size, i.bytes)) = some (some (.int .u8 0), 1, 1) := by kernel_rfl
theorem Below.grow {B : Nat} {w w' : World} {row : Option Nat} (hg : w.grownBy w' row) (hB : B ≤ w.heap.size) (hr : ∀ k, row = some k → B ≤ k) : Below B w w' :=
  ⟨hg.os, hg.tape, hg.output, hg.size, fun k hk => hg.block k (by omega) (fun e => by have := hr k e.symm; omega)⟩
theorem own_base {w : World} {B : Nat} {e : TypeId} {v : Value} {n : Nat} {xs : List Value} (h : w.ownsRow B e 1 v n xs) : ∀ k, v.ownBlock = some k → B ≤ k := fun k hk => by
  rcases h.2 with ⟨rfl, _⟩ | ⟨g, cap, cur, rfl, hb, _⟩
  · cases hk
  · simp [Value.ownBlock] at hk; omega
/-- 'x = append(x, ..)' of a row of one's own. -/
theorem ap_own {ops : Array Oper} {rest : List Oper} {o : Oper} {a : Act} {w : World} {Q : Exit → Act → World → Prop} (hgd : o.guard = none) (s x : Operand) (t e : TypeId) (k : IntKind) (by' : Nat) (ht : Try.prog.underlying t = some (.slice e)) (hi : (Try.prog.info? e).map (fun i => (i.zero, i.size, i.bytes)) = some (some (.int k 0), 1, by')) (hby : by' ≤ 8)
    (ho : o.op = .call { callee := .builtin .append, args := #[s, x], argTypes := #[t, t] })
    {B n m c : Nat} {f r : Nat → Int} {v : Value} {b off : Nat} (hs : a.eval s = v) (hD : w.ownsRow B e 1 v n (nums k n f)) (hx : a.eval x = .slice (some ⟨b, off, none⟩) m c)
    (hc : ∀ j, j < m → w.cell? ⟨b, off + j, none⟩ = some (.int k (r j))) (hl : n + m < 1000000) (hB : B ≤ w.heap.size)
    (h : ∀ v' w', w'.ownsRow B e 1 v' (n + m) (nums k (n + m) (cat n f r)) → Below B w w' → wpList Try.prog ops Q rest (a.put o.dst v') w') : wpList Try.prog ops Q (o :: rest) a w := by
  obtain ⟨i0, hi, hz0, hz1, hz2⟩ := info_parts hi
  refine wpList_append_own w hgd s x t ho B e i0 (.int k 0) 1 by' ht hi hz0 hz1 hz2 rfl (by decide) _ n _ hs hD ⟨b, off, none⟩ m c (nums k m r) hx (by rw [nums_len]; omega) ?_ nums_one ?_ ?_ hB ?_
  · intro j u hj
    obtain ⟨hj2, rfl⟩ := nums_get hj
    rw [Addr.add_lit]
    exact hc j hj2
  · unfold maxLen; omega
  · have : (n + m) * by' ≤ (n + m) * 8 := Nat.mul_le_mul_left _ hby
    omega
  · intro v' w1 hown hgrow _
    rw [nums_cat] at hown
    exact h v' w1 hown (Below.grow hgrow hB (own_base hD))
/-- 'append(x, ..)' of a row that is full. -/
theorem ap_full {ops : Array Oper} {rest : List Oper} {o : Oper} {a : Act} {w : World} {Q : Exit → Act → World → Prop} (hgd : o.guard = none) (s x : Operand) (t e : TypeId) (k : IntKind) (by' : Nat) (ht : Try.prog.underlying t = some (.slice e)) (hi : (Try.prog.info? e).map (fun i => (i.zero, i.size, i.bytes)) = some (some (.int k 0), 1, by')) (hby : by' ≤ 8)
    (ho : o.op = .call { callee := .builtin .append, args := #[s, x], argTypes := #[t, t] })
    {n m c cap : Nat} {f r : Nat → Int} {b' b off : Nat} (hs : a.eval s = .slice (some ⟨b', 0, none⟩) n cap) (hf : ∀ j, j < n → w.cell? ⟨b', j, none⟩ = some (.int k (f j))) (hx : a.eval x = .slice (some ⟨b, off, none⟩) m c)
    (hc : ∀ j, j < m → w.cell? ⟨b, off + j, none⟩ = some (.int k (r j))) (hl : n + m < 1000000) (hcap : cap < n + m)
    (h : ∀ v' w', w'.ownsRow w.heap.size e 1 v' (n + m) (nums k (n + m) (cat n f r)) → Below w.heap.size w w' → wpList Try.prog ops Q rest (a.put o.dst v') w') : wpList Try.prog ops Q (o :: rest) a w := by
  obtain ⟨i0, hi, hz0, hz1, hz2⟩ := info_parts hi
  refine wpList_append_grows w hgd s x t ho e i0 (.int k 0) 1 by' ht hi hz0 hz1 hz2 rfl (by decide) (some ⟨b', 0, none⟩) n cap (nums k n f) hs (fun h => by cases h) (by rw [nums_len]; omega) ?_ ⟨b, off, none⟩ m c (nums k m r) hx (by rw [nums_len]; omega) ?_ nums_one hcap ?_ ?_ ?_
  · intro bb hb j u hj
    obtain ⟨hj2, rfl⟩ := nums_get hj
    simp only [Option.some.injEq] at hb
    subst hb
    rw [Addr.add_lit, Nat.zero_add]
    exact hf j hj2
  · intro j u hj
    obtain ⟨hj2, rfl⟩ := nums_get hj
    rw [Addr.add_lit]
    exact hc j hj2
  · unfold maxLen; omega
  · have : (n + m) * by' ≤ (n + m) * 8 := Nat.mul_le_mul_left _ hby
    omega
  · intro v' w1 hown hgrow
    rw [nums_cat] at hown
    exact h v' w1 hown (Below.grow hgrow (Nat.le_refl _) (fun k hk => by cases hk))
theorem nums_congr {k : IntKind} {n : Nat} {s t : Nat → Int} (h : ∀ i, i < n → s i = t i) : nums k n s = nums k n t := by
  unfold nums
  exact List.map_congr_left (fun i hi => by rw [h i (List.mem_range.1 hi)])
theorem own_kept {w w' : World} {B : Nat} {e : TypeId} {v : Value} {n : Nat} {xs : List Value} (h : w.ownsRow B e 1 v n xs) (hb : Below w.heap.size w w') : w'.ownsRow B e 1 v n xs := by
  refine ⟨h.1, ?_⟩
  rcases h.2 with hn | ⟨g, cap, cur, hv, hB, hg, rest⟩
  · exact .inl hn
  · exact .inr ⟨g, cap, cur, hv, hB, (hb.block g (heap_lt hg)).trans hg, rest⟩
theorem cat_one (n : Nat) (f : Nat → Int) : ∀ i, i < n + 1 → cat n f (fun _ => f n) i = f i := fun i hi => by
  unfold cat
  split
  · rfl
  · rw [show i = n by omega]
/-- The document's square: of all bytes, word by word. -/
def allB (key inn : Nat → Int) : Nat → Int := cat 48 (cat 16 lets key) inn
theorem allB_byts {key inn : Nat → Int} (hk : Byts 32 key) (hi : Byts 16 inn) : Byts 64 (allB key inn) := fun i h => by
  unfold allB cat
  by_cases h1 : i < 48
  · rw [if_pos h1]
    by_cases h2 : i < 16
    · rw [if_pos h2]; exact lets_byts i h2
    · rw [if_neg h2]; exact hk _ (by omega)
  · rw [if_neg h1]; exact hi _ (by omega)
def rsq (key inn : Nat → Int) (i : Nat) : Int := wrd (allB key inn) i
set_option maxHeartbeats 2000000 in
theorem rsquare_run (key inn : Nat → Int) (w : World) (hk : Byts 32 key) (hi : Byts 16 inn) :
    Calls Try.prog 23 #[.agg (WA .u8 32 key), .agg (WA .u8 16 inn)] w fun e w' => ∃ b cp, e = .returned (.slice (some ⟨b, 0, none⟩) 16 cp) ∧ 16 ≤ cp ∧ w.heap.size ≤ b ∧ RowAt w' b .i64 3 16 (rsq key inn) ∧ Below w.heap.size w w' := by
  have HW := lets_WA
  have g0 : ArrAt ((w.alloc (.cells (WA .u8 32 key) 29)).alloc (.cells (WA .u8 16 inn) 31)) w.heap.size .u8 29 32 key := heap_alloc2_old w _ _
  have g1 : ArrAt ((w.alloc (.cells (WA .u8 32 key) 29)).alloc (.cells (WA .u8 16 inn) 31)) (w.heap.size + 1) .u8 31 16 inn := heap_alloc2_new w _ _
  have hB : Below w.heap.size w ((w.alloc (.cells (WA .u8 32 key) 29)).alloc (.cells (WA .u8 16 inn) 31)) := ((Below.refl _ w).alloc (by simp) _).alloc (by simp) _
  have hcv := conv_lets ((w.alloc (.cells (WA .u8 32 key) 29)).alloc (.cells (WA .u8 16 inn) 31))
  rw [show ((w.alloc (.cells (WA .u8 32 key) 29)).alloc (.cells (WA .u8 16 inn) 31)).heap.size = w.heap.size + 1 + 1 by simp] at hcv
  go_enter Try.func23, Try.ntmps23
  have gl : RowAt (((w.alloc (.cells (WA .u8 32 key) 29)).alloc (.cells (WA .u8 16 inn) 31)).alloc (.cells (WA .u8 16 lets) 5 (16, 17))) (w.heap.size + 1 + 1) .u8 5 16 lets := RowAt.marked (heap_a3 w _ _ _) (Nat.le_refl _)
  replace g0 := g0.alloc (.cells (WA .u8 16 lets) 5 (16, 17))
  replace g1 := g1.alloc (.cells (WA .u8 16 lets) 5 (16, 17))
  replace hB := hB.alloc hB.size (.cells (WA .u8 16 lets) 5 (16, 17))
  go_wp2_with (at_builtin; refine ap_full rfl _ _ 32 5 .u8 1 Try.underlying32 infoByte (by decide) (by rfl) (n := 16) (m := 32) (by rfl) gl.cell (by rfl) (r := key) (fun j hj => by rw [Nat.zero_add]; exact g0.cell j hj) (by decide) (by decide) ?_; intro va v1 h1 hb1; refine Hid.out ?_)
  clear hcv gl g0 HW
  replace g1 := g1.kept hb1
  have hsz : (((w.alloc (.cells (WA .u8 32 key) 29)).alloc (.cells (WA .u8 16 inn) 31)).alloc (.cells (WA .u8 16 lets) 5 (16, 17))).heap.size = w.heap.size + 1 + 1 + 1 := by simp
  replace hB := hB.trans (hb1.mono hB.size)
  have hz1 := hb1.size
  rw [hsz] at h1 hz1
  clear hb1 hsz
  refine Hid.mk ?_
  go_wp2_with (at_builtin; refine ap_own rfl _ _ 32 5 .u8 1 Try.underlying32 infoByte (by decide) (by rfl) (n := 16 + 32) (m := 16) (by rfl) h1 (by rfl) (r := inn) (fun j hj => by rw [Nat.zero_add]; exact g1.cell j hj) (by decide) hz1 ?_; intro vb v2 h2 hb2; refine Hid.out ?_)
  have h3 : v2.ownsRow (w.heap.size + 1 + 1 + 1) 5 1 vb 64 (nums .u8 64 (allB key inn)) := h2
  replace hB := hB.trans (hb2.mono (by omega))
  clear h1 h2 hb2 g1
  obtain ⟨b, cp, rfl, hbb, hcp, hR⟩ := own_row h3 (by decide)
  have hA := allB_byts hk hi
  have HF : Hid (∀ i, wrd (allB key inn) i = rsq key inn i) := Hid.mk (fun _ => rfl)
  generalize allB key inn = al at *
  clear h3 hz1
  refine Hid.mk ?_
  go_wp2_with fail
  go_loopg [6, 7] 16 (fun m vs i v => ∃ k : Nat, Hid (m + k = 16) ∧ i = .int .i64 k ∧ v.ownsRow v2.heap.size 3 1 vs k (nums .i64 k (rsq key inn)) ∧ Below v2.heap.size v2 v)
  case atStart => exact ⟨0, Hid.mk rfl, rfl, World.ownsRow_nil v2 _ _ _, Below.refl _ _⟩
  case round =>
    obtain ⟨k, HK, rfl, hO, hb⟩ := hrel
    have hk16 : k ≤ 16 := by have := HK.out; omega
    by_cases hlt : k < 16
    · go_wp2_with fail
      refine (rword_run b 64 cp al k _ (hR.below hb hR.lt) hA (by omega) (by omega)).mono ?_
      rintro e v3 ⟨rfl, hb3⟩
      rw [HF.out]
      replace hO := own_kept (own_kept hO hb3) ((Below.refl _ v3).alloc (Nat.le_refl _) (.cells #[.int .i64 (rsq key inn k)] 3))
      replace hb := (hb.trans (hb3.mono hb.size)).alloc (Nat.le_trans hb.size hb3.size) (.cells #[.int .i64 (rsq key inn k)] 3)
      clear hb3
      go_wp2_with (at_builtin; refine ap_own rfl _ _ 23 3 .i64 8 Try.underlying23 infoInt (by decide) (by rfl) (n := k) (m := 1) (by rfl) hO (by rfl) (r := fun _ => rsq key inn k) (fun j hj => by obtain rfl : j = 0 := (by omega); exact cell_of_row _ _ 0 _ _ _ (heap_alloc_new v3 _)) (by omega) hb.size ?_; intro vb v4 h4 hb4; refine Hid.out ?_)
      rw [nums_congr (cat_one k (rsq key inn))] at h4
      replace hb := hb.trans hb4
      clear hb4 hO
      refine Hid.mk ?_
      go_wp2_with fail
      go_roundg (16 - (k + 1))
      case rel => exact ⟨k + 1, Hid.mk (by omega), by go_num, h4, hb⟩
      case measure => have := HK.out; omega
    · have hk2 : k = 16 := by omega
      subst hk2
      obtain ⟨b', cp', rfl, hb', hcp', hR'⟩ := own_row hO (by decide)
      have hz := hB.size
      go_wp2_with fail
      go_ret
      exact ⟨b', cp', rfl, hcp', by omega, hR', hB.trans (hb.mono hz)⟩
end Go.Proofs.Ytfgebcemdjplnaa
