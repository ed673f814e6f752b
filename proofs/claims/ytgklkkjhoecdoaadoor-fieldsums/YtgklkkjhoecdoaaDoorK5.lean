/-
  Own text. Slices of ints that hold digits; what Load and carried of the document's answer give: contracts over the translation.
-/
import Derived.Test.YtgklkkjhoecdoaaDoorK4
import Derived.Laws.OwnMore
import Derived.OwnWalk
import Derived.Deep.OwnRows
import Derived.Deep.LoopGhost
namespace Go.Proofs.YtgklkkjhoecdoaaDoor
open Go.RowKit Go.Proofs
/-- The slice at the head of block g, of the capacity cap, holds the digits ds; the block is of number B at least. -/
def Dig (w : World) (B g cap : Nat) (ds : List Int) : Prop := w.ownsRow B 3 1 (.slice (some ⟨g, 0, none⟩) ds.length cap) ds.length (ds.map (Value.int .i64))
theorem Dig.raw {w : World} {B g cap : Nat} {ds : List Int} (h : Dig w B g cap ds) : B ≤ g ∧ ds.length ≤ cap ∧ ∃ cur, w.heap[g]? = some (.cells cur 3 (0, 0)) := by
  rcases h.2 with ⟨h', _⟩ | ⟨g', cap', cur, h', hb, hg, hn, _⟩
  · simp at h'
  · simp only [Value.slice.injEq, Option.some.injEq, Addr.mk.injEq, and_true, true_and] at h'
    obtain ⟨rfl, rfl⟩ := h'
    exact ⟨hb, hn, cur, hg⟩
theorem Dig.lt {w : World} {B g cap : Nat} {ds : List Int} (h : Dig w B g cap ds) : g < w.heap.size := by
  obtain ⟨_, _, cur, hg⟩ := h.raw
  exact heap_lt hg
theorem Dig.cell {w : World} {B g cap : Nat} {ds : List Int} (h : Dig w B g cap ds) (i : Nat) (hi : i < ds.length) : w.cell? ⟨g, i, none⟩ = some (.int .i64 (ds.getD i 0)) := by
  rw [World.ownsRow.cellAt h i (by omega)]; simp [hi]
theorem Dig.free {w : World} {B g cap : Nat} {ds : List Int} (h : Dig w B g cap ds) (i : Nat) : w.frozen? ⟨g, i, none⟩ = false := World.ownsRow.frozenAt h i
theorem Dig.set {w : World} {B g cap : Nat} {ds : List Int} (h : Dig w B g cap ds) (i : Nat) (d : Int) : Dig (w.setCell ⟨g, i, none⟩ (.int .i64 d)) B g cap (ds.set i d) := by
  have := (World.ownsRow.stored h i (.int .i64 d)).1
  unfold Dig
  rw [List.length_set, List.map_set]
  exact this
theorem Dig.of_block {w w' : World} {B g cap : Nat} {ds : List Int} (h : Dig w B g cap ds) (e : w'.heap[g]? = w.heap[g]?) : Dig w' B g cap ds := by
  refine ⟨h.1, ?_⟩
  rcases h.2 with hn | ⟨g', cap', cur, h', hb, hg, rest⟩
  · exact .inl hn
  · refine .inr ⟨g', cap', cur, h', hb, ?_, rest⟩
    simp only [Value.slice.injEq, Option.some.injEq, Addr.mk.injEq, and_true, true_and] at h'
    obtain ⟨rfl, rfl⟩ := h'
    exact e.trans hg
theorem Dig.below {w w' : World} {B C g cap : Nat} {ds : List Int} (h : Dig w B g cap ds) (hb : Below C w w') (hC : g < C) : Dig w' B g cap ds := h.of_block (hb.block g hC)
theorem Dig.only {w w' : World} {B b g cap : Nat} {ds : List Int} (h : Dig w B g cap ds) (o : Only b w w') (hC : g ≠ b) : Dig w' B g cap ds := h.of_block (o.block g hC)
theorem Dig.alloc {w : World} {B g cap : Nat} {ds : List Int} (h : Dig w B g cap ds) (o : Obj) : Dig (w.alloc o) B g cap ds := h.of_block (Below.heap_alloc _ _ _ h.lt)
theorem Dig.setOther {w : World} {B b i g cap : Nat} {ds : List Int} (h : Dig w B g cap ds) (v : Value) (hne : g ≠ b) : Dig (w.setCell ⟨b, i, none⟩ v) B g cap ds := h.of_block (heap_setCell_other _ _ _ _ (by simpa using hne))
theorem Dig.drewN {w : World} {B g cap : Nat} {ds : List Int} (h : Dig w B g cap ds) (n : Nat) : Dig (w.drewN n) B g cap ds := h.of_block rfl
theorem Dig.any {w : World} {B C g cap : Nat} {ds : List Int} (h : Dig w B g cap ds) (hC : C ≤ g) : Dig w C g cap ds := by
  refine ⟨h.1, ?_⟩
  rcases h.2 with hn | ⟨g', cap', cur, h', hb, rest⟩
  · exact .inl hn
  · have e := h'
    simp only [Value.slice.injEq, Option.some.injEq, Addr.mk.injEq, and_true, true_and] at e
    obtain ⟨rfl, rfl⟩ := e
    exact .inr ⟨g, cap, cur, h', hC, rest⟩
theorem infoInt : (Tryd.prog.info? 3).map (fun i => (i.zero, i.size, i.bytes)) = some (some (.int .i64 0), 1, 8) := by kernel_rfl
theorem Below.grow {B : Nat} {w w' : World} {row : Option Nat} (hg : w.grownBy w' row) (hB : B ≤ w.heap.size) (hr : ∀ k, row = some k → B ≤ k) : Below B w w' :=
  ⟨hg.os, hg.tape, hg.output, hg.size, fun k hk => hg.block k (by omega) (fun e => by have := hr k e.symm; omega)⟩
/-- 'x = append(x, d)'. -/
theorem ap_dig {ops : Array Oper} {rest : List Oper} {o : Oper} {a : Act} {w : World} {Q : Exit → Act → World → Prop} (hgd : o.guard = none) (s x : Operand)
    (ho : o.op = .call { callee := .builtin .append, args := #[s, x], argTypes := #[43, 43] })
    {B g cap : Nat} {ds : List Int} (hs : a.eval s = .slice (some ⟨g, 0, none⟩) ds.length cap) (hD : Dig w B g cap ds) (b : Nat) (d : Int) (hx : a.eval x = .slice (some ⟨b, 0, none⟩) 1 1)
    (hc : w.cell? ⟨b, 0, none⟩ = some (.int .i64 d)) (hl : ds.length < 1000000) (hB : B ≤ w.heap.size)
    (h : ∀ g' cap' w', Dig w' B g' cap' (ds ++ [d]) → Below B w w' → wpList Tryd.prog ops Q rest (a.put o.dst (.slice (some ⟨g', 0, none⟩) (ds.length + 1) cap')) w') : wpList Tryd.prog ops Q (o :: rest) a w := by
  obtain ⟨i0, hi, hz0, hz1, hz2⟩ := info_parts infoInt
  refine wpList_append_own w hgd s x 43 ho B 3 i0 (.int .i64 0) 1 8 Tryd.underlying43 hi hz0 hz1 hz2 rfl (by decide) _ ds.length _ hs hD ⟨b, 0, none⟩ 1 1 [.int .i64 d] hx rfl ?_ ?_ ?_ ?_ hB ?_
  · intro j u hj
    match j, hj with
    | 0, hj => simp at hj; subst hj; simpa [Addr.add] using hc
  · intro u hu; simp at hu; subst hu; rfl
  · unfold maxLen; omega
  · omega
  · intro v' w1 hown hgrow hnil
    have hne : v' ≠ .slice none 0 0 := fun e => by have := (hnil.1 e).1; simp at this
    have hbl := hD.raw.1
    rcases hown.2 with ⟨e, _⟩ | ⟨g', cap', cur, rfl, hr⟩
    · exact absurd e hne
    · exact h g' cap' w1 (by unfold Dig; rw [List.length_append, List.map_append]; exact hown) (Below.grow hgrow hB (fun k hk => by simp [Value.ownBlock] at hk; omega))
theorem dig_made (w : World) (n : Nat) (hn : n ≤ 1000000) : Dig (w.alloc (.cells (madeCells #[.int .i64 0] n) 3)) w.heap.size w.heap.size n (List.replicate n 0) := by
  have h := World.ownsRow_lit (base := w.heap.size) (e := 3) (size := 1) w (madeCells #[.int .i64 0] n) n (Nat.le_refl _) (by unfold maxLen; omega) (by rw [← Array.length_toList, toList_madeCells_one]; simp)
  rw [toList_madeCells_one] at h
  unfold Dig
  simp only [List.length_replicate, List.map_replicate]
  exact h
theorem dig_made1 (w : World) (o : Obj) (n : Nat) (hn : n ≤ 1000000) : Dig ((w.alloc o).alloc (.cells (madeCells #[.int .i64 0] n) 3)) w.heap.size (w.heap.size + 1) n (List.replicate n 0) := by
  have h := dig_made (w.alloc o) n hn
  have e : (w.alloc o).heap.size = w.heap.size + 1 := by simp
  rw [e] at h
  exact h.any (by omega)
theorem mk16 (w : World) : (Instr.makeSlice 43 (.int .i64 16) (.int .i64 16)).run Tryd.prog w = .ok (.slice (some ⟨w.heap.size, 0, none⟩) 16 16) (w.alloc (.cells (madeCells #[.int .i64 0] 16) 3)) :=
  run_make_row' 43 3 (.int .i64 0) 8 Tryd.underlying43 infoInt rfl .i64 .i64 16 (by omega) (by omega) w
theorem LD_zero (n : Int) : LD n 0 = List.replicate 16 0 := by
  unfold LD; simp only [Nat.not_lt_zero, if_false]; rfl
theorem LD_get (n : Int) {i : Nat} (hi : i < 16) : (LD n i).getD i 0 = 0 := by
  unfold LD; rw [getD_map _ hi]; simp
set_option maxHeartbeats 1000000 in
set_option maxRecDepth 100000 in
theorem Load_any (n : Int) (w : World) :
    Calls Tryd.prog 35 #[.agg (BA n)] w fun e w' => ∃ g, e = .returned (.slice (some ⟨g, 0, none⟩) 16 16) ∧ Dig w' w.heap.size g 16 (LD n 16) ∧ Below w.heap.size w w' := by
  have hmk := mk16
  go_enter Tryd.func35, Tryd.ntmps35
  go_wp2
  refine wp_gen (fun v => v.heap[w.heap.size]? = some (.cells (BA n) 24 (0, 0)) ∧ Dig v w.heap.size (w.heap.size + 1) 16 (LD n 0) ∧ Below w.heap.size w v)
    ⟨(Below.heap_alloc _ _ _ (by simp)).trans (heap_alloc_new w _), by rw [LD_zero]; exact dig_made1 w _ 16 (by omega),
      by repeat first | exact Below.refl _ _ | refine Below.alloc ?_ (by simp <;> omega) _⟩ ?_
  rintro v0 ⟨ga, hd, hB⟩
  go_loopw [4] (fun i v => ∃ k : Nat, k ≤ 16 ∧ i = .int .i64 k ∧ v.heap[w.heap.size]? = some (.cells (BA n) 24 (0, 0)) ∧ Dig v w.heap.size (w.heap.size + 1) 16 (LD n k) ∧ Below w.heap.size w v) (fun i _ => 16 - (intOf i).toNat)
  case atStart => exact ⟨0, by omega, rfl, ga, hd, hB⟩
  case round =>
    clear ga hd hB
    obtain ⟨k, hk, rfl, ga, hd, hB⟩ := hrel
    by_cases hlt : k < 16
    · have c0 := (cell_of_row wr _ (2 * k) _ _ _ ga).trans (BA_get n (2 * k) (by omega))
      have c1 := (cell_of_row wr _ (2 * k + 1) _ _ _ ga).trans (BA_get n (2 * k + 1) (by omega))
      have cs := hd.cell k (by rw [LD_len]; exact hlt)
      have fs := hd.free k
      have hb0 := byt_byte n (2 * k)
      have hb1 := byt_byte n (2 * k + 1)
      unfold Byte at hb0 hb1
      obtain ⟨hb00, hb01⟩ := hb0
      obtain ⟨hb10, hb11⟩ := hb1
      have HS := Hid.mk (LD_set n hlt)
      generalize byt n (2 * k) = x at *
      generalize byt n (2 * k + 1) = y at *
      go_wp2
      go_region
      go_wp2
      go_roundw
      case rel => exact ⟨k + 1, by omega, by go_num, (heap_setCell_other _ _ _ _ (by simp)).trans ga, by rw [← HS.out]; exact (hd.set k _).drewN 1, Below.drew (Below.setCell hB (by simp) _)⟩
      case measure => simp [intOf]; omega
    · have hk2 : k = 16 := by omega
      subst hk2
      go_wp2
      go_ret
      exact ⟨_, rfl, hd, hB⟩
end Go.Proofs.YtgklkkjhoecdoaaDoor
