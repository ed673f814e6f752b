/-
  Own text. What numberOf of package poly answers: a contract over the translation.
-/
import Derived.Test.YtbkbcfimpaolmaaGreatJ2
import Derived.Lib.LazyBuf
import Derived.Lib.AppendStr
import Derived.Laws.BytesArg
import Derived.Test.YtbkbcfimpaolmaaGreatJ1
import Derived.OpenShut
import Derived.Lib.BufferMore
import Derived.Lib.SlBytesConst
namespace Go.Proofs.YtbkbcfimpaolmaaGreat
open Go.RowKit Go.Proofs
set_option maxRecDepth 100000
/-- The bytes of a block, and a byte 1 behind them. -/
def mkd (r : Nat → Int) (n : Nat) : Nat → Int := upd (over (fun _ => 0) 0 n r) n 1
def nblk (r : Nat → Int) (n : Nat) : Nat → Int := lofs (dval (mkd r n) 8) (dval (fun j => mkd r n (8 + j)) 8) (mkd r n 16)
theorem mkd_b {r : Nat → Int} {n : Nat} (hr : Byts n r) (i : Nat) : 0 ≤ mkd r n i ∧ mkd r n i < 256 := by
  unfold mkd upd over
  split
  · omega
  split
  · exact hr _ (by omega)
  · show 0 ≤ (0 : Int) ∧ (0 : Int) < 256
    omega
theorem mkd_top {r : Nat → Int} {n : Nat} (hn : n ≤ 16) : 0 ≤ mkd r n 16 ∧ mkd r n 16 < 4 := by
  unfold mkd upd over
  split
  · omega
  rw [if_neg (by omega)]
  show 0 ≤ (0 : Int) ∧ (0 : Int) < 4
  omega
theorem mkd_num (r : Nat → Int) {n : Nat} (hn : n ≤ 16) : dval (mkd r n) 17 = dval r n + 256 ^ n := by
  have h0 : over (fun _ => 0) 0 n r n = 0 := by unfold over; rw [if_neg (by omega)]
  unfold mkd
  rw [dval_upd (by omega), h0, dval_tail (n := n) (by omega) (fun i h1 _ => by unfold over; rw [if_neg (by omega)])]
  rw [dval_congr (t := r) (fun i hi => by unfold over; rw [if_pos (by omega), Nat.sub_zero])]
  omega
theorem nblk_num {r : Nat → Int} {n : Nat} (hn : n ≤ 16) : qv (nblk r n) 5 = dval r n + 256 ^ n := by
  have h := dval_shift (mkd r n) 8 9
  have h2 : dval (fun j => mkd r n (8 + j)) 9 = dval (fun j => mkd r n (8 + j)) 8 + 256 ^ 8 * mkd r n 16 := rfl
  rw [show (8 + 9 : Nat) = 17 from rfl, mkd_num r hn, h2] at h
  unfold nblk
  rw [lofs_num, h]
  simp only [Int.reducePow]
  omega
theorem nblk_dg {r : Nat → Int} {n : Nat} (hr : Byts n r) (hn : n ≤ 16) : Dg 67108864 5 (nblk r n) := lofs_dg (dval8_b fun i _ => mkd_b hr i) (dval8_b fun i _ => mkd_b hr (8 + i)) (mkd_top hn)
theorem enterWord (args : Array Value) (w : World) : (callFunc 106 args).run Tryz.prog w = .ok (.enter 106 args) w := by kernel_rfl
theorem enterLimbs (args : Array Value) (w : World) : (callFunc 105 args).run Tryz.prog w = .ok (.enter 105 args) w := by kernel_rfl
theorem len17 : Tryz.prog.arrayLen 166 = 17 := by kernel_rfl
theorem sizeB17 (w : World) : (sizeOf (Tryz.prog.elem 166)).run Tryz.prog w = .ok 1 w := by kernel_rfl
theorem sl17 (b : Nat) (w : World) : (Instr.sliceAt 166 (.pointer (some ⟨b, 0, none⟩)) none none none).run Tryz.prog w = .ok (.slice (some ⟨b, 0, none⟩) 17 17) w := by simp [go_sem]
theorem sl17a (b : Nat) (w : World) : (Instr.sliceAt 166 (.pointer (some ⟨b, 0, none⟩)) none (some (.int .i64 8)) none).run Tryz.prog w = .ok (.slice (some ⟨b, 0, none⟩) 8 17) w := by simp [go_sem]
theorem sl17b (b : Nat) (w : World) : (Instr.sliceAt 166 (.pointer (some ⟨b, 0, none⟩)) (some (.int .i64 8)) (some (.int .i64 16)) none).run Tryz.prog w = .ok (.slice (some ⟨b, 8, none⟩) 8 9) w := by simp [go_sem]
theorem conv_bu {n : Int} (h : 0 ≤ n ∧ n < 256) (w : World) : (convert 5 31 (.int .u8 n)).run Tryz.prog w = .ok (.int .u64 n) w := by
  simp [go_sem, w64 (z := n) (by omega) (by omega)]
theorem wl_copy {ops : Array Oper} {rest : List Oper} {dt : Option Tmp} {d s' : Operand} {ty : TypeId} {ps : String} {af : Array Edge} {a : Act} {w : World} {Q : Exit → Act → World → Prop}
    {g off dL dC b f sL sC n m : Nat} {t : TypeId} {s r : Nat → Int} (hd : a.eval d = .slice (some ⟨g, off, none⟩) dL dC) (hs : a.eval s' = .slice (some ⟨b, f, none⟩) sL sC) (hg : ArrAt w g .u8 t n s) (hm : m = Nat.min sL dL) (hfit : off + m ≤ n) (hr : ∀ j, j < m → w.cell? ⟨b, f + j, none⟩ = some (.int .u8 (r j)))
    (h : ∀ w', ArrAt w' g .u8 t n (over s off m r) → Only g w w' → wpList Tryz.prog ops Q rest (a.put dt (goInt m)) w') :
    wpList Tryz.prog ops Q ({ dst := dt, op := .call { callee := .builtin .copy, args := #[d, s'], argTypes := #[67, 67] }, type := ty, pos := ps, after := af, guard := none } :: rest) a w :=
  wl_act rfl (act_copy rfl hd hs hg hm hfit hr h)
set_option maxHeartbeats 4000000 in
set_option maxRecDepth 100000 in
theorem numberOf_run (b f n c : Nat) (r : Nat → Int) (w : World) (hn : n ≤ 16) (hr : Byts n r) (hc : ∀ j, j < n → w.cell? ⟨b, f + j, none⟩ = some (.int .u8 (r j))) (hb : b < w.heap.size) :
    Calls Tryz.prog 114 #[.slice (some ⟨b, f, none⟩) n c] w fun e w' => e = .returned (.agg (WA .u64 5 (nblk r n))) ∧ Below w.heap.size w w' := by
  have g0 : ArrAt ((w.alloc (.cells (WA .u64 5 fun _ => 0) 147)).alloc (.cells (WA .u8 17 fun _ => 0) 166)) w.heap.size .u64 147 5 (fun _ => 0) := heap_alloc2_old w _ _
  have g1 : ArrAt ((w.alloc (.cells (WA .u64 5 fun _ => 0) 147)).alloc (.cells (WA .u8 17 fun _ => 0) 166)) (w.heap.size + 1) .u8 166 17 (fun _ => 0) := heap_alloc2_new w _ _
  have hB : Below w.heap.size w ((w.alloc (.cells (WA .u64 5 fun _ => 0) 147)).alloc (.cells (WA .u8 17 fun _ => 0) 166)) := ((Below.refl _ w).alloc (by simp) _).alloc (by simp) _
  have hc2 : ∀ j, j < n → (((w.alloc (.cells (WA .u64 5 fun _ => 0) 147)).alloc (.cells (WA .u8 17 fun _ => 0) 166)) : World).cell? ⟨b, f + j, none⟩ = some (.int .u8 (r j)) := fun j hj => (hB.cell hb).trans (hc j hj)
  have HM8 : Hid (Byts 8 (mkd r n)) := Hid.mk (fun i _ => mkd_b hr i)
  have HM16 : Hid (Byts 8 (fun j => mkd r n (8 + j))) := Hid.mk (fun i _ => mkd_b hr (8 + i))
  have HT := Hid.mk (mkd_b hr 16)
  have HT4 := Hid.mk (mkd_top (r := r) hn)
  have hnL : (n : Int) < 17 := by omega
  clear hc
  go_enter Tryz.func114, Tryz.ntmps114
  go_wp2_with (refine wl_copy (by rfl) (by rfl) g1 (m := n) (r := r) (by show n = min n 17; omega) (by omega) hc2 ?_; intro v1 g2 o2; refine Hid.out ?_)
  replace g0 := g0.only o2 (by omega)
  replace hB := hB.trans (o2.below (by omega))
  clear o2 g1 hc2
  have c1 := g2.cell n (by omega)
  have f1 := g2.free n
  have g1 := g2.set n 1 (by omega)
  replace g0 := g0.other (g := (w.heap.size + 1)) (i := n) (.int .u8 1) (by omega)
  replace hB := Below.setCell (p := ⟨(w.heap.size + 1), n, none⟩) hB (by simp) (.int .u8 1)
  clear g2
  refine Hid.mk ?_
  go_wp2_with fail
  clear c1 f1
  refine wp_gen (fun v => ArrAt v w.heap.size .u64 147 5 (fun _ => 0) ∧ ArrAt v (w.heap.size + 1) .u8 166 17 (mkd r n) ∧ Below w.heap.size w v) ⟨g0, g1, hB⟩ ?_
  clear g0 g1 hB
  rintro v2 ⟨g0, g1, hB⟩
  refine wp_region3 (Below w.heap.size w) v2.heap.size
    [((w.heap.size + 1), fixd (WA .u8 17 (mkd r n)) 166), (w.heap.size, once (WA .u64 5 (fun _ => 0)) 147 8 (WA .u64 5 (nblk r n)))]
    [kv (.slice (some ⟨(w.heap.size + 1), 0, none⟩) 8 17), kv (.int .u64 (dval (mkd r n) 8)), kv (.slice (some ⟨(w.heap.size + 1), 8, none⟩) 8 9), kv (.int .u64 (dval (fun j => mkd r n (8 + j)) 8)), kv (.pointer (some ⟨(w.heap.size + 1), 16, none⟩)), kv (.int .u8 (mkd r n 16)), kv (.int .u64 (mkd r n 16)), kv (.agg (WA .u64 5 (nblk r n))), .val fun _ => True]
    [.none, .none, .none, .none, .none, .none, .none, .none, .base 1 1]
    [some 10, some 11, some 12, some 13, some 14, some 15, some 16, some 17, none]
    [(3, .pointer (some ⟨(w.heap.size + 1), 0, none⟩)), (2, .pointer (some ⟨w.heap.size, 0, none⟩))]
    [[], [.slot 0, .base 0 0], [], [.slot 2, .base 0 0], [], [.slot 4, .base 0 0], [.slot 5], [.slot 1, .slot 3, .slot 6], [.base 1 0, .slot 7]]
    [.base 0 0, .base 1 1] [10, 11, 12, 13, 14, 15, 16, 17]
    rfl (by kernel_rfl) ⟨rfl, rfl, trivial⟩ (Below.drew hB) (Nat.le_refl _) ⟨⟨g1.lt, obIn g1⟩, ⟨g0.lt, obIn g0⟩, trivial⟩ ⟨⟨(show ((w.heap.size + 1) : Nat) ≠ w.heap.size from by omega), trivial⟩, trivial, trivial⟩ (below_G hB.size ⟨by omega, by omega, trivial⟩)
    ⟨
      -- 0
      (fun Q aq ww own hS hBg fr kn => .inl ⟨trivial, fun K hK => wp_value (exec_slH rfl fr.1 rfl (sl17a _ _)) (hK _ _ ⟨Touch.refl _ _, rfl⟩)⟩),
      -- 1
      (fun Q aq ww own hS hBg fr kn => .inl ⟨trivial, fun K hK => stepc enterWord rfl (args1 kn.1) (pword_run (w.heap.size + 1) 0 17 (mkd r n) ww HM8.out (fun j hj => by rw [Nat.zero_add]; exact ArrAt.cell (obAt kn.2.1) j (by omega))) (fun w' hb => hK _ _ ⟨touch_below hb, rfl⟩)⟩),
      -- 2
      (fun Q aq ww own hS hBg fr kn => .inl ⟨trivial, fun K hK => wp_value (exec_slLH rfl fr.1 rfl rfl (sl17b _ _)) (hK _ _ ⟨Touch.refl _ _, rfl⟩)⟩),
      -- 3
      (fun Q aq ww own hS hBg fr kn => .inl ⟨trivial, fun K hK => stepc enterWord rfl (args1 kn.1) (pword_run (w.heap.size + 1) 8 9 (fun j => mkd r n (8 + j)) ww HM16.out (fun j hj => ArrAt.cell (obAt kn.2.1) (8 + j) (by omega))) (fun w' hb => hK _ _ ⟨touch_below hb, rfl⟩)⟩),
      -- 4
      (fun Q aq ww own hS hBg fr kn => .inl ⟨trivial, fun K hK => wp_value (exec_idxA (i := 16) rfl Tryz.underlying166 len17 sizeB17 fr.1 rfl (by decide)) (hK _ _ ⟨Touch.refl _ _, rfl⟩)⟩),
      -- 5
      (fun Q aq ww own hS hBg fr kn => .inl ⟨trivial, fun K hK => wp_value (exec_ld rfl kn.1 (run_load8 (ArrAt.cell (obAt kn.2.1) 16 (by decide)))) (hK _ _ ⟨Touch.refl _ _, rfl⟩)⟩),
      -- 6
      (fun Q aq ww own hS hBg fr kn => .inl ⟨trivial, fun K hK => wp_value (exec_conv rfl kn.1 (conv_bu HT.out _)) (hK _ _ ⟨Touch.refl _ _, rfl⟩)⟩),
      -- 7
      (fun Q aq ww own hS hBg fr kn => .inl ⟨trivial, fun K hK => stepc enterLimbs rfl (args3 kn.1 kn.2.1 kn.2.2.1) (limbsOf_run _ _ _ ww (dval8_b HM8.out) (dval8_b HM16.out) HT4.out) (fun w' hb => hK _ _ ⟨touch_below hb, rfl⟩)⟩),
      -- 8
      (fun Q aq ww own hS hBg fr kn => .inl ⟨trivial, fun K hK => act_arr rfl isL fr.2.1 kn.2.1 (obAt kn.1) (fun w2 hg ho => hK _ _ ⟨⟨touch_only ho, obIn hg⟩, trivial⟩)⟩),
      trivial⟩ ?_
  intro vs own v3 hB3 hs3 kn inj
  clear inj hs3 g0 g1 hB
  have g0 : ArrAt v3 w.heap.size .u64 147 5 (nblk r n) := obAt kn.2.1
  clear kn
  simp only [putAll, Act.put, List.setIfInBounds_toArray, List.set_cons_zero, List.set_cons_succ]
  go_wp2_with fail
  exact bodyPost_ret (res_arr Tryz.results114 isL g0 (by rfl)) rfl ⟨rfl, hB3⟩
end Go.Proofs.YtbkbcfimpaolmaaGreat
/-
  Own text. A MAC in memory: its cells; steps over them.
-/
namespace Go.Proofs.YtbkbcfimpaolmaaGreat
open Go.RowKit Go.Proofs
set_option maxRecDepth 100000
/-- The cells of a MAC. -/
def macV (R S Z H : Nat → Int) (l : Int) (i : Nat) : Value := if i < 5 then .int .u64 (R i) else if i < 7 then .int .u64 (S (i - 5)) else if i < 12 then .int .u64 (Z (i - 7)) else if i < 28 then .int .u8 (H (i - 12)) else .int .i64 l
def macC (R S Z H : Nat → Int) (l : Int) : Array Value := ((List.range 29).map (macV R S Z H l)).toArray
theorem macC_size (R S Z H : Nat → Int) (l : Int) : (macC R S Z H l).size = 29 := by simp [macC]
theorem macC_get (R S Z H : Nat → Int) (l : Int) (i : Nat) (h : i < 29) : (macC R S Z H l)[i]? = some (macV R S Z H l i) := by simp [macC, h]
theorem macC_ext {cs : Array Value} {R S Z H : Nat → Int} {l : Int} (hs : cs.size = 29) (h : ∀ i, i < 29 → cs[i]? = some (macV R S Z H l i)) : cs = macC R S Z H l := by
  apply Array.ext_getElem?
  intro i
  by_cases hi : i < 29
  · rw [h i hi, macC_get R S Z H l i hi]
  · rw [Array.getElem?_eq_none (by omega), Array.getElem?_eq_none (by rw [macC_size]; omega)]
theorem macC_one (R S Z H : Nat → Int) (l : Int) : (macC R S Z H l).all (·.oneCell') = true := by
  rw [Array.all_eq_true_iff_forall_mem]
  intro v hv
  simp only [macC, List.mem_toArray, List.mem_map] at hv
  obtain ⟨i, _, rfl⟩ := hv
  unfold macV
  split
  · rfl
  split
  · rfl
  split
  · rfl
  split <;> rfl
def MacAt (w : World) (b : Nat) (R S Z H : Nat → Int) (l : Int) : Prop := w.heap[b]? = some (.cells (macC R S Z H l) 152 (0, 0))
theorem MacAt.at {w : World} {b : Nat} {R S Z H : Nat → Int} {l : Int} (h : MacAt w b R S Z H l) (i : Nat) (hi : i < 29) : w.cell? ⟨b, i, none⟩ = some (macV R S Z H l i) := by
  rw [cell_of_row w b i _ _ _ h, macC_get R S Z H l i hi]
theorem MacAt.free {w : World} {b : Nat} {R S Z H : Nat → Int} {l : Int} (h : MacAt w b R S Z H l) (i : Nat) : w.frozen? ⟨b, i, none⟩ = false := frozen_of_row w b i _ _ h
theorem MacAt.lt {w : World} {b : Nat} {R S Z H : Nat → Int} {l : Int} (h : MacAt w b R S Z H l) : b < w.heap.size := heap_lt h
theorem MacAt.block {w w' : World} {b : Nat} {R S Z H : Nat → Int} {l : Int} (h : MacAt w b R S Z H l) (e : w'.heap[b]? = w.heap[b]?) : MacAt w' b R S Z H l := e.trans h
theorem MacAt.kept {w w' : World} {b : Nat} {R S Z H : Nat → Int} {l : Int} (h : MacAt w b R S Z H l) (hb : Below w.heap.size w w') : MacAt w' b R S Z H l := h.block (hb.block b h.lt)
theorem MacAt.below {B : Nat} {w w' : World} {b : Nat} {R S Z H : Nat → Int} {l : Int} (h : MacAt w b R S Z H l) (hb : Below B w w') (hB : b < B) : MacAt w' b R S Z H l := h.block (hb.block b hB)
theorem MacAt.only {g : Nat} {w w' : World} {b : Nat} {R S Z H : Nat → Int} {l : Int} (h : MacAt w b R S Z H l) (ho : Only g w w') (hB : b ≠ g) : MacAt w' b R S Z H l := h.block (ho.block b hB)
theorem MacAt.alloc {w : World} {b : Nat} {R S Z H : Nat → Int} {l : Int} (h : MacAt w b R S Z H l) (o : Obj) : MacAt (w.alloc o) b R S Z H l := h.block (Below.heap_alloc _ _ _ h.lt)
theorem MacAt.drew {w : World} {b : Nat} {R S Z H : Nat → Int} {l : Int} (h : MacAt w b R S Z H l) : MacAt w.drew b R S Z H l := h
theorem MacAt.r {w : World} {b : Nat} {R S Z H : Nat → Int} {l : Int} (h : MacAt w b R S Z H l) : w.rangeAt b 0 (nums .u64 5 R) := fun j v hj => by
  obtain ⟨hj2, rfl⟩ := nums_get hj
  rw [Nat.zero_add, h.at j (by omega)]
  unfold macV
  rw [if_pos hj2]
theorem MacAt.s {w : World} {b : Nat} {R S Z H : Nat → Int} {l : Int} (h : MacAt w b R S Z H l) : w.rangeAt b 5 (nums .u64 2 S) := fun j v hj => by
  obtain ⟨hj2, rfl⟩ := nums_get hj
  rw [h.at (5 + j) (by omega)]
  unfold macV
  rw [if_neg (by omega), if_pos (by omega), Nat.add_sub_cancel_left]
theorem MacAt.sum {w : World} {b : Nat} {R S Z H : Nat → Int} {l : Int} (h : MacAt w b R S Z H l) : w.rangeAt b 7 (nums .u64 5 Z) := fun j v hj => by
  obtain ⟨hj2, rfl⟩ := nums_get hj
  rw [h.at (7 + j) (by omega)]
  unfold macV
  rw [if_neg (by omega), if_neg (by omega), if_pos (by omega), Nat.add_sub_cancel_left]
theorem MacAt.rest {w : World} {b : Nat} {R S Z H : Nat → Int} {l : Int} (h : MacAt w b R S Z H l) (j : Nat) (hj : j < 16) : w.cell? ⟨b, 12 + j, none⟩ = some (.int .u8 (H j)) := by
  rw [h.at (12 + j) (by omega)]
  unfold macV
  rw [if_neg (by omega), if_neg (by omega), if_neg (by omega), if_pos (by omega), Nat.add_sub_cancel_left]
theorem MacAt.held {w : World} {b : Nat} {R S Z H : Nat → Int} {l : Int} (h : MacAt w b R S Z H l) : w.cell? ⟨b, 28, none⟩ = some (.int .i64 l) := h.at 28 (by decide)
theorem MacAt.cells {w : World} {b o : Nat} {R S Z H : Nat → Int} {l : Int} (h : MacAt w b R S Z H l) (vs : List Value) (hl : o + vs.length ≤ 29) {R' S' Z' H' : Nat → Int} {l' : Int}
    (h1 : ∀ j, j < vs.length → vs[j]? = some (macV R' S' Z' H' l' (o + j))) (h2 : ∀ i, i < 29 → i < o ∨ o + vs.length ≤ i → macV R' S' Z' H' l' i = macV R S Z H l i) : MacAt (w.setCells b o vs) b R' S' Z' H' l' ∧ Only b w (w.setCells b o vs) := by
  obtain ⟨C', k1, k2, k3, k4, k5⟩ := setCells_heap vs o w _ h (by rw [macC_size]; exact hl)
  refine ⟨?_, k5⟩
  have e : C' = macC R' S' Z' H' l' := by
    refine macC_ext (by rw [k2, macC_size]) (fun i hi => ?_)
    by_cases c : i < o ∨ o + vs.length ≤ i
    · rw [k4 i c, macC_get _ _ _ _ _ i hi, h2 i hi c]
    · have := k3 (i - o) (by omega)
      rw [show o + (i - o) = i by omega] at this
      rw [this, h1 (i - o) (by omega), show o + (i - o) = i by omega]
  unfold MacAt
  rw [← e]
  exact k1
theorem MacAt.setSum {w : World} {b : Nat} {R S Z H : Nat → Int} {l : Int} (h : MacAt w b R S Z H l) (Z' : Nat → Int) : MacAt (w.setCells b 7 (nums .u64 5 Z')) b R S Z' H l ∧ Only b w (w.setCells b 7 (nums .u64 5 Z')) := by
  refine h.cells (nums .u64 5 Z') (by rw [nums_len]; omega) (fun j hj => ?_) (fun i hi hc => ?_)
  · rw [nums_len] at hj
    rw [nums_at .u64 5 Z' hj]
    unfold macV
    rw [if_neg (by omega), if_neg (by omega), if_pos (by omega), Nat.add_sub_cancel_left]
  · rw [nums_len] at hc
    unfold macV
    split
    · rfl
    split
    · rfl
    split
    · omega
    · rfl
theorem MacAt.setRest {w : World} {b : Nat} {R S Z H : Nat → Int} {l : Int} (h : MacAt w b R S Z H l) (o m : Nat) (r : Nat → Int) (hm : o + m ≤ 16) : MacAt (w.setCells b (12 + o) (nums .u8 m r)) b R S Z (over H o m r) l ∧ Only b w (w.setCells b (12 + o) (nums .u8 m r)) := by
  refine h.cells (nums .u8 m r) (by rw [nums_len]; omega) (fun j hj => ?_) (fun i hi hc => ?_)
  · rw [nums_len] at hj
    rw [nums_at .u8 m r hj]
    unfold macV over
    rw [if_neg (by omega), if_neg (by omega), if_neg (by omega), if_pos (by omega), if_pos (by omega), show 12 + o + j - 12 - o = j by omega]
  · rw [nums_len] at hc
    unfold macV over
    split
    · rfl
    split
    · rfl
    split
    · rfl
    split
    · rw [if_neg (by omega)]
    · rfl
theorem MacAt.setHeld {w : World} {b : Nat} {R S Z H : Nat → Int} {l : Int} (h : MacAt w b R S Z H l) (l' : Int) : MacAt (w.setCell ⟨b, 28, none⟩ (.int .i64 l')) b R S Z H l' := by
  have h1 := (h.cells (o := 28) [.int .i64 l'] (by simp) (R' := R) (S' := S) (Z' := Z) (H' := H) (l' := l') (fun j hj => by
    have : j = 0 := by simpa using hj
    subst this
    rfl) (fun i hi hc => by
      simp at hc
      unfold macV
      split
      · rfl
      split
      · rfl
      split
      · rfl
      split
      · rfl
      · omega)).1
  exact h1
theorem run_fm (b k : Nat) (w : World) : k < 5 → (Instr.fieldAt 152 (.pointer (some ⟨b, 0, none⟩)) k).run Tryz.prog w = .ok (.pointer (some ⟨b, [0, 5, 7, 12, 28].getD k 0, none⟩)) w := by
  intro hk
  match k, hk with
  | 0, _ => simp [go_sem]
  | 1, _ => simp [go_sem]
  | 2, _ => simp [go_sem]
  | 3, _ => simp [go_sem]
  | 4, _ => simp [go_sem]
theorem exec_fm {a : Act} {o : Oper} {w : World} {x : Operand} {k : Nat} (ho : o.op = .fieldAddr 152 x k) {b : Nat} (hx : a.eval x = .pointer (some ⟨b, 0, none⟩)) (hk : k < 5) : (execOp a.eval o).run Tryz.prog w = .ok (.value (.pointer (some ⟨b, [0, 5, 7, 12, 28].getD k 0, none⟩))) w := by
  have h := run_fm b k w hk
  unfold execOp
  simp only [ho, hx, Sem.run_bind, h, Result.andThen_ok, Sem.run_pure]
theorem enterNumber (args : Array Value) (w : World) : (callFunc 114 args).run Tryz.prog w = .ok (.enter 114 args) w := by kernel_rfl
theorem enterPlus (args : Array Value) (w : World) : (callFunc 113 args).run Tryz.prog w = .ok (.enter 113 args) w := by kernel_rfl
theorem enterTimes (args : Array Value) (w : World) : (callFunc 112 args).run Tryz.prog w = .ok (.enter 112 args) w := by kernel_rfl
theorem enterBehind (args : Array Value) (w : World) : (callFunc 108 args).run Tryz.prog w = .ok (.enter 108 args) w := by kernel_rfl
theorem enterMark (args : Array Value) (w : World) : (callFunc 109 args).run Tryz.prog w = .ok (.enter 109 args) w := by kernel_rfl
end Go.Proofs.YtbkbcfimpaolmaaGreat
/-
  Own text. What plus of package poly answers: a contract over the translation.
-/
namespace Go.Proofs.YtbkbcfimpaolmaaGreat
open Go.RowKit Go.Proofs
set_option maxRecDepth 100000
set_option maxHeartbeats 4000000 in
theorem pplus_run (x y : Nat → Int) (w : World) (hx : Dg 4611686018427387904 5 x) (hy : Dg 4611686018427387904 5 y) :
    Calls Tryz.prog 113 #[.agg (WA .u64 5 x), .agg (WA .u64 5 y)] w fun e w' => e = .returned (.agg (WA .u64 5 fun i => x i + y i)) ∧ Below w.heap.size w w' := by
  have g0 : ArrAt (((w.alloc (.cells (WA .u64 5 x) 147)).alloc (.cells (WA .u64 5 y) 147)).alloc (.cells (WA .u64 5 fun _ => 0) 147)) w.heap.size .u64 147 5 x := heap_a31 w _ _ _
  have g1 : ArrAt (((w.alloc (.cells (WA .u64 5 x) 147)).alloc (.cells (WA .u64 5 y) 147)).alloc (.cells (WA .u64 5 fun _ => 0) 147)) (w.heap.size + 1) .u64 147 5 y := heap_a32 w _ _ _
  have g2 : ArrAt (((w.alloc (.cells (WA .u64 5 x) 147)).alloc (.cells (WA .u64 5 y) 147)).alloc (.cells (WA .u64 5 fun _ => 0) 147)) (w.heap.size + 1 + 1) .u64 147 5 (fun _ => 0) := heap_a3 w _ _ _
  have hB : Below w.heap.size w (((w.alloc (.cells (WA .u64 5 x) 147)).alloc (.cells (WA .u64 5 y) 147)).alloc (.cells (WA .u64 5 fun _ => 0) 147)) := (((Below.refl _ w).alloc (by simp) _).alloc (by simp) _).alloc (by simp; omega) _
  go_enter Tryz.func113, Tryz.ntmps113
  go_wp2_with fail
  go_loopg [6] 5 (fun gm iv v => ∃ i : Nat, Hid (gm + i = 5) ∧ iv = .int .i64 (i : Int) ∧ ArrAt v w.heap.size .u64 147 5 (qadd x y i) ∧ ArrAt v (w.heap.size + 1) .u64 147 5 y ∧ ArrAt v (w.heap.size + 1 + 1) .u64 147 5 (fun _ => 0) ∧ Below w.heap.size w v)
  case atStart => exact ⟨0, Hid.mk rfl, rfl, g0.congr (fun j _ => by unfold qadd; rw [if_neg (by omega)]), g1, g2, hB⟩
  case round =>
    clear g0 g1 g2 hB
    obtain ⟨i, HI, rfl, g0, g1, g2, hB⟩ := hrel
    have hi5 : i ≤ 5 := by have := HI.out; omega
    by_cases hil : i < 5
    · have ck := g0.cell i (by omega)
      have fr := g0.free i
      have cy := g1.cell i (by omega)
      have hxi := hx i hil
      have hyi := hy i hil
      have e0 : qadd x y i i = x i := by unfold qadd; rw [if_neg (by omega)]
      rw [e0] at ck
      have hw := w64 (z := x i + y i) (by omega) (by omega)
      have HS := Hid.mk (qadd_step x y i)
      rw [e0] at HS
      clear e0
      go_wp2_with fail
      go_region
      go_wp2_with fail
      go_roundg (5 - (i + 1))
      case rel =>
        refine ⟨i + 1, Hid.mk (by omega), by go_num, ?_, g1.other _ (by omega), g2.other _ (by omega), (Below.setCell hB (by simp) _).drew⟩
        rw [← HS.out]
        exact g0.set i _ hil
      case measure => have := HI.out; omega
    · have hi2 : i = 5 := by omega
      subst hi2
      replace g0 := g0.congr (s' := fun i => x i + y i) (fun j hj => by unfold qadd; rw [if_pos hj])
      go_wp2_with (first | refine ld_arr isL g0 (by rfl) ?_ | (refine st_arr isL g2 (by rfl) (by rfl) ?_; intro w2 g3 o2; refine Hid.out ?_))
      refine Hid.mk ?_
      go_wp2_with fail
      refine bodyPost_ret (v := .agg (WA .u64 5 fun i => x i + y i)) (res_arr Tryz.results113 isL g3 (by rfl)) rfl ⟨rfl, ?_⟩
      exact hB.trans (o2.below (by omega))
end Go.Proofs.YtbkbcfimpaolmaaGreat
/-
  Own text. What behind of package poly answers: a contract over the translation.
-/
namespace Go.Proofs.YtbkbcfimpaolmaaGreat
open Go.RowKit Go.Proofs
set_option maxRecDepth 100000
theorem behind_num (Z H : Nat → Int) (n : Nat) (hn : n ≤ 16) : qv (fun i => Z i + nblk H n i) 5 = qv Z 5 + (dval H n + 256 ^ n) := by
  rw [qv_sum Z (nblk H n), nblk_num hn]
set_option maxHeartbeats 4000000 in
set_option maxRecDepth 100000 in
theorem behind_run (b n c : Nat) (R S Z H : Nat → Int) (l : Int) (w : World) (hM : MacAt w b R S Z H l) (hZ : Sm Z) (hR : Dg 67108864 5 R) (hH : Byts 16 H) (hn : n ≤ 16) :
    Calls Tryz.prog 108 #[.pointer (some ⟨b, 0, none⟩), .slice (some ⟨b, 12, none⟩) n c] w fun e w' => ∃ z, Sm z ∧ (∃ q, (qv Z 5 + (dval H n + 256 ^ n)) * qv R 5 = qv z 5 + P130 * q) ∧ e = .returned (.agg (WA .u64 5 z)) ∧ Below w.heap.size w w' := by
  have g0 : ArrAt (w.alloc (.cells (WA .u64 5 fun _ => 0) 147)) w.heap.size .u64 147 5 (fun _ => 0) := heap_alloc_new w _
  have hB : Below w.heap.size w (w.alloc (.cells (WA .u64 5 fun _ => 0) 147)) := (Below.refl _ w).alloc (Nat.le_refl _) _
  have hlt := hM.lt
  have hHn : Byts n H := fun i hi => hH i (by omega)
  have hd := hZ.dg
  have hbd := nblk_dg hHn hn
  have HN := Hid.mk hn
  have HM : Hid (∀ v, Below w.heap.size w v → MacAt v b R S Z H l) := Hid.mk (fun v hv => hM.below hv hlt)
  have HH := Hid.mk hHn
  have HZ1 : Hid (Dg 4611686018427387904 5 Z) := Hid.mk (fun i hi => by have := hd i hi; omega)
  have HB1 : Hid (Dg 4611686018427387904 5 (nblk H n)) := Hid.mk (fun i hi => by have := hbd i hi; omega)
  have hq := behind_num Z H n hn
  have HTM : Hid (∀ ww : World, Calls Tryz.prog 112 #[.agg (WA .u64 5 fun i => Z i + nblk H n i), .agg (WA .u64 5 R)] ww fun e w' => ∃ z, Sm z ∧ (∃ q, (qv Z 5 + (dval H n + 256 ^ n)) * qv R 5 = qv z 5 + P130 * q) ∧ e = .returned (.agg (WA .u64 5 z)) ∧ Below ww.heap.size ww w') := Hid.mk (fun ww => by
    rw [← hq]
    exact ptimes_run _ R ww (fun i hi => by have h1 := hd i hi; have h2 := hbd i hi; show 0 ≤ Z i + nblk H n i ∧ Z i + nblk H n i < 268435456; omega) hR)
  clear hM hZ hR hH hHn hd hbd hq
  go_enter Tryz.func108, Tryz.ntmps108
  go_wp2_with fail
  refine wp_gen (fun v => ArrAt v w.heap.size .u64 147 5 (fun _ => 0) ∧ Below w.heap.size w v) ⟨g0, hB⟩ ?_
  clear g0 hB
  rintro v2 ⟨g0, hB⟩
  refine wp_region3 (Below w.heap.size w) v2.heap.size
    [(w.heap.size, ⟨isOb (WA .u64 5 fun _ => 0) 147, [(12, fun ob => ∃ z, Sm z ∧ (∃ q, (qv Z 5 + (dval H n + 256 ^ n)) * qv R 5 = qv z 5 + P130 * q) ∧ ob = .cells (WA .u64 5 z) 147 (0, 0))]⟩)]
    [kv (.pointer (some ⟨b, 0, none⟩)), kv (.pointer (some ⟨b, 0, none⟩)), kv (.pointer (some ⟨b, 7, none⟩)), kv (.agg (WA .u64 5 Z)), kv (.slice (some ⟨b, 12, none⟩) n c), kv (.agg (WA .u64 5 (nblk H n))), kv (.agg (WA .u64 5 fun i => Z i + nblk H n i)), kv (.pointer (some ⟨b, 0, none⟩)), kv (.pointer (some ⟨b, 0, none⟩)), kv (.pointer (some ⟨b, 0, none⟩)), kv (.agg (WA .u64 5 R)), .val fun v => ∃ z, Sm z ∧ (∃ q, (qv Z 5 + (dval H n + 256 ^ n)) * qv R 5 = qv z 5 + P130 * q) ∧ v = .agg (WA .u64 5 z), .val fun _ => True]
    [.none, .none, .none, .none, .none, .none, .none, .none, .none, .none, .none, .none, .base 0 1]
    [some 5, some 6, some 7, some 8, some 9, some 10, some 11, some 12, some 13, some 14, some 15, some 16, none]
    [(0, .pointer (some ⟨b, 0, none⟩)), (1, .slice (some ⟨b, 12, none⟩) n c), (4, .pointer (some ⟨w.heap.size, 0, none⟩))]
    [[], [.slot 0], [.slot 1], [.slot 2], [], [.slot 4], [.slot 3, .slot 5], [], [.slot 7], [.slot 8], [.slot 9], [.slot 6, .slot 10], [.base 0 0, .slot 11]]
    [.base 0 1] [5, 6, 7, 8, 9, 10, 11, 12, 13, 14, 15, 16]
    rfl (by kernel_rfl) ⟨rfl, rfl, rfl, trivial⟩ (Below.drew hB) (Nat.le_refl _) ⟨⟨g0.lt, obIn g0⟩, trivial⟩ ⟨trivial, trivial⟩ (below_G hB.size ⟨by omega, trivial⟩)
    ⟨
      -- 0
      (fun Q aq ww own hS hBg fr kn => .inl ⟨trivial, fun K hK => wp_value (exec_move rfl fr.1) (hK _ _ ⟨Touch.refl _ _, rfl⟩)⟩),
      -- 1
      (fun Q aq ww own hS hBg fr kn => .inl ⟨trivial, fun K hK => wp_value (exec_nilc rfl kn.1) (hK _ _ ⟨Touch.refl _ _, rfl⟩)⟩),
      -- 2
      (fun Q aq ww own hS hBg fr kn => .inl ⟨trivial, fun K hK => wp_value (exec_fm (k := 2) rfl kn.1 (by decide)) (hK _ _ ⟨Touch.refl _ _, rfl⟩)⟩),
      -- 3
      (fun Q aq ww own hS hBg fr kn => .inl ⟨trivial, fun K hK => wp_value (exec_ldmid rfl isL kn.1 (HM.out ww hS).sum) (hK _ _ ⟨Touch.refl _ _, rfl⟩)⟩),
      -- 4
      (fun Q aq ww own hS hBg fr kn => .inl ⟨trivial, fun K hK => wp_value (exec_move rfl fr.2.1) (hK _ _ ⟨Touch.refl _ _, rfl⟩)⟩),
      -- 5
      (fun Q aq ww own hS hBg fr kn => .inl ⟨trivial, fun K hK => stepc enterNumber rfl (args1 kn.1) (numberOf_run b 12 n c H ww HN.out HH.out (fun j hj => (HM.out ww hS).rest j (by have := HN.out; omega)) (HM.out ww hS).lt) (fun w' hb => hK _ _ ⟨touch_below hb, rfl⟩)⟩),
      -- 6
      (fun Q aq ww own hS hBg fr kn => .inl ⟨trivial, fun K hK => stepc enterPlus rfl (args2 kn.1 kn.2.1) (pplus_run Z (nblk H n) ww HZ1.out HB1.out) (fun w' hb => hK _ _ ⟨touch_below hb, rfl⟩)⟩),
      -- 7
      (fun Q aq ww own hS hBg fr kn => .inl ⟨trivial, fun K hK => wp_value (exec_move rfl fr.1) (hK _ _ ⟨Touch.refl _ _, rfl⟩)⟩),
      -- 8
      (fun Q aq ww own hS hBg fr kn => .inl ⟨trivial, fun K hK => wp_value (exec_nilc rfl kn.1) (hK _ _ ⟨Touch.refl _ _, rfl⟩)⟩),
      -- 9
      (fun Q aq ww own hS hBg fr kn => .inl ⟨trivial, fun K hK => wp_value (exec_fm (k := 0) rfl kn.1 (by decide)) (hK _ _ ⟨Touch.refl _ _, rfl⟩)⟩),
      -- 10
      (fun Q aq ww own hS hBg fr kn => .inl ⟨trivial, fun K hK => wp_value (exec_ldmid rfl isL kn.1 (HM.out ww hS).r) (hK _ _ ⟨Touch.refl _ _, rfl⟩)⟩),
      -- 11
      (fun Q aq ww own hS hBg fr kn => .inl ⟨trivial, fun K hK => stepp enterTimes rfl (args2 kn.1 kn.2.1) ((HTM.out ww).mono (fun e w' ⟨z, h1, h2, h3, h4⟩ => ⟨_, h3, ⟨z, h1, h2, rfl⟩, h4⟩)) (R := fun v w' => (∃ z, Sm z ∧ (∃ q, (qv Z 5 + (dval H n + 256 ^ n)) * qv R 5 = qv z 5 + P130 * q) ∧ v = .agg (WA .u64 5 z)) ∧ Below ww.heap.size ww w') (fun v w' ⟨h1, h2⟩ => hK _ _ ⟨touch_below h2, h1⟩)⟩),
      -- 12
      (fun Q aq ww own hS hBg fr kn => .inl ⟨trivial, fun K hK => (by obtain ⟨z, h1, h2, h3⟩ := kn.2.1; exact act_arr rfl isL fr.2.2.1 h3 (obAt kn.1) (fun w2 hg ho => hK _ _ ⟨⟨touch_only ho, ⟨_, hg, z, h1, h2, rfl⟩⟩, trivial⟩))⟩),
      trivial⟩ ?_
  intro vs own v3 hB3 hs3 kn inj
  clear inj hs3 g0 hB
  obtain ⟨ob, hob, z, h1, h2, rfl⟩ := kn.1
  have g0 : ArrAt v3 w.heap.size .u64 147 5 z := hob
  clear kn
  simp only [putAll, Act.put, List.setIfInBounds_toArray, List.set_cons_zero, List.set_cons_succ]
  go_wp2_with fail
  exact bodyPost_ret (res_arr Tryz.results108 isL g0 (by rfl)) rfl ⟨z, h1, h2, rfl, hB3⟩
end Go.Proofs.YtbkbcfimpaolmaaGreat
/-
  Own text. The walk of Tag of the document's answer for poly, its first loop: the digits of r.
-/
namespace Go.Proofs.YtbkbcfimpaolmaaGreat
open Go.RowKit Go.Proofs
set_option maxRecDepth 100000
set_option maxHeartbeats 8000000 in
set_option maxRecDepth 100000 in
theorem rTag_big (key : Nat → Int) (s : ByteArray) (w : World) (hk : Byts 32 key) (hs : s.size ≤ 1152921504606846976) :
    Calls Tryz.prog 61 #[.agg (WA .u8 32 key), .string s] w fun e w' => e = .returned (.agg (WA .u8 16 (digN (markN key (txt s) s.size)))) ∧ Below w.heap.size w w' := by
  have g0 : ArrAt ((w.alloc (.cells (WA .u8 32 key) 27)).alloc (.cells (WA .u8 16 fun _ => 0) 92)) w.heap.size .u8 27 32 key := heap_alloc2_old w _ _
  have g1 : ArrAt ((w.alloc (.cells (WA .u8 32 key) 27)).alloc (.cells (WA .u8 16 fun _ => 0) 92)) (w.heap.size + 1) .u8 92 16 (fun _ => 0) := heap_alloc2_new w _ _
  have hB : Below w.heap.size w ((w.alloc (.cells (WA .u8 32 key) 27)).alloc (.cells (WA .u8 16 fun _ => 0) 92)) := ((Below.refl _ w).alloc (by simp) _).alloc (by simp) _
  go_enter Tryz.func61, Tryz.ntmps61
  go_wp2_with (refine mk_step (n := 16) (mk16 _) ?_; intro v0 g5 hb0 hz0; refine Hid.out ?_)
  replace g0 := g0.kept hb0
  replace g1 := g1.kept hb0
  replace hB := hB.trans (hb0.mono hB.size)
  replace g5 : ArrAt v0 (w.heap.size + 1 + 1) .i64 3 16 (fun _ => 0) := by simpa using g5
  clear hz0
  clear hb0
  refine Hid.mk ?_
  go_wp2_with fail
  go_loopg [6] 16 (fun gm iv v => ∃ i : Nat, Hid (gm + i = 16) ∧ iv = .int .i64 (i : Int) ∧ ArrAt v w.heap.size .u8 27 32 key ∧ ArrAt v (w.heap.size + 1) .u8 92 16 (fun _ => 0) ∧ ArrAt v (w.heap.size + 1 + 1) .i64 3 16 (rpart key i) ∧ Below w.heap.size w v)
  case atStart => exact ⟨0, Hid.mk rfl, rfl, g0, g1, g5.congr (fun i _ => by unfold rpart; rw [if_neg (by omega)]), hB⟩
  case round =>
    clear g0 g1 g5 hB
    obtain ⟨i, HI, rfl, g0, g1, g5, hB⟩ := hrel
    have hi16 : i ≤ 16 := by have := HI.out; omega
    by_cases hil : i < 16
    · have ck := g0.cell i (by omega)
      have cr := g5.cell i hil
      have fr := g5.free i
      have hki := hk i (by omega)
      have hmo : (i : Int).tmod 4 = ((i % 4 : Nat) : Int) := by rw [Int.tmod_eq_emod_of_nonneg (by omega)]; omega
      by_cases h3 : i % 4 = 3
      · have hm3 : ((i % 4 : Nat) : Int) = 3 := by omega
        have hr : (key i).tmod 16 = key i % 16 := Int.tmod_eq_emod_of_nonneg hki.1
        have HV : Hid (key i % 16 = rdig key i) := Hid.mk (by unfold rdig; rw [if_pos h3])
        have hi0 : (0 : Int) < (i : Int) := by omega
        rw [hm3] at hmo
        go_wp2_with fail
        go_roundg (16 - (i + 1))
        case rel => exact ⟨i + 1, Hid.mk (by omega), by go_num, (g0.other _ (by omega)).other _ (by omega), (g1.other _ (by omega)).other _ (by omega), by rw [← rpart_step key i _ HV.out, ← upd_upd _ i (key i)]; exact (g5.set i (key i) hil).set i _ hil, Below.setCell (Below.setCell hB (by simp; omega) _) (by simp; omega) _⟩
        case measure => have := HI.out; omega
      · by_cases h0 : 0 < i ∧ i % 4 = 0
        · have hm0 : ((i % 4 : Nat) : Int) = 0 := by omega
          have hr : (key i).tdiv 4 = key i / 4 := Int.tdiv_eq_ediv_of_nonneg hki.1
          have HV : Hid (key i / 4 * 4 = rdig key i) := Hid.mk (by unfold rdig; rw [if_neg h3, if_pos h0])
          have hi0 : (0 : Int) < (i : Int) := by omega
          rw [hm0] at hmo
          go_wp2_with fail
          go_roundg (16 - (i + 1))
          case rel => exact ⟨i + 1, Hid.mk (by omega), by go_num, (g0.other _ (by omega)).other _ (by omega), (g1.other _ (by omega)).other _ (by omega), by rw [← rpart_step key i _ HV.out, ← upd_upd _ i (key i)]; exact (g5.set i (key i) hil).set i _ hil, Below.setCell (Below.setCell hB (by simp; omega) _) (by simp; omega) _⟩
          case measure => have := HI.out; omega
        · have HV : Hid (key i = rdig key i) := Hid.mk (by unfold rdig; rw [if_neg h3, if_neg h0])
          by_cases hz : i = 0
          · subst hz
            go_wp2_with fail
            go_roundg (16 - (0 + 1))
            case rel => exact ⟨0 + 1, Hid.mk (by omega), by go_num, g0.other _ (by omega), g1.other _ (by omega), by rw [← rpart_step key 0 _ HV.out]; exact g5.set 0 _ hil, Below.setCell hB (by simp; omega) _⟩
            case measure => have := HI.out; omega
          · obtain ⟨q, hq⟩ : ∃ q : Nat, i % 4 = q := ⟨_, rfl⟩
            rw [hq] at hmo
            have hq3 : ¬ ((q : Int) = 3) := by omega
            have hq0 : ¬ ((q : Int) = 0) := by omega
            have hqb3 : ((q : Int) == 3) = false := by simpa using hq3
            have hqb0 : ((q : Int) == 0) = false := by simpa using hq0
            have hi0 : (0 : Int) < (i : Int) := by omega
            go_wp2_with fail
            go_roundg (16 - (i + 1))
            case rel => exact ⟨i + 1, Hid.mk (by omega), by go_num, g0.other _ (by omega), g1.other _ (by omega), by rw [← rpart_step key i _ HV.out]; exact g5.set i _ hil, Below.setCell hB (by simp; omega) _⟩
            case measure => have := HI.out; omega
    · have hi2 : i = 16 := by omega
      subst hi2
      clear hil hi16 HI
      replace g5 := g5.congr (s' := rdig key) (fun i hi => by unfold rpart; rw [if_pos hi])
      go_wp2_with (refine mk_step (n := 18) (mk18 _) ?_; intro v1 g7 hb1 hz1; refine Hid.out ?_)
      have hz7 := g5.lt
      replace g0 := g0.kept hb1
      replace g1 := g1.kept hb1
      replace g5 := g5.kept hb1
      replace hB := hB.trans (hb1.mono hB.size)
      have r7 := g7.row
      clear hb1 hz1 g7
      generalize wr.heap.size = b7 at *
      refine Hid.mk ?_
      go_wp2_with fail
      obtain ⟨NB, HNB⟩ : ∃ N : Nat, Hid ((s.size + 15) / 16 = N) := ⟨_, Hid.mk rfl⟩
      generalize wr = wp at *
      go_loopg [7, 8] NB (fun gm hv av v => ∃ (q g c m : Nat) (e : Nat → Int), Hid (gm + q = NB) ∧ hv = .slice (some ⟨g, 0, none⟩) m c ∧ av = .int .i64 (16 * (q : Int)) ∧ (w.heap.size + 1 + 1) < g ∧ RowAt v g .i64 3 m e ∧ 18 ≤ m ∧ m ≤ 46 ∧ Hid (Dg 256 m e) ∧ Hid (dval e m = accN (rN key) (txt s) s.size q) ∧ ArrAt v w.heap.size .u8 27 32 key ∧ ArrAt v (w.heap.size + 1) .u8 92 16 (fun _ => 0) ∧ ArrAt v (w.heap.size + 1 + 1) .i64 3 16 (rdig key) ∧ Below w.heap.size w v)
      case atStart => exact ⟨0, b7, 18, 18, fun _ => 0, Hid.mk (by omega), rfl, rfl, hz7, r7, by omega, by omega, Hid.mk (fun i _ => by show 0 ≤ (0 : Int) ∧ (0 : Int) < 256; omega), Hid.mk (by show dval (fun _ => 0) 18 = 0; decide), g0, g1, g5, hB⟩
      case round =>
        clear g0 g1 g5 hB r7
        obtain ⟨q, g, c, m, e, HQ, rfl, rfl, hg, hr, hm1, hm2, HD, HA, g0, g1, g5, hB⟩ := hrel
        have hqN : q ≤ NB := by have := HQ.out; omega
        by_cases hqs : 16 * q < s.size
        · have hqN2 : q < NB := by have := HNB.out; omega
          obtain ⟨n, HN⟩ : ∃ n : Nat, Hid (min 16 (s.size - 16 * q) = n) := ⟨_, Hid.mk rfl⟩
          have hn16 : n ≤ 16 := by have := HN.out; omega
          have hns : 16 * q + n ≤ s.size := by have := HN.out; omega
          have hmin : (if (s.size : Int) - 16 * (q : Int) < 16 then (s.size : Int) - 16 * (q : Int) else 16) = (n : Int) := by have := HN.out; split <;> omega
          have hqi : 16 * (q : Int) < (s.size : Int) := by omega
          generalize wr = wq at *
          generalize gk = gq at *
          have hdq : decide (16 * (q : Int) < (s.size : Int)) = true := decide_eq_true hqi
          go_wp2_with fail
          go_loopg [10] n (fun gm jv v => ∃ j : Nat, Hid (gm + j = n) ∧ jv = .int .i64 (j : Int) ∧ RowAt v g .i64 3 m (addd e (fun i => txt s (16 * q + i)) j) ∧ ArrAt v w.heap.size .u8 27 32 key ∧ ArrAt v (w.heap.size + 1) .u8 92 16 (fun _ => 0) ∧ ArrAt v (w.heap.size + 1 + 1) .i64 3 16 (rdig key) ∧ Below w.heap.size w v)
          case atStart => exact ⟨0, Hid.mk (by omega), rfl, hr.mono (Nat.le_refl _) (fun i _ => by unfold addd; rw [if_neg (by omega)]), g0, g1, g5, hB⟩
          case round =>
            clear hr g0 g1 g5 hB
            obtain ⟨j, HJ, rfl, hr, g0, g1, g5, hB⟩ := hrel
            have hjn : j ≤ n := by have := HJ.out; omega
            by_cases hjl : j < n
            · have hjm : j < m := by omega
              have hjs : 16 * q + j < s.size := by omega
              have HE : Hid (addd e (fun i => txt s (16 * q + i)) j j = e j) := Hid.mk (by unfold addd; rw [if_neg (by omega)])
              have hej := HD.out j hjm
              have htb := txt_b s (16 * q + j)
              go_wp2_with fail
              refine wp_region3 (Below w.heap.size w) wr.heap.size
                [(g, ⟨rowOb .i64 3 m (addd e (fun i => txt s (16 * q + i)) j), [(14, rowOb .i64 3 m (addd e (fun i => txt s (16 * q + i)) (j + 1)))]⟩), (w.heap.size, fixd (WA .u8 32 key) 27), ((w.heap.size + 1), fixd (WA .u8 16 (fun _ => 0)) 92), ((w.heap.size + 1 + 1), fixd (WA .i64 16 (rdig key)) 3)]
                [kv (.slice (some ⟨g, 0, none⟩) m c), kv (.int .i64 (j : Int)), kv (.slice (some ⟨g, 0, none⟩) m c), kv (.int .i64 (j : Int)), kv (.pointer (some ⟨g, 0 + j, none⟩)), kv (.int .i64 (e j)), kv (.string s), kv (.int .i64 (16 * (q : Int))), kv (.int .i64 (j : Int)), kv (.int .i64 ((16 * q + j : Nat) : Int)), kv (.int .u8 (txt s (16 * q + j))), kv (.int .i64 (txt s (16 * q + j))), kv (.int .i64 (e j + txt s (16 * q + j))), kv (.pointer (some ⟨g, 0 + j, none⟩)), .val fun _ => True]
                [.none, .none, .none, .none, .none, .none, .none, .none, .none, .none, .none, .none, .none, .none, .base 0 1]
                [some 73, some 74, some 75, some 76, some 77, some 78, some 79, some 80, some 81, some 82, some 83, some 84, some 85, some 86, none]
                [(1, .string s), (7, .slice (some ⟨g, 0, none⟩) m c), (8, .int .i64 (16 * (q : Int))), (10, .int .i64 (j : Int))]
                [[], [], [], [], [.slot 2, .slot 3], [.slot 4, .base 0 0], [], [], [], [.slot 7, .slot 8], [.slot 6, .slot 9], [.slot 10], [.slot 5, .slot 11], [.slot 0, .slot 1], [.slot 13, .base 0 0, .slot 12]]
                [.base 0 1, .base 1 0, .base 2 0, .base 3 0] [73, 74, 75, 76, 77, 78, 79, 80, 81, 82, 83, 84, 85, 86]
                rfl (by kernel_rfl) ⟨rfl, rfl, rfl, rfl, trivial⟩ (Below.drew hB) (Nat.le_refl _) ⟨⟨hr.lt, hr⟩, ⟨g0.lt, obIn g0⟩, ⟨g1.lt, obIn g1⟩, ⟨g5.lt, obIn g5⟩, trivial⟩ ⟨⟨(show (g : Nat) ≠ w.heap.size from by omega), (show (g : Nat) ≠ (w.heap.size + 1) from by omega), (show (g : Nat) ≠ (w.heap.size + 1 + 1) from by omega), trivial⟩, ⟨trivial, trivial, trivial⟩, ⟨trivial, trivial⟩, trivial, trivial⟩ (below_G hB.size ⟨by omega, by omega, by omega, by omega, trivial⟩)
                ⟨
                  -- 0
                  (fun Q aq ww own hS hBg fr kn => .inl ⟨trivial, fun K hK => wp_value (exec_move rfl fr.2.1) (hK _ _ ⟨Touch.refl _ _, rfl⟩)⟩),
                  -- 1
                  (fun Q aq ww own hS hBg fr kn => .inl ⟨trivial, fun K hK => wp_value (exec_move rfl fr.2.2.2.1) (hK _ _ ⟨Touch.refl _ _, rfl⟩)⟩),
                  -- 2
                  (fun Q aq ww own hS hBg fr kn => .inl ⟨trivial, fun K hK => wp_value (exec_move rfl fr.2.1) (hK _ _ ⟨Touch.refl _ _, rfl⟩)⟩),
                  -- 3
                  (fun Q aq ww own hS hBg fr kn => .inl ⟨trivial, fun K hK => wp_value (exec_move rfl fr.2.2.2.1) (hK _ _ ⟨Touch.refl _ _, rfl⟩)⟩),
                  -- 4
                  (fun Q aq ww own hS hBg fr kn => .inl ⟨trivial, fun K hK => wp_value (exec_idx rfl Tryz.underlying121 size_int kn.1 kn.2.1 hjm) (hK _ _ ⟨Touch.refl _ _, rfl⟩)⟩),
                  -- 5
                  (fun Q aq ww own hS hBg fr kn => .inl ⟨trivial, fun K hK => wp_value (exec_ld rfl kn.1 (load_int (cell0 kn.2.1 hjm))) (hK _ _ ⟨Touch.refl _ _, congrArg (Value.int .i64) HE.out⟩)⟩),
                  -- 6
                  (fun Q aq ww own hS hBg fr kn => .inl ⟨trivial, fun K hK => wp_value (exec_move rfl fr.1) (hK _ _ ⟨Touch.refl _ _, rfl⟩)⟩),
                  -- 7
                  (fun Q aq ww own hS hBg fr kn => .inl ⟨trivial, fun K hK => wp_value (exec_move rfl fr.2.2.1) (hK _ _ ⟨Touch.refl _ _, rfl⟩)⟩),
                  -- 8
                  (fun Q aq ww own hS hBg fr kn => .inl ⟨trivial, fun K hK => wp_value (exec_move rfl fr.2.2.2.1) (hK _ _ ⟨Touch.refl _ _, rfl⟩)⟩),
                  -- 9
                  (fun Q aq ww own hS hBg fr kn => .inl ⟨trivial, fun K hK => wp_value (exec_add rfl kn.1 kn.2.1 (by omega) (by omega)) (hK _ _ ⟨Touch.refl _ _, rfl⟩)⟩),
                  -- 10
                  (fun Q aq ww own hS hBg fr kn => .inl ⟨trivial, fun K hK => wp_value (exec_ixs rfl kn.1 kn.2.1 hjs) (hK _ _ ⟨Touch.refl _ _, rfl⟩)⟩),
                  -- 11
                  (fun Q aq ww own hS hBg fr kn => .inl ⟨trivial, fun K hK => wp_value (exec_conv rfl kn.1 (conv_b htb _)) (hK _ _ ⟨Touch.refl _ _, rfl⟩)⟩),
                  -- 12
                  (fun Q aq ww own hS hBg fr kn => .inl ⟨trivial, fun K hK => wp_value (exec_add rfl kn.1 kn.2.1 (by omega) (by omega)) (hK _ _ ⟨Touch.refl _ _, rfl⟩)⟩),
                  -- 13
                  (fun Q aq ww own hS hBg fr kn => .inl ⟨trivial, fun K hK => wp_value (exec_idx rfl Tryz.underlying121 size_int kn.1 kn.2.1 hjm) (hK _ _ ⟨Touch.refl _ _, rfl⟩)⟩),
                  -- 14
                  (fun Q aq ww own hS hBg fr kn => .inl ⟨trivial, fun K hK => act_cell rfl (ptr0 kn.1) kn.2.2.1 kn.2.1 hjm (fun w2 hg ho => hK _ _ ⟨⟨touch_only ho, (show rowOb .i64 3 m (addd e (fun i => txt s (16 * q + i)) (j + 1)) = rowOb .i64 3 m (upd (addd e (fun i => txt s (16 * q + i)) j) j (e j + txt s (16 * q + j))) from by rw [← addd_step, HE.out]) ▸ hg⟩, trivial⟩)⟩),
                  trivial⟩ ?_
              intro vs6 own6 v6 hB6 hs6 kn inj
              clear inj hs6
              have R6 : RowAt v6 g .i64 3 m (addd e (fun i => txt s (16 * q + i)) (j + 1)) := kn.1
              have G0 : ArrAt v6 w.heap.size .u8 27 32 key := obAt kn.2.1
              have G1 : ArrAt v6 (w.heap.size + 1) .u8 92 16 (fun _ => 0) := obAt kn.2.2.1
              have G5 : ArrAt v6 (w.heap.size + 1 + 1) .i64 3 16 (rdig key) := obAt kn.2.2.2.1
              clear kn
              simp only [putAll, Act.put, List.setIfInBounds_toArray, List.set_cons_zero, List.set_cons_succ]
              go_wp2_with fail
              go_roundg (n - (j + 1))
              case rel => exact ⟨j + 1, Hid.mk (by omega), by go_num, R6, G0, G1, G5, hB6⟩
              case measure => have := HJ.out; omega
            · have hj2 : j = n := by omega
              subst hj2
              clear hjl hjn HJ
              have hjm : j < m := by omega
              have HE : Hid (addd e (fun i => txt s (16 * q + i)) j j = e j) := Hid.mk (by unfold addd; rw [if_neg (by omega)])
              obtain ⟨h, HH⟩ : ∃ h, Hid (upd (addd e (fun i => txt s (16 * q + i)) j) j (e j + 1) = h) := ⟨_, Hid.mk rfl⟩
              have hej := HD.out j hjm
              have HHD : Hid (Dg 600 m h) := Hid.mk (fun i hi => by
                rw [← HH.out]
                have h1 := HD.out i hi
                have h2 := txt_b s (16 * q + i)
                unfold upd
                split
                · omega
                · unfold addd
                  split
                  · show 0 ≤ e i + txt s (16 * q + i) ∧ e i + txt s (16 * q + i) < 600
                    omega
                  · omega)
              have HHV : Hid (dval h 18 = accN (rN key) (txt s) s.size q + blkN (txt s) (16 * q) j) := Hid.mk (by
                have hhi := dval_high (e := e) (by omega) HD.out (by rw [HA.out]; have := accN_b (rN key) (txt s) s.size q; unfold P130 at this; unfold W130; omega)
                have h1 : dval h 18 = dval h m := (dval_tail (by omega) (fun i h1 h2 => by
                  rw [← HH.out]
                  unfold upd
                  rw [if_neg (by omega)]
                  unfold addd
                  rw [if_neg (by omega)]
                  exact hhi.2 i (by omega) h2)).symm
                rw [h1, ← HH.out, show e j + 1 = addd e (fun i => txt s (16 * q + i)) j j + 1 by rw [HE.out], dval_add hjm, dval_addd (by omega), HA.out]
                unfold blkN
                omega)
              have cj := hr.cell j hjm
              have fj := hr.free j hjm
              rw [HE.out] at cj
              have rh := hr.set j (e j + 1)
              rw [HH.out] at rh
              have g0h := g0.other (g := g) (i := j) (.int .i64 (e j + 1)) (by omega)
              have g1h := g1.other (g := g) (i := j) (.int .i64 (e j + 1)) (by omega)
              have g5h := g5.other (g := g) (i := j) (.int .i64 (e j + 1)) (by omega)
              have hBh := Below.setCell hB (p := ⟨g, j, none⟩) (by simp; omega) (.int .i64 (e j + 1))
              go_wp2_with (refine mk_step (n := 40) (mk40 _) ?_; intro v3 g11 hb3 hz3; refine Hid.out ?_)
              have hg11 : g < (wr.setCell ⟨g, j, none⟩ (.int .i64 (e j + 1))).heap.size := rh.lt
              replace rh := rh.below hb3 hg11
              replace g0h := g0h.kept hb3
              replace g1h := g1h.kept hb3
              replace g5h := g5h.kept hb3
              replace hBh := hBh.trans (hb3.mono hBh.size)
              clear hr g0 g1 g5 hB hb3 hz3 cj fj
              generalize (wr.setCell ⟨g, j, none⟩ (.int .i64 (e j + 1))).heap.size = b11 at *
              refine Hid.mk ?_
              go_wp2_with fail
              have HRD := Hid.mk (rdig_b hk)
              generalize wr = wz at *
              generalize gk = gz at *
              go_loopg [12] 18 (fun gm iv v => ∃ (i : Nat) (z : Nat → Int), Hid (gm + i = 18) ∧ iv = .int .i64 (i : Int) ∧ ArrAt v b11 .i64 3 40 z ∧ Hid (∀ x, x < 40 → 0 ≤ z x ∧ z x ≤ (16 * i : Nat) * 200000) ∧ Hid (dval z 40 = dval h i * rN key) ∧ RowAt v g .i64 3 m h ∧ ArrAt v w.heap.size .u8 27 32 key ∧ ArrAt v (w.heap.size + 1) .u8 92 16 (fun _ => 0) ∧ ArrAt v (w.heap.size + 1 + 1) .i64 3 16 (rdig key) ∧ Below w.heap.size w v)
              case atStart => exact ⟨0, fun _ => 0, Hid.mk rfl, rfl, g11, Hid.mk (fun x _ => by show 0 ≤ (0 : Int) ∧ (0 : Int) ≤ _; omega), Hid.mk (by show dval (fun _ => 0) 40 = 0 * rN key; rw [Int.zero_mul]; decide), rh, g0h, g1h, g5h, hBh⟩
              case round =>
                clear g11 rh g0h g1h g5h hBh
                obtain ⟨i, z, HI, rfl, g11, HZB, HZV, rh, g0h, g1h, g5h, hBh⟩ := hrel
                have hi18 : i ≤ 18 := by have := HI.out; omega
                by_cases hil : i < 18
                · have hdi : decide ((i : Int) < 18) = true := decide_eq_true (by omega)
                  go_wp2_with fail
                  generalize wr = wy at *
                  generalize gk = gy at *
                  go_loopg [13] 16 (fun gm kv v => ∃ (k : Nat) (z : Nat → Int), Hid (gm + k = 16) ∧ kv = .int .i64 (k : Int) ∧ ArrAt v b11 .i64 3 40 z ∧ Hid (∀ x, x < 40 → 0 ≤ z x ∧ z x ≤ (16 * i + k : Nat) * 200000) ∧ Hid (dval z 40 = dval h i * rN key + 256 ^ i * (h i * dval (rdig key) k)) ∧ RowAt v g .i64 3 m h ∧ ArrAt v w.heap.size .u8 27 32 key ∧ ArrAt v (w.heap.size + 1) .u8 92 16 (fun _ => 0) ∧ ArrAt v (w.heap.size + 1 + 1) .i64 3 16 (rdig key) ∧ Below w.heap.size w v)
                  case atStart => exact ⟨0, z, Hid.mk rfl, rfl, g11, HZB, Hid.mk (by rw [HZV.out]; simp [dval]), rh, g0h, g1h, g5h, hBh⟩
                  case round =>
                    clear g11 rh g0h g1h g5h hBh HZB HZV
                    obtain ⟨k, z, HK, rfl, g11, HZB, HZV, rh, g0h, g1h, g5h, hBh⟩ := hrel
                    have hk16 : k ≤ 16 := by have := HK.out; omega
                    by_cases hkl : k < 16
                    · have cz := g11.cell (i + k) (by omega)
                      have fz := g11.free (i + k)
                      have ch := rh.cell i (by omega)
                      have cr := g5h.cell k hkl
                      have dh := HHD.out i (by omega)
                      have dr := HRD.out k hkl
                      have dz := HZB.out (i + k) (by omega)
                      have hpr : 0 ≤ h i * rdig key k ∧ h i * rdig key k ≤ 200000 := by
                        refine ⟨Int.mul_nonneg dh.1 dr.1, ?_⟩
                        have h1 : h i * rdig key k ≤ 600 * rdig key k := Int.mul_le_mul_of_nonneg_right (by omega) dr.1
                        omega
                      have HP2 := Hid.mk (prod_step z h (rdig key) (rN key) i k (by omega) HZV.out)
                      have HB2 : Hid (∀ x, x < 40 → 0 ≤ upd z (i + k) (z (i + k) + h i * rdig key k) x ∧ upd z (i + k) (z (i + k) + h i * rdig key k) x ≤ (16 * i + (k + 1) : Nat) * 200000) := Hid.mk (fun x hx => by
                        have h1 := HZB.out x hx
                        unfold upd
                        split
                        · omega
                        · omega)
                      have g112 := Hid.mk (g11.set (i + k) (z (i + k) + h i * rdig key k) (by omega))
                      obtain ⟨pr, hpr2⟩ : ∃ pr, h i * rdig key k = pr := ⟨_, rfl⟩
                      rw [hpr2] at HP2 HB2 g112 hpr
                      generalize hx1 : z (i + k) = x1 at *
                      generalize hx2 : h i = x2 at *
                      generalize hx3 : rdig key k = x3 at *
                      have hm40 : (i : Int) + (k : Int) < 40 := by omega
                      have him : (i : Int) < (m : Int) := by omega
                      go_wp2_with fail
                      go_region
                      go_wp2_with fail
                      go_roundg (16 - (k + 1))
                      case rel => exact ⟨k + 1, _, Hid.mk (by omega), by go_num, g112.out, HB2, HP2, rh.other _ (by omega), g0h.other _ (by omega), g1h.other _ (by omega), g5h.other _ (by omega), (Below.setCell hBh (p := ⟨b11, i + k, none⟩) (by simp; omega) _).drew⟩
                      case measure => have := HK.out; omega
                    · have hk2 : k = 16 := by omega
                      subst hk2
                      have HZ2 : Hid (dval z 40 = dval h (i + 1) * rN key) := Hid.mk (by rw [HZV.out]; exact prod_row h (rdig key) i)
                      have HB3 : Hid (∀ x, x < 40 → 0 ≤ z x ∧ z x ≤ (16 * (i + 1) : Nat) * 200000) := Hid.mk (fun x hx => by have := HZB.out x hx; omega)
                      clear HZB HZV HK hkl hk16
                      go_wp2_with fail
                      go_roundg (18 - (i + 1))
                      case rel => exact ⟨i + 1, z, Hid.mk (by omega), by go_num, g11, HB3, HZ2, rh, g0h, g1h, g5h, hBh⟩
                      case measure => have := HI.out; omega
                · have hi2 : i = 18 := by omega
                  subst hi2
                  have HV2 : Hid (dval z 40 % P130 = accN (rN key) (txt s) s.size (q + 1)) := Hid.mk (by
                    rw [HZV.out, HHV.out]
                    show _ = (accN (rN key) (txt s) s.size q + blkN (txt s) (16 * q) (min 16 (s.size - 16 * q))) * rN key % P130
                    rw [HN.out])
                  have hrest := fun w (hR : RowAt w b11 .i64 3 40 z) => rest_run z 40 b11 40 w hR (fun x hx => by have := HZB.out x hx; omega) (by decide)
                  clear HZB HZV HI hil hi18 HH HHD HHV HE hej HRD
                  go_wp2_with fail
                  refine (hrest _ g11.row).mono ?_
                  rintro r v5 ⟨g6, c6, m6, rfl, e6, hm61, hm62, hd6, hv6, ho6, hb6⟩
                  have hz6 : b11 < wr.heap.size := g11.lt
                  have hg6 := ho6.base
                  have r6 := ho6.row (by omega)
                  replace g0h := g0h.kept hb6
                  replace g1h := g1h.kept hb6
                  replace g5h := g5h.kept hb6
                  replace hBh := hBh.trans (hb6.mono hBh.size)
                  rw [HV2.out] at hv6
                  have HD6 := Hid.mk hd6
                  have HV6 := Hid.mk hv6
                  clear hrest HV2 hd6 hv6 ho6 hb6 g11 rh
                  go_wp2_with fail
                  go_roundg (NB - (q + 1))
                  case rel => exact ⟨q + 1, g6, c6, m6, e6, Hid.mk (by omega), rfl, by go_num, by omega, r6, hm61, hm62, HD6, HV6, g0h, g1h, g5h, hBh⟩
                  case measure => have := HQ.out; omega
        · have hqe : q = NB := by have := HNB.out; omega
          have hqi : ¬ (16 * (q : Int) < (s.size : Int)) := by omega
          have HM : Hid (∀ i, i < 16 → digN (accN (rN key) (txt s) s.size q + sN key) i = digN (markN key (txt s) s.size) i) := Hid.mk (fun i hi => by
            unfold markN
            rw [digN_mod _ i hi, HNB.out, hqe])
          generalize wr = wq at *
          generalize gk = gq at *
          have hdq : decide (16 * (q : Int) < (s.size : Int)) = false := decide_eq_false hqi
          go_wp2_with fail
          go_loopg [14] 16 (fun gm iv v => ∃ i : Nat, Hid (gm + i = 16) ∧ iv = .int .i64 (i : Int) ∧ RowAt v g .i64 3 m (addd e (fun i => key (16 + i)) i) ∧ ArrAt v w.heap.size .u8 27 32 key ∧ ArrAt v (w.heap.size + 1) .u8 92 16 (fun _ => 0) ∧ Below w.heap.size w v)
          case atStart => exact ⟨0, Hid.mk rfl, rfl, hr.mono (Nat.le_refl _) (fun i _ => by unfold addd; rw [if_neg (by omega)]), g0, g1, hB⟩
          case round =>
            clear hr g0 g1 g5 hB
            obtain ⟨i, HI, rfl, hr, g0, g1, hB⟩ := hrel
            have hi16 : i ≤ 16 := by have := HI.out; omega
            by_cases hil : i < 16
            · have ch := hr.cell i (by omega)
              have fh := hr.free i (by omega)
              have ck := g0.cell (16 + i) (by omega)
              have hki := hk (16 + i) (by omega)
              have hei := HD.out i (by omega)
              have HE : Hid (addd e (fun i => key (16 + i)) i i = e i) := Hid.mk (by unfold addd; rw [if_neg (by omega)])
              rw [HE.out] at ch
              have R2 : Hid (RowAt (wr.setCell ⟨g, i, none⟩ (.int .i64 (e i + key (16 + i)))) g .i64 3 m (addd e (fun i => key (16 + i)) (i + 1))) := Hid.mk (by
                have h1 := hr.set i (e i + key (16 + i))
                rw [← addd_step, HE.out]
                exact h1)
              have him : (i : Int) < (m : Int) := by omega
              have hi32 : (16 : Int) + (i : Int) < 32 := by omega
              generalize hx1 : e i = x1 at *
              generalize hx2 : key (16 + i) = x2 at *
              go_wp2_with fail
              go_region
              go_wp2_with fail
              go_roundg (16 - (i + 1))
              case rel => exact ⟨i + 1, Hid.mk (by omega), by go_num, R2.out, g0.other _ (by omega), g1.other _ (by omega), (Below.setCell hB (p := ⟨g, i, none⟩) (by simp; omega) _).drew⟩
              case measure => have := HI.out; omega
            · have hi2 : i = 16 := by omega
              subst hi2
              clear hil hi16 HI
              obtain ⟨t, HT⟩ : ∃ t, Hid (addd e (fun i => key (16 + i)) 16 = t) := ⟨_, Hid.mk rfl⟩
              rw [HT.out] at hr
              have hcar := fun w (hR : RowAt w g .i64 3 m t) => carried_run t m g c w hR (fun x hx => by
                rw [← HT.out]
                have h1 := HD.out x hx
                unfold addd
                split
                · have h2 := hk (16 + x) (by omega)
                  show 0 ≤ e x + key (16 + x) ∧ e x + key (16 + x) < 8796093022208
                  omega
                · omega) (by omega)
              have HTV : Hid (dval t m = accN (rN key) (txt s) s.size q + sN key) := Hid.mk (by rw [← HT.out, dval_addd (by omega), HA.out]; rfl)
              go_wp2_with fail
              refine (hcar _ hr).mono ?_
              rintro r v5 ⟨g6, c6, m6, e6, rfl, hC6, ho6, hb6⟩
              have hm6 := hC6.lo
              have HDG : Hid (∀ i, i < 16 → e6 i = digN (markN key (txt s) s.size) i) := Hid.mk (fun i hi => by
                rw [← HM.out i hi, ← HTV.out, ← hC6.num]
                exact dig_of hC6.dg i (by omega))
              have hdb := hC6.dg
              replace ho6 : DigS v5 wr.heap.size g6 c6 m6 e6 := ho6
              have r6 := ho6.row (by omega)
              have hz6 := g1.lt
              replace g1 := g1.kept hb6
              replace hB := hB.trans (hb6.mono hB.size)
              have hg6 := ho6.lt
              clear hcar hC6 ho6 hb6 hr g0 HTV HM
              have gn : ∀ o, o = Obj.cells (WA .u8 16 fun _ => 0) 92 (0, 0) → ArrAt (v5.alloc o) v5.heap.size .u8 92 16 (fun _ => 0) := fun o ho => by rw [ho]; exact heap_alloc_new v5 _
              have hz7 := g1.lt
              have hBS := hB.size
              go_wp2_with fail
              go_loopg [16] 16 (fun gm iv v => ∃ i : Nat, Hid (gm + i = 16) ∧ iv = .int .i64 (i : Int) ∧ ArrAt v v5.heap.size .u8 92 16 (fun j => if j < i then e6 j else 0) ∧ ArrAt v (w.heap.size + 1) .u8 92 16 (fun _ => 0) ∧ RowAt v g6 .i64 3 m6 e6 ∧ Below w.heap.size w v)
              case atStart => exact ⟨0, Hid.mk rfl, rfl, (gn _ rfl).congr (fun j _ => by rw [if_neg (by omega)]), g1.alloc _, r6.alloc _, hB.alloc (by omega) _⟩
              case round =>
                clear g1 r6 hB gn
                obtain ⟨i, HI, rfl, gO, g1, r6, hB⟩ := hrel
                have hi16 : i ≤ 16 := by have := HI.out; omega
                by_cases hil : i < 16
                · have ch := r6.cell i (by omega)
                  have co := gO.cell i hil
                  have fo := gO.free i
                  have hei := hdb i (by omega)
                  have R2 : Hid (ArrAt (wr.setCell ⟨v5.heap.size, i, none⟩ (.int .u8 (e6 i))) v5.heap.size .u8 92 16 (fun j => if j < i + 1 then e6 j else 0)) := Hid.mk ((gO.set i (e6 i) hil).congr (fun j hj => by
                    unfold upd
                    by_cases h1 : j = i
                    · subst h1; rw [if_pos rfl, if_pos (by omega)]
                    · rw [if_neg h1]
                      show (if j < i then e6 j else 0) = _
                      by_cases h2 : j < i
                      · rw [if_pos h2, if_pos (by omega)]
                      · rw [if_neg h2, if_neg (by omega)]))
                  have him : (i : Int) < (m6 : Int) := by omega
                  have hmd : e6 i % 256 = e6 i := by omega
                  generalize hx1 : e6 i = x1 at *
                  go_wp2_with fail
                  go_roundg (16 - (i + 1))
                  case rel => exact ⟨i + 1, Hid.mk (by omega), by go_num, R2.out, g1.other _ (by omega), r6.other _ (by omega), Below.setCell hB (p := ⟨v5.heap.size, i, none⟩) (by simp; omega) _⟩
                  case measure => have := HI.out; omega
                · have hi2 : i = 16 := by omega
                  subst hi2
                  replace gO := gO.congr (s' := digN (markN key (txt s) s.size)) (fun j hj => by rw [if_pos hj]; exact HDG.out j hj)
                  clear HI hil hi16 r6
                  go_wp2_with (first | (refine ld_arr isArr16 gO (by rfl) ?_) | (refine st_arr isArr16 g1 (by rfl) (by rfl) ?_; intro v8 g8 o8))
                  exact bodyPost_ret (v := .agg (WA .u8 16 (digN (markN key (txt s) s.size)))) (res_arr rfl isArr16 g8 rfl) rfl ⟨rfl, hB.trans (o8.below (by omega))⟩
end Go.Proofs.YtbkbcfimpaolmaaGreat
/-
  Own text. The document's Tag of a text within the reach.
-/
namespace Go.Proofs.YtbkbcfimpaolmaaGreat
open Go.RowKit Go.Proofs Go.Lib
set_option maxRecDepth 100000
theorem rTag_run (key : Nat → Int) (s : ByteArray) (w : World) (hk : Byts 32 key) (hs : s.size ≤ 140737488355328) :
    Calls Tryz.prog 61 #[.agg (WA .u8 32 key), .string s] w fun e w' => e = .returned (.agg (WA .u8 16 (digN (markN key (txt s) s.size)))) ∧ Below w.heap.size w w' := rTag_big key s w hk (by omega)
end Go.Proofs.YtbkbcfimpaolmaaGreat
/-
  Own text. What a MAC stands for: the blocks so far, and what is left of one.
-/
namespace Go.Proofs.YtbkbcfimpaolmaaGreat
open Go.RowKit Go.Proofs
set_option maxRecDepth 100000
theorem accN_eq {r : Int} {f f' : Nat → Int} {n n' : Nat} : ∀ (k : Nat), 16 * k ≤ n → 16 * k ≤ n' → (∀ i, i < 16 * k → f i = f' i) → accN r f n k = accN r f' n' k
  | 0, _, _, _ => rfl
  | k + 1, h1, h2, h => by
    unfold accN
    rw [accN_eq (n := n) (n' := n') (f := f) (f' := f') k (by omega) (by omega) (fun i hi => h i (by omega)), show min 16 (n - 16 * k) = 16 by omega, show min 16 (n' - 16 * k) = 16 by omega]
    unfold blkN
    rw [dval_congr (t := fun i => f' (16 * k + i)) (fun i hi => h _ (by omega))]
/-- What a MAC by this key stands for behind n bytes. -/
structure St (key f : Nat → Int) (n : Nat) (R S Z H : Nat → Int) : Prop where
  rd : Dg 67108864 5 R
  rn : qv R 5 = rN key
  s0 : U64 (S 0)
  s1 : U64 (S 1)
  sn : S 0 + 18446744073709551616 * S 1 = sN key
  zs : Sm Z
  zn : qv Z 5 % P130 = accN (rN key) f n (n / 16)
  hb : Byts 16 H
  he : ∀ j, j < n % 16 → H j = f (16 * (n / 16) + j)
theorem St.congr {key f f' : Nat → Int} {n : Nat} {R S Z H : Nat → Int} (h : St key f n R S Z H) (e : ∀ i, i < n → f i = f' i) : St key f' n R S Z H :=
  ⟨h.rd, h.rn, h.s0, h.s1, h.sn, h.zs, by rw [h.zn]; exact accN_eq (n / 16) (by omega) (by omega) (fun i hi => e i (by omega)), h.hb, fun j hj => by rw [h.he j hj]; exact e _ (by omega)⟩
theorem acc_step {A B r Y q : Int} (h : (A + B) * r = Y + P130 * q) : Y % P130 = (A % P130 + B) * r % P130 := by
  have e : Y = (A + B) * r + P130 * (-q) := by rw [Int.mul_neg]; omega
  rw [e, Int.add_mul_emod_self_left, Int.mul_emod, ← Int.emod_add_emod, ← Int.mul_emod]
/-- Bytes that fill no block. -/
theorem St.part {key f : Nat → Int} {n m : Nat} {R S Z H H' : Nat → Int} (h : St key f n R S Z H) (hm : n % 16 + m < 16) (hb : Byts 16 H') (he : ∀ j, j < n % 16 + m → H' j = f (16 * (n / 16) + j)) : St key f (n + m) R S Z H' := by
  have e1 : (n + m) / 16 = n / 16 := by omega
  have e2 : (n + m) % 16 = n % 16 + m := by omega
  refine ⟨h.rd, h.rn, h.s0, h.s1, h.sn, h.zs, ?_, hb, fun j hj => ?_⟩
  · rw [h.zn, e1]
    exact accN_eq _ (by omega) (by omega) (fun _ _ => rfl)
  · rw [e2] at hj
    rw [e1]
    exact he j hj
/-- Bytes that fill a block. -/
theorem St.full {key f : Nat → Int} {n m : Nat} {R S Z H H' z : Nat → Int} (h : St key f n R S Z H) (hm : n % 16 + m = 16) (hb : Byts 16 H') (he : ∀ j, j < 16 → H' j = f (16 * (n / 16) + j)) (hz : Sm z)
    {q : Int} (hq : (qv Z 5 + (dval H' 16 + 256 ^ 16)) * qv R 5 = qv z 5 + P130 * q) : St key f (n + m) R S z H' := by
  have e1 : (n + m) / 16 = n / 16 + 1 := by omega
  have e2 : (n + m) % 16 = 0 := by omega
  refine ⟨h.rd, h.rn, h.s0, h.s1, h.sn, hz, ?_, hb, fun j hj => by omega⟩
  rw [acc_step hq, h.zn, h.rn, e1]
  show _ = (accN (rN key) f (n + m) (n / 16) + blkN f (16 * (n / 16)) (min 16 (n + m - 16 * (n / 16)))) * rN key % P130
  rw [show min 16 (n + m - 16 * (n / 16)) = 16 by omega, accN_eq (n := n) (n' := n + m) (f := f) (f' := f) (n / 16) (by omega) (by omega) (fun _ _ => rfl)]
  unfold blkN
  rw [dval_congr he]
/-- The mark of all so far, where a block is left. -/
theorem St.left {key f : Nat → Int} {n : Nat} {R S Z H z : Nat → Int} (h : St key f n R S Z H) (hn : 0 < n % 16) {q : Int} (hq : (qv Z 5 + (dval H (n % 16) + 256 ^ (n % 16))) * qv R 5 = qv z 5 + P130 * q) :
    (qv z 5 % P130 + (S 0 + 18446744073709551616 * S 1)) % 340282366920938463463374607431768211456 = markN key f n := by
  unfold markN
  rw [acc_step hq, h.zn, h.rn, h.sn, show (n + 15) / 16 = n / 16 + 1 by omega]
  show _ = ((accN (rN key) f n (n / 16) + blkN f (16 * (n / 16)) (min 16 (n - 16 * (n / 16)))) * rN key % P130 + sN key) % 340282366920938463463374607431768211456
  rw [show min 16 (n - 16 * (n / 16)) = n % 16 by omega]
  unfold blkN
  rw [dval_congr h.he]
theorem St.none {key f : Nat → Int} {n : Nat} {R S Z H : Nat → Int} (h : St key f n R S Z H) (hn : n % 16 = 0) :
    (qv Z 5 % P130 + (S 0 + 18446744073709551616 * S 1)) % 340282366920938463463374607431768211456 = markN key f n := by
  unfold markN
  rw [h.zn, h.sn, show (n + 15) / 16 = n / 16 by omega]
/-- A MAC by this key, behind n bytes. -/
def MacN (w : World) (b : Nat) (key f : Nat → Int) (n : Nat) : Prop := ∃ R S Z H, MacAt w b R S Z H ((n % 16 : Nat) : Int) ∧ St key f n R S Z H
theorem MacN.lt {w : World} {b : Nat} {key f : Nat → Int} {n : Nat} (h : MacN w b key f n) : b < w.heap.size := by
  obtain ⟨R, S, Z, H, h, _⟩ := h
  exact h.lt
theorem MacN.block {w w' : World} {b : Nat} {key f : Nat → Int} {n : Nat} (h : MacN w b key f n) (e : w'.heap[b]? = w.heap[b]?) : MacN w' b key f n := by
  obtain ⟨R, S, Z, H, h, hs⟩ := h
  exact ⟨R, S, Z, H, h.block e, hs⟩
theorem MacN.congr {w : World} {b : Nat} {key f f' : Nat → Int} {n : Nat} (h : MacN w b key f n) (e : ∀ i, i < n → f i = f' i) : MacN w b key f' n := by
  obtain ⟨R, S, Z, H, h, hs⟩ := h
  exact ⟨R, S, Z, H, h, hs.congr e⟩
theorem MacN.kept {w w' : World} {b : Nat} {key f : Nat → Int} {n : Nat} (h : MacN w b key f n) (hb : Below w.heap.size w w') : MacN w' b key f n := h.block (hb.block b h.lt)
theorem Only.touch {b : Nat} {w w' : World} (h : Only b w w') : Touch (fun k => k = b) w w' := touch_only h
theorem Below.touch {w w' : World} (b : Nat) (h : Below w.heap.size w w') : Touch (fun k => k = b) w w' := ⟨h.os, h.tape, h.output, h.size, fun k hk _ => h.block k hk⟩
-- r and s out of the key
theorem and_split (A B M N k : Nat) (hA : A < 2 ^ k) (hM : M < 2 ^ k) : (A + 2 ^ k * B) &&& (M + 2 ^ k * N) = (A &&& M) + 2 ^ k * (B &&& N) := by
  apply Nat.eq_of_testBit_eq
  intro i
  have h1 : A &&& M < 2 ^ k := Nat.lt_of_le_of_lt Nat.and_le_left hA
  rw [Nat.testBit_and, Nat.add_comm A, Nat.add_comm M, Nat.add_comm (A &&& M), Nat.testBit_two_pow_mul_add _ hA, Nat.testBit_two_pow_mul_add _ hM, Nat.testBit_two_pow_mul_add _ h1]
  split
  · rw [Nat.testBit_and]
  · rw [Nat.testBit_and]
theorem and28 (A : Nat) : A &&& 268435455 = A % 268435456 := Nat.and_two_pow_sub_one_eq_mod A 28
theorem and28c (A : Nat) : A &&& 268435452 = A % 268435456 / 4 * 4 := by
  have h := and_split (A % 4) (A / 4) 0 67108863 2 (by omega) (by decide)
  rw [show A % 4 + 2 ^ 2 * (A / 4) = A by omega, show 0 + 2 ^ 2 * 67108863 = 268435452 from rfl, Nat.and_zero] at h
  have h2 : A / 4 &&& 67108863 = A / 4 % 67108864 := Nat.and_two_pow_sub_one_eq_mod (A / 4) 26
  rw [h, h2]
  omega
theorem and_lowR {x : Int} (h0 : 0 ≤ x) (h1 : x < 18446744073709551616) : bits BinOp.and IntKind.u64 x 1152921487695413247 = x % 268435456 + 4294967296 * (x / 4294967296 % 268435456 / 4 * 4) := by
  obtain ⟨n, rfl⟩ := Int.eq_ofNat_of_zero_le h0
  have h := and_split (n % 4294967296) (n / 4294967296) 268435455 268435452 32 (by omega) (by decide)
  rw [show n % 4294967296 + 2 ^ 32 * (n / 4294967296) = n by omega, show 268435455 + 2 ^ 32 * 268435452 = 1152921487695413247 from rfl, and28, and28c] at h
  rw [show (1152921487695413247 : Int) = ((1152921487695413247 : Nat) : Int) from rfl, bits_and_u64_nat _ _ (by omega) (by omega), h]
  omega
theorem and_highR {x : Int} (h0 : 0 ≤ x) (h1 : x < 18446744073709551616) : bits BinOp.and IntKind.u64 x 1152921487695413244 = x % 268435456 / 4 * 4 + 4294967296 * (x / 4294967296 % 268435456 / 4 * 4) := by
  obtain ⟨n, rfl⟩ := Int.eq_ofNat_of_zero_le h0
  have h := and_split (n % 4294967296) (n / 4294967296) 268435452 268435452 32 (by omega) (by decide)
  rw [show n % 4294967296 + 2 ^ 32 * (n / 4294967296) = n by omega, show 268435452 + 2 ^ 32 * 268435452 = 1152921487695413244 from rfl, and28c, and28c] at h
  rw [show (1152921487695413244 : Int) = ((1152921487695413244 : Nat) : Int) from rfl, bits_and_u64_nat _ _ (by omega) (by omega), h]
  omega
theorem dval8 (s : Nat → Int) : dval s 8 = s 0 + 256 * s 1 + 65536 * s 2 + 16777216 * s 3 + 4294967296 * s 4 + 1099511627776 * s 5 + 281474976710656 * s 6 + 72057594037927936 * s 7 := by
  simp only [dval, Int.reducePow, Int.pow_zero]
  omega
theorem low_r {key : Nat → Int} (hk : Byts 32 key) : bits BinOp.and IntKind.u64 (dval key 8) 1152921487695413247 = dval (rdig key) 8 := by
  have hb := dval8_b (s := key) (fun i hi => hk i (by omega))
  rw [and_lowR hb.1 hb.2, dval8 key, dval8 (rdig key)]
  have h0 := hk 0 (by decide)
  have h1 := hk 1 (by decide)
  have h2 := hk 2 (by decide)
  have h3 := hk 3 (by decide)
  have h4 := hk 4 (by decide)
  have h5 := hk 5 (by decide)
  have h6 := hk 6 (by decide)
  have h7 := hk 7 (by decide)
  simp [rdig]
  omega
theorem high_r {key : Nat → Int} (hk : Byts 32 key) : bits BinOp.and IntKind.u64 (dval (fun j => key (8 + j)) 8) 1152921487695413244 = dval (fun j => rdig key (8 + j)) 8 := by
  have hb := dval8_b (s := fun j => key (8 + j)) (fun i hi => hk (8 + i) (by omega))
  rw [and_highR hb.1 hb.2, dval8 (fun j => key (8 + j)), dval8 (fun j => rdig key (8 + j))]
  have h0 := hk 8 (by decide)
  have h1 := hk 9 (by decide)
  have h2 := hk 10 (by decide)
  have h3 := hk 11 (by decide)
  have h4 := hk 12 (by decide)
  have h5 := hk 13 (by decide)
  have h6 := hk 14 (by decide)
  have h7 := hk 15 (by decide)
  simp [rdig]
  omega
end Go.Proofs.YtbkbcfimpaolmaaGreat
/-
  Own text. What add of package poly does to a MAC: a contract over the translation.
-/
namespace Go.Proofs.YtbkbcfimpaolmaaGreat
open Go.RowKit Go.Proofs
set_option maxRecDepth 100000
/-- A text's bytes into what a MAC holds of a block. -/
theorem copy_mac {w : World} {b h m dC : Nat} {R S Z H : Nat → Int} {l : Int} (ty : TypeId) (t : ByteArray) (gm : MacAt w b R S Z H l) (hh : h < 16) (hm : m = min t.size (16 - h)) :
    (Builtin.copy_ #[67, 9] ty #[.slice (some ⟨b, 12 + h, none⟩) (16 - h) dC, .string t]).run Tryz.prog w = .ok (goInt m) (w.setCells b (12 + h) (nums .u8 m (txt t))) := by
  have hmin : Nat.min t.size (16 - h) = m := hm.symm
  have hst := run_storeCells_cells (P := Tryz.prog) b (12 + h) (nums .u8 m (txt t)) 0 w (by
      intro j hj
      rw [nums_len] at hj
      rw [Nat.add_zero, gm.at _ (by omega)]
      rfl) (fun j _ => gm.free _) nums_one
  simp [Builtin.copy_, run_underlying Tryz.underlying67, Builtin.lenOf, Builtin.firstCells, hmin]
  rw [take_nums t m (by omega), hst]
  rfl
theorem act_cpm {o : Oper} {a : Act} {w : World} {K : Act → World → Prop} {Q : Exit → Act → World → Prop} {d s' : Operand} (ho : o.op = .call { callee := .builtin .copy, args := #[d, s'], argTypes := #[67, 9] })
    {b h m dC : Nat} {R S Z H : Nat → Int} {l : Int} {t : ByteArray} (hd : a.eval d = .slice (some ⟨b, 12 + h, none⟩) (16 - h) dC) (hs : a.eval s' = .string t) (gm : MacAt w b R S Z H l) (hh : h < 16) (hm : m = min t.size (16 - h))
    (hK : ∀ w', MacAt w' b R S Z (over H h m (txt t)) l → Only b w w' → K (a.put o.dst (.int .i64 (m : Int))) w') : o.wp Tryz.prog a w K Q := by
  have hrun := copy_mac (dC := dC) o.type t gm hh hm
  have h2 := gm.setRest h m (txt t) (by omega)
  unfold Oper.wp
  simp [execOp, ho, resolve, invoke, builtin, hd, hs, hrun, Result.andThen]
  exact hK _ h2.1 h2.2
theorem len16 : Tryz.prog.arrayLen 92 = 16 := by kernel_rfl
theorem sizeB16 (w : World) : (sizeOf (Tryz.prog.elem 92)).run Tryz.prog w = .ok 1 w := by kernel_rfl
theorem sl16m (b l : Nat) (w : World) (hl : l < 16) : (Instr.sliceAt 92 (.pointer (some ⟨b, 12, none⟩)) (some (.int .i64 (l : Int))) none none).run Tryz.prog w = .ok (.slice (some ⟨b, 12 + l, none⟩) (16 - l) (16 - l)) w := by
  rw [run_sliceAt_array_l (P := Tryz.prog) w 92 ⟨b, 12, none⟩ Tryz.underlying92 .i64 (l : Int) (by omega) (by rw [len16]; omega), sizeB16, len16]
  simp only [Result.andThen_ok, slicedAt, Int.toNat_natCast, Nat.mul_one]
  rw [if_neg (by omega), Addr.add_lit]
theorem sl16h (b l : Nat) (w : World) (hl : l ≤ 16) : (Instr.sliceAt 92 (.pointer (some ⟨b, 12, none⟩)) none (some (.int .i64 (l : Int))) none).run Tryz.prog w = .ok (.slice (some ⟨b, 12, none⟩) l 16) w := by
  rw [run_sliceAt_array_h (P := Tryz.prog) w 92 ⟨b, 12, none⟩ Tryz.underlying92 .i64 (l : Int) (by omega) (by rw [len16]; omega), len16]
  simp only [sizeB16, Result.andThen_ok, slicedAt]
  rw [if_neg (by omega), Addr.add_lit]
  rfl
theorem st_sum {ops : Array Oper} {rest : List Oper} {d : Option Tmp} {x y : Operand} {t : TypeId} {ps : String} {af : Array Edge} {a : Act} {w : World} {Q : Exit → Act → World → Prop} {b : Nat} {R S Z H z : Nat → Int} {l : Int}
    (gm : MacAt w b R S Z H l) (hx : a.eval x = .pointer (some ⟨b, 7, none⟩)) (hy : a.eval y = .agg (WA .u64 5 z)) (h : ∀ w2, MacAt w2 b R S z H l → Only b w w2 → wpList Tryz.prog ops Q rest (a.put d undef) w2) :
    wpList Tryz.prog ops Q ({ dst := d, op := .store 147 x y, type := t, pos := ps, after := af, guard := none } :: rest) a w := by
  obtain ⟨_, _, _, h3⟩ := isL
  have h2 := gm.setSum z
  exact wpList_store_mid rfl 147 x y rfl b 7 (WA .u64 5 z) hx hy (fun j hj => by rw [WA_size] at hj; exact ⟨by rw [gm.at (7 + j) (by omega)]; rfl, gm.free _⟩) (by rw [WA_size]; exact h3) (WA_one .u64 5 z) (h _ h2.1 h2.2)
set_option maxHeartbeats 8000000 in
set_option maxRecDepth 100000 in
theorem add_run (b : Nat) (key f : Nat → Int) (n : Nat) (s : ByteArray) (w : World) (hM : MacN w b key f n) :
    Calls Tryz.prog 107 #[.pointer (some ⟨b, 0, none⟩), .string s] w fun e w' => e = .returned (.tuple #[]) ∧ MacN w' b key (cat n f (txt s)) (n + s.size) ∧ Touch (fun x => x = b) w w' := by
  replace hM := hM.congr (f' := cat n f (txt s)) (fun i hi => by unfold cat; rw [if_pos hi])
  have hE : ∀ j, cat n f (txt s) (n + j) = txt s j := fun j => by unfold cat; rw [if_neg (by omega), Nat.add_sub_cancel_left]
  generalize cat n f (txt s) = g at *
  have HE := Hid.mk hE
  clear hE
  go_enter Tryz.func107, Tryz.ntmps107
  go_wp2_with fail
  go_loopg [1] s.size (fun gm pv v => ∃ k : Nat, Hid (gm + k = s.size) ∧ pv = .string (s.extract k s.size) ∧ MacN v b key g (n + k) ∧ Touch (fun x => x = b) w v)
  case atStart => exact ⟨0, Hid.mk rfl, by simp, hM, Touch.refl _ _⟩
  case round =>
    clear hM
    obtain ⟨k, HK, rfl, hM, ht⟩ := hrel
    have hks : k ≤ s.size := by have := HK.out; omega
    have hsz := extract_size s k
    obtain ⟨t, ht0⟩ : ∃ t, s.extract k s.size = t := ⟨_, rfl⟩
    have HT : Hid (∀ j, k + j < s.size → txt t j = g (n + k + j)) := Hid.mk (fun j hj => by rw [← ht0, txt_extract s k j hj, Nat.add_assoc, HE.out])
    rw [ht0] at hsz
    rw [ht0]
    by_cases hkl : k < s.size
    · obtain ⟨R, S, Z, H, gm, hst⟩ := hM
      obtain ⟨h, hh⟩ : ∃ h, (n + k) % 16 = h := ⟨_, rfl⟩
      rw [hh] at gm
      have HST := Hid.mk hst
      clear hst
      have HH : Hid (h < 16) := Hid.mk (by omega)
      obtain ⟨m, hm⟩ : ∃ m, m = min t.size (16 - h) := ⟨_, rfl⟩
      have hpos : (0 : Int) < (t.size : Int) := by omega
      have hsl := fun v => sl16m b h v (by omega)
      have hcp2 := copy_mac (dC := 16 - h) 3 t gm.drew (by omega) hm
      have hch := gm.held
      have hset := gm.drew.setRest h m (txt t) (by omega)
      have HX : Hid (t.extract m t.size = s.extract (k + m) s.size) := Hid.mk (by
        have h1 : (t.extract m t.size).size = s.size - (k + m) := by rw [extract_size]; omega
        have h2 := extract_size s (k + m)
        rw [← mkS_txt (t.extract m t.size), ← mkS_txt (s.extract (k + m) s.size), h1, h2]
        refine mkS_congr (fun j hj => ?_)
        rw [txt_extract t m j (by omega), txt_extract s (k + m) j (by omega), ← ht0, txt_extract s k (m + j) (by omega), Nat.add_assoc])
      have HO : Hid (∀ j, j < h + m → over H h m (txt t) j = g (16 * ((n + k) / 16) + j)) := Hid.mk (fun j hj => by
        unfold over
        split
        · rw [HT.out (j - h) (by omega)]
          congr 1
          omega
        · exact HST.out.he j (by omega))
      have HB : Hid (Byts 16 (over H h m (txt t))) := Hid.mk (fun i hi => by
        unfold over
        split
        · exact txt_b t _
        · exact HST.out.hb i hi)
      have hmt : (m : Int) ≤ (t.size : Int) := by omega
      have hm1 : 1 ≤ m ∧ k + m ≤ s.size ∧ h + m ≤ 16 := by omega
      have hwr := i64_wrap (n := (h : Int) + (m : Int)) (by omega) (by omega)
      have HZ := Hid.mk hsz
      have HM := Hid.mk hm
      clear hsz hm HT ht0
      generalize gk = gz at *
      go_wp2_with fail
      go_region
      generalize over H h m (txt t) = H' at *
      generalize wr.drew.setCells b (12 + h) (nums .u8 m (txt t)) = v5 at *
      obtain ⟨gm5, o5⟩ := hset
      have ht5 : Touch (fun x => x = b) w v5 := (Touch.drew ht).trans o5.touch
      clear hcp2 hsl o5 gm hch ht
      have hch := gm5.held
      have hcf := gm5.free 28
      have gm6 := gm5.setHeld ((h : Int) + (m : Int))
      have ht6 : Touch (fun x => x = b) w (v5.setCell ⟨b, 28, none⟩ (.int .i64 ((h : Int) + (m : Int)))) := ht5.trans (only_set (g := b) (i := 28)).touch
      by_cases hfull : h + m = 16
      · have hfi : (h : Int) + (m : Int) = 16 := by omega
        have hfd : ((h : Int) + (m : Int) == 16) = true := by simpa using hfi
        rw [hfi] at gm6 ht6
        go_wp2_with fail
        refine (behind_run b 16 16 R S Z H' 16 _ gm6 HST.out.zs HST.out.rd HB.out (Nat.le_refl _)).mono ?_
        rintro e v7 ⟨z, hz, ⟨q, hq⟩, rfl, hb⟩
        have gm7 := gm6.kept hb
        have ht7 := ht6.trans (Below.touch b hb)
        have HQ := Hid.mk (And.intro hz hq)
        clear hb gm6 ht6 gm5 ht5 hch hcf hz hq
        go_wp2_with (refine st_sum gm7 (by rfl) (by rfl) ?_; intro v8 gm8 o8; refine Hid.out ?_)
        have ht8 := ht7.trans o8.touch
        have hcf := gm8.free 28
        have hch := gm8.held
        have gm9 := gm8.setHeld 0
        have ht9 : Touch (fun x => x = b) w (v8.setCell ⟨b, 28, none⟩ (.int .i64 0)) := ht8.trans (only_set (g := b) (i := 28)).touch
        clear o8 gm7 ht7
        refine Hid.mk ?_
        go_wp2_with fail
        go_roundg (s.size - (k + m))
        case rel => exact ⟨k + m, Hid.mk (by omega), congrArg Value.string HX.out, ⟨R, S, z, H', by rw [show ((((n + (k + m)) % 16 : Nat)) : Int) = 0 by omega]; exact gm9, by rw [← Nat.add_assoc]; exact HST.out.full (by omega) HB.out (fun j hj => HO.out j (by omega)) HQ.out.1 HQ.out.2⟩, ht9⟩
        case measure => have := HK.out; omega
      · have hfi : ¬ ((h : Int) + (m : Int) = 16) := by omega
        have hfd : ((h : Int) + (m : Int) == 16) = false := by simpa using hfi
        go_wp2_with fail
        go_roundg (s.size - (k + m))
        case rel => exact ⟨k + m, Hid.mk (by omega), congrArg Value.string HX.out, ⟨R, S, Z, H', by rw [show ((((n + (k + m)) % 16 : Nat)) : Int) = (h : Int) + (m : Int) by omega]; exact gm6, by rw [← Nat.add_assoc]; exact HST.out.part (by omega) HB.out (by rw [hh]; exact HO.out)⟩, ht6⟩
        case measure => have := HK.out; omega
    · have hk2 : k = s.size := by omega
      subst hk2
      have hz0 : t.size = 0 := by omega
      go_wp2_with fail
      go_end0
      exact ⟨rfl, hM, ht⟩
end Go.Proofs.YtbkbcfimpaolmaaGreat
/-
  Own text. What New of package poly answers: a contract over the translation.
-/
namespace Go.Proofs.YtbkbcfimpaolmaaGreat
open Go.RowKit Go.Proofs
set_option maxRecDepth 100000
/-- What is known of each slot: its value, or K of it and the world. -/
def knM (l : List (Option Value)) (K : Value → World → Prop) (i : Nat) (v : Value) (w : World) : Prop := match l.getD i none with
  | some u => v = u
  | none => K v w
theorem knM_keeps {l : List (Option Value)} {K : Value → World → Prop} (hK : ∀ v w w', K v w → Below w.heap.size w w' → K v w') : ∀ (i : Nat) v w w', knM l K i v w → Below w.heap.size w w' → knM l K i v w' := by
  intro i v w w' h hb
  unfold knM at *
  generalize l.getD i none = o at *
  cases o with
  | some u => exact h
  | none => exact hK v w w' h hb
def pk2 (a b : Int) : Nat → Int
  | 0 => a
  | 1 => b
  | _ => 0
/-- r and s of a key, as a MAC keeps them. -/
def rL (key : Nat → Int) : Nat → Int := lofs (dval (rdig key) 8) (dval (fun j => rdig key (8 + j)) 8) 0
def sL (key : Nat → Int) : Nat → Int := pk2 (dval (fun j => key (16 + j)) 8) (dval (fun j => key (24 + j)) 8)
theorem sl32a (b : Nat) (w : World) : (Instr.sliceAt 27 (.pointer (some ⟨b, 0, none⟩)) none (some (.int .i64 8)) none).run Tryz.prog w = .ok (.slice (some ⟨b, 0, none⟩) 8 32) w := by simp [go_sem]
theorem sl32b (b : Nat) (w : World) : (Instr.sliceAt 27 (.pointer (some ⟨b, 0, none⟩)) (some (.int .i64 8)) (some (.int .i64 16)) none).run Tryz.prog w = .ok (.slice (some ⟨b, 8, none⟩) 8 24) w := by simp [go_sem]
theorem sl32c (b : Nat) (w : World) : (Instr.sliceAt 27 (.pointer (some ⟨b, 0, none⟩)) (some (.int .i64 16)) (some (.int .i64 24)) none).run Tryz.prog w = .ok (.slice (some ⟨b, 16, none⟩) 8 16) w := by simp [go_sem]
theorem sl32d (b : Nat) (w : World) : (Instr.sliceAt 27 (.pointer (some ⟨b, 0, none⟩)) (some (.int .i64 24)) none none).run Tryz.prog w = .ok (.slice (some ⟨b, 24, none⟩) 8 8) w := by simp [go_sem]
theorem exec_and64 {a : Act} {o : Oper} {w : World} {x y : Operand} (ho : o.op = .binOp .and 31 x y 31) {m n : Int} (hx : a.eval x = .int .u64 m) (hy : a.eval y = .int .u64 n) :
    (execOp a.eval o).run Tryz.prog w = .ok (.value (.int .u64 (bits .and .u64 m n))) w := exec_bin ho rfl hx hy (by simp [go_sem])
theorem run_build2 (x y : Int) (w : World) : (Instr.build 150 #[(0, .int .u64 x), (1, .int .u64 y)]).run Tryz.prog w = .ok (.agg #[.int .u64 x, .int .u64 y]) w := by kernel_rfl
theorem exec_build2 {a : Act} {o : Oper} {w : World} {x y : Operand} (ho : o.op = .build 150 #[(0, x), (1, y)]) {m n : Int} (hx : a.eval x = .int .u64 m) (hy : a.eval y = .int .u64 n) : (execOp a.eval o).run Tryz.prog w = .ok (.value (.agg (WA .u64 2 (pk2 m n)))) w := by
  have h := run_build2 m n w
  unfold execOp
  simp only [ho, List.map_toArray, List.map_cons, List.map_nil, hx, hy, Sem.run_bind, h, Result.andThen_ok, Sem.run_pure]
  rfl
theorem run_buildM (R S : Nat → Int) (w : World) : (Instr.build 152 #[(0, .agg (WA .u64 5 R)), (1, .agg (WA .u64 2 S))]).run Tryz.prog w = .ok (.agg (macC R S (fun _ => 0) (fun _ => 0) 0)) w := by kernel_rfl
theorem exec_buildM {a : Act} {o : Oper} {w : World} {x y : Operand} (ho : o.op = .build 152 #[(0, x), (1, y)]) {R S : Nat → Int} (hx : a.eval x = .agg (WA .u64 5 R)) (hy : a.eval y = .agg (WA .u64 2 S)) : (execOp a.eval o).run Tryz.prog w = .ok (.value (.agg (macC R S (fun _ => 0) (fun _ => 0) 0))) w := by
  have h := run_buildM R S w
  unfold execOp
  simp only [ho, List.map_toArray, List.map_cons, List.map_nil, hx, hy, Sem.run_bind, h, Result.andThen_ok, Sem.run_pure]
theorem act_boxM {o : Oper} {a : Act} {w : World} {K : Act → World → Prop} {Q : Exit → Act → World → Prop} {x : Operand} {cs : Array Value} (ho : o.op = .box 152 x) (hx : a.eval x = .agg cs)
    (h : ∀ w', w'.heap[w.heap.size]? = some (.cells cs 152 (0, 0)) → Below w.heap.size w w' → K (a.put o.dst (.pointer (some ⟨w.heap.size, 0, none⟩))) w') : o.wp Tryz.prog a w K Q := by
  unfold Oper.wp execOp
  simp only [ho, hx]
  simp [go_sem]
  exact h _ (heap_alloc_new w _) ((Below.refl _ _).alloc (Nat.le_refl _) _)
theorem st_new {key : Nat → Int} (hk : Byts 32 key) (f : Nat → Int) : St key f 0 (rL key) (sL key) (fun _ => 0) (fun _ => 0) := by
  have b0 := dval8_b (s := rdig key) (fun i hi => rdig_b hk i (by omega))
  have b8 := dval8_b (s := fun j => rdig key (8 + j)) (fun i hi => rdig_b hk (8 + i) (by omega))
  have h16 := dval8_b (s := fun j => key (16 + j)) (fun i hi => hk (16 + i) (by omega))
  have h24 := dval8_b (s := fun j => key (24 + j)) (fun i hi => hk (24 + i) (by omega))
  refine ⟨lofs_dg b0 b8 (by omega), ?_, h16, h24, ?_, ⟨fun _ _ => Int.le_refl _, fun _ _ _ => by show (0 : Int) < _; decide, by show (0 : Int) < _; decide⟩, ?_, fun _ _ => by show 0 ≤ (0 : Int) ∧ (0 : Int) < 256; omega, fun j hj => by omega⟩
  · have h := dval_shift (rdig key) 8 8
    unfold rL
    rw [lofs_num]
    unfold rN
    rw [show (16 : Nat) = 8 + 8 from rfl, h]
    simp only [Int.reducePow]
    omega
  · have h := dval_shift (fun i => key (16 + i)) 8 8
    unfold sN
    rw [show dval (fun i => key (16 + i)) 16 = dval (fun i => key (16 + i)) (8 + 8) from rfl, h]
    show dval (fun j => key (16 + j)) 8 + 18446744073709551616 * dval (fun j => key (24 + j)) 8 = _
    rw [dval_congr (s := fun j => key (16 + (8 + j))) (t := fun j => key (24 + j)) (fun j _ => by show key (16 + (8 + j)) = key (24 + j); congr 1; omega)]
    simp only [Int.reducePow]
  · simp [qv, accN]
set_option maxHeartbeats 4000000 in
set_option maxRecDepth 100000 in
theorem New_run (key f : Nat → Int) (w : World) (hk : Byts 32 key) :
    Calls Tryz.prog 95 #[.agg (WA .u8 32 key)] w fun e w' => ∃ b, w.heap.size ≤ b ∧ e = .returned (.pointer (some ⟨b, 0, none⟩)) ∧ MacN w' b key f 0 ∧ Below w.heap.size w w' := by
  have g0 : ArrAt (w.alloc (.cells (WA .u8 32 key) 27)) w.heap.size .u8 27 32 key := heap_alloc_new w _
  have hB : Below w.heap.size w (w.alloc (.cells (WA .u8 32 key) 27)) := (Below.refl _ w).alloc (Nat.le_refl _) _
  have HL := Hid.mk (low_r hk)
  have HH := Hid.mk (high_r hk)
  have HK0 : Hid (Byts 8 key) := Hid.mk (fun i hi => hk i (by omega))
  have HK8 : Hid (Byts 8 (fun j => key (8 + j))) := Hid.mk (fun i hi => hk (8 + i) (by omega))
  have HK16 : Hid (Byts 8 (fun j => key (16 + j))) := Hid.mk (fun i hi => hk (16 + i) (by omega))
  have HK24 : Hid (Byts 8 (fun j => key (24 + j))) := Hid.mk (fun i hi => hk (24 + i) (by omega))
  have HR0 := Hid.mk (dval8_b (s := rdig key) (fun i hi => rdig_b hk i (by omega)))
  have HR8 := Hid.mk (dval8_b (s := fun j => rdig key (8 + j)) (fun i hi => rdig_b hk (8 + i) (by omega)))
  have HS := Hid.mk (st_new hk f)
  go_enter Tryz.func95, Tryz.ntmps95
  go_wp2_with fail
  refine wp_region_steps (fun v => ArrAt v w.heap.size .u8 27 32 key ∧ Below w.heap.size w v) (fun v v' => Below v.heap.size v v') (knM [some (.slice (some ⟨w.heap.size, 0, none⟩) 8 32), some (.int .u64 (dval (key) 8)), some (.int .u64 (dval (rdig key) 8)), some (.slice (some ⟨w.heap.size, 8, none⟩) 8 24), some (.int .u64 (dval (fun j => key (8 + j)) 8)), some (.int .u64 (dval (fun j => rdig key (8 + j)) 8)), some (.agg (WA .u64 5 (rL key))), some (.slice (some ⟨w.heap.size, 16, none⟩) 8 16), some (.int .u64 (dval (fun j => key (16 + j)) 8)), some (.slice (some ⟨w.heap.size, 24, none⟩) 8 8), some (.int .u64 (dval (fun j => key (24 + j)) 8)), some (.agg (WA .u64 2 (sL key))), some (.agg (macC (rL key) (sL key) (fun _ => 0) (fun _ => 0) 0)), none, none] (fun v u => ∃ b, w.heap.size ≤ b ∧ v = .pointer (some ⟨b, 0, none⟩) ∧ MacAt u b (rL key) (sL key) (fun _ => 0) (fun _ => 0) 0)) [3, 4, 5, 6, 7, 8, 9, 10, 11, 12, 13, 14, 15, 16, 2]
    [(1, .pointer (some ⟨w.heap.size, 0, none⟩))] [[], [0], [1], [], [3], [4], [2, 5], [], [7], [], [9], [8, 10], [6, 11], [12], [13]] rfl (by kernel_rfl) ⟨rfl, trivial⟩ ⟨g0.drew, Below.drew hB⟩ (fun v v' h hb => ⟨h.1.kept hb, h.2.trans (hb.mono h.2.size)⟩) (knM_keeps (fun v u u' ⟨b, h1, h2, h3⟩ hb => ⟨b, h1, h2, h3.kept hb⟩))
    ⟨
      -- 0
      (fun Q a1 ww hS fr kn => ⟨trivial, fun K hK => wp_value (exec_slH rfl fr.1 rfl (sl32a _ _)) (hK _ _ rfl (Below.refl _ _))⟩),
      -- 1
      (fun Q a1 ww hS fr kn => ⟨trivial, fun K hK => stepc enterWord rfl (args1 kn.1) (pword_run w.heap.size 0 32 (key) ww HK0.out (fun j hj => by rw [Nat.zero_add]; exact hS.1.cell j (by omega))) (fun w' hb => hK _ _ rfl hb)⟩),
      -- 2
      (fun Q a1 ww hS fr kn => ⟨trivial, fun K hK => wp_value (exec_and64 rfl kn.1 rfl) (hK _ _ (congrArg (Value.int .u64) HL.out) (Below.refl _ _))⟩),
      -- 3
      (fun Q a1 ww hS fr kn => ⟨trivial, fun K hK => wp_value (exec_slLH rfl fr.1 rfl rfl (sl32b _ _)) (hK _ _ rfl (Below.refl _ _))⟩),
      -- 4
      (fun Q a1 ww hS fr kn => ⟨trivial, fun K hK => stepc enterWord rfl (args1 kn.1) (pword_run w.heap.size 8 24 (fun j => key (8 + j)) ww HK8.out (fun j hj => hS.1.cell (8 + j) (by omega))) (fun w' hb => hK _ _ rfl hb)⟩),
      -- 5
      (fun Q a1 ww hS fr kn => ⟨trivial, fun K hK => wp_value (exec_and64 rfl kn.1 rfl) (hK _ _ (congrArg (Value.int .u64) HH.out) (Below.refl _ _))⟩),
      -- 6
      (fun Q a1 ww hS fr kn => ⟨trivial, fun K hK => stepc enterLimbs rfl (args3 kn.1 kn.2.1 rfl) (limbsOf_run _ _ 0 ww HR0.out HR8.out (by omega)) (fun w' hb => hK _ _ rfl hb)⟩),
      -- 7
      (fun Q a1 ww hS fr kn => ⟨trivial, fun K hK => wp_value (exec_slLH rfl fr.1 rfl rfl (sl32c _ _)) (hK _ _ rfl (Below.refl _ _))⟩),
      -- 8
      (fun Q a1 ww hS fr kn => ⟨trivial, fun K hK => stepc enterWord rfl (args1 kn.1) (pword_run w.heap.size 16 16 (fun j => key (16 + j)) ww HK16.out (fun j hj => hS.1.cell (16 + j) (by omega))) (fun w' hb => hK _ _ rfl hb)⟩),
      -- 9
      (fun Q a1 ww hS fr kn => ⟨trivial, fun K hK => wp_value (exec_slL rfl fr.1 rfl (sl32d _ _)) (hK _ _ rfl (Below.refl _ _))⟩),
      -- 10
      (fun Q a1 ww hS fr kn => ⟨trivial, fun K hK => stepc enterWord rfl (args1 kn.1) (pword_run w.heap.size 24 8 (fun j => key (24 + j)) ww HK24.out (fun j hj => hS.1.cell (24 + j) (by omega))) (fun w' hb => hK _ _ rfl hb)⟩),
      -- 11
      (fun Q a1 ww hS fr kn => ⟨trivial, fun K hK => wp_value (exec_build2 rfl kn.1 kn.2.1) (hK _ _ rfl (Below.refl _ _))⟩),
      -- 12
      (fun Q a1 ww hS fr kn => ⟨trivial, fun K hK => wp_value (exec_buildM rfl kn.1 kn.2.1) (hK _ _ rfl (Below.refl _ _))⟩),
      -- 13
      (fun Q a1 ww hS fr kn => ⟨trivial, fun K hK => act_boxM rfl kn.1 (fun w' hg hb => hK _ _ ⟨_, hS.2.size, rfl, hg⟩ hb)⟩),
      -- 14
      (fun Q a1 ww hS fr kn => ⟨trivial, fun K hK => wp_value (exec_assign rfl rfl) (hK _ _ kn.1 (Below.refl _ _))⟩),
      trivial⟩ ?_
  intro vs v1 hS1 hk1
  obtain ⟨b, h1, h2, h3⟩ := hk1 14 (by decide)
  change vs 2 = _ at h2
  simp only [putAll, Act.put, List.setIfInBounds_toArray, List.set_cons_zero, List.set_cons_succ, h2]
  clear hk1 h2
  go_wp2_with fail
  go_ret
  exact ⟨b, h1, rfl, ⟨_, _, _, _, h3, HS.out⟩, hS1.2⟩
end Go.Proofs.YtbkbcfimpaolmaaGreat
/-
  Own text. What Write of package poly does to a MAC: a contract over the translation.
-/
namespace Go.Proofs.YtbkbcfimpaolmaaGreat
open Go.RowKit Go.Proofs
set_option maxRecDepth 100000
set_option maxHeartbeats 4000000 in
theorem Write_run (b : Nat) (key f : Nat → Int) (n0 : Nat) (v : Value) (cnt : Nat) (ts : Nat → ByteArray) (w : World) (hM : MacN w b key f n0) (hv : ∀ w', Touch (fun x => x = b) w w' → Strs w' v cnt ts) (hn : cnt < 4611686018427387904) :
    Calls Tryz.prog 96 #[.pointer (some ⟨b, 0, none⟩), v] w fun e w' => e = .returned (.tuple #[]) ∧ MacN w' b key (cat n0 f (txt (joinB ts cnt))) (n0 + (joinB ts cnt).size) ∧ Touch (fun x => x = b) w w' := by
  obtain ⟨a, c, rfl, hp⟩ := hv w (Touch.refl _ _)
  have HV := Hid.mk hv
  clear hv hp
  go_enter Tryz.func96, Tryz.ntmps96
  go_wp2_with fail
  go_loopg [10] cnt (fun gm iv v => ∃ i : Nat, Hid (gm + i = cnt) ∧ iv = .int .i64 (i : Int) ∧ MacN v b key (cat n0 f (txt (joinB ts i))) (n0 + (joinB ts i).size) ∧ Touch (fun x => x = b) w v)
  case atStart => exact ⟨0, Hid.mk rfl, rfl, hM.congr (fun i hi => by unfold cat; rw [if_pos hi]), Touch.refl _ _⟩
  case round =>
    clear hM
    obtain ⟨i, HI, rfl, hM, ht⟩ := hrel
    have hin : i ≤ cnt := by have := HI.out; omega
    by_cases hil : i < cnt
    · obtain ⟨a', c', e, hp⟩ := HV.out wr ht
      simp only [Value.slice.injEq] at e
      obtain ⟨rfl, _, rfl⟩ := e
      obtain ⟨p, rfl, hc⟩ := hp (by omega)
      have hc1 := hc i hil
      clear hc hp
      go_wp2_with fail
      refine (add_run b key _ _ (ts i) wr hM).mono ?_
      rintro e v1 ⟨rfl, hM1, ht1⟩
      rw [cat_join, Nat.add_assoc, ← ByteArray.size_append] at hM1
      go_wp2_with fail
      go_roundg (cnt - (i + 1))
      case rel => exact ⟨i + 1, Hid.mk (by omega), by go_num, hM1, ht.trans ht1⟩
      case measure => have := HI.out; omega
    · have hi2 : i = cnt := by omega
      subst hi2
      go_wp2_with fail
      go_end0
      exact ⟨rfl, hM, ht⟩
theorem Write_nil (v : Value) (w : World) : Calls Tryz.prog 96 #[.pointer none, v] w fun e w' => e = .returned (.tuple #[]) ∧ w' = w := by
  go_enter Tryz.func96, Tryz.ntmps96
  go_wp2_with fail
  exact bodyPost_ret (results_none Tryz.results96 _ _ _) rfl ⟨rfl, rfl⟩
end Go.Proofs.YtbkbcfimpaolmaaGreat
/-
  Own text. What Sum of package poly answers: a contract over the translation.
-/
namespace Go.Proofs.YtbkbcfimpaolmaaGreat
open Go.RowKit Go.Proofs
set_option maxRecDepth 100000
set_option maxHeartbeats 8000000 in
set_option maxRecDepth 100000 in
theorem Sum_run (b : Nat) (key f : Nat → Int) (n : Nat) (w : World) (hM : MacN w b key f n) :
    Calls Tryz.prog 97 #[.pointer (some ⟨b, 0, none⟩)] w fun e w' => e = .returned (.agg (WA .u8 16 (digN (markN key f n)))) ∧ Below w.heap.size w w' := by
  obtain ⟨R, S, Z, H, gm, hst⟩ := hM
  have hlt := gm.lt
  obtain ⟨h, hh⟩ : ∃ h, n % 16 = h := ⟨_, rfl⟩
  rw [hh] at gm
  have HM : Hid (∀ v, Below w.heap.size w v → MacAt v b R S Z H (h : Int)) := Hid.mk (fun v hv => gm.below hv hlt)
  have HST := Hid.mk hst
  have HH : Hid (h ≤ 16) := Hid.mk (by omega)
  have gma := gm.alloc (.cells (WA .u8 16 fun _ => 0) 92)
  have hsum := gma.sum
  have g0 : ArrAt ((w.alloc (.cells (WA .u8 16 fun _ => 0) 92)).alloc (.cells (WA .u64 5 fun _ => 0) 147)) w.heap.size .u8 92 16 (fun _ => 0) := heap_alloc2_old w _ _
  have gz : ArrAt ((w.alloc (.cells (WA .u8 16 fun _ => 0) 92)).alloc (.cells (WA .u64 5 fun _ => 0) 147)) (w.heap.size + 1) .u64 147 5 (fun _ => 0) := heap_alloc2_new w _ _
  have hB : Below w.heap.size w ((w.alloc (.cells (WA .u8 16 fun _ => 0) 92)).alloc (.cells (WA .u64 5 fun _ => 0) 147)) := ((Below.refl _ w).alloc (by simp) _).alloc (by simp) _
  clear hst gm
  go_enter Tryz.func97, Tryz.ntmps97
  go_wp2_with (first | (refine wl_value rfl (exec_ldmid rfl isL (by rfl) hsum) ?_) | (refine st_arr isL gz (by rfl) (by rfl) ?_; intro v1 g3 o1; refine Hid.out ?_))
  replace g0 := g0.only o1 (by omega)
  replace hB := hB.trans (o1.below (by omega))
  clear o1 gz hsum gma
  have hch := (HM.out _ hB).held
  by_cases hp : 0 < h
  · have hpi : (0 : Int) < (h : Int) := by omega
    refine Hid.mk ?_
    go_wp2_with fail
    refine wp_gen (fun v => ArrAt v w.heap.size .u8 92 16 (fun _ => 0) ∧ ArrAt v (w.heap.size + 1) .u64 147 5 Z ∧ Below w.heap.size w v) ⟨g0, g3, hB⟩ ?_
    clear g0 g3 hB hch
    rintro v2 ⟨g0, g3, hB⟩
    refine wp_region3 (Below w.heap.size w) v2.heap.size
        [((w.heap.size + 1), ⟨isOb (WA .u64 5 Z) 147, [(10, fun ob => ∃ z, Sm z ∧ (∃ q, (qv Z 5 + (dval H h + 256 ^ h)) * qv R 5 = qv z 5 + P130 * q) ∧ ob = .cells (WA .u64 5 z) 147 (0, 0))]⟩), (w.heap.size, fixd (WA .u8 16 (fun _ => 0)) 92)]
        [kv (.pointer (some ⟨b, 0, none⟩)), kv (.pointer (some ⟨b, 0, none⟩)), kv (.pointer (some ⟨b, 0, none⟩)), kv (.pointer (some ⟨b, 12, none⟩)), kv (.pointer (some ⟨b, 0, none⟩)), kv (.pointer (some ⟨b, 0, none⟩)), kv (.pointer (some ⟨b, 28, none⟩)), kv (.int .i64 (h : Int)), kv (.slice (some ⟨b, 12, none⟩) h 16), .val fun v => ∃ z, Sm z ∧ (∃ q, (qv Z 5 + (dval H h + 256 ^ h)) * qv R 5 = qv z 5 + P130 * q) ∧ v = .agg (WA .u64 5 z), .val fun _ => True]
        [.none, .none, .none, .none, .none, .none, .none, .none, .none, .none, .base 0 1]
        [some 16, some 17, some 18, some 19, some 20, some 21, some 22, some 23, some 24, some 25, none]
        [(0, .pointer (some ⟨b, 0, none⟩)), (3, .pointer (some ⟨(w.heap.size + 1), 0, none⟩))]
        [[], [], [.slot 1], [.slot 2], [], [.slot 4], [.slot 5], [.slot 6], [.slot 3, .slot 7], [.slot 0, .slot 8], [.base 0 0, .slot 9]]
        [.base 0 1, .base 1 0] [16, 17, 18, 19, 20, 21, 22, 23, 24, 25]
        rfl (by kernel_rfl) ⟨rfl, rfl, trivial⟩ (Below.drew hB) (Nat.le_refl _) ⟨⟨g3.lt, obIn g3⟩, ⟨g0.lt, obIn g0⟩, trivial⟩ ⟨⟨(show ((w.heap.size + 1) : Nat) ≠ w.heap.size from by omega), trivial⟩, trivial, trivial⟩ (below_G hB.size ⟨by omega, by omega, trivial⟩)
        ⟨
          -- 0
          (fun Q aq ww own hS hBg fr kn => .inl ⟨trivial, fun K hK => wp_value (exec_move rfl fr.1) (hK _ _ ⟨Touch.refl _ _, rfl⟩)⟩),
          -- 1
          (fun Q aq ww own hS hBg fr kn => .inl ⟨trivial, fun K hK => wp_value (exec_move rfl fr.1) (hK _ _ ⟨Touch.refl _ _, rfl⟩)⟩),
          -- 2
          (fun Q aq ww own hS hBg fr kn => .inl ⟨trivial, fun K hK => wp_value (exec_nilc rfl kn.1) (hK _ _ ⟨Touch.refl _ _, rfl⟩)⟩),
          -- 3
          (fun Q aq ww own hS hBg fr kn => .inl ⟨trivial, fun K hK => wp_value (exec_fm (k := 3) rfl kn.1 (by decide)) (hK _ _ ⟨Touch.refl _ _, rfl⟩)⟩),
          -- 4
          (fun Q aq ww own hS hBg fr kn => .inl ⟨trivial, fun K hK => wp_value (exec_move rfl fr.1) (hK _ _ ⟨Touch.refl _ _, rfl⟩)⟩),
          -- 5
          (fun Q aq ww own hS hBg fr kn => .inl ⟨trivial, fun K hK => wp_value (exec_nilc rfl kn.1) (hK _ _ ⟨Touch.refl _ _, rfl⟩)⟩),
          -- 6
          (fun Q aq ww own hS hBg fr kn => .inl ⟨trivial, fun K hK => wp_value (exec_fm (k := 4) rfl kn.1 (by decide)) (hK _ _ ⟨Touch.refl _ _, rfl⟩)⟩),
          -- 7
          (fun Q aq ww own hS hBg fr kn => .inl ⟨trivial, fun K hK => wp_value (exec_ld rfl kn.1 (load_int (HM.out ww hS).held)) (hK _ _ ⟨Touch.refl _ _, rfl⟩)⟩),
          -- 8
          (fun Q aq ww own hS hBg fr kn => .inl ⟨trivial, fun K hK => wp_value (exec_slH rfl kn.1 kn.2.1 (sl16h b h _ HH.out)) (hK _ _ ⟨Touch.refl _ _, rfl⟩)⟩),
          -- 9
          (fun Q aq ww own hS hBg fr kn => .inl ⟨trivial, fun K hK => stepp enterBehind rfl (args2 kn.1 kn.2.1) ((behind_run b h 16 R S Z H (h : Int) ww (HM.out ww hS) HST.out.zs HST.out.rd HST.out.hb HH.out).mono (fun e w' ⟨z, h1, h2, h3, h4⟩ => ⟨_, h3, ⟨z, h1, h2, rfl⟩, h4⟩)) (R := fun v w' => (∃ z, Sm z ∧ (∃ q, (qv Z 5 + (dval H h + 256 ^ h)) * qv R 5 = qv z 5 + P130 * q) ∧ v = .agg (WA .u64 5 z)) ∧ Below ww.heap.size ww w') (fun v w' ⟨h1, h2⟩ => hK _ _ ⟨touch_below h2, h1⟩)⟩),
          -- 10
          (fun Q aq ww own hS hBg fr kn => .inl ⟨trivial, fun K hK => (by obtain ⟨z, h1, h2, h3⟩ := kn.2.1; exact act_arr rfl isL fr.2.1 h3 (obAt kn.1) (fun w2 hg ho => hK _ _ ⟨⟨touch_only ho, ⟨_, hg, z, h1, h2, rfl⟩⟩, trivial⟩))⟩),
          trivial⟩ ?_
    intro vs own v3 hB3 hs3 kn inj
    clear inj hs3 g0 g3 hB
    obtain ⟨ob, hob, z, h1, ⟨q, hq⟩, rfl⟩ := kn.1
    have g3 : ArrAt v3 (w.heap.size + 1) .u64 147 5 z := hob
    have g0 : ArrAt v3 w.heap.size .u8 92 16 (fun _ => 0) := obAt kn.2.1
    clear kn
    have hB := hB3
    have HZ := Hid.mk h1
    have HQ : Hid ((qv z 5 % P130 + (S 0 + 18446744073709551616 * S 1)) % 340282366920938463463374607431768211456 = markN key f n) := Hid.mk (HST.out.left (by omega) (q := q) (by rw [hh]; exact hq))
    clear h1 hq hB3
    simp only [putAll, Act.put, List.setIfInBounds_toArray, List.set_cons_zero, List.set_cons_succ]
    go_wp2_with fail
    refine wp_region3 (Below w.heap.size w) v3.heap.size
      [((w.heap.size + 1), fixd (WA .u64 5 z) 147), (w.heap.size, once (WA .u8 16 (fun _ => 0)) 92 6 (WA .u8 16 (digN ((qv z 5 % P130 + (S 0 + 18446744073709551616 * S 1)) % 340282366920938463463374607431768211456))))]
      [kv (.agg (WA .u64 5 z)), kv (.pointer (some ⟨b, 0, none⟩)), kv (.pointer (some ⟨b, 0, none⟩)), kv (.pointer (some ⟨b, 5, none⟩)), kv (.agg (WA .u64 2 S)), kv (.agg (WA .u8 16 (digN ((qv z 5 % P130 + (S 0 + 18446744073709551616 * S 1)) % 340282366920938463463374607431768211456)))), .val fun _ => True]
      [.none, .none, .none, .none, .none, .none, .base 1 1]
      [some 26, some 27, some 28, some 29, some 30, some 31, none]
      [(0, .pointer (some ⟨b, 0, none⟩)), (3, .pointer (some ⟨(w.heap.size + 1), 0, none⟩)), (2, .pointer (some ⟨w.heap.size, 0, none⟩))]
      [[.base 0 0], [], [.slot 1], [.slot 2], [.slot 3], [.slot 0, .slot 4], [.base 1 0, .slot 5]]
      [.base 1 1] [26, 27, 28, 29, 30, 31]
      rfl (by kernel_rfl) ⟨rfl, rfl, rfl, trivial⟩ (Below.drew hB) (Nat.le_refl _) ⟨⟨g3.lt, obIn g3⟩, ⟨g0.lt, obIn g0⟩, trivial⟩ ⟨⟨(show ((w.heap.size + 1) : Nat) ≠ w.heap.size from by omega), trivial⟩, trivial, trivial⟩ (below_G hB.size ⟨by omega, by omega, trivial⟩)
      ⟨
        -- 0
        (fun Q aq ww own hS hBg fr kn => .inl ⟨trivial, fun K hK => wp_value (look_arr rfl isL (obAt kn.1) fr.2.1) (hK _ _ ⟨Touch.refl _ _, rfl⟩)⟩),
        -- 1
        (fun Q aq ww own hS hBg fr kn => .inl ⟨trivial, fun K hK => wp_value (exec_move rfl fr.1) (hK _ _ ⟨Touch.refl _ _, rfl⟩)⟩),
        -- 2
        (fun Q aq ww own hS hBg fr kn => .inl ⟨trivial, fun K hK => wp_value (exec_nilc rfl kn.1) (hK _ _ ⟨Touch.refl _ _, rfl⟩)⟩),
        -- 3
        (fun Q aq ww own hS hBg fr kn => .inl ⟨trivial, fun K hK => wp_value (exec_fm (k := 1) rfl kn.1 (by decide)) (hK _ _ ⟨Touch.refl _ _, rfl⟩)⟩),
        -- 4
        (fun Q aq ww own hS hBg fr kn => .inl ⟨trivial, fun K hK => wp_value (exec_ldmid rfl isS2 kn.1 (HM.out ww hS).s) (hK _ _ ⟨Touch.refl _ _, rfl⟩)⟩),
        -- 5
        (fun Q aq ww own hS hBg fr kn => .inl ⟨trivial, fun K hK => stepc enterMark rfl (args2 kn.1 kn.2.1) (pmark_run z S ww HZ.out HST.out.s0 HST.out.s1) (fun w' hb => hK _ _ ⟨touch_below hb, rfl⟩)⟩),
        -- 6
        (fun Q aq ww own hS hBg fr kn => .inl ⟨trivial, fun K hK => act_arr rfl isArr16 fr.2.2.1 kn.2.1 (obAt kn.1) (fun w2 hg ho => hK _ _ ⟨⟨touch_only ho, obIn hg⟩, trivial⟩)⟩),
        trivial⟩ ?_
    intro vs own v9 hB9 hs9 kn inj
    clear inj hs9 g0 g3 hB
    have g0 : ArrAt v9 w.heap.size .u8 92 16 (digN ((qv z 5 % P130 + (S 0 + 18446744073709551616 * S 1)) % 340282366920938463463374607431768211456)) := obAt kn.1
    clear kn
    simp only [putAll, Act.put, List.setIfInBounds_toArray, List.set_cons_zero, List.set_cons_succ]
    rw [HQ.out] at g0
    go_wp2_with fail
    exact bodyPost_ret (res_arr Tryz.results97 isArr16 g0 (by rfl)) rfl ⟨rfl, hB9⟩
  · have hpi : ¬ ((0 : Int) < (h : Int)) := by omega
    have hpd : decide ((0 : Int) < (h : Int)) = false := decide_eq_false hpi
    have HZ := Hid.mk HST.out.zs
    have HQ := Hid.mk (HST.out.none (by omega))
    refine Hid.mk ?_
    go_wp2_with fail
    refine wp_gen (fun v => ArrAt v w.heap.size .u8 92 16 (fun _ => 0) ∧ ArrAt v (w.heap.size + 1) .u64 147 5 Z ∧ Below w.heap.size w v) ⟨g0, g3, hB⟩ ?_
    clear g0 g3 hB hch
    rintro v3 ⟨g0, g3, hB⟩
    refine wp_region3 (Below w.heap.size w) v3.heap.size
      [((w.heap.size + 1), fixd (WA .u64 5 Z) 147), (w.heap.size, once (WA .u8 16 (fun _ => 0)) 92 6 (WA .u8 16 (digN ((qv Z 5 % P130 + (S 0 + 18446744073709551616 * S 1)) % 340282366920938463463374607431768211456))))]
      [kv (.agg (WA .u64 5 Z)), kv (.pointer (some ⟨b, 0, none⟩)), kv (.pointer (some ⟨b, 0, none⟩)), kv (.pointer (some ⟨b, 5, none⟩)), kv (.agg (WA .u64 2 S)), kv (.agg (WA .u8 16 (digN ((qv Z 5 % P130 + (S 0 + 18446744073709551616 * S 1)) % 340282366920938463463374607431768211456)))), .val fun _ => True]
      [.none, .none, .none, .none, .none, .none, .base 1 1]
      [some 26, some 27, some 28, some 29, some 30, some 31, none]
      [(0, .pointer (some ⟨b, 0, none⟩)), (3, .pointer (some ⟨(w.heap.size + 1), 0, none⟩)), (2, .pointer (some ⟨w.heap.size, 0, none⟩))]
      [[.base 0 0], [], [.slot 1], [.slot 2], [.slot 3], [.slot 0, .slot 4], [.base 1 0, .slot 5]]
      [.base 1 1] [26, 27, 28, 29, 30, 31]
      rfl (by kernel_rfl) ⟨rfl, rfl, rfl, trivial⟩ (Below.drew hB) (Nat.le_refl _) ⟨⟨g3.lt, obIn g3⟩, ⟨g0.lt, obIn g0⟩, trivial⟩ ⟨⟨(show ((w.heap.size + 1) : Nat) ≠ w.heap.size from by omega), trivial⟩, trivial, trivial⟩ (below_G hB.size ⟨by omega, by omega, trivial⟩)
      ⟨
        -- 0
        (fun Q aq ww own hS hBg fr kn => .inl ⟨trivial, fun K hK => wp_value (look_arr rfl isL (obAt kn.1) fr.2.1) (hK _ _ ⟨Touch.refl _ _, rfl⟩)⟩),
        -- 1
        (fun Q aq ww own hS hBg fr kn => .inl ⟨trivial, fun K hK => wp_value (exec_move rfl fr.1) (hK _ _ ⟨Touch.refl _ _, rfl⟩)⟩),
        -- 2
        (fun Q aq ww own hS hBg fr kn => .inl ⟨trivial, fun K hK => wp_value (exec_nilc rfl kn.1) (hK _ _ ⟨Touch.refl _ _, rfl⟩)⟩),
        -- 3
        (fun Q aq ww own hS hBg fr kn => .inl ⟨trivial, fun K hK => wp_value (exec_fm (k := 1) rfl kn.1 (by decide)) (hK _ _ ⟨Touch.refl _ _, rfl⟩)⟩),
        -- 4
        (fun Q aq ww own hS hBg fr kn => .inl ⟨trivial, fun K hK => wp_value (exec_ldmid rfl isS2 kn.1 (HM.out ww hS).s) (hK _ _ ⟨Touch.refl _ _, rfl⟩)⟩),
        -- 5
        (fun Q aq ww own hS hBg fr kn => .inl ⟨trivial, fun K hK => stepc enterMark rfl (args2 kn.1 kn.2.1) (pmark_run Z S ww HZ.out HST.out.s0 HST.out.s1) (fun w' hb => hK _ _ ⟨touch_below hb, rfl⟩)⟩),
        -- 6
        (fun Q aq ww own hS hBg fr kn => .inl ⟨trivial, fun K hK => act_arr rfl isArr16 fr.2.2.1 kn.2.1 (obAt kn.1) (fun w2 hg ho => hK _ _ ⟨⟨touch_only ho, obIn hg⟩, trivial⟩)⟩),
        trivial⟩ ?_
    intro vs own v9 hB9 hs9 kn inj
    clear inj hs9 g0 g3 hB
    have g0 : ArrAt v9 w.heap.size .u8 92 16 (digN ((qv Z 5 % P130 + (S 0 + 18446744073709551616 * S 1)) % 340282366920938463463374607431768211456)) := obAt kn.1
    clear kn
    simp only [putAll, Act.put, List.setIfInBounds_toArray, List.set_cons_zero, List.set_cons_succ]
    rw [HQ.out] at g0
    go_wp2_with fail
    exact bodyPost_ret (res_arr Tryz.results97 isArr16 g0 (by rfl)) rfl ⟨rfl, hB9⟩
theorem build16 (w : World) : (Instr.build 92 #[]).run Tryz.prog w = .ok (.agg (WA .u8 16 fun _ => 0)) w := by kernel_rfl
theorem exec_b16 {a : Act} {o : Oper} {w : World} (ho : o.op = .build 92 #[]) : (execOp a.eval o).run Tryz.prog w = .ok (.value (.agg (WA .u8 16 fun _ => 0))) w := by
  have h := build16 w
  unfold execOp
  simp only [ho, List.map_toArray, List.map_nil, Sem.run_bind, h, Result.andThen_ok, Sem.run_pure]
theorem Sum_nil (w : World) : Calls Tryz.prog 97 #[.pointer none] w fun e w' => e = .returned (.agg (WA .u8 16 fun _ => 0)) ∧ Below w.heap.size w w' := by
  have g0 : ArrAt (w.alloc (.cells (WA .u8 16 fun _ => 0) 92)) w.heap.size .u8 92 16 (fun _ => 0) := heap_alloc_new w _
  have hB : Below w.heap.size w (w.alloc (.cells (WA .u8 16 fun _ => 0) 92)) := (Below.refl _ w).alloc (Nat.le_refl _) _
  go_enter Tryz.func97, Tryz.ntmps97
  go_wp2_with (first | (refine wl_value rfl (exec_b16 rfl) ?_) | (refine st_arr isArr16 g0 (by rfl) (by rfl) ?_; intro v1 g1 o1; refine Hid.out ?_))
  refine Hid.mk ?_
  go_wp2_with fail
  exact bodyPost_ret (res_arr Tryz.results97 isArr16 g1 (by rfl)) rfl ⟨rfl, hB.trans (o1.below (Nat.le_refl _))⟩
end Go.Proofs.YtbkbcfimpaolmaaGreat
/-
  Own text. What Tag of package poly answers; a slice of texts that is made anew; the statements' awake.
-/
namespace Go.Proofs.YtbkbcfimpaolmaaGreat
open Go.RowKit Go.Proofs
set_option maxRecDepth 100000
set_option maxHeartbeats 4000000 in
theorem Tag_run (key : Nat → Int) (v : Value) (cnt : Nat) (ts : Nat → ByteArray) (w : World) (hk : Byts 32 key) (hv : Strs w v cnt ts) (hn : cnt < 4611686018427387904) :
    Calls Tryz.prog 75 #[.agg (WA .u8 32 key), v] w fun e w' => e = .returned (.agg (WA .u8 16 (digN (markN key (txt (joinB ts cnt)) (joinB ts cnt).size)))) ∧ Below w.heap.size w w' := by
  have g0 : ArrAt ((w.alloc (.cells (WA .u8 32 key) 27)).alloc (.cells (WA .u8 16 fun _ => 0) 92)) w.heap.size .u8 27 32 key := heap_alloc2_old w _ _
  have g1 : ArrAt ((w.alloc (.cells (WA .u8 32 key) 27)).alloc (.cells (WA .u8 16 fun _ => 0) 92)) (w.heap.size + 1) .u8 92 16 (fun _ => 0) := heap_alloc2_new w _ _
  have hB : Below w.heap.size w ((w.alloc (.cells (WA .u8 32 key) 27)).alloc (.cells (WA .u8 16 fun _ => 0) 92)) := ((Below.refl _ w).alloc (by simp) _).alloc (by simp) _
  go_enter Tryz.func75, Tryz.ntmps75
  go_wp2_with (refine ld_arr isArr32 g0 (by rfl) ?_)
  refine (New_run key (fun _ => 0) _ hk).mono ?_
  rintro e v1 ⟨b, hb, rfl, hM, hb1⟩
  have hz1 := g1.lt
  replace g1 := g1.kept hb1
  replace hB := hB.trans (hb1.mono hB.size)
  have hzb : w.heap.size + 1 + 1 ≤ b := by simpa using hb
  have hv1 : ∀ w', Touch (fun x => x = b) v1 w' → Strs w' v cnt ts := fun w' ht => hv.kept (fun k hk => (ht.block k (by have := hB.size; omega) (by omega)).trans (hB.block k hk))
  clear hb1 g0 hb hz1
  go_wp2_with fail
  refine (Write_run b key (fun _ => 0) 0 v cnt ts v1 hM hv1 hn).mono ?_
  rintro e v2 ⟨rfl, hM2, ht2⟩
  rw [cat0, Nat.zero_add] at hM2
  replace g1 := g1.touch ht2 (by omega)
  replace hB := belowT hB ht2 (by omega) (Nat.le_refl _)
  clear ht2 hM hv1
  go_wp2_with fail
  refine (Sum_run b key _ _ v2 hM2).mono ?_
  rintro e v3 ⟨rfl, hb3⟩
  replace g1 := g1.kept hb3
  replace hB := hB.trans (hb3.mono hB.size)
  clear hb3 hM2
  go_wp2_with (refine st_arr isArr16 g1 (by rfl) (by rfl) ?_; intro v4 g4 o4; refine Hid.out ?_)
  refine Hid.mk ?_
  go_wp2_with fail
  exact bodyPost_ret (res_arr Tryz.results75 isArr16 g4 (by rfl)) rfl ⟨rfl, hB.trans (o4.below (by omega))⟩
-- awake
def awK (i : Nat) : Int := [133, 214, 190, 120, 87, 85, 109, 51, 127, 68, 82, 254, 66, 213, 6, 168, 1, 3, 128, 138, 251, 13, 178, 253, 74, 191, 246, 175, 65, 73, 245, 27].getD i 0
def awT (i : Nat) : Int := [168, 6, 29, 193, 48, 81, 54, 198, 194, 43, 139, 175, 12, 1, 39, 169].getD i 0
def awA : ByteArray := ⟨#[67, 114, 121, 112, 116, 111, 103, 114, 97, 112, 104, 105, 99, 32, 70, 111, 114, 117, 109, 32]⟩
def awB : ByteArray := ⟨#[82, 101, 115, 101, 97, 114, 99, 104, 32, 71, 114, 111, 117, 112]⟩
theorem awK_b : Byts 32 awK := by unfold Byts; decide +kernel
theorem aw_mark : ∀ i, i < 16 → digN (markN awK (txt (awA ++ awB)) (awA ++ awB).size) i = awT i := by decide +kernel
theorem run_awK (w : World) : (Instr.build 27 #[(0, .int .u8 133), (1, .int .u8 214), (2, .int .u8 190), (3, .int .u8 120), (4, .int .u8 87), (5, .int .u8 85), (6, .int .u8 109), (7, .int .u8 51), (8, .int .u8 127), (9, .int .u8 68), (10, .int .u8 82), (11, .int .u8 254), (12, .int .u8 66), (13, .int .u8 213), (14, .int .u8 6), (15, .int .u8 168), (16, .int .u8 1), (17, .int .u8 3), (18, .int .u8 128), (19, .int .u8 138), (20, .int .u8 251), (21, .int .u8 13), (22, .int .u8 178), (23, .int .u8 253), (24, .int .u8 74), (25, .int .u8 191), (26, .int .u8 246), (27, .int .u8 175), (28, .int .u8 65), (29, .int .u8 73), (30, .int .u8 245), (31, .int .u8 27)]).run Tryz.prog w = .ok (.agg (WA .u8 32 awK)) w := by kernel_rfl
theorem run_awT (w : World) : (Instr.build 92 #[(0, .int .u8 168), (1, .int .u8 6), (2, .int .u8 29), (3, .int .u8 193), (4, .int .u8 48), (5, .int .u8 81), (6, .int .u8 54), (7, .int .u8 198), (8, .int .u8 194), (9, .int .u8 43), (10, .int .u8 139), (11, .int .u8 175), (12, .int .u8 12), (13, .int .u8 1), (14, .int .u8 39), (15, .int .u8 169)]).run Tryz.prog w = .ok (.agg (WA .u8 16 awT)) w := by kernel_rfl
theorem exec_awK {a : Act} {o : Oper} {w : World} (ho : o.op = .build 27 #[(0, .const (.int .u8 133)), (1, .const (.int .u8 214)), (2, .const (.int .u8 190)), (3, .const (.int .u8 120)), (4, .const (.int .u8 87)), (5, .const (.int .u8 85)), (6, .const (.int .u8 109)), (7, .const (.int .u8 51)), (8, .const (.int .u8 127)), (9, .const (.int .u8 68)), (10, .const (.int .u8 82)), (11, .const (.int .u8 254)), (12, .const (.int .u8 66)), (13, .const (.int .u8 213)), (14, .const (.int .u8 6)), (15, .const (.int .u8 168)), (16, .const (.int .u8 1)), (17, .const (.int .u8 3)), (18, .const (.int .u8 128)), (19, .const (.int .u8 138)), (20, .const (.int .u8 251)), (21, .const (.int .u8 13)), (22, .const (.int .u8 178)), (23, .const (.int .u8 253)), (24, .const (.int .u8 74)), (25, .const (.int .u8 191)), (26, .const (.int .u8 246)), (27, .const (.int .u8 175)), (28, .const (.int .u8 65)), (29, .const (.int .u8 73)), (30, .const (.int .u8 245)), (31, .const (.int .u8 27))]) : (execOp a.eval o).run Tryz.prog w = .ok (.value (.agg (WA .u8 32 awK))) w := by
  have h := run_awK w
  unfold execOp
  simp only [ho, List.map_toArray, List.map_cons, List.map_nil, Act.eval, Sem.run_bind, h, Result.andThen_ok, Sem.run_pure]
theorem exec_awT {a : Act} {o : Oper} {w : World} (ho : o.op = .build 92 #[(0, .const (.int .u8 168)), (1, .const (.int .u8 6)), (2, .const (.int .u8 29)), (3, .const (.int .u8 193)), (4, .const (.int .u8 48)), (5, .const (.int .u8 81)), (6, .const (.int .u8 54)), (7, .const (.int .u8 198)), (8, .const (.int .u8 194)), (9, .const (.int .u8 43)), (10, .const (.int .u8 139)), (11, .const (.int .u8 175)), (12, .const (.int .u8 12)), (13, .const (.int .u8 1)), (14, .const (.int .u8 39)), (15, .const (.int .u8 169))]) : (execOp a.eval o).run Tryz.prog w = .ok (.value (.agg (WA .u8 16 awT))) w := by
  have h := run_awT w
  unfold execOp
  simp only [ho, List.map_toArray, List.map_cons, List.map_nil, Act.eval, Sem.run_bind, h, Result.andThen_ok, Sem.run_pure]
theorem eqG16 : Tryz.prog.eqGuardType Tryz.prog.depth 92 = false := by kernel_rfl
end Go.Proofs.YtbkbcfimpaolmaaGreat
/-
  Own text. The document's answer for aead: eight bytes of a number.
-/
namespace Go.Proofs.YtbkbcfimpaolmaaGreat
open Go.RowKit Go.Proofs
set_option maxRecDepth 100000
theorem isArr8 : IsArr 95 8 := ⟨_, _, Tryz.underlying95, by kernel_rfl⟩
theorem div_pow (n : Int) (i : Nat) : n / 256 ^ i / 256 = n / 256 ^ (i + 1) := by
  rw [Int.pow_succ, Int.ediv_ediv_of_nonneg (Int.le_of_lt (p256 i))]
set_option maxHeartbeats 4000000 in
theorem reight_run (n : Int) (w : World) (hn : 0 ≤ n ∧ n < 18446744073709551616) :
    Calls Tryz.prog 45 #[.int .u64 n] w fun e w' => e = .returned (.string (mkS 8 (digN n))) ∧ Below w.heap.size w w' := by
  have g0 : ArrAt (w.alloc (.cells (WA .u8 8 fun _ => 0) 95)) w.heap.size .u8 95 8 (fun _ => 0) := heap_alloc_new w _
  have hB : Below w.heap.size w (w.alloc (.cells (WA .u8 8 fun _ => 0) 95)) := (Below.refl _ w).alloc (Nat.le_refl _) _
  go_enter Tryz.func45, Tryz.ntmps45
  go_wp2_with fail
  go_loopg [0, 4] 8 (fun gm nv iv v => ∃ i : Nat, Hid (gm + i = 8) ∧ iv = .int .i64 (i : Int) ∧ nv = .int .u64 (n / 256 ^ i) ∧ ArrAt v w.heap.size .u8 95 8 (fun j => if j < i then digN n j else 0) ∧ Below w.heap.size w v)
  case atStart => exact ⟨0, Hid.mk rfl, rfl, by simp, g0.congr (fun j _ => by rw [if_neg (by omega)]), hB⟩
  case round =>
    clear g0 hB
    obtain ⟨i, HI, rfl, rfl, g0, hB⟩ := hrel
    have hi8 : i ≤ 8 := by have := HI.out; omega
    have hq0 : 0 ≤ n / 256 ^ i := Int.ediv_nonneg hn.1 (Int.le_of_lt (p256 i))
    have hq1 : n / 256 ^ i < 18446744073709551616 := Int.lt_of_le_of_lt (Int.ediv_le_self _ hn.1) hn.2
    by_cases hil : i < 8
    · have c0 := g0.cell i hil
      have f0 := g0.free i
      have g2 := Hid.mk ((g0.set i (n / 256 ^ i % 256) hil).congr (s' := fun j => if j < i + 1 then digN n j else 0) (fun j _ => by
        unfold upd
        by_cases e : j = i
        · subst e; rw [if_pos rfl, if_pos (by omega)]; rfl
        · rw [if_neg e]
          show (if j < i then digN n j else 0) = _
          by_cases h : j < i
          · rw [if_pos h, if_pos (by omega)]
          · rw [if_neg h, if_neg (by omega)]))
      have HD := Hid.mk (div_pow n i)
      generalize n / 256 ^ i = q at *
      go_wp2_with fail
      go_roundg (8 - (i + 1))
      case rel => exact ⟨i + 1, Hid.mk (by omega), by go_num, by rw [← HD.out], g2.out, Below.setCell (p := ⟨w.heap.size, i, none⟩) hB (by simp) _⟩
      case measure => have := HI.out; omega
    · have hi2 : i = 8 := by omega
      subst hi2
      replace g0 := g0.congr (s' := digN n) (fun j hj => by rw [if_pos hj])
      have hcv := str_back 8 w.heap.size 8 wr 8 (digN n) g0.row (fun j _ => digN_b n j) rfl
      clear hq0 hq1
      go_wp2_with fail
      go_ret
      exact ⟨rfl, hB⟩
end Go.Proofs.YtbkbcfimpaolmaaGreat
/-
  Own text. The document's answer for aead: a text, and zeros up to a multiple of 16.
-/
namespace Go.Proofs.YtbkbcfimpaolmaaGreat
open Go.RowKit Go.Proofs
set_option maxRecDepth 100000
/-- A text, and zeros up to a multiple of 16. -/
def padZ (s : ByteArray) : ByteArray := s ++ mkS ((16 - s.size % 16) % 16) (fun _ => 0)
set_option maxHeartbeats 4000000 in
theorem rwhole_run (s : ByteArray) (w : World) (hs : s.size ≤ 1152921504606846976) :
    Calls Tryz.prog 62 #[.string s] w fun e w' => e = .returned (.string (padZ s)) ∧ Below w.heap.size w w' := by
  obtain ⟨k, hk⟩ : ∃ k, (16 - s.size % 16) % 16 = k := ⟨_, rfl⟩
  have hm := run_make_row' (P := Tryz.prog) 67 5 (.int .u8 0) 1 Tryz.underlying67 infoByte rfl .i64 .i64 k (by omega) (by omega) w
  rw [made_WA] at hm
  have h3 : -((s.size : Int) % 16) % 16 = (k : Int) := by omega
  have hcat : (s.size : Int) + ((mkS k fun _ => 0).size : Int) ≤ 9223372036854775807 := by rw [mkS_size]; omega
  have hcat2 : s.size + (mkS k fun _ => 0).size ≤ 9223372036854775807 := by omega
  have hE : s ++ mkS k (fun _ => 0) = padZ s := by unfold padZ; rw [hk]
  have HE := Hid.mk hE
  have h1 : (s.size : Int).tmod 16 = ((s.size % 16 : Nat) : Int) := by rw [Int.tmod_eq_emod_of_nonneg (by omega)]; omega
  have h2 : (16 - ((s.size % 16 : Nat) : Int)).tmod 16 = ((k : Nat) : Int) := by rw [Int.tmod_eq_emod_of_nonneg (by omega)]; omega
  have g0 : ArrAt (w.alloc (.cells (WA .u8 k fun _ => 0) 5)) w.heap.size .u8 5 k (fun _ => 0) := heap_alloc_new w _
  have hcv := str_back k w.heap.size k _ k (fun _ => 0) g0.row (fun j _ => by omega) rfl
  go_enter Tryz.func62, Tryz.ntmps62
  have hB : Below w.heap.size w (w.alloc (.cells (WA .u8 k fun _ => 0) 5)) := (Below.refl _ w).alloc (Nat.le_refl _) _
  clear h1 h2 hk hE
  generalize (mkS k fun _ => 0) = z at *
  go_wp2_with fail
  rw [HE.out]
  go_ret
  exact ⟨rfl, hB⟩
end Go.Proofs.YtbkbcfimpaolmaaGreat
/-
  Own text. Words of 32 bits as whole numbers: sums, turns, quarter rounds; rows of numbers.
-/
namespace Go.Proofs.YtbkbcfimpaolmaaGreat
open Go.RowKit Go.Proofs
set_option maxRecDepth 100000
def rotw (x : Int) (n : Nat) : Int := ((x.toNat * 2 ^ n % 4294967296 ||| x.toNat / 2 ^ (32 - n) : Nat) : Int)
theorem rotw_w {x : Int} (n : Nat) (hx : W32 x) : W32 (rotw x n) := by
  unfold W32 at *
  have h1 : x.toNat / 2 ^ (32 - n) < 2 ^ 32 := Nat.lt_of_le_of_lt (Nat.div_le_self _ _) (by omega)
  have := Nat.or_lt_two_pow (x := x.toNat * 2 ^ n % 4294967296) (y := x.toNat / 2 ^ (32 - n)) (n := 32) (by omega) h1
  unfold rotw
  omega
/-- Four words. -/
structure Q4w where
  a : Int
  b : Int
  c : Int
  d : Int
def half (r1 r2 : Nat) (q : Q4w) : Q4w :=
  ⟨addw q.a q.b, rotw (xorw q.b (addw q.c (rotw (xorw q.d (addw q.a q.b)) r1))) r2, addw q.c (rotw (xorw q.d (addw q.a q.b)) r1), rotw (xorw q.d (addw q.a q.b)) r1⟩
/-- A quarter round. -/
def quart (q : Q4w) : Q4w := half 8 7 (half 16 12 q)
structure Q4w.ok (q : Q4w) : Prop where
  a : W32 q.a
  b : W32 q.b
  c : W32 q.c
  d : W32 q.d
theorem half_ok {r1 r2 : Nat} {q : Q4w} (h : q.ok) : (half r1 r2 q).ok := by
  have h1 := rotw_w r1 (xorw_w h.d (addw_w q.a q.b))
  exact ⟨addw_w _ _, rotw_w _ (xorw_w h.b (addw_w _ _)), addw_w _ _, h1⟩
theorem quart_ok {q : Q4w} (h : q.ok) : (quart q).ok := half_ok (half_ok h)
/-- The words at four places, behind a quarter round of them. -/
def qrow (s : Nat → Int) (a b c d : Nat) : Nat → Int :=
  upd (upd (upd (upd s a (quart ⟨s a, s b, s c, s d⟩).a) b (quart ⟨s a, s b, s c, s d⟩).b) c (quart ⟨s a, s b, s c, s d⟩).c) d (quart ⟨s a, s b, s c, s d⟩).d
theorem or_rotw (x : Int) (n : Nat) (hx : W32 x) (p q : Int) (hp : p = ((2 ^ n : Nat) : Int)) (hq : q = ((2 ^ (32 - n) : Nat) : Int)) : bits .or .u32 (x * p % 4294967296) (x / q) = rotw x n := by
  unfold W32 at hx
  obtain ⟨m, rfl⟩ := Int.eq_ofNat_of_zero_le hx.1
  subst hp; subst hq
  have e1 : (m : Int) * ((2 ^ n : Nat) : Int) % 4294967296 = ((m * 2 ^ n % 4294967296 : Nat) : Int) := by simp
  have e2 : (m : Int) / ((2 ^ (32 - n) : Nat) : Int) = ((m / 2 ^ (32 - n) : Nat) : Int) := by simp
  rw [e1, e2, u32_or_nat _ _ (Nat.mod_lt _ (by decide)) (Nat.lt_of_le_of_lt (Nat.div_le_self _ _) (by omega))]
  simp [rotw]
end Go.Proofs.YtbkbcfimpaolmaaGreat
/-
  Own text. What bits.RotateLeft32 and the quarter round of package chacha give; the fixed answer (awake).
-/
namespace Go.Proofs.YtbkbcfimpaolmaaGreat
open Go.RowKit Go.Proofs
set_option maxRecDepth 100000
theorem rot_run (x : Int) (n : Nat) (w : World) (hx : W32 x) (hn : n = 7 ∨ n = 8 ∨ n = 12 ∨ n = 16) :
    Calls Tryz.prog 111 #[.int .u32 x, .int .i64 n] w fun e w' => e = .returned (.int .u32 (rotw x n)) ∧ w' = w := by
  have key : ∀ p q : Int, p = ((2 ^ n : Nat) : Int) → q = ((2 ^ (32 - n) : Nat) : Int) → bits .or .u32 (x * p % 4294967296) (x / q) = rotw x n := fun p q => or_rotw x n hx p q
  unfold W32 at hx
  go_enter Tryz.func111, Tryz.ntmps111
  rcases hn with rfl | rfl | rfl | rfl
  · have e1 : bits .and .u64 7 31 = 7 := by decide
    have e2 := key 128 33554432 (by decide) (by decide)
    go_wp2
    go_ret
    exact ⟨rfl, rfl⟩
  · have e1 : bits .and .u64 8 31 = 8 := by decide
    have e2 := key 256 16777216 (by decide) (by decide)
    go_wp2
    go_ret
    exact ⟨rfl, rfl⟩
  · have e1 : bits .and .u64 12 31 = 12 := by decide
    have e2 := key 4096 1048576 (by decide) (by decide)
    go_wp2
    go_ret
    exact ⟨rfl, rfl⟩
  · have e1 : bits .and .u64 16 31 = 16 := by decide
    have e2 := key 65536 65536 (by decide) (by decide)
    go_wp2
    go_ret
    exact ⟨rfl, rfl⟩
theorem quarter_run (a b c d : Int) (w : World) (_ha : W32 a) (hb : W32 b) (_hc : W32 c) (hd : W32 d) :
    Calls Tryz.prog 104 #[.int .u32 a, .int .u32 b, .int .u32 c, .int .u32 d] w fun e w' =>
      e = .returned (.tuple #[.int .u32 (quart ⟨a, b, c, d⟩).a, .int .u32 (quart ⟨a, b, c, d⟩).b, .int .u32 (quart ⟨a, b, c, d⟩).c, .int .u32 (quart ⟨a, b, c, d⟩).d]) ∧ w' = w := by
  unfold quart half
  dsimp only
  obtain ⟨a1, h1⟩ : ∃ y, addw a b = y := ⟨_, rfl⟩
  rw [h1]
  have ha1 := h1 ▸ addw_w a b
  obtain ⟨x1, g1⟩ : ∃ y, xorw d a1 = y := ⟨_, rfl⟩
  rw [g1]
  have hx1 := g1 ▸ xorw_w hd ha1
  rw [← xor_u32 hd ha1] at g1
  obtain ⟨d1, k1⟩ : ∃ y, rotw x1 16 = y := ⟨_, rfl⟩
  rw [k1]
  have hd1 := k1 ▸ rotw_w 16 hx1
  obtain ⟨c1, h2⟩ : ∃ y, addw c d1 = y := ⟨_, rfl⟩
  rw [h2]
  have hc1 := h2 ▸ addw_w c d1
  obtain ⟨x2, g2⟩ : ∃ y, xorw b c1 = y := ⟨_, rfl⟩
  rw [g2]
  have hx2 := g2 ▸ xorw_w hb hc1
  rw [← xor_u32 hb hc1] at g2
  obtain ⟨b1, k2⟩ : ∃ y, rotw x2 12 = y := ⟨_, rfl⟩
  rw [k2]
  have hb1 := k2 ▸ rotw_w 12 hx2
  obtain ⟨a2, h3⟩ : ∃ y, addw a1 b1 = y := ⟨_, rfl⟩
  rw [h3]
  have ha2 := h3 ▸ addw_w a1 b1
  obtain ⟨x3, g3⟩ : ∃ y, xorw d1 a2 = y := ⟨_, rfl⟩
  rw [g3]
  have hx3 := g3 ▸ xorw_w hd1 ha2
  rw [← xor_u32 hd1 ha2] at g3
  obtain ⟨d2, k3⟩ : ∃ y, rotw x3 8 = y := ⟨_, rfl⟩
  rw [k3]
  have hd2 := k3 ▸ rotw_w 8 hx3
  obtain ⟨c2, h4⟩ : ∃ y, addw c1 d2 = y := ⟨_, rfl⟩
  rw [h4]
  have hc2 := h4 ▸ addw_w c1 d2
  obtain ⟨x4, g4⟩ : ∃ y, xorw b1 c2 = y := ⟨_, rfl⟩
  rw [g4]
  have hx4 := g4 ▸ xorw_w hb1 hc2
  rw [← xor_u32 hb1 hc2] at g4
  obtain ⟨b2, k4⟩ : ∃ y, rotw x4 7 = y := ⟨_, rfl⟩
  rw [k4]
  unfold addw at h1 h2 h3 h4
  have r1 : Calls Tryz.prog 111 #[.int .u32 x1, .int .i64 16] w fun e w' => e = .returned (.int .u32 (rotw x1 16)) ∧ w' = w := rot_run x1 16 w hx1 (by decide)
  have r2 : Calls Tryz.prog 111 #[.int .u32 x2, .int .i64 12] w fun e w' => e = .returned (.int .u32 (rotw x2 12)) ∧ w' = w := rot_run x2 12 w hx2 (by decide)
  have r3 : Calls Tryz.prog 111 #[.int .u32 x3, .int .i64 8] w fun e w' => e = .returned (.int .u32 (rotw x3 8)) ∧ w' = w := rot_run x3 8 w hx3 (by decide)
  have r4 : Calls Tryz.prog 111 #[.int .u32 x4, .int .i64 7] w fun e w' => e = .returned (.int .u32 (rotw x4 7)) ∧ w' = w := rot_run x4 7 w hx4 (by decide)
  rw [k1] at r1; rw [k2] at r2; rw [k3] at r3; rw [k4] at r4
  clear k1 k2 k3 k4
  unfold W32 at *
  go_enter Tryz.func104, Tryz.ntmps104
  go_wp2_with fail
  refine r1.mono ?_
  rintro e w1 ⟨rfl, rfl⟩
  go_wp2_with fail
  refine r2.mono ?_
  rintro e w2 ⟨rfl, rfl⟩
  go_wp2_with fail
  refine r3.mono ?_
  rintro e w3 ⟨rfl, rfl⟩
  go_wp2_with fail
  refine r4.mono ?_
  rintro e w4 ⟨rfl, rfl⟩
  go_wp2_with fail
  exact bodyPost_ret (v := .tuple #[.int .u32 a2, .int .u32 b2, .int .u32 c2, .int .u32 d2]) (by simp [results, Tryz.results104, go_sem]) rfl ⟨rfl, rfl⟩
theorem awake_quart : quart ⟨286331153, 16909060, 2609737539, 19088743⟩ = ⟨3928658676, 3407673550, 1166100270, 1484899515⟩ := by kernel_rfl
end Go.Proofs.YtbkbcfimpaolmaaGreat
/-
  Own text. What goes into a quarter round comes again, line by line backwards: the walk of the law ChachaTurnsBack.
-/
namespace Go.Proofs.YtbkbcfimpaolmaaGreat
open Go.RowKit Go.Proofs
set_option maxRecDepth 100000
theorem rotw_num (x : Nat) (n : Nat) (hn : n ≤ 32) (hx : x < 4294967296) : rotw (x : Int) n = ((x % 2 ^ (32 - n) * 2 ^ n + x / 2 ^ (32 - n) : Nat) : Int) := by
  unfold rotw
  simp only [Int.toNat_natCast]
  congr 1
  have e : 4294967296 = 2 ^ (32 - n) * 2 ^ n := by rw [← Nat.pow_add]; rw [show 32 - n + n = 32 by omega]
  have h1 : x * 2 ^ n % 4294967296 = x % 2 ^ (32 - n) * 2 ^ n := by rw [e, Nat.mul_mod_mul_right]
  have h2 : x / 2 ^ (32 - n) < 2 ^ n := by
    apply Nat.div_lt_of_lt_mul
    rw [← e]; exact hx
  rw [h1, Nat.mul_comm, ← Nat.two_pow_add_eq_or_of_lt h2]
theorem rot_back (x : Int) (n : Nat) (hx : W32 x) (hn : n = 7 ∨ n = 8 ∨ n = 12 ∨ n = 16) : rotw (rotw x n) (32 - n) = x := by
  unfold W32 at hx
  obtain ⟨m, rfl⟩ := Int.eq_ofNat_of_zero_le hx.1
  have hm : m < 4294967296 := by omega
  rcases hn with rfl | rfl | rfl | rfl
  · rw [rotw_num m 7 (by omega) hm]
    generalize hy : m % 2 ^ (32 - 7) * 2 ^ 7 + m / 2 ^ (32 - 7) = y
    rw [rotw_num y _ (by omega) (by omega)]
    simp at hy ⊢
    omega
  · rw [rotw_num m 8 (by omega) hm]
    generalize hy : m % 2 ^ (32 - 8) * 2 ^ 8 + m / 2 ^ (32 - 8) = y
    rw [rotw_num y _ (by omega) (by omega)]
    simp at hy ⊢
    omega
  · rw [rotw_num m 12 (by omega) hm]
    generalize hy : m % 2 ^ (32 - 12) * 2 ^ 12 + m / 2 ^ (32 - 12) = y
    rw [rotw_num y _ (by omega) (by omega)]
    simp at hy ⊢
    omega
  · rw [rotw_num m 16 (by omega) hm]
    generalize hy : m % 2 ^ (32 - 16) * 2 ^ 16 + m / 2 ^ (32 - 16) = y
    rw [rotw_num y _ (by omega) (by omega)]
    simp at hy ⊢
    omega
theorem u32_or_comm {x y : Int} (hx : W32 x) (hy : W32 y) : bits .or .u32 x y = bits .or .u32 y x := by
  rw [u32_or x y hx.1 hx.2 hy.1 hy.2, u32_or y x hy.1 hy.2 hx.1 hx.2, Nat.or_comm]
theorem or_back (x : Int) (n : Nat) (p q : Int) (hx : W32 x) (hn : n = 7 ∨ n = 8 ∨ n = 12 ∨ n = 16) (hp : p = ((2 ^ n : Nat) : Int)) (hq : q = ((2 ^ (32 - n) : Nat) : Int)) :
    bits .or .u32 (rotw x n / p) (rotw x n * q % 4294967296) = x := by
  have hy := rotw_w n hx
  have h := or_rotw (rotw x n) (32 - n) hy q p hq (by rw [hp]; rcases hn with rfl | rfl | rfl | rfl <;> rfl)
  rw [rot_back x n hx hn] at h
  rw [u32_or_comm, h]
  · unfold W32 at *
    refine ⟨Int.ediv_nonneg hy.1 (by rw [hp]; exact Int.natCast_nonneg _), ?_⟩
    have := Int.ediv_le_self p hy.1
    omega
  · unfold W32; omega
theorem addw_back {x y : Int} (hx : W32 x) : (addw x y - y) % 4294967296 = x := by
  unfold addw W32 at *
  omega
end Go.Proofs.YtbkbcfimpaolmaaGreat
/-
  Own text. Rows of numbers in memory (the first n cells of a block), and steps over them for regions that leave their order open.
-/
namespace Go.Proofs.YtbkbcfimpaolmaaGreat
open Go.RowKit Go.Proofs
set_option maxRecDepth 100000
theorem exec_rem {a : Act} {o : Oper} {w : World} {x : Operand} (ho : o.op = .binOp .rem 3 x (.const (.int .i64 4294967296)) 3) {m : Int} (hx : a.eval x = .int .i64 m) (h0 : 0 ≤ m) (_h1 : m < 9223372036854775808) :
    (execOp a.eval o).run Tryz.prog w = .ok (.value (.int .i64 (m % 4294967296))) w :=
  exec_bin ho rfl hx rfl (by
    have e : Int.tmod m 4294967296 = m % 4294967296 := Int.tmod_eq_emod_of_nonneg h0
    simp [go_sem, e])
end Go.Proofs.YtbkbcfimpaolmaaGreat
/-
  Own text. What turn of the document's answer gives.
-/
namespace Go.Proofs.YtbkbcfimpaolmaaGreat
open Go.RowKit Go.Proofs
set_option maxRecDepth 100000
theorem or_rotw64 (x : Int) (n : Nat) (hx : W32 x) (p q : Int) (hp : p = ((2 ^ n : Nat) : Int)) (hq : q = ((2 ^ (32 - n) : Nat) : Int)) : bits .or .i64 (x * p % 4294967296) (x / q) = rotw x n := by
  unfold W32 at hx
  obtain ⟨m, rfl⟩ := Int.eq_ofNat_of_zero_le hx.1
  subst hp; subst hq
  have e1 : (m : Int) * ((2 ^ n : Nat) : Int) % 4294967296 = ((m * 2 ^ n % 4294967296 : Nat) : Int) := by simp
  have e2 : (m : Int) / ((2 ^ (32 - n) : Nat) : Int) = ((m / 2 ^ (32 - n) : Nat) : Int) := by simp
  have h1 := Nat.mod_lt (m * 2 ^ n) (show 4294967296 > 0 by decide)
  have h2 : m / 2 ^ (32 - n) < 4294967296 := Nat.lt_of_le_of_lt (Nat.div_le_self _ _) (by omega)
  rw [e1, e2, i64_or ⟨Int.natCast_nonneg _, Int.ofNat_lt.2 h1⟩ ⟨Int.natCast_nonneg _, Int.ofNat_lt.2 h2⟩]
  simp only [Int.toNat_natCast, rotw]
theorem turn_run (x : Int) (n : Nat) (w : World) (hx : W32 x) (hn : n = 7 ∨ n = 8 ∨ n = 12 ∨ n = 16) :
    Calls Tryz.prog 110 #[.int .i64 x, .int .i64 n] w fun e w' => e = .returned (.int .i64 (rotw x n)) ∧ Below w.heap.size w w' := by
  have key : ∀ p q : Int, p = ((2 ^ n : Nat) : Int) → q = ((2 ^ (32 - n) : Nat) : Int) → bits .or .i64 (x * p % 4294967296) (x / q) = rotw x n := fun p q => or_rotw64 x n hx p q
  unfold W32 at hx
  go_enter Tryz.func110, Tryz.ntmps110
  rcases hn with rfl | rfl | rfl | rfl
  · have e2 := key 128 33554432 (by decide) (by decide)
    have e3 : (x * 128).tmod 4294967296 = x * 128 % 4294967296 := Int.tmod_eq_emod_of_nonneg (by omega)
    go_wp2
    go_region
    go_wp2
    go_ret
    exact ⟨rfl, (Below.refl _ _).drew⟩
  · have e2 := key 256 16777216 (by decide) (by decide)
    have e3 : (x * 256).tmod 4294967296 = x * 256 % 4294967296 := Int.tmod_eq_emod_of_nonneg (by omega)
    go_wp2
    go_region
    go_wp2
    go_ret
    exact ⟨rfl, (Below.refl _ _).drew⟩
  · have e2 := key 4096 1048576 (by decide) (by decide)
    have e3 : (x * 4096).tmod 4294967296 = x * 4096 % 4294967296 := Int.tmod_eq_emod_of_nonneg (by omega)
    go_wp2
    go_region
    go_wp2
    go_ret
    exact ⟨rfl, (Below.refl _ _).drew⟩
  · have e2 := key 65536 65536 (by decide) (by decide)
    have e3 : (x * 65536).tmod 4294967296 = x * 65536 % 4294967296 := Int.tmod_eq_emod_of_nonneg (by omega)
    go_wp2
    go_region
    go_wp2
    go_ret
    exact ⟨rfl, (Below.refl _ _).drew⟩
end Go.Proofs.YtbkbcfimpaolmaaGreat
