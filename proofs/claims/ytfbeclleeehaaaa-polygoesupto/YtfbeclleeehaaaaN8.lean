/-
  Own text. What numberOf of package poly answers: a contract over the translation.
-/
import Derived.Test.YtfbeclleeehaaaaN7
namespace Go.Proofs.Ytfbeclleeehaaaa
open Go.RowKit Go.Proofs
/-- The bytes of a block, and a byte 1 behind them. -/
def mkd (r : Nat → Int) (n : Nat) : Nat → Int := upd (over (fun _ => 0) 0 n r) n 1
def nblk (r : Nat → Int) (n : Nat) : Nat → Int := lofs (dval (mkd r n) 8) (dval (fun j => mkd r n (8 + j)) 8) (mkd r n 16)
theorem mkd_b {r : Nat → Int} {n : Nat} (hr : Byts n r) (i : Nat) : 0 ≤ mkd r n i ∧ mkd r n i < 256 := by
  unfold mkd upd over
  split
  · omega
  split
  · exact hr _ (by omega)
  · show 0 ≤ (0 : Int) ∧ (0 : Int) < 256
    omega
theorem mkd_top {r : Nat → Int} {n : Nat} (hn : n ≤ 16) : 0 ≤ mkd r n 16 ∧ mkd r n 16 < 4 := by
  unfold mkd upd over
  split
  · omega
  rw [if_neg (by omega)]
  show 0 ≤ (0 : Int) ∧ (0 : Int) < 4
  omega
theorem mkd_num (r : Nat → Int) {n : Nat} (hn : n ≤ 16) : dval (mkd r n) 17 = dval r n + 256 ^ n := by
  have h0 : over (fun _ => 0) 0 n r n = 0 := by unfold over; rw [if_neg (by omega)]
  unfold mkd
  rw [dval_upd (by omega), h0, dval_tail (n := n) (by omega) (fun i h1 _ => by unfold over; rw [if_neg (by omega)])]
  rw [dval_congr (t := r) (fun i hi => by unfold over; rw [if_pos (by omega), Nat.sub_zero])]
  omega
theorem nblk_num {r : Nat → Int} {n : Nat} (hn : n ≤ 16) : qv (nblk r n) 5 = dval r n + 256 ^ n := by
  have h := dval_shift (mkd r n) 8 9
  have h2 : dval (fun j => mkd r n (8 + j)) 9 = dval (fun j => mkd r n (8 + j)) 8 + 256 ^ 8 * mkd r n 16 := rfl
  rw [show (8 + 9 : Nat) = 17 from rfl, mkd_num r hn, h2] at h
  unfold nblk
  rw [lofs_num, h]
  simp only [Int.reducePow]
  omega
theorem nblk_dg {r : Nat → Int} {n : Nat} (hr : Byts n r) (hn : n ≤ 16) : Dg 67108864 5 (nblk r n) := lofs_dg (dval8_b fun i _ => mkd_b hr i) (dval8_b fun i _ => mkd_b hr (8 + i)) (mkd_top hn)
theorem enterWord (args : Array Value) (w : World) : (callFunc 18 args).run Try.prog w = .ok (.enter 18 args) w := by kernel_rfl
theorem enterLimbs (args : Array Value) (w : World) : (callFunc 17 args).run Try.prog w = .ok (.enter 17 args) w := by kernel_rfl
theorem len17 : Try.prog.arrayLen 62 = 17 := by kernel_rfl
theorem sizeB17 (w : World) : (sizeOf (Try.prog.elem 62)).run Try.prog w = .ok 1 w := by kernel_rfl
theorem sl17 (b : Nat) (w : World) : (Instr.sliceAt 62 (.pointer (some ⟨b, 0, none⟩)) none none none).run Try.prog w = .ok (.slice (some ⟨b, 0, none⟩) 17 17) w := by simp [go_sem]
theorem sl17a (b : Nat) (w : World) : (Instr.sliceAt 62 (.pointer (some ⟨b, 0, none⟩)) none (some (.int .i64 8)) none).run Try.prog w = .ok (.slice (some ⟨b, 0, none⟩) 8 17) w := by simp [go_sem]
theorem sl17b (b : Nat) (w : World) : (Instr.sliceAt 62 (.pointer (some ⟨b, 0, none⟩)) (some (.int .i64 8)) (some (.int .i64 16)) none).run Try.prog w = .ok (.slice (some ⟨b, 8, none⟩) 8 9) w := by simp [go_sem]
theorem exec_slLH {a : Act} {o : Oper} {w : World} {x y z : Operand} {t : TypeId} (ho : o.op = .slice t x (some y) (some z) none) {v u u' r : Value} (hx : a.eval x = v) (hy : a.eval y = u) (hz : a.eval z = u') (hr : (Instr.sliceAt t v (some u) (some u') none).run Try.prog w = .ok r w) : (execOp a.eval o).run Try.prog w = .ok (.value r) w := by
  unfold execOp
  simp [ho, hx, hy, hz, hr]
theorem conv_bu {n : Int} (h : 0 ≤ n ∧ n < 256) (w : World) : (convert 5 38 (.int .u8 n)).run Try.prog w = .ok (.int .u64 n) w := by
  simp [go_sem, w64 (z := n) (by omega) (by omega)]
theorem act_arr {o : Oper} {a : Act} {w : World} {K : Act → World → Prop} {Q : Exit → Act → World → Prop} {x y : Operand} {ty : TypeId} {g n : Nat} {k k' : IntKind} {s s' : Nat → Int} (ho : o.op = .store ty x y)
    (hA : IsArr ty n) (hx : a.eval x = .pointer (some ⟨g, 0, none⟩)) (hy : a.eval y = .agg (WA k n s)) (hg : ArrAt w g k' ty n s')
    (h : ∀ w2, ArrAt w2 g k ty n s → Only g w w2 → K (a.put o.dst undef) w2) : o.wp Try.prog a w K Q := by
  obtain ⟨_, _, _, h3⟩ := hA
  have hrun := run_storeVar_row (P := Try.prog) w g ty ty (WA k' n s') (WA k n s) hg (by rw [WA_size]; exact h3) (by rw [WA_size, WA_size]) (WA_one k n s)
  unfold Oper.wp execOp
  simp only [ho, hx, hy, Instr.storeAt, Instr.sureAddr, Sem.run_bind, Sem.run_pure, Result.andThen_ok, hrun]
  exact h _ (setRow_heap w g (WA k' n s') (WA k n s) ty (0, 0) hg) (only_setRow w g _)
theorem wl_copy {ops : Array Oper} {rest : List Oper} {dt : Option Tmp} {d s' : Operand} {ty : TypeId} {ps : String} {af : Array Edge} {a : Act} {w : World} {Q : Exit → Act → World → Prop}
    {g off dL dC b f sL sC n m : Nat} {t : TypeId} {s r : Nat → Int} (hd : a.eval d = .slice (some ⟨g, off, none⟩) dL dC) (hs : a.eval s' = .slice (some ⟨b, f, none⟩) sL sC) (hg : ArrAt w g .u8 t n s) (hm : m = Nat.min sL dL) (hfit : off + m ≤ n) (hr : ∀ j, j < m → w.cell? ⟨b, f + j, none⟩ = some (.int .u8 (r j)))
    (h : ∀ w', ArrAt w' g .u8 t n (over s off m r) → Only g w w' → wpList Try.prog ops Q rest (a.put dt (goInt m)) w') :
    wpList Try.prog ops Q ({ dst := dt, op := .call { callee := .builtin .copy, args := #[d, s'], argTypes := #[36, 36] }, type := ty, pos := ps, after := af, guard := none } :: rest) a w :=
  wl_act rfl (act_copy rfl hd hs hg hm hfit hr h)
set_option maxHeartbeats 4000000 in
set_option maxRecDepth 100000 in
theorem numberOf_run (b f n c : Nat) (r : Nat → Int) (w : World) (hn : n ≤ 16) (hr : Byts n r) (hc : ∀ j, j < n → w.cell? ⟨b, f + j, none⟩ = some (.int .u8 (r j))) (hb : b < w.heap.size) :
    Calls Try.prog 24 #[.slice (some ⟨b, f, none⟩) n c] w fun e w' => e = .returned (.agg (WA .u64 5 (nblk r n))) ∧ Below w.heap.size w w' := by
  have g0 : ArrAt ((w.alloc (.cells (WA .u64 5 fun _ => 0) 40)).alloc (.cells (WA .u8 17 fun _ => 0) 62)) w.heap.size .u64 40 5 (fun _ => 0) := heap_alloc2_old w _ _
  have g1 : ArrAt ((w.alloc (.cells (WA .u64 5 fun _ => 0) 40)).alloc (.cells (WA .u8 17 fun _ => 0) 62)) (w.heap.size + 1) .u8 62 17 (fun _ => 0) := heap_alloc2_new w _ _
  have hB : Below w.heap.size w ((w.alloc (.cells (WA .u64 5 fun _ => 0) 40)).alloc (.cells (WA .u8 17 fun _ => 0) 62)) := ((Below.refl _ w).alloc (by simp) _).alloc (by simp) _
  have hc2 : ∀ j, j < n → (((w.alloc (.cells (WA .u64 5 fun _ => 0) 40)).alloc (.cells (WA .u8 17 fun _ => 0) 62)) : World).cell? ⟨b, f + j, none⟩ = some (.int .u8 (r j)) := fun j hj => (hB.cell hb).trans (hc j hj)
  have HM8 : Hid (Byts 8 (mkd r n)) := Hid.mk (fun i _ => mkd_b hr i)
  have HM16 : Hid (Byts 8 (fun j => mkd r n (8 + j))) := Hid.mk (fun i _ => mkd_b hr (8 + i))
  have HT := Hid.mk (mkd_b hr 16)
  have HT4 := Hid.mk (mkd_top (r := r) hn)
  have hnL : (n : Int) < 17 := by omega
  clear hc
  go_enter Try.func24, Try.ntmps24
  go_wp2_with (refine wl_copy (by rfl) (by rfl) g1 (m := n) (r := r) (by show n = min n 17; omega) (by omega) hc2 ?_; intro v1 g2 o2; refine Hid.out ?_)
  replace g0 := g0.only o2 (by omega)
  replace hB := hB.trans (o2.below (by omega))
  clear o2 g1 hc2
  have c1 := g2.cell n (by omega)
  have f1 := g2.free n
  have g1 := g2.set n 1 (by omega)
  replace g0 := g0.other (g := (w.heap.size + 1)) (i := n) (.int .u8 1) (by omega)
  replace hB := Below.setCell (p := ⟨(w.heap.size + 1), n, none⟩) hB (by simp) (.int .u8 1)
  clear g2
  refine Hid.mk ?_
  go_wp2_with fail
  clear c1 f1
  refine wp_gen (fun v => ArrAt v w.heap.size .u64 40 5 (fun _ => 0) ∧ ArrAt v (w.heap.size + 1) .u8 62 17 (mkd r n) ∧ Below w.heap.size w v) ⟨g0, g1, hB⟩ ?_
  clear g0 g1 hB
  rintro v2 ⟨g0, g1, hB⟩
  refine wp_region3 (Below w.heap.size w) v2.heap.size
    [((w.heap.size + 1), fixd (WA .u8 17 (mkd r n)) 62), (w.heap.size, once (WA .u64 5 (fun _ => 0)) 40 8 (WA .u64 5 (nblk r n)))]
    [kv (.slice (some ⟨(w.heap.size + 1), 0, none⟩) 8 17), kv (.int .u64 (dval (mkd r n) 8)), kv (.slice (some ⟨(w.heap.size + 1), 8, none⟩) 8 9), kv (.int .u64 (dval (fun j => mkd r n (8 + j)) 8)), kv (.pointer (some ⟨(w.heap.size + 1), 16, none⟩)), kv (.int .u8 (mkd r n 16)), kv (.int .u64 (mkd r n 16)), kv (.agg (WA .u64 5 (nblk r n))), .val fun _ => True]
    [.none, .none, .none, .none, .none, .none, .none, .none, .base 1 1]
    [some 10, some 11, some 12, some 13, some 14, some 15, some 16, some 17, none]
    [(3, .pointer (some ⟨(w.heap.size + 1), 0, none⟩)), (2, .pointer (some ⟨w.heap.size, 0, none⟩))]
    [[], [.slot 0, .base 0 0], [], [.slot 2, .base 0 0], [], [.slot 4, .base 0 0], [.slot 5], [.slot 1, .slot 3, .slot 6], [.base 1 0, .slot 7]]
    [.base 0 0, .base 1 1] [10, 11, 12, 13, 14, 15, 16, 17]
    rfl (by kernel_rfl) ⟨rfl, rfl, trivial⟩ (Below.drew hB) (Nat.le_refl _) ⟨⟨g1.lt, obIn g1⟩, ⟨g0.lt, obIn g0⟩, trivial⟩ ⟨⟨(show ((w.heap.size + 1) : Nat) ≠ w.heap.size from by omega), trivial⟩, trivial, trivial⟩ (below_G hB.size ⟨by omega, by omega, trivial⟩)
    ⟨
      -- 0
      (fun Q aq ww own hS hBg fr kn => .inl ⟨trivial, fun K hK => wp_value (exec_slH rfl fr.1 rfl (sl17a _ _)) (hK _ _ ⟨Touch.refl _ _, rfl⟩)⟩),
      -- 1
      (fun Q aq ww own hS hBg fr kn => .inl ⟨trivial, fun K hK => stepc enterWord rfl (args1 kn.1) (pword_run (w.heap.size + 1) 0 17 (mkd r n) ww HM8.out (fun j hj => by rw [Nat.zero_add]; exact ArrAt.cell (obAt kn.2.1) j (by omega))) (fun w' hb => hK _ _ ⟨touch_below hb, rfl⟩)⟩),
      -- 2
      (fun Q aq ww own hS hBg fr kn => .inl ⟨trivial, fun K hK => wp_value (exec_slLH rfl fr.1 rfl rfl (sl17b _ _)) (hK _ _ ⟨Touch.refl _ _, rfl⟩)⟩),
      -- 3
      (fun Q aq ww own hS hBg fr kn => .inl ⟨trivial, fun K hK => stepc enterWord rfl (args1 kn.1) (pword_run (w.heap.size + 1) 8 9 (fun j => mkd r n (8 + j)) ww HM16.out (fun j hj => ArrAt.cell (obAt kn.2.1) (8 + j) (by omega))) (fun w' hb => hK _ _ ⟨touch_below hb, rfl⟩)⟩),
      -- 4
      (fun Q aq ww own hS hBg fr kn => .inl ⟨trivial, fun K hK => wp_value (exec_idxA (i := 16) rfl Try.underlying62 len17 sizeB17 fr.1 rfl (by decide)) (hK _ _ ⟨Touch.refl _ _, rfl⟩)⟩),
      -- 5
      (fun Q aq ww own hS hBg fr kn => .inl ⟨trivial, fun K hK => wp_value (exec_ld rfl kn.1 (run_load8 (ArrAt.cell (obAt kn.2.1) 16 (by decide)))) (hK _ _ ⟨Touch.refl _ _, rfl⟩)⟩),
      -- 6
      (fun Q aq ww own hS hBg fr kn => .inl ⟨trivial, fun K hK => wp_value (exec_conv rfl kn.1 (conv_bu HT.out _)) (hK _ _ ⟨Touch.refl _ _, rfl⟩)⟩),
      -- 7
      (fun Q aq ww own hS hBg fr kn => .inl ⟨trivial, fun K hK => stepc enterLimbs rfl (args3 kn.1 kn.2.1 kn.2.2.1) (limbsOf_run _ _ _ ww (dval8_b HM8.out) (dval8_b HM16.out) HT4.out) (fun w' hb => hK _ _ ⟨touch_below hb, rfl⟩)⟩),
      -- 8
      (fun Q aq ww own hS hBg fr kn => .inl ⟨trivial, fun K hK => act_arr rfl isL fr.2.1 kn.2.1 (obAt kn.1) (fun w2 hg ho => hK _ _ ⟨⟨touch_only ho, obIn hg⟩, trivial⟩)⟩),
      trivial⟩ ?_
  intro vs own v3 hB3 hs3 kn inj
  clear inj hs3 g0 g1 hB
  have g0 : ArrAt v3 w.heap.size .u64 40 5 (nblk r n) := obAt kn.2.1
  clear kn
  simp only [putAll, Act.put, List.setIfInBounds_toArray, List.set_cons_zero, List.set_cons_succ]
  go_wp2_with fail
  exact bodyPost_ret (res_arr Try.results24 isL g0 (by rfl)) rfl ⟨rfl, hB3⟩
end Go.Proofs.Ytfbeclleeehaaaa
