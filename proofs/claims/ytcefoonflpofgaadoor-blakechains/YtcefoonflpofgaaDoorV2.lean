/-
  Own text. The walk of the law BlakeChains.
-/
import Derived.Test.YtcefoonflpofgaaDoorJ5
namespace Go.Proofs.YtcefoonflpofgaaDoor
open Go.RowKit Go.Proofs
theorem enterAwakeB (args : Array Value) (w : World) : (callFunc 11 args).run Tryd.prog w = .ok (.enter 11 args) w := by kernel_rfl
theorem neq_WA {a : Act} {o : Oper} {w : World} {x y : Operand} {t u : TypeId} {n : Nat} (ho : o.op = .binOp .neq t x y u) (ht : Tryd.prog.underlying t = some (.array n 5)) (hg : Tryd.prog.eqGuardType Tryd.prog.depth t = false) {s : Nat → Int} (hx : a.eval x = .agg (WA .u8 n s)) (hy : a.eval y = .agg (WA .u8 n s)) :
    (execOp a.eval o).run Tryd.prog w = .ok (.value (.bool false)) w := by
  unfold execOp
  simp only [ho, hx, hy, Sem.run_bind, run_eqGuard_agg w .neq t x y _ _ hg, Result.andThen_ok, run_neq_struct, equal_WA ht s 9998 w, Sem.run_pure]
  rfl
theorem exec_eqE {a : Act} {o : Oper} {w : World} {x y : Operand} (ho : o.op = .binOp .eql 29 x y 29) {m : Int} (hx : a.eval x = .int .i64 m) (hy : a.eval y = .int .i64 m) : (execOp a.eval o).run Tryd.prog w = .ok (.value (.bool true)) w := exec_bin2 ho hx hy rfl (by simp [go_sem])
theorem exec_lenR {a : Act} {o : Oper} {w : World} {x : Operand} (ho : o.op = .call { callee := .builtin .len, args := #[x], argTypes := #[37] }) {ad : Option Addr} {n c : Nat} (hx : a.eval x = .slice ad n c) : (execOp a.eval o).run Tryd.prog w = .ok (.value (.int .i64 (n : Int))) w := by
  have hr : (Builtin.len_ #[37] o.type #[.slice ad n c]).run Tryd.prog w = .ok (goInt n) w := by simp [go_sem]
  simp [execOp, ho, resolve, invoke, builtin, hx, hr, goInt]
theorem sizeR (w : World) : (sizeOf (Tryd.prog.elem 37)).run Tryd.prog w = .ok 32 w := by kernel_rfl
theorem exec_idx32 {a : Act} {o : Oper} {w : World} {x y : Operand} (ho : o.op = .indexAddr 37 x y) {b n c i : Nat} (hx : a.eval x = .slice (some ⟨b, 0, none⟩) n c) (hy : a.eval y = .int .i64 (i : Int)) (hi : i < n) : (execOp a.eval o).run Tryd.prog w = .ok (.value (.pointer (some ⟨b, i * 32, none⟩))) w := by
  unfold execOp
  simp only [ho, hx, hy, Sem.run_bind]
  rw [run_indexAt_slice w 37 _ n c .i64 (i : Int) Tryd.underlying37, if_pos ⟨by omega, by omega⟩, sizeR]
  simp [Addr.add_lit]
/-- Of n arrays of 32 bytes in a block those from i on. -/
structure RowsAt (w : World) (g n i : Nat) (f : Nat → Nat → Int) : Prop where
  ex : ∃ cur, w.heap[g]? = some (.cells cur 23 (0, 0)) ∧ n * 32 ≤ cur.size ∧ ∀ j, i ≤ j → j < n → ∀ q, q < 32 → cur[j * 32 + q]? = some (.int .u8 (f j q))
theorem RowsAt.block {w w' : World} {g n i : Nat} {f : Nat → Nat → Int} (h : RowsAt w g n i f) (e : w'.heap[g]? = w.heap[g]?) : RowsAt w' g n i f := by
  obtain ⟨cur, h1, h2, h3⟩ := h.ex
  exact ⟨cur, e.trans h1, h2, h3⟩
theorem RowsAt.lt {w : World} {g n i : Nat} {f : Nat → Nat → Int} (h : RowsAt w g n i f) : g < w.heap.size := by
  obtain ⟨cur, h1, h2, h3⟩ := h.ex
  exact heap_lt h1
theorem RowsAt.kept {w w' : World} {g n i : Nat} {f : Nat → Nat → Int} (h : RowsAt w g n i f) (hb : Below w.heap.size w w') : RowsAt w' g n i f := h.block (hb.block g h.lt)
theorem RowsAt.only {w w' : World} {g b n i : Nat} {f : Nat → Nat → Int} (h : RowsAt w g n i f) (ho : Only b w w') (hg : g ≠ b) : RowsAt w' g n i f := h.block (ho.block g hg)
theorem RowsAt.range {w : World} {g n i j : Nat} {f : Nat → Nat → Int} (h : RowsAt w g n i f) (hi : i ≤ j) (hj : j < n) : w.rangeAt g (j * 32) (nums .u8 32 (f j)) := by
  obtain ⟨cur, h1, h2, h3⟩ := h.ex
  intro q v hq
  obtain ⟨hq2, rfl⟩ := nums_get hq
  rw [cell_of_row w g _ _ _ _ h1, h3 j hi hj q hq2]
theorem RowsAt.there {w : World} {g n i j : Nat} {f : Nat → Nat → Int} (h : RowsAt w g n i f) (hj : j < n) : w.there g (j * 32) 32 := by
  obtain ⟨cur, h1, h2, h3⟩ := h.ex
  exact there_row h1 (by omega)
theorem RowsAt.set {w : World} {g n i : Nat} {f : Nat → Nat → Int} (h : RowsAt w g n i f) (hi : i < n) (vs : List Value) (hv : vs.length = 32) : RowsAt (w.setCells g (i * 32) vs) g n (i + 1) f ∧ Only g w (w.setCells g (i * 32) vs) := by
  obtain ⟨cur, h1, h2, h3⟩ := h.ex
  obtain ⟨C', k1, k2, k3, k4, k5⟩ := setCells_heap vs (i * 32) w cur h1 (by omega)
  refine ⟨⟨C', k1, by omega, fun j hj hjn q hq => ?_⟩, k5⟩
  rw [k4 _ (by omega)]
  exact h3 j (by omega) hjn q hq
theorem rowsL_at (f : Nat → Nat → Int) : ∀ n j, j < n → ∀ q, q < 32 → (rowsL f n)[j * 32 + q]? = some (.int .u8 (f j q))
  | 0, j, h, _, _ => by omega
  | n + 1, j, h, q, hq => by
    have hl : (rowsL f n).length = n * 32 := by
      have : ∀ m, (rowsL f m).length = m * 32 := fun m => by
        induction m with
        | zero => rfl
        | succ m ih => rw [rowsL, List.length_append, nums_len, ih]; omega
      exact this n
    rw [rowsL]
    by_cases e : j = n
    · subst e
      rw [List.getElem?_append_right (by omega), hl, Nat.add_sub_cancel_left, nums_at .u8 32 _ hq]
    · rw [List.getElem?_append_left (by omega)]
      exact rowsL_at f n j (by omega) q hq
theorem own_rows {w : World} {B n : Nat} {v : Value} {f : Nat → Nat → Int} (h : w.ownsRow B 23 32 v n (rowsL f n)) (hn : 0 < n) : ∃ g cap, v = .slice (some ⟨g, 0, none⟩) n cap ∧ B ≤ g ∧ RowsAt w g n 0 f := by
  rcases h.2 with ⟨_, h0⟩ | ⟨g, cap, cur, rfl, hb, hg, hc, _, hs, ht⟩
  · omega
  · refine ⟨g, cap, rfl, hb, cur, hg, by rw [hs]; exact Nat.mul_le_mul_right _ hc, fun j _ hj q hq => ?_⟩
    have h1 := rowsL_at f n j hj q hq
    rw [← ht, List.getElem?_take, if_pos (by omega)] at h1
    simpa using h1
theorem run_nine (w : World) : (Instr.build 23 #[(0, .int .u8 9)]).run Tryd.prog w = .ok (.agg (WA .u8 32 (upd (fun _ => 0) 0 9))) w := by kernel_rfl
theorem exec_nine {a : Act} {o : Oper} {w : World} (ho : o.op = .build 23 #[(0, .const (.int .u8 9))]) : (execOp a.eval o).run Tryd.prog w = .ok (.value (.agg (WA .u8 32 (upd (fun _ => 0) 0 9)))) w := by
  have h := run_nine w
  unfold execOp
  simp only [ho, List.map_toArray, List.map_cons, List.map_nil, Act.eval, Sem.run_bind, h, Result.andThen_ok, Sem.run_pure]
theorem st_rows {ops : Array Oper} {rest : List Oper} {d : Option Tmp} {x y : Operand} {t : TypeId} {ps : String} {af : Array Edge} {a : Act} {w : World} {Q : Exit → Act → World → Prop} {g n i : Nat} {f : Nat → Nat → Int} {s : Nat → Int}
    (hg : RowsAt w g n i f) (hx : a.eval x = .pointer (some ⟨g, i * 32, none⟩)) (hy : a.eval y = .agg (WA .u8 32 s)) (hi : i < n) (h : ∀ w2, RowsAt w2 g n (i + 1) f → Only g w w2 → wpList Tryd.prog ops Q rest (a.put d undef) w2) :
    wpList Tryd.prog ops Q ({ dst := d, op := .store 23 x y, type := t, pos := ps, after := af, guard := none } :: rest) a w := by
  obtain ⟨_, _, _, h3⟩ := isArr32
  have h2 := hg.set hi (WA .u8 32 s).toList (by simp [WA_size])
  exact wpList_store_mid rfl 23 x y rfl g (i * 32) (WA .u8 32 s) hx hy (by rw [WA_size]; exact hg.there hi) (by rw [WA_size]; exact h3) (WA_one .u8 32 s) (h _ h2.1 h2.2)
theorem belowO {B b : Nat} {u v w : World} (h : Below B u v) (o : Only b v w) (hb : B ≤ b) : Below B u w := h.trans (o.below hb)
set_option maxHeartbeats 3200000 in
set_option maxRecDepth 100000 in
theorem chains_good (n : Nat) (key : Nat → Int) (input : ByteArray) (w : World) (hTw : Tabs w) (hn1 : 1 ≤ n) (hn8 : n ≤ 8) (hk : Byts 32 key) (hi : input.size ≤ 140737488355328) :
    Calls Tryd.prog 6 #[.int .i64 (n : Int), .agg (WA .u8 32 key), .string input] w fun e w' => e = .returned (.bool true) ∧ Below w.heap.size w w' := by
  have g4 : ArrAt (w.alloc (.cells (WA .u8 32 key) 23)) w.heap.size .u8 23 32 key := heap_alloc_new w _
  have hB : Below w.heap.size w (w.alloc (.cells (WA .u8 32 key) 23)) := (Below.refl _ w).alloc (Nat.le_refl _) _
  have h2 := hTw.two
  have HTW : Hid (∀ u, Below w.heap.size w u → Tabs u) := Hid.mk (fun u hu => hTw.below hu h2)
  have HN0 : Hid (decide (n = 0) = false) := Hid.mk (decide_eq_false (by omega))
  have hC1 := fun u hT => Chain_run n key input u hT hk hn1 hn8 hi
  have hC2 := fun u => rChain_run n key input u hk hn1 hn8 hi
  have hC3 := fun u hT => Chain_run 1 key input u hT hk (by omega) (by omega) hi
  generalize macF (mkS 32 key) input = zz at *
  clear hTw
  go_enter Tryd.func6, Tryd.ntmps6
  go_wp2_with (refine ld_arr isArr32 g4 (by rfl) ?_)
  refine (hC1 _ (HTW.out _ hB)).mono ?_
  rintro e v1 ⟨vl, Bl, rfl, hBl, hL, hb1⟩
  obtain ⟨gl, cl, rfl, hgl, rL⟩ := own_rows hL (by omega)
  have hlw : w.heap.size < gl := by have h := hBl; simp at h; omega
  replace g4 := g4.kept hb1
  replace hB := hB.trans (hb1.mono hB.size)
  clear hb1 hL hC1 hBl
  go_wp2_with (refine ld_arr isArr32 g4 (by rfl) ?_)
  refine (hC2 _).mono ?_
  rintro e v2 ⟨vx, Bx, rfl, hBx, hX, hb2⟩
  obtain ⟨gx, cx, rfl, hgx, rX⟩ := own_rows hX (by omega)
  have hlx : gl < gx := by have := rL.lt; omega
  replace g4 := g4.kept hb2
  replace rL := rL.kept hb2
  replace hB := hB.trans (hb2.mono hB.size)
  clear hb2 hX hC2 hBx hgl hgx
  go_wp2_with fail
  go_loopg [11] n (fun gm iv v => ∃ i : Nat, Hid (gm + i = n) ∧ iv = .int .i64 (i : Int) ∧ RowsAt v gl n i (chK zz) ∧ RowsAt v gx n 0 (chK zz) ∧ ArrAt v w.heap.size .u8 23 32 key ∧ Below w.heap.size w v)
  case atStart => exact ⟨0, Hid.mk rfl, rfl, rL, rX, g4, hB⟩
  case round =>
    clear rL rX g4 hB
    obtain ⟨i, HI, rfl, rL, rX, g4, hB⟩ := hrel
    have hin : i ≤ n := by have := HI.out; omega
    by_cases hil : i < n
    · have hilI : (i : Int) < (n : Int) := by omega
      go_wp2_with fail
      refine wp_gen (fun v => RowsAt v gl n i (chK zz) ∧ RowsAt v gx n 0 (chK zz) ∧ ArrAt v w.heap.size .u8 23 32 key ∧ Below w.heap.size w v) ⟨rL, rX, g4, hB⟩ ?_
      clear rL rX g4 hB
      rintro v0 ⟨rL, rX, g4, hB⟩
      have HL : Hid (∀ u, Below v0.heap.size v0 u → RowsAt u gl n i (chK zz)) := Hid.mk (fun u hu => rL.kept hu)
      have HX : Hid (∀ u, Below v0.heap.size v0 u → RowsAt u gx n 0 (chK zz)) := Hid.mk (fun u hu => rX.kept hu)
      refine wp_region3 (Below v0.heap.size v0) v0.heap.size
        ([] : List (Nat × Cont))
        [kv (.slice (some ⟨gl, 0, none⟩) n cl), kv (.int .i64 (i : Int)), kv (.pointer (some ⟨gl, i * 32, none⟩)), kv (.agg (WA .u8 32 (chK zz i))), kv (.slice (some ⟨gx, 0, none⟩) n cx), kv (.int .i64 (i : Int)), kv (.pointer (some ⟨gx, i * 32, none⟩)), kv (.agg (WA .u8 32 (chK zz i))), kv (.bool false)]
        [.none, .none, .none, .none, .none, .none, .none, .none, .none]
        [some 44, some 45, some 46, some 47, some 48, some 49, some 50, some 51, some 52]
        [(7, .slice (some ⟨gl, 0, none⟩) n cl), (9, .slice (some ⟨gx, 0, none⟩) n cx), (11, .int .i64 (i : Int))]
        [[], [], [.slot 0, .slot 1], [.slot 2], [], [], [.slot 4, .slot 5], [.slot 6], [.slot 3, .slot 7]]
        [.slot 8] [44, 45, 46, 47, 48, 49, 50, 51, 52]
        rfl (by kernel_rfl) ⟨rfl, rfl, rfl, trivial⟩ (Below.refl _ v0).drew (Nat.le_refl _) trivial trivial (below_G (Nat.le_refl _) trivial)
        ⟨
          -- 0
          (fun Q aq ww own hS hBg fr kn => .inl ⟨trivial, fun K hK => wp_value (exec_move rfl fr.1) (hK _ _ ⟨Touch.refl _ _, rfl⟩)⟩),
          -- 1
          (fun Q aq ww own hS hBg fr kn => .inl ⟨trivial, fun K hK => wp_value (exec_move rfl fr.2.2.1) (hK _ _ ⟨Touch.refl _ _, rfl⟩)⟩),
          -- 2
          (fun Q aq ww own hS hBg fr kn => .inl ⟨trivial, fun K hK => wp_value (exec_idx32 rfl kn.1 kn.2.1 hil) (hK _ _ ⟨Touch.refl _ _, rfl⟩)⟩),
          -- 3
          (fun Q aq ww own hS hBg fr kn => .inl ⟨trivial, fun K hK => wp_value (exec_ldmid rfl isArr32 kn.1 ((HL.out ww hS).range (Nat.le_refl _) hil)) (hK _ _ ⟨Touch.refl _ _, rfl⟩)⟩),
          -- 4
          (fun Q aq ww own hS hBg fr kn => .inl ⟨trivial, fun K hK => wp_value (exec_move rfl fr.2.1) (hK _ _ ⟨Touch.refl _ _, rfl⟩)⟩),
          -- 5
          (fun Q aq ww own hS hBg fr kn => .inl ⟨trivial, fun K hK => wp_value (exec_move rfl fr.2.2.1) (hK _ _ ⟨Touch.refl _ _, rfl⟩)⟩),
          -- 6
          (fun Q aq ww own hS hBg fr kn => .inl ⟨trivial, fun K hK => wp_value (exec_idx32 rfl kn.1 kn.2.1 hil) (hK _ _ ⟨Touch.refl _ _, rfl⟩)⟩),
          -- 7
          (fun Q aq ww own hS hBg fr kn => .inl ⟨trivial, fun K hK => wp_value (exec_ldmid rfl isArr32 kn.1 ((HX.out ww hS).range (Nat.zero_le _) hil)) (hK _ _ ⟨Touch.refl _ _, rfl⟩)⟩),
          -- 8
          (fun Q aq ww own hS hBg fr kn => .inl ⟨trivial, fun K hK => wp_value (neq_WA rfl Tryd.underlying23 eqG32 kn.1 kn.2.1) (hK _ _ ⟨Touch.refl _ _, rfl⟩)⟩),
          trivial⟩ ?_
      intro vs own v5 hB5 hs5 kn inj
      clear inj hs5 HL HX
      have e52 : vs 52 = .bool false := kn.1
      clear kn
      replace rL := rL.kept hB5
      replace rX := rX.kept hB5
      replace g4 := g4.kept hB5
      replace hB := hB.trans (hB5.mono hB.size)
      clear hB5
      simp only [putAll, Act.put, List.setIfInBounds_toArray, List.set_cons_zero, List.set_cons_succ, e52]
      go_wp2_with (first | (refine wl_value rfl (exec_nine rfl) ?_) | (refine wl_value rfl (exec_idx32 rfl (by rfl) (by rfl) hil) ?_) | (refine st_rows rL (by rfl) (by rfl) hil ?_; intro v6 rL6 o6; refine Hid.out ?_))
      have rX6 := rX.only o6 (by omega)
      have g46 := g4.only o6 (by omega)
      have hB6 := belowO hB o6 (by omega)
      clear rL rX g4 hB o6
      refine Hid.mk ?_
      go_wp2_with fail
      go_roundg (n - (i + 1))
      case rel => exact ⟨i + 1, Hid.mk (by omega), by go_num, rL6, rX6, g46, hB6⟩
      case measure => have := HI.out; omega
    · have hi2 : i = n := by omega
      subst hi2
      clear rL hil hin HI
      go_wp2_with (refine ld_arr isArr32 g4 (by rfl) ?_)
      refine (hC3 _ (HTW.out _ hB)).mono ?_
      rintro e v3 ⟨vo, Bo, rfl, hBo, hO, hb3⟩
      obtain ⟨go, co, rfl, hgo, rO⟩ := own_rows hO (by omega)
      replace rX := rX.kept hb3
      replace hB := hB.trans (hb3.mono hB.size)
      clear hb3 hO hBo hgo g4 hC3
      go_wp2_with fail
      refine wp_gen (fun v => RowsAt v go 1 0 (chK zz) ∧ RowsAt v gx i 0 (chK zz) ∧ Below w.heap.size w v) ⟨rO, rX, hB⟩ ?_
      clear rO rX hB
      rintro v0 ⟨rO, rX, hB⟩
      have HO : Hid (∀ u, Below v0.heap.size v0 u → RowsAt u go 1 0 (chK zz)) := Hid.mk (fun u hu => rO.kept hu)
      have HX : Hid (∀ u, Below v0.heap.size v0 u → RowsAt u gx i 0 (chK zz)) := Hid.mk (fun u hu => rX.kept hu)
      have HT : Hid (∀ u, Below v0.heap.size v0 u → Tabs u) := Hid.mk (fun u hu => HTW.out u (hB.trans (hu.mono hB.size)))
      refine wp_region3 (Below v0.heap.size v0) v0.heap.size
        ([] : List (Nat × Cont))
        [kv (.int .i64 0), kv (.bool true), kv (.bool true), kv (.slice (some ⟨go, 0, none⟩) 1 co), kv (.int .i64 ((1 : Nat) : Int)), kv (.bool true), kv (.bool true), kv (.bool true), kv (.slice (some ⟨gx, 0, none⟩) i cx), kv (.int .i64 ((i : Nat) : Int)), kv (.bool false), kv (.bool false), kv (.slice (some ⟨go, 0, none⟩) 1 co), kv (.pointer (some ⟨go, 0 * 32, none⟩)), kv (.agg (WA .u8 32 (chK zz 0))), kv (.slice (some ⟨gx, 0, none⟩) i cx), kv (.pointer (some ⟨gx, 0 * 32, none⟩)), kv (.agg (WA .u8 32 (chK zz 0))), kv (.bool true), kv (.bool true), kv (.bool true), kv (.bool true), kv (.bool true), kv (.bool true), kv (.bool true)]
        [.none, .none, .none, .none, .none, .none, .none, .none, .none, .none, .none, .none, .none, .none, .none, .none, .none, .none, .none, .none, .none, .none, .none, .none, .none]
        [some 63, some 64, some 65, some 66, some 67, some 68, some 69, some 70, some 71, some 72, some 73, some 74, some 75, some 76, some 77, some 78, some 79, some 80, some 81, some 82, some 83, some 84, some 85, some 86, some 6]
        [(13, .int .i64 0), (12, .slice (some ⟨go, 0, none⟩) 1 co), (9, .slice (some ⟨gx, 0, none⟩) i cx)]
        [[], [.slot 0], [.slot 1], [.slot 2], [.slot 2, .slot 3], [.slot 2, .slot 4], [.slot 2, .slot 5], [.slot 6], [.slot 7], [.slot 7, .slot 8], [.slot 7, .slot 9], [.slot 7, .slot 10], [.slot 11], [.slot 11, .slot 12], [.slot 11, .slot 13], [.slot 11], [.slot 11, .slot 15], [.slot 11, .slot 16], [.slot 11, .slot 14, .slot 17], [.slot 7, .slot 11, .slot 18], [.slot 7, .slot 19], [.slot 20], [.slot 21], [.slot 21, .slot 22], [.slot 23]]
        [.slot 24] [63, 64, 65, 66, 67, 68, 69, 70, 71, 72, 73, 74, 75, 76, 77, 78, 79, 80, 81, 82, 83, 84, 85, 86, 6]
        rfl (by kernel_rfl) ⟨rfl, rfl, rfl, trivial⟩ (Below.refl _ v0).drew (Nat.le_refl _) trivial trivial (below_G (Nat.le_refl _) trivial)
        ⟨
          -- 0
          (fun Q aq ww own hS hBg fr kn => .inl ⟨trivial, fun K hK => wp_value (exec_move rfl fr.1) (hK _ _ ⟨Touch.refl _ _, rfl⟩)⟩),
          -- 1
          (fun Q aq ww own hS hBg fr kn => .inl ⟨trivial, fun K hK => wp_value (exec_eqE rfl kn.1 rfl) (hK _ _ ⟨Touch.refl _ _, rfl⟩)⟩),
          -- 2
          (fun Q aq ww own hS hBg fr kn => .inl ⟨trivial, fun K hK => wp_value (exec_move rfl kn.1) (hK _ _ ⟨Touch.refl _ _, rfl⟩)⟩),
          -- 3
          (fun Q aq ww own hS hBg fr kn => .inl ⟨kn.1, fun K hK => wp_value (exec_move rfl fr.2.1) (hK _ _ ⟨Touch.refl _ _, rfl⟩)⟩),
          -- 4
          (fun Q aq ww own hS hBg fr kn => .inl ⟨kn.1, fun K hK => wp_value (exec_lenR rfl kn.2.1) (hK _ _ ⟨Touch.refl _ _, rfl⟩)⟩),
          -- 5
          (fun Q aq ww own hS hBg fr kn => .inl ⟨kn.1, fun K hK => wp_value (exec_eqIN (m := 1) (n := 1) rfl kn.2.1 rfl rfl) (hK _ _ ⟨Touch.refl _ _, rfl⟩)⟩),
          -- 6
          (fun Q aq ww own hS hBg fr kn => .inl ⟨trivial, fun K hK => wp_value (exec_pick rfl kn.1 kn.2.1) (hK _ _ ⟨Touch.refl _ _, rfl⟩)⟩),
          -- 7
          (fun Q aq ww own hS hBg fr kn => .inl ⟨trivial, fun K hK => wp_value (exec_move rfl kn.1) (hK _ _ ⟨Touch.refl _ _, rfl⟩)⟩),
          -- 8
          (fun Q aq ww own hS hBg fr kn => .inl ⟨kn.1, fun K hK => wp_value (exec_move rfl fr.2.2.1) (hK _ _ ⟨Touch.refl _ _, rfl⟩)⟩),
          -- 9
          (fun Q aq ww own hS hBg fr kn => .inl ⟨kn.1, fun K hK => wp_value (exec_lenR rfl kn.2.1) (hK _ _ ⟨Touch.refl _ _, rfl⟩)⟩),
          -- 10
          (fun Q aq ww own hS hBg fr kn => .inl ⟨kn.1, fun K hK => wp_value (exec_eqIN (m := i) (n := 0) rfl kn.2.1 rfl HN0.out) (hK _ _ ⟨Touch.refl _ _, rfl⟩)⟩),
          -- 11
          (fun Q aq ww own hS hBg fr kn => .inl ⟨kn.1, fun K hK => wp_value (exec_move rfl kn.2.1) (hK _ _ ⟨Touch.refl _ _, rfl⟩)⟩),
          -- 12
          (fun Q aq ww own hS hBg fr kn => .inl ⟨kn.1, fun K hK => wp_value (exec_move rfl fr.2.1) (hK _ _ ⟨Touch.refl _ _, rfl⟩)⟩),
          -- 13
          (fun Q aq ww own hS hBg fr kn => .inl ⟨kn.1, fun K hK => wp_value (exec_idx32 (i := 0) rfl kn.2.1 rfl (by omega)) (hK _ _ ⟨Touch.refl _ _, rfl⟩)⟩),
          -- 14
          (fun Q aq ww own hS hBg fr kn => .inl ⟨kn.1, fun K hK => wp_value (exec_ldmid rfl isArr32 kn.2.1 ((HO.out ww hS).range (Nat.le_refl _) (by omega))) (hK _ _ ⟨Touch.refl _ _, rfl⟩)⟩),
          -- 15
          (fun Q aq ww own hS hBg fr kn => .inl ⟨kn.1, fun K hK => wp_value (exec_move rfl fr.2.2.1) (hK _ _ ⟨Touch.refl _ _, rfl⟩)⟩),
          -- 16
          (fun Q aq ww own hS hBg fr kn => .inl ⟨kn.1, fun K hK => wp_value (exec_idx32 (i := 0) rfl kn.2.1 rfl (by omega)) (hK _ _ ⟨Touch.refl _ _, rfl⟩)⟩),
          -- 17
          (fun Q aq ww own hS hBg fr kn => .inl ⟨kn.1, fun K hK => wp_value (exec_ldmid rfl isArr32 kn.2.1 ((HX.out ww hS).range (Nat.le_refl _) (by omega))) (hK _ _ ⟨Touch.refl _ _, rfl⟩)⟩),
          -- 18
          (fun Q aq ww own hS hBg fr kn => .inl ⟨kn.1, fun K hK => wp_value (eql_WA rfl Tryd.underlying23 eqG32 kn.2.1 kn.2.2.1) (hK _ _ ⟨Touch.refl _ _, rfl⟩)⟩),
          -- 19
          (fun Q aq ww own hS hBg fr kn => .inl ⟨kn.1, fun K hK => wp_value (exec_pickF rfl kn.2.1 kn.2.2.1) (hK _ _ ⟨Touch.refl _ _, rfl⟩)⟩),
          -- 20
          (fun Q aq ww own hS hBg fr kn => .inl ⟨trivial, fun K hK => wp_value (exec_pick rfl kn.1 kn.2.1) (hK _ _ ⟨Touch.refl _ _, rfl⟩)⟩),
          -- 21
          (fun Q aq ww own hS hBg fr kn => .inl ⟨trivial, fun K hK => wp_value (exec_move rfl kn.1) (hK _ _ ⟨Touch.refl _ _, rfl⟩)⟩),
          -- 22
          (fun Q aq ww own hS hBg fr kn => .inl ⟨kn.1, fun K hK => stepc enterAwakeB rfl (args0) (awake_run ww (HT.out ww hS)) (fun w' hb => hK _ _ ⟨touch_below hb, rfl⟩)⟩),
          -- 23
          (fun Q aq ww own hS hBg fr kn => .inl ⟨trivial, fun K hK => wp_value (exec_pick rfl kn.1 kn.2.1) (hK _ _ ⟨Touch.refl _ _, rfl⟩)⟩),
          -- 24
          (fun Q aq ww own hS hBg fr kn => .inl ⟨trivial, fun K hK => wp_value (exec_assign rfl kn.1) (hK _ _ ⟨Touch.refl _ _, rfl⟩)⟩),
          trivial⟩ ?_
      intro vs own v9 hB9 hs9 kn inj
      clear inj hs9
      have e6 : vs 6 = .bool true := kn.1
      clear kn
      simp only [putAll, Act.put, List.setIfInBounds_toArray, List.set_cons_zero, List.set_cons_succ, e6]
      go_wp2_with fail
      go_ret
      exact ⟨rfl, hB.trans (hB9.mono hB.size)⟩
set_option maxHeartbeats 3200000 in
set_option maxRecDepth 100000 in
theorem chains_bad (n : Int) (key : Nat → Int) (input : ByteArray) (w : World) (hTw : Tabs w) (hn : n < 1 ∨ 8 < n) (hk : Byts 32 key) (hi : input.size ≤ 140737488355328) :
    Calls Tryd.prog 6 #[.int .i64 n, .agg (WA .u8 32 key), .string input] w fun e w' => e = .returned (.bool true) ∧ Below w.heap.size w w' := by
  have g4 : ArrAt (w.alloc (.cells (WA .u8 32 key) 23)) w.heap.size .u8 23 32 key := heap_alloc_new w _
  have hB : Below w.heap.size w (w.alloc (.cells (WA .u8 32 key) 23)) := (Below.refl _ w).alloc (Nat.le_refl _) _
  have h2 := hTw.two
  have HTW : Hid (∀ u, Below w.heap.size w u → Tabs u) := Hid.mk (fun u hu => hTw.below hu h2)
  have hC1 := fun u => Chain_bad n key input u hn
  have hC2 := fun u => rChain_bad n key input u hn
  have hC3 := fun u hT => Chain_run 1 key input u hT hk (by omega) (by omega) hi
  generalize macF (mkS 32 key) input = zz at *
  clear hTw hn
  go_enter Tryd.func6, Tryd.ntmps6
  go_wp2_with (refine ld_arr isArr32 g4 (by rfl) ?_)
  refine (hC1 _).mono ?_
  rintro e v1 ⟨rfl, hb1⟩
  replace g4 := g4.kept hb1
  replace hB := hB.trans (hb1.mono hB.size)
  clear hb1 hC1
  go_wp2_with (refine ld_arr isArr32 g4 (by rfl) ?_)
  refine (hC2 _).mono ?_
  rintro e v2 ⟨rfl, hb2⟩
  replace g4 := g4.kept hb2
  replace hB := hB.trans (hb2.mono hB.size)
  clear hb2 hC2
  go_wp2_with fail
  go_loopg [11] 0 (fun gm iv v => gm = 0 ∧ iv = .int .i64 0 ∧ ArrAt v w.heap.size .u8 23 32 key ∧ Below w.heap.size w v)
  case atStart => exact ⟨rfl, rfl, g4, hB⟩
  case round =>
    clear g4 hB
    obtain ⟨rfl, rfl, g4, hB⟩ := hrel
    go_wp2_with (refine ld_arr isArr32 g4 (by rfl) ?_)
    refine (hC3 _ (HTW.out _ hB)).mono ?_
    rintro e v3 ⟨vo, Bo, rfl, hBo, hO, hb3⟩
    obtain ⟨go, co, rfl, hgo, rO⟩ := own_rows hO (by omega)
    replace hB := hB.trans (hb3.mono hB.size)
    clear hb3 hO hBo hgo g4 hC3 rO
    go_wp2_with fail
    refine wp_gen (fun v => Below w.heap.size w v) hB ?_
    clear hB
    rintro v0 hB
    have HT : Hid (∀ u, Below v0.heap.size v0 u → Tabs u) := Hid.mk (fun u hu => HTW.out u (hB.trans (hu.mono hB.size)))
    refine wp_region3 (Below v0.heap.size v0) v0.heap.size
      ([] : List (Nat × Cont))
      [kv (.int .i64 0), kv (.bool true), kv (.bool true), kv (.slice (some ⟨go, 0, none⟩) 1 co), kv (.int .i64 ((1 : Nat) : Int)), kv (.bool true), kv (.bool true), kv (.bool true), kv (.slice none 0 0), kv (.int .i64 ((0 : Nat) : Int)), kv (.bool true), kv (.bool true), .val fun _ => True, .val fun _ => True, .val fun _ => True, .val fun _ => True, .val fun _ => True, .val fun _ => True, .val fun _ => True, kv (.bool true), kv (.bool true), kv (.bool true), kv (.bool true), kv (.bool true), kv (.bool true)]
      [.none, .none, .none, .none, .none, .none, .none, .none, .none, .none, .none, .none, .none, .none, .none, .none, .none, .none, .none, .none, .none, .none, .none, .none, .none]
      [some 63, some 64, some 65, some 66, some 67, some 68, some 69, some 70, some 71, some 72, some 73, some 74, some 75, some 76, some 77, some 78, some 79, some 80, some 81, some 82, some 83, some 84, some 85, some 86, some 6]
      [(13, .int .i64 0), (12, .slice (some ⟨go, 0, none⟩) 1 co), (9, .slice none 0 0)]
      [[], [.slot 0], [.slot 1], [.slot 2], [.slot 2, .slot 3], [.slot 2, .slot 4], [.slot 2, .slot 5], [.slot 6], [.slot 7], [.slot 7, .slot 8], [.slot 7, .slot 9], [.slot 7, .slot 10], [.slot 11], [.slot 11], [.slot 11], [.slot 11], [.slot 11], [.slot 11], [.slot 11], [.slot 7, .slot 11], [.slot 7, .slot 19], [.slot 20], [.slot 21], [.slot 21, .slot 22], [.slot 23]]
      [.slot 24] [63, 64, 65, 66, 67, 68, 69, 70, 71, 72, 73, 74, 75, 76, 77, 78, 79, 80, 81, 82, 83, 84, 85, 86, 6]
      rfl (by kernel_rfl) ⟨rfl, rfl, rfl, trivial⟩ (Below.refl _ v0).drew (Nat.le_refl _) trivial trivial (below_G (Nat.le_refl _) trivial)
      ⟨
        -- 0
        (fun Q aq ww own hS hBg fr kn => .inl ⟨trivial, fun K hK => wp_value (exec_move rfl fr.1) (hK _ _ ⟨Touch.refl _ _, rfl⟩)⟩),
        -- 1
        (fun Q aq ww own hS hBg fr kn => .inl ⟨trivial, fun K hK => wp_value (exec_eqE rfl kn.1 rfl) (hK _ _ ⟨Touch.refl _ _, rfl⟩)⟩),
        -- 2
        (fun Q aq ww own hS hBg fr kn => .inl ⟨trivial, fun K hK => wp_value (exec_move rfl kn.1) (hK _ _ ⟨Touch.refl _ _, rfl⟩)⟩),
        -- 3
        (fun Q aq ww own hS hBg fr kn => .inl ⟨kn.1, fun K hK => wp_value (exec_move rfl fr.2.1) (hK _ _ ⟨Touch.refl _ _, rfl⟩)⟩),
        -- 4
        (fun Q aq ww own hS hBg fr kn => .inl ⟨kn.1, fun K hK => wp_value (exec_lenR rfl kn.2.1) (hK _ _ ⟨Touch.refl _ _, rfl⟩)⟩),
        -- 5
        (fun Q aq ww own hS hBg fr kn => .inl ⟨kn.1, fun K hK => wp_value (exec_eqIN (m := 1) (n := 1) rfl kn.2.1 rfl rfl) (hK _ _ ⟨Touch.refl _ _, rfl⟩)⟩),
        -- 6
        (fun Q aq ww own hS hBg fr kn => .inl ⟨trivial, fun K hK => wp_value (exec_pick rfl kn.1 kn.2.1) (hK _ _ ⟨Touch.refl _ _, rfl⟩)⟩),
        -- 7
        (fun Q aq ww own hS hBg fr kn => .inl ⟨trivial, fun K hK => wp_value (exec_move rfl kn.1) (hK _ _ ⟨Touch.refl _ _, rfl⟩)⟩),
        -- 8
        (fun Q aq ww own hS hBg fr kn => .inl ⟨kn.1, fun K hK => wp_value (exec_move rfl fr.2.2.1) (hK _ _ ⟨Touch.refl _ _, rfl⟩)⟩),
        -- 9
        (fun Q aq ww own hS hBg fr kn => .inl ⟨kn.1, fun K hK => wp_value (exec_lenR rfl kn.2.1) (hK _ _ ⟨Touch.refl _ _, rfl⟩)⟩),
        -- 10
        (fun Q aq ww own hS hBg fr kn => .inl ⟨kn.1, fun K hK => wp_value (exec_eqIN (m := 0) (n := 0) rfl kn.2.1 rfl rfl) (hK _ _ ⟨Touch.refl _ _, rfl⟩)⟩),
        -- 11
        (fun Q aq ww own hS hBg fr kn => .inl ⟨kn.1, fun K hK => wp_value (exec_move rfl kn.2.1) (hK _ _ ⟨Touch.refl _ _, rfl⟩)⟩),
        -- 12
        (fun Q aq ww own hS hBg fr kn => .inr ⟨.inl kn.1, Touch.refl _ _, trivial⟩),
        -- 13
        (fun Q aq ww own hS hBg fr kn => .inr ⟨.inl kn.1, Touch.refl _ _, trivial⟩),
        -- 14
        (fun Q aq ww own hS hBg fr kn => .inr ⟨.inl kn.1, Touch.refl _ _, trivial⟩),
        -- 15
        (fun Q aq ww own hS hBg fr kn => .inr ⟨.inl kn.1, Touch.refl _ _, trivial⟩),
        -- 16
        (fun Q aq ww own hS hBg fr kn => .inr ⟨.inl kn.1, Touch.refl _ _, trivial⟩),
        -- 17
        (fun Q aq ww own hS hBg fr kn => .inr ⟨.inl kn.1, Touch.refl _ _, trivial⟩),
        -- 18
        (fun Q aq ww own hS hBg fr kn => .inr ⟨.inl kn.1, Touch.refl _ _, trivial⟩),
        -- 19
        (fun Q aq ww own hS hBg fr kn => .inl ⟨kn.1, fun K hK => wp_value (exec_pick (v := .bool true) rfl kn.2.1 rfl) (hK _ _ ⟨Touch.refl _ _, rfl⟩)⟩),
        -- 20
        (fun Q aq ww own hS hBg fr kn => .inl ⟨trivial, fun K hK => wp_value (exec_pick rfl kn.1 kn.2.1) (hK _ _ ⟨Touch.refl _ _, rfl⟩)⟩),
        -- 21
        (fun Q aq ww own hS hBg fr kn => .inl ⟨trivial, fun K hK => wp_value (exec_move rfl kn.1) (hK _ _ ⟨Touch.refl _ _, rfl⟩)⟩),
        -- 22
        (fun Q aq ww own hS hBg fr kn => .inl ⟨kn.1, fun K hK => stepc enterAwakeB rfl (args0) (awake_run ww (HT.out ww hS)) (fun w' hb => hK _ _ ⟨touch_below hb, rfl⟩)⟩),
        -- 23
        (fun Q aq ww own hS hBg fr kn => .inl ⟨trivial, fun K hK => wp_value (exec_pick rfl kn.1 kn.2.1) (hK _ _ ⟨Touch.refl _ _, rfl⟩)⟩),
        -- 24
        (fun Q aq ww own hS hBg fr kn => .inl ⟨trivial, fun K hK => wp_value (exec_assign rfl kn.1) (hK _ _ ⟨Touch.refl _ _, rfl⟩)⟩),
        trivial⟩ ?_
    intro vs own v9 hB9 hs9 kn inj
    clear inj hs9
    have e6 : vs 6 = .bool true := kn.1
    clear kn
    simp only [putAll, Act.put, List.setIfInBounds_toArray, List.set_cons_zero, List.set_cons_succ, e6]
    go_wp2_with fail
    go_ret
    exact ⟨rfl, hB.trans (hB9.mono hB.size)⟩
theorem chains_walk (n : Int) (key : Nat → Int) (input : ByteArray) (w : World) (hTw : Tabs w) (_hn : (Lit.int .i64 n).wf = true) (hk : Byts 32 key) (hi : input.size ≤ 140737488351232) :
    Calls Tryd.prog 6 #[.int .i64 n, .agg (WA .u8 32 key), .string input] w fun e w' => e = .returned (.bool true) ∧ Below w.heap.size w w' := by
  by_cases h : 1 ≤ n ∧ n ≤ 8
  · obtain ⟨m, rfl⟩ : ∃ m : Nat, n = (m : Int) := ⟨n.toNat, by omega⟩
    exact chains_good m key input w hTw (by omega) (by omega) hk (by omega)
  · exact chains_bad n key input w hTw (by omega) hk (by omega)
end Go.Proofs.YtcefoonflpofgaaDoor
