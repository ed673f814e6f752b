/-
  Own text. '==' on arrays of bytes; the walk of the law ChachaBlocks.
-/
import Derived.Test.YtfgebcemdjplnaaC6
import Derived.ChangeKeysEq
namespace Go.Proofs.Ytfgebcemdjplnaa
open Go.RowKit Go.Proofs
theorem eqItems_WA (s : Nat → Int) (n d : Nat) (w : World) : ∀ (is : List Nat), (∀ i ∈ is, i < n) → (Op.eqItems (d + 1) 5 1 (WA .u8 n s) (WA .u8 n s) is).run Try.prog w = .ok true w
  | [], _ => by simp [Op.eqItems]
  | i :: is, h => by
    have hi : i < n := h i (by simp)
    have ih := eqItems_WA s n d w is (fun j hj => h j (by simp [hj]))
    have e1 : (part 5 (WA .u8 n s) (i * 1)).run Try.prog w = .ok (.int .u8 (s i)) w := by
      simp [part, WA_get, hi, go_sem]
    simp only [Op.eqItems, Sem.run_bind, e1, Result.andThen_ok, run_equalIn_int w d 5 .u8 .u8 _ _ Try.underlying5]
    simpa using ih
theorem cells5 : Try.prog.cellsOf 5 = 1 := by kernel_rfl
theorem info5 : (Try.prog.info? 5).isSome = true := by kernel_rfl
theorem equal_WA {t : TypeId} {n : Nat} (ht : Try.prog.underlying t = some (.array n 5)) (s : Nat → Int) (d : Nat) (w : World) : (Op.equalIn (d + 1 + 1) t (.agg (WA .u8 n s)) (.agg (WA .u8 n s))).run Try.prog w = .ok true w := by
  obtain ⟨i, hi⟩ := Option.isSome_iff_exists.1 info5
  rw [run_equalIn_array w (d + 1) (WA .u8 n s) (WA .u8 n s) ht hi, cells5]
  exact eqItems_WA s n d w _ (fun i hi => List.mem_range.1 hi)
theorem eql_WA {a : Act} {o : Oper} {w : World} {x y : Operand} {t u : TypeId} {n : Nat} (ho : o.op = .binOp .eql t x y u) (ht : Try.prog.underlying t = some (.array n 5)) (hg : Try.prog.eqGuardType Try.prog.depth t = false) {s : Nat → Int} (hx : a.eval x = .agg (WA .u8 n s)) (hy : a.eval y = .agg (WA .u8 n s)) :
    (execOp a.eval o).run Try.prog w = .ok (.value (.bool true)) w := by
  unfold execOp
  simp only [ho, hx, hy, Sem.run_bind, run_eqGuard_agg w .eql t x y _ _ hg, Result.andThen_ok, run_eql_struct, equal_WA ht s 9998 w, Sem.run_pure]
theorem eqg64 : Try.prog.eqGuardType Try.prog.depth 33 = false := by kernel_rfl
theorem eqg32 : Try.prog.eqGuardType Try.prog.depth 29 = false := by kernel_rfl
theorem look_arr {a : Act} {o : Oper} {w : World} {x : Operand} {ty : TypeId} {g n : Nat} {k : IntKind} {s : Nat → Int} (ho : o.op = .load ty x) (hA : IsArr ty n) (hg : ArrAt w g k ty n s) (hx : a.eval x = .pointer (some ⟨g, 0, none⟩)) : (execOp a.eval o).run Try.prog w = .ok (.value (.agg (WA k n s))) w := by
  obtain ⟨m, e, h1, h3⟩ := hA
  unfold execOp
  simp only [ho, hx]
  have := run_loadVar_row (P := Try.prog) w g ty ty (WA k n s) (0, 0) _ hg h1 rfl (by rw [WA_size]; exact h3)
  simp [Instr.loadAt, Instr.sureAddr, this]
theorem enterBlock (args : Array Value) (w : World) : (callFunc 11 args).run Try.prog w = .ok (.enter 11 args) w := by kernel_rfl
theorem enterRBlock (args : Array Value) (w : World) : (callFunc 12 args).run Try.prog w = .ok (.enter 12 args) w := by kernel_rfl
theorem enterDerive (args : Array Value) (w : World) : (callFunc 13 args).run Try.prog w = .ok (.enter 13 args) w := by kernel_rfl
theorem enterRDerive (args : Array Value) (w : World) : (callFunc 14 args).run Try.prog w = .ok (.enter 14 args) w := by kernel_rfl
theorem enterAwake (args : Array Value) (w : World) : (callFunc 10 args).run Try.prog w = .ok (.enter 10 args) w := by kernel_rfl
theorem awake_below (w : World) : Calls Try.prog 10 #[] w fun e w' => e = .returned (.bool true) ∧ Below w.heap.size w w' := (awake_run w).mono fun _ _ ⟨h, e⟩ => ⟨h, e ▸ Below.refl _ _⟩
set_option maxHeartbeats 4000000 in
set_option maxRecDepth 100000 in
theorem blocks_walk (key nonce : Nat → Int) (c : Int) (w : World) (hk : Byts 32 key) (hn : Byts 12 nonce) (hc : W32 c) :
    Calls Try.prog 4 #[.agg (WA .u8 32 key), .int .u32 c, .agg (WA .u8 12 nonce)] w fun e w' => e = .returned (.bool true) ∧ Below w.heap.size w w' := by
  have g0 : ArrAt (((w.alloc (.cells (WA .u8 32 key) 29)).alloc (.cells (WA .u8 12 nonce) 30)).alloc (.cells (WA .u8 16 fun _ => 0) 31)) w.heap.size .u8 29 32 key := heap_a31 w _ _ _
  have g1 : ArrAt (((w.alloc (.cells (WA .u8 32 key) 29)).alloc (.cells (WA .u8 12 nonce) 30)).alloc (.cells (WA .u8 16 fun _ => 0) 31)) (w.heap.size + 1) .u8 30 12 nonce := heap_a32 w _ _ _
  have g2 : ArrAt (((w.alloc (.cells (WA .u8 32 key) 29)).alloc (.cells (WA .u8 12 nonce) 30)).alloc (.cells (WA .u8 16 fun _ => 0) 31)) (w.heap.size + 1 + 1) .u8 31 16 (fun _ => 0) := heap_a3 w _ _ _
  have hB : Below w.heap.size w (((w.alloc (.cells (WA .u8 32 key) 29)).alloc (.cells (WA .u8 12 nonce) 30)).alloc (.cells (WA .u8 16 fun _ => 0) 31)) := (((Below.refl _ w).alloc (by simp) _).alloc (by simp) _).alloc (by simp; omega) _
  go_enter Try.func4, Try.ntmps4
  go_wp2_with fail
  refine wp_gen (fun v => ArrAt v w.heap.size .u8 29 32 key ∧ ArrAt v (w.heap.size + 1) .u8 30 12 nonce ∧ ArrAt v (w.heap.size + 1 + 1) .u8 31 16 (fun _ => 0) ∧ Below w.heap.size w v) ⟨g0, g1, g2, hB⟩ ?_
  clear g0 g1 g2 hB
  rintro v0 ⟨g0, g1, g2, hB⟩
  refine wp_region3 (Below w.heap.size w) v0.heap.size
    [(w.heap.size, fixd (WA .u8 32 key) 29), ((w.heap.size + 1), fixd (WA .u8 12 nonce) 30), ((w.heap.size + 1 + 1), once (WA .u8 16 (fun _ => 0)) 31 2 (WA .u8 16 (over (fun _ => 0) 0 12 nonce)))]
    [kv (.slice (some ⟨(w.heap.size + 1 + 1), 0, none⟩) 16 16), kv (.slice (some ⟨(w.heap.size + 1), 0, none⟩) 12 12), .val fun _ => True]
    [.none, .none, .base 2 1]
    [some 8, some 9, some 10]
    [(5, .pointer (some ⟨(w.heap.size + 1), 0, none⟩)), (7, .pointer (some ⟨(w.heap.size + 1 + 1), 0, none⟩))]
    [[], [], [.slot 0, .slot 1, .base 2 0, .base 1 0]]
    [.base 0 0, .base 1 0, .base 2 1] [8, 9, 10]
    rfl (by kernel_rfl) ⟨rfl, rfl, trivial⟩ (Below.drew hB) (Nat.le_refl _) ⟨⟨g0.lt, obIn g0⟩, ⟨g1.lt, obIn g1⟩, ⟨g2.lt, obIn g2⟩, trivial⟩ ⟨⟨trivial, (show (w.heap.size : Nat) ≠ (w.heap.size + 1 + 1) from by omega), trivial⟩, ⟨(show ((w.heap.size + 1) : Nat) ≠ (w.heap.size + 1 + 1) from by omega), trivial⟩, trivial, trivial⟩ (below_G hB.size ⟨by omega, by omega, by omega, trivial⟩)
    ⟨
      -- 0
      (fun Q aq ww own hS hBg fr kn => .inl ⟨trivial, fun K hK => wp_value (exec_sl rfl fr.2.1 (sl16 _ _)) (hK _ _ ⟨Touch.refl _ _, rfl⟩)⟩),
      -- 1
      (fun Q aq ww own hS hBg fr kn => .inl ⟨trivial, fun K hK => wp_value (exec_sl rfl fr.1 (sl12 _ _)) (hK _ _ ⟨Touch.refl _ _, rfl⟩)⟩),
      -- 2
      (fun Q aq ww own hS hBg fr kn => .inl ⟨trivial, fun K hK => act_copy rfl kn.1 kn.2.1 (obAt kn.2.2.1) (m := 12) rfl (by omega) (fun q hq => by rw [Nat.zero_add]; exact ArrAt.cell (obAt kn.2.2.2.1) q hq) (fun w2 hg ho => hK _ _ ⟨⟨touch_only ho, obIn hg⟩, trivial⟩)⟩),
      trivial⟩ ?_
  intro vs own v1 hB1 hs1 kn inj
  clear inj hs1 g0 g1 g2 hB
  have g0 : ArrAt v1 w.heap.size .u8 29 32 key := obAt kn.1
  have g1 : ArrAt v1 (w.heap.size + 1) .u8 30 12 nonce := obAt kn.2.1
  have g2 : ArrAt v1 (w.heap.size + 1 + 1) .u8 31 16 (over (fun _ => 0) 0 12 nonce) := obAt kn.2.2.1
  clear kn
  simp only [putAll, Act.put, List.setIfInBounds_toArray, List.set_cons_zero, List.set_cons_succ]
  have c2 := g2.cell 15 (by omega)
  have f2 := g2.free 15
  go_wp2_with fail
  replace g0 := g0.other (g := (w.heap.size + 1 + 1)) (i := 15) (.int .u8 (c % 256)) (by omega)
  replace g1 := g1.other (g := (w.heap.size + 1 + 1)) (i := 15) (.int .u8 (c % 256)) (by omega)
  replace g2 := g2.set 15 (c % 256) (by omega)
  replace hB1 := Below.setCell hB1 (p := ⟨(w.heap.size + 1 + 1), 15, none⟩) (by simp; omega) (.int .u8 (c % 256))
  have hI : Byts 16 (upd (over (fun _ => 0) 0 12 nonce) 15 (c % 256)) := fun i hi => by
    unfold upd over
    split
    · omega
    split
    · exact hn _ (by omega)
    · simp
  generalize upd (over (fun _ => 0) 0 12 nonce) 15 (c % 256) = inn at *
  generalize v1.setCell ⟨(w.heap.size + 1 + 1), 15, none⟩ (.int .u8 (c % 256)) = v2 at *
  refine wp_region3 (Below w.heap.size w) v2.heap.size
    [(w.heap.size, fixd (WA .u8 32 key) 29), ((w.heap.size + 1), fixd (WA .u8 12 nonce) 30), ((w.heap.size + 1 + 1), fixd (WA .u8 16 inn) 31)]
    [kv (.agg (WA .u8 32 key)), kv (.int .u32 c), kv (.agg (WA .u8 12 nonce)), kv (.agg (WA .u8 64 (blk (ssq key c nonce 3)))), kv (.agg (WA .u8 32 key)), kv (.int .u32 c), kv (.agg (WA .u8 12 nonce)), kv (.agg (WA .u8 64 (blk (ssq key c nonce 3)))), kv (.bool true), kv (.bool true), kv (.agg (WA .u8 32 key)), kv (.agg (WA .u8 16 inn)), kv (.agg (WA .u8 32 (der key inn))), kv (.agg (WA .u8 32 key)), kv (.agg (WA .u8 16 inn)), kv (.agg (WA .u8 32 (der key inn))), kv (.bool true), kv (.bool true), kv (.bool true), kv (.bool true), kv (.bool true), kv (.bool true)]
    [.none, .none, .none, .none, .none, .none, .none, .none, .none, .none, .none, .none, .none, .none, .none, .none, .none, .none, .none, .none, .none, .none]
    [some 14, some 15, some 16, some 17, some 18, some 19, some 20, some 21, some 22, some 23, some 24, some 25, some 26, some 27, some 28, some 29, some 30, some 31, some 32, some 33, some 34, some 6]
    [(1, .int .u32 c), (3, .pointer (some ⟨w.heap.size, 0, none⟩)), (5, .pointer (some ⟨(w.heap.size + 1), 0, none⟩)), (7, .pointer (some ⟨(w.heap.size + 1 + 1), 0, none⟩))]
    [[.base 0 0], [], [.base 1 0], [.slot 0, .slot 1, .slot 2], [.base 0 0], [], [.base 1 0], [.slot 4, .slot 5, .slot 6], [.slot 3, .slot 7], [.slot 8], [.slot 9, .base 0 0], [.slot 9, .base 2 0], [.slot 9, .slot 10, .slot 11], [.slot 9, .base 0 0], [.slot 9, .base 2 0], [.slot 9, .slot 13, .slot 14], [.slot 9, .slot 12, .slot 15], [.slot 9, .slot 16], [.slot 17], [.slot 18], [.slot 18, .slot 19], [.slot 20]]
    [.slot 21] [14, 15, 16, 17, 18, 19, 20, 21, 22, 23, 24, 25, 26, 27, 28, 29, 30, 31, 32, 33, 34, 6]
    rfl (by kernel_rfl) ⟨rfl, rfl, rfl, rfl, trivial⟩ (Below.drew hB1) (Nat.le_refl _) ⟨⟨g0.lt, obIn g0⟩, ⟨g1.lt, obIn g1⟩, ⟨g2.lt, obIn g2⟩, trivial⟩ ⟨⟨trivial, trivial, trivial⟩, ⟨trivial, trivial⟩, trivial, trivial⟩ (below_G hB1.size ⟨by omega, by omega, by omega, trivial⟩)
    ⟨
      -- 0
      (fun Q aq ww own hS hBg fr kn => .inl ⟨trivial, fun K hK => wp_value (look_arr rfl isArr32 (obAt kn.1) fr.2.1) (hK _ _ ⟨Touch.refl _ _, rfl⟩)⟩),
      -- 1
      (fun Q aq ww own hS hBg fr kn => .inl ⟨trivial, fun K hK => wp_value (exec_move rfl fr.1) (hK _ _ ⟨Touch.refl _ _, rfl⟩)⟩),
      -- 2
      (fun Q aq ww own hS hBg fr kn => .inl ⟨trivial, fun K hK => wp_value (look_arr rfl isArr12 (obAt kn.1) fr.2.2.1) (hK _ _ ⟨Touch.refl _ _, rfl⟩)⟩),
      -- 3
      (fun Q aq ww own hS hBg fr kn => .inl ⟨trivial, fun K hK => stepc enterBlock rfl (args3 kn.1 kn.2.1 kn.2.2.1) (Block_run key nonce c ww hk hn hc) (fun w' hb => hK _ _ ⟨touch_below hb, rfl⟩)⟩),
      -- 4
      (fun Q aq ww own hS hBg fr kn => .inl ⟨trivial, fun K hK => wp_value (look_arr rfl isArr32 (obAt kn.1) fr.2.1) (hK _ _ ⟨Touch.refl _ _, rfl⟩)⟩),
      -- 5
      (fun Q aq ww own hS hBg fr kn => .inl ⟨trivial, fun K hK => wp_value (exec_move rfl fr.1) (hK _ _ ⟨Touch.refl _ _, rfl⟩)⟩),
      -- 6
      (fun Q aq ww own hS hBg fr kn => .inl ⟨trivial, fun K hK => wp_value (look_arr rfl isArr12 (obAt kn.1) fr.2.2.1) (hK _ _ ⟨Touch.refl _ _, rfl⟩)⟩),
      -- 7
      (fun Q aq ww own hS hBg fr kn => .inl ⟨trivial, fun K hK => stepc enterRBlock rfl (args3 kn.1 kn.2.1 kn.2.2.1) (rBlock_run key nonce c ww hk hn hc) (fun w' hb => hK _ _ ⟨touch_below hb, rfl⟩)⟩),
      -- 8
      (fun Q aq ww own hS hBg fr kn => .inl ⟨trivial, fun K hK => wp_value (eql_WA rfl Try.underlying33 eqg64 kn.1 kn.2.1) (hK _ _ ⟨Touch.refl _ _, rfl⟩)⟩),
      -- 9
      (fun Q aq ww own hS hBg fr kn => .inl ⟨trivial, fun K hK => wp_value (exec_move rfl kn.1) (hK _ _ ⟨Touch.refl _ _, rfl⟩)⟩),
      -- 10
      (fun Q aq ww own hS hBg fr kn => .inl ⟨kn.1, fun K hK => wp_value (look_arr rfl isArr32 (obAt kn.2.1) fr.2.1) (hK _ _ ⟨Touch.refl _ _, rfl⟩)⟩),
      -- 11
      (fun Q aq ww own hS hBg fr kn => .inl ⟨kn.1, fun K hK => wp_value (look_arr rfl isArr16 (obAt kn.2.1) fr.2.2.2.1) (hK _ _ ⟨Touch.refl _ _, rfl⟩)⟩),
      -- 12
      (fun Q aq ww own hS hBg fr kn => .inl ⟨kn.1, fun K hK => stepc enterDerive rfl (args2 kn.2.1 kn.2.2.1) (Derive_run key inn ww hk hI) (fun w' hb => hK _ _ ⟨touch_below hb, rfl⟩)⟩),
      -- 13
      (fun Q aq ww own hS hBg fr kn => .inl ⟨kn.1, fun K hK => wp_value (look_arr rfl isArr32 (obAt kn.2.1) fr.2.1) (hK _ _ ⟨Touch.refl _ _, rfl⟩)⟩),
      -- 14
      (fun Q aq ww own hS hBg fr kn => .inl ⟨kn.1, fun K hK => wp_value (look_arr rfl isArr16 (obAt kn.2.1) fr.2.2.2.1) (hK _ _ ⟨Touch.refl _ _, rfl⟩)⟩),
      -- 15
      (fun Q aq ww own hS hBg fr kn => .inl ⟨kn.1, fun K hK => stepc enterRDerive rfl (args2 kn.2.1 kn.2.2.1) (rDerive_run key inn ww hk hI) (fun w' hb => hK _ _ ⟨touch_below hb, rfl⟩)⟩),
      -- 16
      (fun Q aq ww own hS hBg fr kn => .inl ⟨kn.1, fun K hK => wp_value (eql_WA rfl Try.underlying29 eqg32 kn.2.1 kn.2.2.1) (hK _ _ ⟨Touch.refl _ _, rfl⟩)⟩),
      -- 17
      (fun Q aq ww own hS hBg fr kn => .inl ⟨trivial, fun K hK => wp_value (exec_pick rfl kn.1 kn.2.1) (hK _ _ ⟨Touch.refl _ _, rfl⟩)⟩),
      -- 18
      (fun Q aq ww own hS hBg fr kn => .inl ⟨trivial, fun K hK => wp_value (exec_move rfl kn.1) (hK _ _ ⟨Touch.refl _ _, rfl⟩)⟩),
      -- 19
      (fun Q aq ww own hS hBg fr kn => .inl ⟨kn.1, fun K hK => stepc enterAwake rfl args0 (awake_below ww) (fun w' hb => hK _ _ ⟨touch_below hb, rfl⟩)⟩),
      -- 20
      (fun Q aq ww own hS hBg fr kn => .inl ⟨trivial, fun K hK => wp_value (exec_pick rfl kn.1 kn.2.1) (hK _ _ ⟨Touch.refl _ _, rfl⟩)⟩),
      -- 21
      (fun Q aq ww own hS hBg fr kn => .inl ⟨trivial, fun K hK => wp_value (exec_assign rfl kn.1) (hK _ _ ⟨Touch.refl _ _, rfl⟩)⟩),
      trivial⟩ ?_
  intro vs3 own3 v3 hB3 hs3 kn inj
  clear inj hs3
  have e6 : vs3 6 = .bool true := kn.1
  simp only [putAll, Act.put, List.setIfInBounds_toArray, List.set_cons_zero, List.set_cons_succ, e6]
  go_wp2_with fail
  go_ret
  exact ⟨rfl, hB3⟩
end Go.Proofs.Ytfgebcemdjplnaa
