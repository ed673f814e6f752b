/-
  Own text. The document's codes of kinds; what it is told of a path.
-/
import Derived.Test.YtojekoakgpkkdaaDoorJT8
import Derived.Test.YtojekoakgpkkdaaDoorJT9
namespace Go.Proofs.YtojekoakgpkkdaaDoor
open Go.RowKit Go.Proofs
set_option maxRecDepth 100000
theorem en_aditref15_codes (args : Array Value) (w : World) : (callFunc 55 args).run Tryd.prog w = .ok (.enter 55 args) w := by kernel_rfl
theorem en_aditref12_From (args : Array Value) (w : World) : (callFunc 56 args).run Tryd.prog w = .ok (.enter 56 args) w := by kernel_rfl
theorem en_aditlaw15_awake (args : Array Value) (w : World) : (callFunc 8 args).run Tryd.prog w = .ok (.enter 8 args) w := by kernel_rfl
theorem en_icmp_Told (args : Array Value) (w : World) : (callFunc 18 args).run Tryd.prog w = .ok (.enter 18 args) w := by kernel_rfl
theorem en_aditref15_Told (args : Array Value) (w : World) : (callFunc 19 args).run Tryd.prog w = .ok (.enter 19 args) w := by kernel_rfl
theorem run_bsI2 (a b : Int) (w : World) : (Instr.buildSlice 126 2 #[(0, .int .i64 a), (1, .int .i64 b)]).run Tryd.prog w = .ok (.slice (some ⟨w.heap.size, 0, none⟩) 2 2) (w.alloc (.cells #[.int .i64 a, .int .i64 b] 3)) := by simp [go_sem]
theorem run_bsS6 (a0 a1 a2 a3 a4 a5 : Nat) (w : World) : (Instr.buildSlice 127 6 #[(0, .slice (some ⟨a0, 0, none⟩) 2 2), (1, .slice (some ⟨a1, 0, none⟩) 2 2), (2, .slice (some ⟨a2, 0, none⟩) 2 2), (3, .slice (some ⟨a3, 0, none⟩) 2 2), (4, .slice (some ⟨a4, 0, none⟩) 2 2), (5, .slice (some ⟨a5, 0, none⟩) 2 2)]).run Tryd.prog w = .ok (.slice (some ⟨w.heap.size, 0, none⟩) 6 6) (w.alloc (.cells #[.slice (some ⟨a0, 0, none⟩) 2 2, .slice (some ⟨a1, 0, none⟩) 2 2, .slice (some ⟨a2, 0, none⟩) 2 2, .slice (some ⟨a3, 0, none⟩) 2 2, .slice (some ⟨a4, 0, none⟩) 2 2, .slice (some ⟨a5, 0, none⟩) 2 2] 126)) := by simp [go_sem]
section
variable {ops : Array Oper} {rest : List Oper} {Q : Exit → Act → World → Prop} {o : Oper} {a : Act} {w : World}
theorem wl_bsI2 {x y : Operand} (ho : o.op = .buildSlice 126 2 #[(0, x), (1, y)]) (hw : Region.wanted o (yielded ops a.tmps) = true) {m n : Int} (hx : a.eval x = .int .i64 m) (hy : a.eval y = .int .i64 n)
    (h : ∀ g w', w.heap.size ≤ g → w'.heap[g]? = some (.cells #[.int .i64 m, .int .i64 n] 3 (0, 0)) → Below w.heap.size w w' → wpList Tryd.prog ops Q rest (a.put o.dst (.slice (some ⟨g, 0, none⟩) 2 2)) w') : wpList Tryd.prog ops Q (o :: rest) a w := by
  refine wl_act hw ?_
  have hr := run_bsI2 m n w
  unfold Oper.wp execOp
  simp only [ho, List.map_toArray, List.map_cons, List.map_nil, hx, hy, Sem.run_bind, hr, Result.andThen_ok, Sem.run_pure, Oper.upon]
  exact h _ _ (Nat.le_refl _) (heap_alloc_new w _) ((Below.refl _ w).alloc (Nat.le_refl _) _)
theorem wl_bsS6 {x0 x1 x2 x3 x4 x5 : Operand} (ho : o.op = .buildSlice 127 6 #[(0, x0), (1, x1), (2, x2), (3, x3), (4, x4), (5, x5)]) (hw : Region.wanted o (yielded ops a.tmps) = true) {a0 a1 a2 a3 a4 a5 : Nat} (h0 : a.eval x0 = .slice (some ⟨a0, 0, none⟩) 2 2) (h1 : a.eval x1 = .slice (some ⟨a1, 0, none⟩) 2 2) (h2 : a.eval x2 = .slice (some ⟨a2, 0, none⟩) 2 2) (h3 : a.eval x3 = .slice (some ⟨a3, 0, none⟩) 2 2) (h4 : a.eval x4 = .slice (some ⟨a4, 0, none⟩) 2 2) (h5 : a.eval x5 = .slice (some ⟨a5, 0, none⟩) 2 2)
    (h : ∀ g w', w.heap.size ≤ g → w'.heap[g]? = some (.cells #[.slice (some ⟨a0, 0, none⟩) 2 2, .slice (some ⟨a1, 0, none⟩) 2 2, .slice (some ⟨a2, 0, none⟩) 2 2, .slice (some ⟨a3, 0, none⟩) 2 2, .slice (some ⟨a4, 0, none⟩) 2 2, .slice (some ⟨a5, 0, none⟩) 2 2] 126 (0, 0)) → Below w.heap.size w w' → wpList Tryd.prog ops Q rest (a.put o.dst (.slice (some ⟨g, 0, none⟩) 6 6)) w') : wpList Tryd.prog ops Q (o :: rest) a w := by
  refine wl_act hw ?_
  have hr := run_bsS6 a0 a1 a2 a3 a4 a5 w
  unfold Oper.wp execOp
  simp only [ho, List.map_toArray, List.map_cons, List.map_nil, h0, h1, h2, h3, h4, h5, Sem.run_bind, hr, Result.andThen_ok, Sem.run_pure, Oper.upon]
  exact h _ _ (Nat.le_refl _) (heap_alloc_new w _) ((Below.refl _ w).alloc (Nat.le_refl _) _)
theorem exec_ixSS {x y : Operand} {g n c : Nat} (i : Nat) (ho : o.op = .indexAddr 127 x y) (hx : a.eval x = .slice (some ⟨g, 0, none⟩) n c) (hy : a.eval y = .int .i64 (i : Int)) (hi : i < n) : (execOp a.eval o).run Tryd.prog w = .ok (.value (.pointer (some ⟨g, i, none⟩))) w := by
  have h1 : ((i : Int)) < (n : Int) := by omega
  unfold execOp
  simp only [ho, hx, hy]
  simp [go_sem, h1]
theorem exec_ixII {x y : Operand} {g n c : Nat} (i : Nat) (ho : o.op = .indexAddr 126 x y) (hx : a.eval x = .slice (some ⟨g, 0, none⟩) n c) (hy : a.eval y = .int .i64 (i : Int)) (hi : i < n) : (execOp a.eval o).run Tryd.prog w = .ok (.value (.pointer (some ⟨g, i, none⟩))) w := by
  have h1 : ((i : Int)) < (n : Int) := by omega
  unfold execOp
  simp only [ho, hx, hy]
  simp [go_sem, h1]
theorem ldSl {p : Addr} {x : Value} (h : w.cell? p = some x) : (Instr.loadAt 126 (.pointer (some p))).run Tryd.prog w = .ok x w := by simp [go_sem, h]
theorem row_at {g i : Nat} {cs : Array Value} {t : TypeId} {x : Value} (h : w.heap[g]? = some (.cells cs t (0, 0))) (hx : cs[i]? = some x) : w.cell? ⟨g, i, none⟩ = some x := by
  unfold World.cell?
  simp [h, hx]
theorem exec_q16 {x y : Operand} (ho : o.op = .binOp .quo 5 x y 5) {m : Int} (hx : a.eval x = .int .u8 m) (hy : a.eval y = .int .u8 16) (h0 : 0 ≤ m) (h1 : m < 256) : (execOp a.eval o).run Tryd.prog w = .ok (.value (.int .u8 (m / 16))) w := by
  have e : IntKind.u8.wrap (m.tdiv 16) = m / 16 := by rw [Int.tdiv_eq_ediv_of_nonneg h0, IntKind.wrap_u8]; omega
  refine exec_bin2 ho hx hy rfl ?_
  simp [go_sem, e]
end
set_option maxHeartbeats 8000000 in
theorem codes4_false (w : World) : Calls Tryd.prog 55 #[.int .i64 4, .bool false] w fun e w' => e = .returned (.tuple #[.int .i64 (codT false 4), .int .i64 (codC false 4)]) ∧ Below w.heap.size w w' := by
  go_enter Tryd.func55, Tryd.ntmps55
  go_wp2_with (refine wl_bsI2 (m := 3) (n := 3) rfl rfl rfl rfl ?_; intro g1 w1 hg1 hr1 hB1; refine Hid.out ?_)
  refine Hid.mk ?_
  have hb1 := hB1
  go_wp2_with (refine wl_bsI2 (m := 3) (n := 1) rfl rfl rfl rfl ?_; intro g2 w2 hg2 hr2 hB2; refine Hid.out ?_)
  refine Hid.mk ?_
  have hb2 := hb1.trans (hB2.mono hb1.size)
  go_wp2_with (refine wl_bsI2 (m := 11) (n := 0) rfl rfl rfl rfl ?_; intro g3 w3 hg3 hr3 hB3; refine Hid.out ?_)
  refine Hid.mk ?_
  have hb3 := hb2.trans (hB3.mono hb2.size)
  go_wp2_with (refine wl_bsI2 (m := 3) (n := 4) rfl rfl rfl rfl ?_; intro g4 w4 hg4 hr4 hB4; refine Hid.out ?_)
  refine Hid.mk ?_
  have hb4 := hb3.trans (hB4.mono hb3.size)
  go_wp2_with (refine wl_bsI2 (m := 11) (n := 1) rfl rfl rfl rfl ?_; intro g5 w5 hg5 hr5 hB5; refine Hid.out ?_)
  refine Hid.mk ?_
  have hr45 := (hB5.block g4 (heap_lt hr4)).trans hr4
  have hb5 := hb4.trans (hB5.mono hb4.size)
  go_wp2_with (refine wl_bsI2 (m := 3) (n := 2) rfl rfl rfl rfl ?_; intro g6 w6 hg6 hr6 hB6; refine Hid.out ?_)
  refine Hid.mk ?_
  have hr456 := (hB6.block g4 (heap_lt hr45)).trans hr45
  have hb6 := hb5.trans (hB6.mono hb5.size)
  go_wp2_with (refine wl_bsS6 rfl rfl rfl rfl rfl rfl rfl rfl ?_; intro g7 w7 hg7 hr7 hB7; refine Hid.out ?_)
  refine Hid.mk ?_
  have hr4567 := (hB7.block g4 (heap_lt hr456)).trans hr456
  have hb7 := hb6.trans (hB7.mono hb6.size)
  go_wp2_with (refine wl_bsI2 (m := 1) (n := 4) rfl rfl rfl rfl ?_; intro g8 w8 hg8 hr8 hB8; refine Hid.out ?_)
  refine Hid.mk ?_
  have hr45678 := (hB8.block g4 (heap_lt hr4567)).trans hr4567
  have hr78 := (hB8.block g7 (heap_lt hr7)).trans hr7
  have hb8 := hb7.trans (hB8.mono hb7.size)
  go_wp2_with (refine wl_bsI2 (m := 1) (n := 0) rfl rfl rfl rfl ?_; intro g9 w9 hg9 hr9 hB9; refine Hid.out ?_)
  refine Hid.mk ?_
  have hr456789 := (hB9.block g4 (heap_lt hr45678)).trans hr45678
  have hr789 := (hB9.block g7 (heap_lt hr78)).trans hr78
  have hb9 := hb8.trans (hB9.mono hb8.size)
  go_wp2_with (refine wl_bsI2 (m := 3) (n := 0) rfl rfl rfl rfl ?_; intro g10 w10 hg10 hr10 hB10; refine Hid.out ?_)
  refine Hid.mk ?_
  have hr45678910 := (hB10.block g4 (heap_lt hr456789)).trans hr456789
  have hr78910 := (hB10.block g7 (heap_lt hr789)).trans hr789
  have hb10 := hb9.trans (hB10.mono hb9.size)
  go_wp2_with (refine wl_bsI2 (m := 2) (n := 0) rfl rfl rfl rfl ?_; intro g11 w11 hg11 hr11 hB11; refine Hid.out ?_)
  refine Hid.mk ?_
  have hr4567891011 := (hB11.block g4 (heap_lt hr45678910)).trans hr45678910
  have hr7891011 := (hB11.block g7 (heap_lt hr78910)).trans hr78910
  have hb11 := hb10.trans (hB11.mono hb10.size)
  go_wp2_with (refine wl_bsI2 (m := 3) (n := 1) rfl rfl rfl rfl ?_; intro g12 w12 hg12 hr12 hB12; refine Hid.out ?_)
  refine Hid.mk ?_
  have hr456789101112 := (hB12.block g4 (heap_lt hr4567891011)).trans hr4567891011
  have hr789101112 := (hB12.block g7 (heap_lt hr7891011)).trans hr7891011
  have hb12 := hb11.trans (hB12.mono hb11.size)
  go_wp2_with (refine wl_bsI2 (m := 4) (n := 1) rfl rfl rfl rfl ?_; intro g13 w13 hg13 hr13 hB13; refine Hid.out ?_)
  refine Hid.mk ?_
  have hr45678910111213 := (hB13.block g4 (heap_lt hr456789101112)).trans hr456789101112
  have hr78910111213 := (hB13.block g7 (heap_lt hr789101112)).trans hr789101112
  have hb13 := hb12.trans (hB13.mono hb12.size)
  go_wp2_with (refine wl_bsS6 rfl rfl rfl rfl rfl rfl rfl rfl ?_; intro g14 w14 hg14 hr14 hB14; refine Hid.out ?_)
  refine Hid.mk ?_
  have hr4567891011121314 := (hB14.block g4 (heap_lt hr45678910111213)).trans hr45678910111213
  have hr7891011121314 := (hB14.block g7 (heap_lt hr78910111213)).trans hr78910111213
  have hb14 := hb13.trans (hB14.mono hb13.size)
  go_upto_region 5 with fail
  refine wp_region3 (Below w14.heap.size w14) (w14.heap.size)
      ([] : List (Nat × Cont))
      [kv (.slice (some ⟨g7, 0, none⟩) 6 6), kv (.int .i64 4), kv (.int .i64 3), kv (.pointer (some ⟨g7, 3, none⟩)), kv (.slice (some ⟨g4, 0, none⟩) 2 2), kv (.pointer (some ⟨g4, 0, none⟩)), kv (.int .i64 3), kv (.slice (some ⟨g7, 0, none⟩) 6 6), kv (.int .i64 4), kv (.int .i64 3), kv (.pointer (some ⟨g7, 3, none⟩)), kv (.slice (some ⟨g4, 0, none⟩) 2 2), kv (.pointer (some ⟨g4, 1, none⟩)), kv (.int .i64 4), kv (.int .i64 3), kv (.int .i64 4)]
      [.none, .none, .none, .none, .none, .none, .none, .none, .none, .none, .none, .none, .none, .none, .none, .none]
      [some 37, some 38, some 39, some 40, some 41, some 42, some 43, some 44, some 45, some 46, some 47, some 48, some 49, some 50, some 4, some 5]
      [(6, .slice (some ⟨g7, 0, none⟩) 6 6), (0, .int .i64 4)]
      [[], [], [.slot 1], [.slot 0, .slot 2], [.slot 3], [.slot 4], [.slot 5], [], [], [.slot 8], [.slot 7, .slot 9], [.slot 10], [.slot 11], [.slot 12], [.slot 6], [.slot 13]]
      [.slot 14, .slot 15] [37, 38, 39, 40, 41, 42, 43, 44, 45, 46, 47, 48, 49, 50, 4, 5]
      rfl (by kernel_rfl) ⟨rfl, rfl, trivial⟩ ((Below.refl _ w14).drew) (Nat.le_refl _) trivial trivial (below_GcW (Nat.le_refl _))
      ⟨
      (fun QQ aa ww own hS hBg fr kn => .inl ⟨trivial, fun K hK => wp_value (exec_move rfl fr.1) (hK _ _ ⟨Touch.refl _ _, rfl⟩)⟩),
      (fun QQ aa ww own hS hBg fr kn => .inl ⟨trivial, fun K hK => wp_value (exec_move rfl fr.2.1) (hK _ _ ⟨Touch.refl _ _, rfl⟩)⟩),
      (fun QQ aa ww own hS hBg fr kn => .inl ⟨trivial, fun K hK => wp_value (exec_sbI (m := 4) (n := 1) rfl kn.1 rfl (by decide) (by decide)) (hK _ _ ⟨Touch.refl _ _, rfl⟩)⟩),
      (fun QQ aa ww own hS hBg fr kn => .inl ⟨trivial, fun K hK => wp_value (exec_ixSS 3 rfl kn.1 kn.2.1 (by decide)) (hK _ _ ⟨Touch.refl _ _, rfl⟩)⟩),
      (fun QQ aa ww own hS hBg fr kn => .inl ⟨trivial, fun K hK => wp_value (exec_ld rfl kn.1 (ldSl (row_at ((hS.block g7 (heap_lt hr7891011121314)).trans hr7891011121314) rfl))) (hK _ _ ⟨Touch.refl _ _, rfl⟩)⟩),
      (fun QQ aa ww own hS hBg fr kn => .inl ⟨trivial, fun K hK => wp_value (exec_ixII 0 rfl kn.1 rfl (by decide)) (hK _ _ ⟨Touch.refl _ _, rfl⟩)⟩),
      (fun QQ aa ww own hS hBg fr kn => .inl ⟨trivial, fun K hK => wp_value (exec_ld rfl kn.1 (ldI (row_at ((hS.block g4 (heap_lt hr4567891011121314)).trans hr4567891011121314) rfl))) (hK _ _ ⟨Touch.refl _ _, rfl⟩)⟩),
      (fun QQ aa ww own hS hBg fr kn => .inl ⟨trivial, fun K hK => wp_value (exec_move rfl fr.1) (hK _ _ ⟨Touch.refl _ _, rfl⟩)⟩),
      (fun QQ aa ww own hS hBg fr kn => .inl ⟨trivial, fun K hK => wp_value (exec_move rfl fr.2.1) (hK _ _ ⟨Touch.refl _ _, rfl⟩)⟩),
      (fun QQ aa ww own hS hBg fr kn => .inl ⟨trivial, fun K hK => wp_value (exec_sbI (m := 4) (n := 1) rfl kn.1 rfl (by decide) (by decide)) (hK _ _ ⟨Touch.refl _ _, rfl⟩)⟩),
      (fun QQ aa ww own hS hBg fr kn => .inl ⟨trivial, fun K hK => wp_value (exec_ixSS 3 rfl kn.1 kn.2.1 (by decide)) (hK _ _ ⟨Touch.refl _ _, rfl⟩)⟩),
      (fun QQ aa ww own hS hBg fr kn => .inl ⟨trivial, fun K hK => wp_value (exec_ld rfl kn.1 (ldSl (row_at ((hS.block g7 (heap_lt hr7891011121314)).trans hr7891011121314) rfl))) (hK _ _ ⟨Touch.refl _ _, rfl⟩)⟩),
      (fun QQ aa ww own hS hBg fr kn => .inl ⟨trivial, fun K hK => wp_value (exec_ixII 1 rfl kn.1 rfl (by decide)) (hK _ _ ⟨Touch.refl _ _, rfl⟩)⟩),
      (fun QQ aa ww own hS hBg fr kn => .inl ⟨trivial, fun K hK => wp_value (exec_ld rfl kn.1 (ldI (row_at ((hS.block g4 (heap_lt hr4567891011121314)).trans hr4567891011121314) rfl))) (hK _ _ ⟨Touch.refl _ _, rfl⟩)⟩),
      (fun QQ aa ww own hS hBg fr kn => .inl ⟨trivial, fun K hK => wp_value (exec_assign rfl kn.1) (hK _ _ ⟨Touch.refl _ _, rfl⟩)⟩),
      (fun QQ aa ww own hS hBg fr kn => .inl ⟨trivial, fun K hK => wp_value (exec_assign rfl kn.1) (hK _ _ ⟨Touch.refl _ _, rfl⟩)⟩),
      trivial⟩ ?_
  intro vs own z hBz hsz kn inj
  have e4 : vs 4 = .int .i64 3 := kn.1
  have e5 : vs 5 = .int .i64 4 := kn.2.1
  clear kn inj hsz
  simp only [putAll, Act.put, List.setIfInBounds_toArray, List.set_cons_zero, List.set_cons_succ, e4, e5]
  go_wp2_with fail
  refine bodyPost_ret (results_two rfl (by rfl) (by rfl)) rfl ?_
  exact ⟨rfl, hb14.trans (hBz.mono hb14.size)⟩
set_option maxHeartbeats 8000000 in
theorem codes4_true (w : World) : Calls Tryd.prog 55 #[.int .i64 4, .bool true] w fun e w' => e = .returned (.tuple #[.int .i64 (codT true 4), .int .i64 (codC true 4)]) ∧ Below w.heap.size w w' := by
  go_enter Tryd.func55, Tryd.ntmps55
  go_wp2_with (refine wl_bsI2 (m := 3) (n := 3) rfl rfl rfl rfl ?_; intro g1 w1 hg1 hr1 hB1; refine Hid.out ?_)
  refine Hid.mk ?_
  have hb1 := hB1
  go_wp2_with (refine wl_bsI2 (m := 3) (n := 1) rfl rfl rfl rfl ?_; intro g2 w2 hg2 hr2 hB2; refine Hid.out ?_)
  refine Hid.mk ?_
  have hb2 := hb1.trans (hB2.mono hb1.size)
  go_wp2_with (refine wl_bsI2 (m := 11) (n := 0) rfl rfl rfl rfl ?_; intro g3 w3 hg3 hr3 hB3; refine Hid.out ?_)
  refine Hid.mk ?_
  have hb3 := hb2.trans (hB3.mono hb2.size)
  go_wp2_with (refine wl_bsI2 (m := 3) (n := 4) rfl rfl rfl rfl ?_; intro g4 w4 hg4 hr4 hB4; refine Hid.out ?_)
  refine Hid.mk ?_
  have hb4 := hb3.trans (hB4.mono hb3.size)
  go_wp2_with (refine wl_bsI2 (m := 11) (n := 1) rfl rfl rfl rfl ?_; intro g5 w5 hg5 hr5 hB5; refine Hid.out ?_)
  refine Hid.mk ?_
  have hb5 := hb4.trans (hB5.mono hb4.size)
  go_wp2_with (refine wl_bsI2 (m := 3) (n := 2) rfl rfl rfl rfl ?_; intro g6 w6 hg6 hr6 hB6; refine Hid.out ?_)
  refine Hid.mk ?_
  have hb6 := hb5.trans (hB6.mono hb5.size)
  go_wp2_with (refine wl_bsS6 rfl rfl rfl rfl rfl rfl rfl rfl ?_; intro g7 w7 hg7 hr7 hB7; refine Hid.out ?_)
  refine Hid.mk ?_
  have hb7 := hb6.trans (hB7.mono hb6.size)
  go_wp2_with (refine wl_bsI2 (m := 1) (n := 4) rfl rfl rfl rfl ?_; intro g8 w8 hg8 hr8 hB8; refine Hid.out ?_)
  refine Hid.mk ?_
  have hb8 := hb7.trans (hB8.mono hb7.size)
  go_wp2_with (refine wl_bsI2 (m := 1) (n := 0) rfl rfl rfl rfl ?_; intro g9 w9 hg9 hr9 hB9; refine Hid.out ?_)
  refine Hid.mk ?_
  have hb9 := hb8.trans (hB9.mono hb8.size)
  go_wp2_with (refine wl_bsI2 (m := 3) (n := 0) rfl rfl rfl rfl ?_; intro g10 w10 hg10 hr10 hB10; refine Hid.out ?_)
  refine Hid.mk ?_
  have hb10 := hb9.trans (hB10.mono hb9.size)
  go_wp2_with (refine wl_bsI2 (m := 2) (n := 0) rfl rfl rfl rfl ?_; intro g11 w11 hg11 hr11 hB11; refine Hid.out ?_)
  refine Hid.mk ?_
  have hb11 := hb10.trans (hB11.mono hb10.size)
  go_wp2_with (refine wl_bsI2 (m := 3) (n := 1) rfl rfl rfl rfl ?_; intro g12 w12 hg12 hr12 hB12; refine Hid.out ?_)
  refine Hid.mk ?_
  have hr1112 := (hB12.block g11 (heap_lt hr11)).trans hr11
  have hb12 := hb11.trans (hB12.mono hb11.size)
  go_wp2_with (refine wl_bsI2 (m := 4) (n := 1) rfl rfl rfl rfl ?_; intro g13 w13 hg13 hr13 hB13; refine Hid.out ?_)
  refine Hid.mk ?_
  have hr111213 := (hB13.block g11 (heap_lt hr1112)).trans hr1112
  have hb13 := hb12.trans (hB13.mono hb12.size)
  go_wp2_with (refine wl_bsS6 rfl rfl rfl rfl rfl rfl rfl rfl ?_; intro g14 w14 hg14 hr14 hB14; refine Hid.out ?_)
  refine Hid.mk ?_
  have hr11121314 := (hB14.block g11 (heap_lt hr111213)).trans hr111213
  have hb14 := hb13.trans (hB14.mono hb13.size)
  go_upto_region 4 with fail
  refine wp_region3 (Below w14.heap.size w14) (w14.heap.size)
      ([] : List (Nat × Cont))
      [kv (.slice (some ⟨g14, 0, none⟩) 6 6), kv (.int .i64 4), kv (.int .i64 3), kv (.pointer (some ⟨g14, 3, none⟩)), kv (.slice (some ⟨g11, 0, none⟩) 2 2), kv (.pointer (some ⟨g11, 0, none⟩)), kv (.int .i64 2), kv (.slice (some ⟨g14, 0, none⟩) 6 6), kv (.int .i64 4), kv (.int .i64 3), kv (.pointer (some ⟨g14, 3, none⟩)), kv (.slice (some ⟨g11, 0, none⟩) 2 2), kv (.pointer (some ⟨g11, 1, none⟩)), kv (.int .i64 0), kv (.int .i64 2), kv (.int .i64 0)]
      [.none, .none, .none, .none, .none, .none, .none, .none, .none, .none, .none, .none, .none, .none, .none, .none]
      [some 23, some 24, some 25, some 26, some 27, some 28, some 29, some 30, some 31, some 32, some 33, some 34, some 35, some 36, some 4, some 5]
      [(7, .slice (some ⟨g14, 0, none⟩) 6 6), (0, .int .i64 4)]
      [[], [], [.slot 1], [.slot 0, .slot 2], [.slot 3], [.slot 4], [.slot 5], [], [], [.slot 8], [.slot 7, .slot 9], [.slot 10], [.slot 11], [.slot 12], [.slot 6], [.slot 13]]
      [.slot 14, .slot 15] [23, 24, 25, 26, 27, 28, 29, 30, 31, 32, 33, 34, 35, 36, 4, 5]
      rfl (by kernel_rfl) ⟨rfl, rfl, trivial⟩ ((Below.refl _ w14).drew) (Nat.le_refl _) trivial trivial (below_GcW (Nat.le_refl _))
      ⟨
      (fun QQ aa ww own hS hBg fr kn => .inl ⟨trivial, fun K hK => wp_value (exec_move rfl fr.1) (hK _ _ ⟨Touch.refl _ _, rfl⟩)⟩),
      (fun QQ aa ww own hS hBg fr kn => .inl ⟨trivial, fun K hK => wp_value (exec_move rfl fr.2.1) (hK _ _ ⟨Touch.refl _ _, rfl⟩)⟩),
      (fun QQ aa ww own hS hBg fr kn => .inl ⟨trivial, fun K hK => wp_value (exec_sbI (m := 4) (n := 1) rfl kn.1 rfl (by decide) (by decide)) (hK _ _ ⟨Touch.refl _ _, rfl⟩)⟩),
      (fun QQ aa ww own hS hBg fr kn => .inl ⟨trivial, fun K hK => wp_value (exec_ixSS 3 rfl kn.1 kn.2.1 (by decide)) (hK _ _ ⟨Touch.refl _ _, rfl⟩)⟩),
      (fun QQ aa ww own hS hBg fr kn => .inl ⟨trivial, fun K hK => wp_value (exec_ld rfl kn.1 (ldSl (row_at ((hS.block g14 (heap_lt hr14)).trans hr14) rfl))) (hK _ _ ⟨Touch.refl _ _, rfl⟩)⟩),
      (fun QQ aa ww own hS hBg fr kn => .inl ⟨trivial, fun K hK => wp_value (exec_ixII 0 rfl kn.1 rfl (by decide)) (hK _ _ ⟨Touch.refl _ _, rfl⟩)⟩),
      (fun QQ aa ww own hS hBg fr kn => .inl ⟨trivial, fun K hK => wp_value (exec_ld rfl kn.1 (ldI (row_at ((hS.block g11 (heap_lt hr11121314)).trans hr11121314) rfl))) (hK _ _ ⟨Touch.refl _ _, rfl⟩)⟩),
      (fun QQ aa ww own hS hBg fr kn => .inl ⟨trivial, fun K hK => wp_value (exec_move rfl fr.1) (hK _ _ ⟨Touch.refl _ _, rfl⟩)⟩),
      (fun QQ aa ww own hS hBg fr kn => .inl ⟨trivial, fun K hK => wp_value (exec_move rfl fr.2.1) (hK _ _ ⟨Touch.refl _ _, rfl⟩)⟩),
      (fun QQ aa ww own hS hBg fr kn => .inl ⟨trivial, fun K hK => wp_value (exec_sbI (m := 4) (n := 1) rfl kn.1 rfl (by decide) (by decide)) (hK _ _ ⟨Touch.refl _ _, rfl⟩)⟩),
      (fun QQ aa ww own hS hBg fr kn => .inl ⟨trivial, fun K hK => wp_value (exec_ixSS 3 rfl kn.1 kn.2.1 (by decide)) (hK _ _ ⟨Touch.refl _ _, rfl⟩)⟩),
      (fun QQ aa ww own hS hBg fr kn => .inl ⟨trivial, fun K hK => wp_value (exec_ld rfl kn.1 (ldSl (row_at ((hS.block g14 (heap_lt hr14)).trans hr14) rfl))) (hK _ _ ⟨Touch.refl _ _, rfl⟩)⟩),
      (fun QQ aa ww own hS hBg fr kn => .inl ⟨trivial, fun K hK => wp_value (exec_ixII 1 rfl kn.1 rfl (by decide)) (hK _ _ ⟨Touch.refl _ _, rfl⟩)⟩),
      (fun QQ aa ww own hS hBg fr kn => .inl ⟨trivial, fun K hK => wp_value (exec_ld rfl kn.1 (ldI (row_at ((hS.block g11 (heap_lt hr11121314)).trans hr11121314) rfl))) (hK _ _ ⟨Touch.refl _ _, rfl⟩)⟩),
      (fun QQ aa ww own hS hBg fr kn => .inl ⟨trivial, fun K hK => wp_value (exec_assign rfl kn.1) (hK _ _ ⟨Touch.refl _ _, rfl⟩)⟩),
      (fun QQ aa ww own hS hBg fr kn => .inl ⟨trivial, fun K hK => wp_value (exec_assign rfl kn.1) (hK _ _ ⟨Touch.refl _ _, rfl⟩)⟩),
      trivial⟩ ?_
  intro vs own z hBz hsz kn inj
  have e4 : vs 4 = .int .i64 2 := kn.1
  have e5 : vs 5 = .int .i64 0 := kn.2.1
  clear kn inj hsz
  simp only [putAll, Act.put, List.setIfInBounds_toArray, List.set_cons_zero, List.set_cons_succ, e4, e5]
  go_wp2_with fail
  refine bodyPost_ret (results_two rfl (by rfl) (by rfl)) rfl ?_
  exact ⟨rfl, hb14.trans (hBz.mono hb14.size)⟩
set_option linter.unusedSimpArgs false in
set_option maxHeartbeats 8000000 in
theorem dTold_run (P : Pk) (vx : Value) (w : World) (hx : ExAt w vx P.exts) (hp : PkB P) : Calls Tryd.prog 19 #[.agg (SC 46 (pkV P vx))] w fun e w' => e = .returned (.tuple #[.agg (SC 17 (adV (toldV P) (toldA P))), .int .i64 ((toldN P : Nat) : Int), .bool (toldB P)]) ∧ Below w.heap.size w w' := by
  generalize hRV : (.tuple #[.agg (SC 17 (adV (toldV P) (toldA P))), .int .i64 ((toldN P : Nat) : Int), .bool (toldB P)] : Value) = RV
  have HRV := Hid.mk hRV
  clear hRV
  have HX := Hid.mk hx
  have HP := Hid.mk hp
  clear hx hp
  go_enter Tryd.func19, Tryd.ntmps19
  go_wp2_with (refine wl_boxO (V := pkV P vx) rfl rfl isPk rfl ?_; intro g1 w1 hg1 s1 hB1; refine Hid.out ?_)
  refine Hid.mk ?_
  have hz2 : w.heap.size ≤ g1 := by omega
  have hbt3 := hB1
  clear hB1 hg1
  go_wp2_with (refine wl_alO (V := adV false (fun _ => 0)) rfl rfl zeroAddr ?_; intro g4 w4 hg4 s4 hB4; refine Hid.out ?_)
  refine Hid.mk ?_
  have hn5 : g1 ≠ g4 := by have := s1.lt; omega
  have hz6 : w.heap.size ≤ g4 := by have := hbt3.size; omega
  have s7 := s1.kept hB4
  clear s1
  have hbt8 := hbt3.trans (hB4.mono hbt3.size)
  clear hbt3
  clear hB4 hg4
  go_wp2_with (refine wl_value rfl (look_st rfl isPk s7 rfl) ?_; refine Hid.out ?_)
  refine Hid.mk ?_
  rcases Bool.eq_false_or_eq_true (msgB P) with hb9 | hb9
  · have Hhb9 := Hid.mk hb9
    clear hb9
    have HMR := Hid.mk (msg_rest Hhb9.out)
    have HMB := Hid.mk (msg_body Hhb9.out)
    have HC10 : Hid (Calls Tryd.prog 44 #[.agg (SC 46 (pkV P vx))] w4 fun e w' => e = .returned (.tuple #[.agg (SC 4 (msV (msgM P))), .bool true]) ∧ Below w4.heap.size w4 w') := Hid.mk (by have h := dmsg_run P vx w4 (ExAt.kept HX.out hbt8) HP.out; rw [Hhb9.out] at h; exact h)
    go_wp2_with (refine wl_cal en_aditref15_message HC10 rfl rfl (args1 rfl) ?_; intro w11 hB11; refine Hid.out ?_)
    refine Hid.mk ?_
    clear HC10
    have s12 := s7.kept hB11
    clear s7
    have s13 := s4.kept hB11
    clear s4
    have hbt14 := hbt8.trans (hB11.mono hbt8.size)
    clear hbt8
    clear hB11
    go_wp2_with (refine wl_alO (V := msV ms0) rfl rfl zeroMs ?_; intro g15 w15 hg15 s15 hB15; refine Hid.out ?_)
    refine Hid.mk ?_
    have hn16 : g1 ≠ g15 := by have := s12.lt; omega
    have hn17 : g4 ≠ g15 := by have := s13.lt; omega
    have hz18 : w.heap.size ≤ g15 := by have := hbt14.size; omega
    have s19 := s12.kept hB15
    clear s12
    have s20 := s13.kept hB15
    clear s13
    have hbt21 := hbt14.trans (hB15.mono hbt14.size)
    clear hbt14
    clear hB15 hg15
    go_wp2_with (refine st_stO (V := msV (msgM P)) (g := g15) rfl rfl isMs (msV_one _) s15 rfl rfl ?_; intro w22 s22 ho22; refine Hid.out ?_)
    refine Hid.mk ?_
    clear s15
    have s23 := s19.only ho22 hn16
    clear s19
    have s24 := s20.only ho22 hn17
    clear s20
    have hbt25 := hbt21.trans (ho22.below hz18)
    clear hbt21
    clear ho22
    go_wp2_with (refine wl_value rfl (exec_fpk 0 (by decide) rfl rfl) ?_; refine Hid.out ?_)
    refine Hid.mk ?_
    go_wp2_with (refine wl_value rfl (exec_fad0 rfl rfl) ?_; refine Hid.out ?_)
    refine Hid.mk ?_
    rcases Bool.eq_false_or_eq_true (P.sv) with hb26 | hb26
    · have Hhb26 := Hid.mk hb26
      clear hb26
      go_wp2_with (refine wl_value rfl (kn_ (c := true) Hhb26 (exec_ld rfl rfl (ldB (SAt.at s23 0 (by decide))))) ?_; refine Hid.out ?_)
      refine Hid.mk ?_
      have HC27 : Hid (Calls Tryd.prog 55 #[.int .i64 4, .bool true] w22 fun e w' => e = .returned (.tuple #[.int .i64 (codT true 4), .int .i64 (codC true 4)]) ∧ Below w22.heap.size w22 w') := Hid.mk (codes4_true w22)
      go_wp2_with (refine wl_cal en_aditref15_codes HC27 rfl rfl (args2 rfl rfl) ?_; intro w28 hB28; refine Hid.out ?_)
      refine Hid.mk ?_
      clear HC27
      have s29 := s23.kept hB28
      clear s23
      have s30 := s24.kept hB28
      clear s24
      have s31 := s22.kept hB28
      clear s22
      have hbt32 := hbt25.trans (hB28.mono hbt25.size)
      clear hbt25
      clear hB28
      go_wp2_with (refine wl_value rfl (exec_fms 0 (by decide) rfl rfl) ?_; refine Hid.out ?_)
      refine Hid.mk ?_
      go_wp2_with (refine wl_value rfl (exec_ld rfl rfl (ldI (SAt.at s31 0 (by decide)))) ?_; refine Hid.out ?_)
      refine Hid.mk ?_
      rcases Bool.eq_false_or_eq_true (decide ((msgM P).typ = codT true 4)) with hb33 | hb33
      · have Hhb33 := Hid.mk hb33
        clear hb33
        have HDhb33 := Hid.mk (of_decide_eq_true Hhb33.out)
        go_wp2_with (refine wl_value rfl (kn_n (c := false) Hhb33 (cmp_ne (m := (msgM P).typ) (n := codT true 4) rfl rfl rfl)) ?_; refine Hid.out ?_)
        refine Hid.mk ?_
        go_wp2_with (refine wl_value rfl (exec_fms 1 (by decide) rfl rfl) ?_; refine Hid.out ?_)
        refine Hid.mk ?_
        go_wp2_with (refine wl_value rfl (exec_ld rfl rfl (ldI (SAt.at s31 1 (by decide)))) ?_; refine Hid.out ?_)
        refine Hid.mk ?_
        rcases Bool.eq_false_or_eq_true (decide ((msgM P).code = codC true 4)) with hb34 | hb34
        · have Hhb34 := Hid.mk hb34
          clear hb34
          have HDhb34 := Hid.mk (of_decide_eq_true Hhb34.out)
          go_wp2_with (refine wl_value rfl (kn_n (c := false) Hhb34 (cmp_ne (m := (msgM P).code) (n := codC true 4) rfl rfl rfl)) ?_; refine Hid.out ?_)
          refine Hid.mk ?_
          go_wp2_with (refine wl_value rfl (exec_fpk 0 (by decide) rfl rfl) ?_; refine Hid.out ?_)
          refine Hid.mk ?_
          go_wp2_with (refine wl_value rfl (exec_fad0 rfl rfl) ?_; refine Hid.out ?_)
          refine Hid.mk ?_
          go_wp2_with (refine wl_value rfl (kn_ (c := true) Hhb26 (exec_ld rfl rfl (ldB (SAt.at s29 0 (by decide))))) ?_; refine Hid.out ?_)
          refine Hid.mk ?_
          go_wp2_with (refine wl_value rfl (exec_fms 3 (by decide) rfl rfl) ?_; refine Hid.out ?_)
          refine Hid.mk ?_
          go_wp2_with (refine wl_value rfl (exec_ld rfl rfl (ldS (SAt.at s31 3 (by decide)))) ?_; refine Hid.out ?_)
          refine Hid.mk ?_
          go_wp2_with (refine wl_value rfl (exec_lenS rfl rfl) ?_; refine Hid.out ?_)
          refine Hid.mk ?_
          rcases Bool.eq_false_or_eq_true (decide ((((msgM P).body).size : Int) < 40)) with hb35 | hb35
          · have Hhb35 := Hid.mk hb35
            clear hb35
            have HDhb35 := Hid.mk (of_decide_eq_true Hhb35.out)
            go_wp2_with (refine wl_value rfl (kn_ (c := true) Hhb35 (cmp_lt (m := (((msgM P).body).size : Int)) (n := 40) rfl rfl rfl)) ?_; refine Hid.out ?_)
            refine Hid.mk ?_
            go_wp2_with (refine wl_value rfl (exec_adW0 rfl) ?_; refine Hid.out ?_)
            refine Hid.mk ?_
            go_wp2_with (refine st_stO (V := adV false (fun _ => 0)) (g := g4) rfl rfl isAddr (adV_one _ _) s30 rfl rfl ?_; intro w36 s36 ho36; refine Hid.out ?_)
            refine Hid.mk ?_
            clear s30
            have s37 := s29.only ho36 hn5
            clear s29
            have s38 := s31.only ho36 hn17.symm
            clear s31
            have hbt39 := hbt32.trans (ho36.below hz6)
            clear hbt32
            clear ho36
            go_wp2_with fail
            have hq : decide (hdN P.sv ≤ (msgM P).body.size) = false := by rw [Hhb26.out]; exact decide_eq_false (show ¬ 40 ≤ (msgM P).body.size from (by have := HMR.out; have := HMB.out; have := HDhb33.out; have := HDhb34.out; have := HDhb35.out; omega))
            have hty : decide ((msgM P).typ = codT P.sv 4) = true := by rw [Hhb26.out]; exact Hhb33.out
            have hco : decide ((msgM P).code = codC P.sv 4) = true := by rw [Hhb26.out]; exact Hhb34.out
            have hB : toldB P = false := by unfold toldB; rw [Hhb9.out, hty, hco, hq]; rfl
            have hV : toldV P = false := by unfold toldV; rw [hB]; rfl
            have hA : toldA P = fun _ => 0 := by unfold toldA; rw [if_neg (by rw [hB]; decide)]
            have hN : toldN P = 0 := by unfold toldN; rw [if_neg (by rw [hB]; decide)]
            refine bodyPost_ret (res_ctt rfl isAddr s36 (by rfl) (by rfl) (by rfl)) rfl ?_
            exact ⟨Eq.trans (rfl : _ = Ending.returned (.tuple #[.agg (SC 17 (adV false (fun _ => 0))), .int .i64 0, .bool false])) (by rw [← HRV.out, hB, hV, hA, hN] <;> rfl), hbt39⟩
          · have Hhb35 := Hid.mk hb35
            clear hb35
            have HDhb35 := Hid.mk (of_decide_eq_false Hhb35.out)
            go_wp2_with (refine wl_value rfl (kn_ (c := false) Hhb35 (cmp_lt (m := (((msgM P).body).size : Int)) (n := 40) rfl rfl rfl)) ?_; refine Hid.out ?_)
            refine Hid.mk ?_
            go_wp2_with (refine wl_value rfl (exec_fms 3 (by decide) rfl rfl) ?_; refine Hid.out ?_)
            refine Hid.mk ?_
            go_wp2_with (refine wl_value rfl (exec_ld rfl rfl (ldS (SAt.at s31 3 (by decide)))) ?_; refine Hid.out ?_)
            refine Hid.mk ?_
            go_wp2_with (refine wl_value rfl (exec_ixs (j := 0) rfl rfl rfl (by have := HMR.out; have := HMB.out; have := HDhb33.out; have := HDhb34.out; have := HDhb35.out; omega)) ?_; refine Hid.out ?_)
            refine Hid.mk ?_
            have HU40 := Hid.mk (txt_b ((msgM P).body) 0)
            go_wp2_with (refine wl_value rfl (exec_q16 rfl rfl rfl (by have := HMR.out; have := HMB.out; have := HDhb33.out; have := HDhb34.out; have := HDhb35.out; have := HU40.out; omega) (by have := HMR.out; have := HMB.out; have := HDhb33.out; have := HDhb34.out; have := HDhb35.out; have := HU40.out; omega)) ?_; refine Hid.out ?_)
            refine Hid.mk ?_
            rcases Bool.eq_false_or_eq_true (decide ((txt ((msgM P).body) 0) / 16 = 6)) with hb41 | hb41
            · have Hhb41 := Hid.mk hb41
              clear hb41
              have HDhb41 := Hid.mk (of_decide_eq_true Hhb41.out)
              go_wp2_with (refine wl_value rfl (kn_n (c := false) Hhb41 (cmp_ne8 (m := (txt ((msgM P).body) 0) / 16) (n := 6) rfl rfl rfl)) ?_; refine Hid.out ?_)
              refine Hid.mk ?_
              go_wp2_with (refine wl_value rfl (exec_fms 3 (by decide) rfl rfl) ?_; refine Hid.out ?_)
              refine Hid.mk ?_
              go_wp2_with (refine wl_value rfl (exec_ld rfl rfl (ldS (SAt.at s31 3 (by decide)))) ?_; refine Hid.out ?_)
              refine Hid.mk ?_
              go_wp2_with (refine wl_value rfl (exec_addW (i := 24) (m := 16) rfl rfl rfl rfl (by have := HMR.out; have := HMB.out; have := HDhb33.out; have := HDhb34.out; have := HDhb35.out; have := HU40.out; have := HDhb41.out; omega)) ?_; refine Hid.out ?_)
              refine Hid.mk ?_
              go_wp2_with (refine wl_value rfl (exec_slLH (v := .string ((msgM P).body)) (u := .int .i64 (24 : Nat)) (u' := .int .i64 (24 + 16 : Nat)) rfl rfl rfl rfl (strLH ((msgM P).body) 24 (24 + 16) _ (by have := HMR.out; have := HMB.out; have := HDhb33.out; have := HDhb34.out; have := HDhb35.out; have := HU40.out; have := HDhb41.out; omega) (by have := HMR.out; have := HMB.out; have := HDhb33.out; have := HDhb34.out; have := HDhb35.out; have := HU40.out; have := HDhb41.out; omega))) ?_; refine Hid.out ?_)
              refine Hid.mk ?_
              have HZ42 := Hid.mk (cutP_size ((msgM P).body) 24 (24 + 16) (by have := HMR.out; have := HMB.out; have := HDhb33.out; have := HDhb34.out; have := HDhb35.out; have := HU40.out; have := HDhb41.out; omega))
              have HC43 : Hid (Calls Tryd.prog 56 #[.string (((msgM P).body).extract 24 (24 + 16))] w28 fun e w' => e = .returned (.tuple #[.agg (SC 17 (adV true (frB (((msgM P).body).extract 24 (24 + 16))))), .int .i64 0]) ∧ Below w28.heap.size w28 w') := Hid.mk (by have h := rFrom_run (((msgM P).body).extract 24 (24 + 16)) w28 (by have := HMR.out; have := HMB.out; have := HDhb33.out; have := HDhb34.out; have := HDhb35.out; have := HU40.out; have := HDhb41.out; have := HZ42.out; omega); rw [show decide ((((msgM P).body).extract 24 (24 + 16)).size = 16) = true from decide_eq_true (by have := HMR.out; have := HMB.out; have := HDhb33.out; have := HDhb34.out; have := HDhb35.out; have := HU40.out; have := HDhb41.out; have := HZ42.out; omega)] at h; exact h)
              go_wp2_with (refine wl_cal en_aditref12_From HC43 rfl rfl (args1 rfl) ?_; intro w44 hB44; refine Hid.out ?_)
              refine Hid.mk ?_
              clear HC43
              have s45 := s29.kept hB44
              clear s29
              have s46 := s30.kept hB44
              clear s30
              have s47 := s31.kept hB44
              clear s31
              have hbt48 := hbt32.trans (hB44.mono hbt32.size)
              clear hbt32
              clear hB44
              go_wp2_with (refine wl_alO (V := adV false (fun _ => 0)) rfl rfl zeroAddr ?_; intro g49 w49 hg49 s49 hB49; refine Hid.out ?_)
              refine Hid.mk ?_
              have hn50 : g1 ≠ g49 := by have := s45.lt; omega
              have hn51 : g4 ≠ g49 := by have := s46.lt; omega
              have hn52 : g15 ≠ g49 := by have := s47.lt; omega
              have hz53 : w.heap.size ≤ g49 := by have := hbt48.size; omega
              have s54 := s45.kept hB49
              clear s45
              have s55 := s46.kept hB49
              clear s46
              have s56 := s47.kept hB49
              clear s47
              have hbt57 := hbt48.trans (hB49.mono hbt48.size)
              clear hbt48
              clear hB49 hg49
              go_wp2_with (refine st_stO (V := adV true (frB (((msgM P).body).extract 24 (24 + 16)))) (g := g49) rfl rfl isAddr (adV_one _ _) s49 rfl rfl ?_; intro w58 s58 ho58; refine Hid.out ?_)
              refine Hid.mk ?_
              clear s49
              have s59 := s54.only ho58 hn50
              clear s54
              have s60 := s55.only ho58 hn51
              clear s55
              have s61 := s56.only ho58 hn52
              clear s56
              have hbt62 := hbt57.trans (ho58.below hz53)
              clear hbt57
              clear ho58
              go_upto_region 17 with fail
              refine wp_region3 (Touch (fun x => x = g4) w58) w58.heap.size
                  ([(g4, once (SC 17 (adV false (fun _ => 0))) 24 5 (SC 17 (adV true (frB (((msgM P).body).extract 24 (24 + 16))))))] : List (Nat × Cont))
                  [kv (.agg (SC 17 (adV true (frB (((msgM P).body).extract 24 (24 + 16)))))), kv (.pointer (some ⟨g15, 2, none⟩)), kv (.int .u32 (((msgM P).rest : Nat) : Int)), kv (.int .u32 ((((msgM P).rest) % 65536 : Nat) : Int)), kv (.int .i64 ((((msgM P).rest) % 65536 : Nat) : Int)), .val fun _ => True, kv (.int .i64 ((((msgM P).rest) % 65536 : Nat) : Int)), kv (.bool true)]
                  [.none, .none, .none, .none, .none, .base 0 1, .none, .none]
                  [some 70, some 71, some 72, some 73, some 74, none, some 3, some 4]
                  [(13, .pointer (some ⟨g49, 0, none⟩)), (5, .pointer (some ⟨g15, 0, none⟩)), (2, .pointer (some ⟨g4, 0, none⟩))]
                  [[], [], [.slot 1], [.slot 2], [.slot 3], [.slot 0, .base 0 0], [.slot 4], []]
                  [.slot 6, .slot 7, .base 0 1] [70, 71, 72, 73, 74, 3, 4]
                  rfl (by kernel_rfl) ⟨rfl, rfl, rfl, trivial⟩ (belT g4 (Below.refl _ w58).drew) (Nat.le_refl _) ⟨⟨s60.lt, obIn s60⟩, trivial⟩ ⟨trivial, trivial⟩ touch_G
                  ⟨
                  (fun QQ aa ww own hS hBg fr kn => .inl ⟨trivial, fun K hK => wp_value (look_st rfl isAddr (SAt.tou s58 hS hn51.symm) fr.1) (hK _ _ ⟨Touch.refl _ _, rfl⟩)⟩),
                  (fun QQ aa ww own hS hBg fr kn => .inl ⟨trivial, fun K hK => wp_value (exec_fms 2 (by decide) rfl fr.2.1) (hK _ _ ⟨Touch.refl _ _, rfl⟩)⟩),
                  (fun QQ aa ww own hS hBg fr kn => .inl ⟨trivial, fun K hK => wp_value (exec_ld rfl kn.1 (ld32 (SAt.at (SAt.tou s61 hS hn17.symm) 2 (by decide)))) (hK _ _ ⟨Touch.refl _ _, rfl⟩)⟩),
                  (fun QQ aa ww own hS hBg fr kn => .inl ⟨trivial, fun K hK => wp_value (exec_rm32 (m := (msgM P).rest) rfl kn.1 rfl) (hK _ _ ⟨Touch.refl _ _, rfl⟩)⟩),
                  (fun QQ aa ww own hS hBg fr kn => .inl ⟨trivial, fun K hK => wp_value (exec_cv32I (m := ((msgM P).rest) % 65536) rfl kn.1 (by have := HMR.out; have := HMB.out; have := HDhb33.out; have := HDhb34.out; have := HDhb35.out; have := HU40.out; have := HDhb41.out; have := HZ42.out; omega)) (hK _ _ ⟨Touch.refl _ _, rfl⟩)⟩),
                  (fun QQ aa ww own hS hBg fr kn => .inl ⟨trivial, fun K hK => act_st7 rfl isAddr (adV_one _ _) fr.2.2.1 kn.1 (obAt kn.2.1) (fun w2 hg ho => hK _ _ ⟨⟨touch_only ho, obIn hg⟩, trivial⟩)⟩),
                  (fun QQ aa ww own hS hBg fr kn => .inl ⟨trivial, fun K hK => wp_value (exec_assign rfl kn.1) (hK _ _ ⟨Touch.refl _ _, rfl⟩)⟩),
                  (fun QQ aa ww own hS hBg fr kn => .inl ⟨trivial, fun K hK => wp_value (exec_assign (v := .bool true) rfl rfl) (hK _ _ ⟨Touch.refl _ _, rfl⟩)⟩),
                  trivial⟩ ?_
              intro vs own w63 hB63 hsz kn inj
              have e3 : vs 3 = .int .i64 ((((msgM P).rest) % 65536 : Nat) : Int) := kn.1
              have e4 : vs 4 = .bool true := kn.2.1
              have kbase := kn.2.2.1
              clear kn inj hsz
              simp only [putAll, Act.put, List.setIfInBounds_toArray, List.set_cons_zero, List.set_cons_succ, e3, e4]
              clear e3 e4
              have s64 : SAt w63 g4 24 17 (adV true (frB (((msgM P).body).extract 24 (24 + 16)))) := obAt kbase
              clear kbase
              have s65 := s59.tou hB63 hn5
              clear s59
              have s66 := s61.tou hB63 hn17.symm
              clear s61
              have s67 := s58.tou hB63 hn51.symm
              clear s58
              clear s60
              have hB64 := tou_bel hB63 hz6 hbt62.size
              clear hB63
              have hbt68 := hbt62.trans hB64
              clear hbt62
              clear hB64
              go_wp2_with fail
              have hq : decide (hdN P.sv ≤ (msgM P).body.size) = true := by rw [Hhb26.out]; exact decide_eq_true (show 40 ≤ (msgM P).body.size from (by have := HMR.out; have := HMB.out; have := HDhb33.out; have := HDhb34.out; have := HDhb35.out; have := HU40.out; have := HDhb41.out; have := HZ42.out; omega))
              have hx : decide (txt (msgM P).body 0 / 16 = if P.sv = true then 6 else 4) = true := by rw [Hhb26.out]; exact Hhb41.out
              have hty : decide ((msgM P).typ = codT P.sv 4) = true := by rw [Hhb26.out]; exact Hhb33.out
              have hco : decide ((msgM P).code = codC P.sv 4) = true := by rw [Hhb26.out]; exact Hhb34.out
              have hB : toldB P = true := by unfold toldB; rw [Hhb9.out, hty, hco, hq, hx]; rfl
              have hV : toldV P = true := by unfold toldV; rw [hB, Hhb26.out]; rfl
              have hA : toldA P = frB (((msgM P).body).extract 24 (24 + 16)) := by unfold toldA; rw [if_pos hB, Hhb26.out]; rfl
              have hN : toldN P = (msgM P).rest % 65536 := by unfold toldN; rw [if_pos hB]
              refine bodyPost_ret (res_ctt rfl isAddr s64 (by rfl) (by rfl) (by rfl)) rfl ?_
              exact ⟨Eq.trans (rfl : _ = Ending.returned (.tuple #[.agg (SC 17 (adV true (frB (((msgM P).body).extract 24 (24 + 16))))), .int .i64 ((((msgM P).rest) % 65536 : Nat) : Int), .bool true])) (by rw [← HRV.out, hB, hV, hA, hN] <;> rfl), hbt68⟩
            · have Hhb41 := Hid.mk hb41
              clear hb41
              have HDhb41 := Hid.mk (of_decide_eq_false Hhb41.out)
              go_wp2_with (refine wl_value rfl (kn_n (c := true) Hhb41 (cmp_ne8 (m := (txt ((msgM P).body) 0) / 16) (n := 6) rfl rfl rfl)) ?_; refine Hid.out ?_)
              refine Hid.mk ?_
              go_wp2_with (refine wl_value rfl (exec_adW0 rfl) ?_; refine Hid.out ?_)
              refine Hid.mk ?_
              go_wp2_with (refine st_stO (V := adV false (fun _ => 0)) (g := g4) rfl rfl isAddr (adV_one _ _) s30 rfl rfl ?_; intro w69 s69 ho69; refine Hid.out ?_)
              refine Hid.mk ?_
              clear s30
              have s70 := s29.only ho69 hn5
              clear s29
              have s71 := s31.only ho69 hn17.symm
              clear s31
              have hbt72 := hbt32.trans (ho69.below hz6)
              clear hbt32
              clear ho69
              go_wp2_with fail
              have hq : decide (hdN P.sv ≤ (msgM P).body.size) = true := by rw [Hhb26.out]; exact decide_eq_true (show 40 ≤ (msgM P).body.size from (by have := HMR.out; have := HMB.out; have := HDhb33.out; have := HDhb34.out; have := HDhb35.out; have := HU40.out; have := HDhb41.out; omega))
              have hx : decide (txt (msgM P).body 0 / 16 = if P.sv = true then 6 else 4) = false := by rw [Hhb26.out]; exact Hhb41.out
              have hty : decide ((msgM P).typ = codT P.sv 4) = true := by rw [Hhb26.out]; exact Hhb33.out
              have hco : decide ((msgM P).code = codC P.sv 4) = true := by rw [Hhb26.out]; exact Hhb34.out
              have hB : toldB P = false := by unfold toldB; rw [Hhb9.out, hty, hco, hq, hx]; rfl
              have hV : toldV P = false := by unfold toldV; rw [hB]; rfl
              have hA : toldA P = fun _ => 0 := by unfold toldA; rw [if_neg (by rw [hB]; decide)]
              have hN : toldN P = 0 := by unfold toldN; rw [if_neg (by rw [hB]; decide)]
              refine bodyPost_ret (res_ctt rfl isAddr s69 (by rfl) (by rfl) (by rfl)) rfl ?_
              exact ⟨Eq.trans (rfl : _ = Ending.returned (.tuple #[.agg (SC 17 (adV false (fun _ => 0))), .int .i64 0, .bool false])) (by rw [← HRV.out, hB, hV, hA, hN] <;> rfl), hbt72⟩
        · have Hhb34 := Hid.mk hb34
          clear hb34
          have HDhb34 := Hid.mk (of_decide_eq_false Hhb34.out)
          go_wp2_with (refine wl_value rfl (kn_n (c := true) Hhb34 (cmp_ne (m := (msgM P).code) (n := codC true 4) rfl rfl rfl)) ?_; refine Hid.out ?_)
          refine Hid.mk ?_
          go_wp2_with (refine wl_value rfl (exec_adW0 rfl) ?_; refine Hid.out ?_)
          refine Hid.mk ?_
          go_wp2_with (refine st_stO (V := adV false (fun _ => 0)) (g := g4) rfl rfl isAddr (adV_one _ _) s30 rfl rfl ?_; intro w73 s73 ho73; refine Hid.out ?_)
          refine Hid.mk ?_
          clear s30
          have s74 := s29.only ho73 hn5
          clear s29
          have s75 := s31.only ho73 hn17.symm
          clear s31
          have hbt76 := hbt32.trans (ho73.below hz6)
          clear hbt32
          clear ho73
          go_wp2_with fail
          have hty : decide ((msgM P).typ = codT P.sv 4) = true := by rw [Hhb26.out]; exact Hhb33.out
          have hco : decide ((msgM P).code = codC P.sv 4) = false := by rw [Hhb26.out]; exact Hhb34.out
          have hB : toldB P = false := by unfold toldB; rw [Hhb9.out, hty, hco]; rfl
          have hV : toldV P = false := by unfold toldV; rw [hB]; rfl
          have hA : toldA P = fun _ => 0 := by unfold toldA; rw [if_neg (by rw [hB]; decide)]
          have hN : toldN P = 0 := by unfold toldN; rw [if_neg (by rw [hB]; decide)]
          refine bodyPost_ret (res_ctt rfl isAddr s73 (by rfl) (by rfl) (by rfl)) rfl ?_
          exact ⟨Eq.trans (rfl : _ = Ending.returned (.tuple #[.agg (SC 17 (adV false (fun _ => 0))), .int .i64 0, .bool false])) (by rw [← HRV.out, hB, hV, hA, hN] <;> rfl), hbt76⟩
      · have Hhb33 := Hid.mk hb33
        clear hb33
        have HDhb33 := Hid.mk (of_decide_eq_false Hhb33.out)
        go_wp2_with (refine wl_value rfl (kn_n (c := true) Hhb33 (cmp_ne (m := (msgM P).typ) (n := codT true 4) rfl rfl rfl)) ?_; refine Hid.out ?_)
        refine Hid.mk ?_
        go_wp2_with (refine wl_value rfl (exec_adW0 rfl) ?_; refine Hid.out ?_)
        refine Hid.mk ?_
        go_wp2_with (refine st_stO (V := adV false (fun _ => 0)) (g := g4) rfl rfl isAddr (adV_one _ _) s30 rfl rfl ?_; intro w77 s77 ho77; refine Hid.out ?_)
        refine Hid.mk ?_
        clear s30
        have s78 := s29.only ho77 hn5
        clear s29
        have s79 := s31.only ho77 hn17.symm
        clear s31
        have hbt80 := hbt32.trans (ho77.below hz6)
        clear hbt32
        clear ho77
        go_wp2_with fail
        have hty : decide ((msgM P).typ = codT P.sv 4) = false := by rw [Hhb26.out]; exact Hhb33.out
        have hB : toldB P = false := by unfold toldB; rw [Hhb9.out, hty]; rfl
        have hV : toldV P = false := by unfold toldV; rw [hB]; rfl
        have hA : toldA P = fun _ => 0 := by unfold toldA; rw [if_neg (by rw [hB]; decide)]
        have hN : toldN P = 0 := by unfold toldN; rw [if_neg (by rw [hB]; decide)]
        refine bodyPost_ret (res_ctt rfl isAddr s77 (by rfl) (by rfl) (by rfl)) rfl ?_
        exact ⟨Eq.trans (rfl : _ = Ending.returned (.tuple #[.agg (SC 17 (adV false (fun _ => 0))), .int .i64 0, .bool false])) (by rw [← HRV.out, hB, hV, hA, hN] <;> rfl), hbt80⟩
    · have Hhb26 := Hid.mk hb26
      clear hb26
      go_wp2_with (refine wl_value rfl (kn_ (c := false) Hhb26 (exec_ld rfl rfl (ldB (SAt.at s23 0 (by decide))))) ?_; refine Hid.out ?_)
      refine Hid.mk ?_
      have HC81 : Hid (Calls Tryd.prog 55 #[.int .i64 4, .bool false] w22 fun e w' => e = .returned (.tuple #[.int .i64 (codT false 4), .int .i64 (codC false 4)]) ∧ Below w22.heap.size w22 w') := Hid.mk (codes4_false w22)
      go_wp2_with (refine wl_cal en_aditref15_codes HC81 rfl rfl (args2 rfl rfl) ?_; intro w82 hB82; refine Hid.out ?_)
      refine Hid.mk ?_
      clear HC81
      have s83 := s23.kept hB82
      clear s23
      have s84 := s24.kept hB82
      clear s24
      have s85 := s22.kept hB82
      clear s22
      have hbt86 := hbt25.trans (hB82.mono hbt25.size)
      clear hbt25
      clear hB82
      go_wp2_with (refine wl_value rfl (exec_fms 0 (by decide) rfl rfl) ?_; refine Hid.out ?_)
      refine Hid.mk ?_
      go_wp2_with (refine wl_value rfl (exec_ld rfl rfl (ldI (SAt.at s85 0 (by decide)))) ?_; refine Hid.out ?_)
      refine Hid.mk ?_
      rcases Bool.eq_false_or_eq_true (decide ((msgM P).typ = codT false 4)) with hb87 | hb87
      · have Hhb87 := Hid.mk hb87
        clear hb87
        have HDhb87 := Hid.mk (of_decide_eq_true Hhb87.out)
        go_wp2_with (refine wl_value rfl (kn_n (c := false) Hhb87 (cmp_ne (m := (msgM P).typ) (n := codT false 4) rfl rfl rfl)) ?_; refine Hid.out ?_)
        refine Hid.mk ?_
        go_wp2_with (refine wl_value rfl (exec_fms 1 (by decide) rfl rfl) ?_; refine Hid.out ?_)
        refine Hid.mk ?_
        go_wp2_with (refine wl_value rfl (exec_ld rfl rfl (ldI (SAt.at s85 1 (by decide)))) ?_; refine Hid.out ?_)
        refine Hid.mk ?_
        rcases Bool.eq_false_or_eq_true (decide ((msgM P).code = codC false 4)) with hb88 | hb88
        · have Hhb88 := Hid.mk hb88
          clear hb88
          have HDhb88 := Hid.mk (of_decide_eq_true Hhb88.out)
          go_wp2_with (refine wl_value rfl (kn_n (c := false) Hhb88 (cmp_ne (m := (msgM P).code) (n := codC false 4) rfl rfl rfl)) ?_; refine Hid.out ?_)
          refine Hid.mk ?_
          go_wp2_with (refine wl_value rfl (exec_fpk 0 (by decide) rfl rfl) ?_; refine Hid.out ?_)
          refine Hid.mk ?_
          go_wp2_with (refine wl_value rfl (exec_fad0 rfl rfl) ?_; refine Hid.out ?_)
          refine Hid.mk ?_
          go_wp2_with (refine wl_value rfl (kn_ (c := false) Hhb26 (exec_ld rfl rfl (ldB (SAt.at s83 0 (by decide))))) ?_; refine Hid.out ?_)
          refine Hid.mk ?_
          go_wp2_with (refine wl_value rfl (exec_fms 3 (by decide) rfl rfl) ?_; refine Hid.out ?_)
          refine Hid.mk ?_
          go_wp2_with (refine wl_value rfl (exec_ld rfl rfl (ldS (SAt.at s85 3 (by decide)))) ?_; refine Hid.out ?_)
          refine Hid.mk ?_
          go_wp2_with (refine wl_value rfl (exec_lenS rfl rfl) ?_; refine Hid.out ?_)
          refine Hid.mk ?_
          rcases Bool.eq_false_or_eq_true (decide ((((msgM P).body).size : Int) < 20)) with hb89 | hb89
          · have Hhb89 := Hid.mk hb89
            clear hb89
            have HDhb89 := Hid.mk (of_decide_eq_true Hhb89.out)
            go_wp2_with (refine wl_value rfl (kn_ (c := true) Hhb89 (cmp_lt (m := (((msgM P).body).size : Int)) (n := 20) rfl rfl rfl)) ?_; refine Hid.out ?_)
            refine Hid.mk ?_
            go_wp2_with (refine wl_value rfl (exec_adW0 rfl) ?_; refine Hid.out ?_)
            refine Hid.mk ?_
            go_wp2_with (refine st_stO (V := adV false (fun _ => 0)) (g := g4) rfl rfl isAddr (adV_one _ _) s84 rfl rfl ?_; intro w90 s90 ho90; refine Hid.out ?_)
            refine Hid.mk ?_
            clear s84
            have s91 := s83.only ho90 hn5
            clear s83
            have s92 := s85.only ho90 hn17.symm
            clear s85
            have hbt93 := hbt86.trans (ho90.below hz6)
            clear hbt86
            clear ho90
            go_wp2_with fail
            have hq : decide (hdN P.sv ≤ (msgM P).body.size) = false := by rw [Hhb26.out]; exact decide_eq_false (show ¬ 20 ≤ (msgM P).body.size from (by have := HMR.out; have := HMB.out; have := HDhb87.out; have := HDhb88.out; have := HDhb89.out; omega))
            have hty : decide ((msgM P).typ = codT P.sv 4) = true := by rw [Hhb26.out]; exact Hhb87.out
            have hco : decide ((msgM P).code = codC P.sv 4) = true := by rw [Hhb26.out]; exact Hhb88.out
            have hB : toldB P = false := by unfold toldB; rw [Hhb9.out, hty, hco, hq]; rfl
            have hV : toldV P = false := by unfold toldV; rw [hB]; rfl
            have hA : toldA P = fun _ => 0 := by unfold toldA; rw [if_neg (by rw [hB]; decide)]
            have hN : toldN P = 0 := by unfold toldN; rw [if_neg (by rw [hB]; decide)]
            refine bodyPost_ret (res_ctt rfl isAddr s90 (by rfl) (by rfl) (by rfl)) rfl ?_
            exact ⟨Eq.trans (rfl : _ = Ending.returned (.tuple #[.agg (SC 17 (adV false (fun _ => 0))), .int .i64 0, .bool false])) (by rw [← HRV.out, hB, hV, hA, hN] <;> rfl), hbt93⟩
          · have Hhb89 := Hid.mk hb89
            clear hb89
            have HDhb89 := Hid.mk (of_decide_eq_false Hhb89.out)
            go_wp2_with (refine wl_value rfl (kn_ (c := false) Hhb89 (cmp_lt (m := (((msgM P).body).size : Int)) (n := 20) rfl rfl rfl)) ?_; refine Hid.out ?_)
            refine Hid.mk ?_
            go_wp2_with (refine wl_value rfl (exec_fms 3 (by decide) rfl rfl) ?_; refine Hid.out ?_)
            refine Hid.mk ?_
            go_wp2_with (refine wl_value rfl (exec_ld rfl rfl (ldS (SAt.at s85 3 (by decide)))) ?_; refine Hid.out ?_)
            refine Hid.mk ?_
            go_wp2_with (refine wl_value rfl (exec_ixs (j := 0) rfl rfl rfl (by have := HMR.out; have := HMB.out; have := HDhb87.out; have := HDhb88.out; have := HDhb89.out; omega)) ?_; refine Hid.out ?_)
            refine Hid.mk ?_
            have HU94 := Hid.mk (txt_b ((msgM P).body) 0)
            go_wp2_with (refine wl_value rfl (exec_q16 rfl rfl rfl (by have := HMR.out; have := HMB.out; have := HDhb87.out; have := HDhb88.out; have := HDhb89.out; have := HU94.out; omega) (by have := HMR.out; have := HMB.out; have := HDhb87.out; have := HDhb88.out; have := HDhb89.out; have := HU94.out; omega)) ?_; refine Hid.out ?_)
            refine Hid.mk ?_
            rcases Bool.eq_false_or_eq_true (decide ((txt ((msgM P).body) 0) / 16 = 4)) with hb95 | hb95
            · have Hhb95 := Hid.mk hb95
              clear hb95
              have HDhb95 := Hid.mk (of_decide_eq_true Hhb95.out)
              go_wp2_with (refine wl_value rfl (kn_n (c := false) Hhb95 (cmp_ne8 (m := (txt ((msgM P).body) 0) / 16) (n := 4) rfl rfl rfl)) ?_; refine Hid.out ?_)
              refine Hid.mk ?_
              go_wp2_with (refine wl_value rfl (exec_fms 3 (by decide) rfl rfl) ?_; refine Hid.out ?_)
              refine Hid.mk ?_
              go_wp2_with (refine wl_value rfl (exec_ld rfl rfl (ldS (SAt.at s85 3 (by decide)))) ?_; refine Hid.out ?_)
              refine Hid.mk ?_
              go_wp2_with (refine wl_value rfl (exec_addW (i := 16) (m := 4) rfl rfl rfl rfl (by have := HMR.out; have := HMB.out; have := HDhb87.out; have := HDhb88.out; have := HDhb89.out; have := HU94.out; have := HDhb95.out; omega)) ?_; refine Hid.out ?_)
              refine Hid.mk ?_
              go_wp2_with (refine wl_value rfl (exec_slLH (v := .string ((msgM P).body)) (u := .int .i64 (16 : Nat)) (u' := .int .i64 (16 + 4 : Nat)) rfl rfl rfl rfl (strLH ((msgM P).body) 16 (16 + 4) _ (by have := HMR.out; have := HMB.out; have := HDhb87.out; have := HDhb88.out; have := HDhb89.out; have := HU94.out; have := HDhb95.out; omega) (by have := HMR.out; have := HMB.out; have := HDhb87.out; have := HDhb88.out; have := HDhb89.out; have := HU94.out; have := HDhb95.out; omega))) ?_; refine Hid.out ?_)
              refine Hid.mk ?_
              have HZ96 := Hid.mk (cutP_size ((msgM P).body) 16 (16 + 4) (by have := HMR.out; have := HMB.out; have := HDhb87.out; have := HDhb88.out; have := HDhb89.out; have := HU94.out; have := HDhb95.out; omega))
              have HC97 : Hid (Calls Tryd.prog 56 #[.string (((msgM P).body).extract 16 (16 + 4))] w82 fun e w' => e = .returned (.tuple #[.agg (SC 17 (adV false (frB (((msgM P).body).extract 16 (16 + 4))))), .int .i64 0]) ∧ Below w82.heap.size w82 w') := Hid.mk (by have h := rFrom_run (((msgM P).body).extract 16 (16 + 4)) w82 (by have := HMR.out; have := HMB.out; have := HDhb87.out; have := HDhb88.out; have := HDhb89.out; have := HU94.out; have := HDhb95.out; have := HZ96.out; omega); rw [show decide ((((msgM P).body).extract 16 (16 + 4)).size = 16) = false from decide_eq_false (by have := HMR.out; have := HMB.out; have := HDhb87.out; have := HDhb88.out; have := HDhb89.out; have := HU94.out; have := HDhb95.out; have := HZ96.out; omega)] at h; exact h)
              go_wp2_with (refine wl_cal en_aditref12_From HC97 rfl rfl (args1 rfl) ?_; intro w98 hB98; refine Hid.out ?_)
              refine Hid.mk ?_
              clear HC97
              have s99 := s83.kept hB98
              clear s83
              have s100 := s84.kept hB98
              clear s84
              have s101 := s85.kept hB98
              clear s85
              have hbt102 := hbt86.trans (hB98.mono hbt86.size)
              clear hbt86
              clear hB98
              go_wp2_with (refine wl_alO (V := adV false (fun _ => 0)) rfl rfl zeroAddr ?_; intro g103 w103 hg103 s103 hB103; refine Hid.out ?_)
              refine Hid.mk ?_
              have hn104 : g1 ≠ g103 := by have := s99.lt; omega
              have hn105 : g4 ≠ g103 := by have := s100.lt; omega
              have hn106 : g15 ≠ g103 := by have := s101.lt; omega
              have hz107 : w.heap.size ≤ g103 := by have := hbt102.size; omega
              have s108 := s99.kept hB103
              clear s99
              have s109 := s100.kept hB103
              clear s100
              have s110 := s101.kept hB103
              clear s101
              have hbt111 := hbt102.trans (hB103.mono hbt102.size)
              clear hbt102
              clear hB103 hg103
              go_wp2_with (refine st_stO (V := adV false (frB (((msgM P).body).extract 16 (16 + 4)))) (g := g103) rfl rfl isAddr (adV_one _ _) s103 rfl rfl ?_; intro w112 s112 ho112; refine Hid.out ?_)
              refine Hid.mk ?_
              clear s103
              have s113 := s108.only ho112 hn104
              clear s108
              have s114 := s109.only ho112 hn105
              clear s109
              have s115 := s110.only ho112 hn106
              clear s110
              have hbt116 := hbt111.trans (ho112.below hz107)
              clear hbt111
              clear ho112
              go_upto_region 17 with fail
              refine wp_region3 (Touch (fun x => x = g4) w112) w112.heap.size
                  ([(g4, once (SC 17 (adV false (fun _ => 0))) 24 5 (SC 17 (adV false (frB (((msgM P).body).extract 16 (16 + 4))))))] : List (Nat × Cont))
                  [kv (.agg (SC 17 (adV false (frB (((msgM P).body).extract 16 (16 + 4)))))), kv (.pointer (some ⟨g15, 2, none⟩)), kv (.int .u32 (((msgM P).rest : Nat) : Int)), kv (.int .u32 ((((msgM P).rest) % 65536 : Nat) : Int)), kv (.int .i64 ((((msgM P).rest) % 65536 : Nat) : Int)), .val fun _ => True, kv (.int .i64 ((((msgM P).rest) % 65536 : Nat) : Int)), kv (.bool true)]
                  [.none, .none, .none, .none, .none, .base 0 1, .none, .none]
                  [some 70, some 71, some 72, some 73, some 74, none, some 3, some 4]
                  [(13, .pointer (some ⟨g103, 0, none⟩)), (5, .pointer (some ⟨g15, 0, none⟩)), (2, .pointer (some ⟨g4, 0, none⟩))]
                  [[], [], [.slot 1], [.slot 2], [.slot 3], [.slot 0, .base 0 0], [.slot 4], []]
                  [.slot 6, .slot 7, .base 0 1] [70, 71, 72, 73, 74, 3, 4]
                  rfl (by kernel_rfl) ⟨rfl, rfl, rfl, trivial⟩ (belT g4 (Below.refl _ w112).drew) (Nat.le_refl _) ⟨⟨s114.lt, obIn s114⟩, trivial⟩ ⟨trivial, trivial⟩ touch_G
                  ⟨
                  (fun QQ aa ww own hS hBg fr kn => .inl ⟨trivial, fun K hK => wp_value (look_st rfl isAddr (SAt.tou s112 hS hn105.symm) fr.1) (hK _ _ ⟨Touch.refl _ _, rfl⟩)⟩),
                  (fun QQ aa ww own hS hBg fr kn => .inl ⟨trivial, fun K hK => wp_value (exec_fms 2 (by decide) rfl fr.2.1) (hK _ _ ⟨Touch.refl _ _, rfl⟩)⟩),
                  (fun QQ aa ww own hS hBg fr kn => .inl ⟨trivial, fun K hK => wp_value (exec_ld rfl kn.1 (ld32 (SAt.at (SAt.tou s115 hS hn17.symm) 2 (by decide)))) (hK _ _ ⟨Touch.refl _ _, rfl⟩)⟩),
                  (fun QQ aa ww own hS hBg fr kn => .inl ⟨trivial, fun K hK => wp_value (exec_rm32 (m := (msgM P).rest) rfl kn.1 rfl) (hK _ _ ⟨Touch.refl _ _, rfl⟩)⟩),
                  (fun QQ aa ww own hS hBg fr kn => .inl ⟨trivial, fun K hK => wp_value (exec_cv32I (m := ((msgM P).rest) % 65536) rfl kn.1 (by have := HMR.out; have := HMB.out; have := HDhb87.out; have := HDhb88.out; have := HDhb89.out; have := HU94.out; have := HDhb95.out; have := HZ96.out; omega)) (hK _ _ ⟨Touch.refl _ _, rfl⟩)⟩),
                  (fun QQ aa ww own hS hBg fr kn => .inl ⟨trivial, fun K hK => act_st7 rfl isAddr (adV_one _ _) fr.2.2.1 kn.1 (obAt kn.2.1) (fun w2 hg ho => hK _ _ ⟨⟨touch_only ho, obIn hg⟩, trivial⟩)⟩),
                  (fun QQ aa ww own hS hBg fr kn => .inl ⟨trivial, fun K hK => wp_value (exec_assign rfl kn.1) (hK _ _ ⟨Touch.refl _ _, rfl⟩)⟩),
                  (fun QQ aa ww own hS hBg fr kn => .inl ⟨trivial, fun K hK => wp_value (exec_assign (v := .bool true) rfl rfl) (hK _ _ ⟨Touch.refl _ _, rfl⟩)⟩),
                  trivial⟩ ?_
              intro vs own w117 hB117 hsz kn inj
              have e3 : vs 3 = .int .i64 ((((msgM P).rest) % 65536 : Nat) : Int) := kn.1
              have e4 : vs 4 = .bool true := kn.2.1
              have kbase := kn.2.2.1
              clear kn inj hsz
              simp only [putAll, Act.put, List.setIfInBounds_toArray, List.set_cons_zero, List.set_cons_succ, e3, e4]
              clear e3 e4
              have s118 : SAt w117 g4 24 17 (adV false (frB (((msgM P).body).extract 16 (16 + 4)))) := obAt kbase
              clear kbase
              have s119 := s113.tou hB117 hn5
              clear s113
              have s120 := s115.tou hB117 hn17.symm
              clear s115
              have s121 := s112.tou hB117 hn105.symm
              clear s112
              clear s114
              have hB118 := tou_bel hB117 hz6 hbt116.size
              clear hB117
              have hbt122 := hbt116.trans hB118
              clear hbt116
              clear hB118
              go_wp2_with fail
              have hq : decide (hdN P.sv ≤ (msgM P).body.size) = true := by rw [Hhb26.out]; exact decide_eq_true (show 20 ≤ (msgM P).body.size from (by have := HMR.out; have := HMB.out; have := HDhb87.out; have := HDhb88.out; have := HDhb89.out; have := HU94.out; have := HDhb95.out; have := HZ96.out; omega))
              have hx : decide (txt (msgM P).body 0 / 16 = if P.sv = true then 6 else 4) = true := by rw [Hhb26.out]; exact Hhb95.out
              have hty : decide ((msgM P).typ = codT P.sv 4) = true := by rw [Hhb26.out]; exact Hhb87.out
              have hco : decide ((msgM P).code = codC P.sv 4) = true := by rw [Hhb26.out]; exact Hhb88.out
              have hB : toldB P = true := by unfold toldB; rw [Hhb9.out, hty, hco, hq, hx]; rfl
              have hV : toldV P = false := by unfold toldV; rw [hB, Hhb26.out]; rfl
              have hA : toldA P = frB (((msgM P).body).extract 16 (16 + 4)) := by unfold toldA; rw [if_pos hB, Hhb26.out]; rfl
              have hN : toldN P = (msgM P).rest % 65536 := by unfold toldN; rw [if_pos hB]
              refine bodyPost_ret (res_ctt rfl isAddr s118 (by rfl) (by rfl) (by rfl)) rfl ?_
              exact ⟨Eq.trans (rfl : _ = Ending.returned (.tuple #[.agg (SC 17 (adV false (frB (((msgM P).body).extract 16 (16 + 4))))), .int .i64 ((((msgM P).rest) % 65536 : Nat) : Int), .bool true])) (by rw [← HRV.out, hB, hV, hA, hN] <;> rfl), hbt122⟩
            · have Hhb95 := Hid.mk hb95
              clear hb95
              have HDhb95 := Hid.mk (of_decide_eq_false Hhb95.out)
              go_wp2_with (refine wl_value rfl (kn_n (c := true) Hhb95 (cmp_ne8 (m := (txt ((msgM P).body) 0) / 16) (n := 4) rfl rfl rfl)) ?_; refine Hid.out ?_)
              refine Hid.mk ?_
              go_wp2_with (refine wl_value rfl (exec_adW0 rfl) ?_; refine Hid.out ?_)
              refine Hid.mk ?_
              go_wp2_with (refine st_stO (V := adV false (fun _ => 0)) (g := g4) rfl rfl isAddr (adV_one _ _) s84 rfl rfl ?_; intro w123 s123 ho123; refine Hid.out ?_)
              refine Hid.mk ?_
              clear s84
              have s124 := s83.only ho123 hn5
              clear s83
              have s125 := s85.only ho123 hn17.symm
              clear s85
              have hbt126 := hbt86.trans (ho123.below hz6)
              clear hbt86
              clear ho123
              go_wp2_with fail
              have hq : decide (hdN P.sv ≤ (msgM P).body.size) = true := by rw [Hhb26.out]; exact decide_eq_true (show 20 ≤ (msgM P).body.size from (by have := HMR.out; have := HMB.out; have := HDhb87.out; have := HDhb88.out; have := HDhb89.out; have := HU94.out; have := HDhb95.out; omega))
              have hx : decide (txt (msgM P).body 0 / 16 = if P.sv = true then 6 else 4) = false := by rw [Hhb26.out]; exact Hhb95.out
              have hty : decide ((msgM P).typ = codT P.sv 4) = true := by rw [Hhb26.out]; exact Hhb87.out
              have hco : decide ((msgM P).code = codC P.sv 4) = true := by rw [Hhb26.out]; exact Hhb88.out
              have hB : toldB P = false := by unfold toldB; rw [Hhb9.out, hty, hco, hq, hx]; rfl
              have hV : toldV P = false := by unfold toldV; rw [hB]; rfl
              have hA : toldA P = fun _ => 0 := by unfold toldA; rw [if_neg (by rw [hB]; decide)]
              have hN : toldN P = 0 := by unfold toldN; rw [if_neg (by rw [hB]; decide)]
              refine bodyPost_ret (res_ctt rfl isAddr s123 (by rfl) (by rfl) (by rfl)) rfl ?_
              exact ⟨Eq.trans (rfl : _ = Ending.returned (.tuple #[.agg (SC 17 (adV false (fun _ => 0))), .int .i64 0, .bool false])) (by rw [← HRV.out, hB, hV, hA, hN] <;> rfl), hbt126⟩
        · have Hhb88 := Hid.mk hb88
          clear hb88
          have HDhb88 := Hid.mk (of_decide_eq_false Hhb88.out)
          go_wp2_with (refine wl_value rfl (kn_n (c := true) Hhb88 (cmp_ne (m := (msgM P).code) (n := codC false 4) rfl rfl rfl)) ?_; refine Hid.out ?_)
          refine Hid.mk ?_
          go_wp2_with (refine wl_value rfl (exec_adW0 rfl) ?_; refine Hid.out ?_)
          refine Hid.mk ?_
          go_wp2_with (refine st_stO (V := adV false (fun _ => 0)) (g := g4) rfl rfl isAddr (adV_one _ _) s84 rfl rfl ?_; intro w127 s127 ho127; refine Hid.out ?_)
          refine Hid.mk ?_
          clear s84
          have s128 := s83.only ho127 hn5
          clear s83
          have s129 := s85.only ho127 hn17.symm
          clear s85
          have hbt130 := hbt86.trans (ho127.below hz6)
          clear hbt86
          clear ho127
          go_wp2_with fail
          have hty : decide ((msgM P).typ = codT P.sv 4) = true := by rw [Hhb26.out]; exact Hhb87.out
          have hco : decide ((msgM P).code = codC P.sv 4) = false := by rw [Hhb26.out]; exact Hhb88.out
          have hB : toldB P = false := by unfold toldB; rw [Hhb9.out, hty, hco]; rfl
          have hV : toldV P = false := by unfold toldV; rw [hB]; rfl
          have hA : toldA P = fun _ => 0 := by unfold toldA; rw [if_neg (by rw [hB]; decide)]
          have hN : toldN P = 0 := by unfold toldN; rw [if_neg (by rw [hB]; decide)]
          refine bodyPost_ret (res_ctt rfl isAddr s127 (by rfl) (by rfl) (by rfl)) rfl ?_
          exact ⟨Eq.trans (rfl : _ = Ending.returned (.tuple #[.agg (SC 17 (adV false (fun _ => 0))), .int .i64 0, .bool false])) (by rw [← HRV.out, hB, hV, hA, hN] <;> rfl), hbt130⟩
      · have Hhb87 := Hid.mk hb87
        clear hb87
        have HDhb87 := Hid.mk (of_decide_eq_false Hhb87.out)
        go_wp2_with (refine wl_value rfl (kn_n (c := true) Hhb87 (cmp_ne (m := (msgM P).typ) (n := codT false 4) rfl rfl rfl)) ?_; refine Hid.out ?_)
        refine Hid.mk ?_
        go_wp2_with (refine wl_value rfl (exec_adW0 rfl) ?_; refine Hid.out ?_)
        refine Hid.mk ?_
        go_wp2_with (refine st_stO (V := adV false (fun _ => 0)) (g := g4) rfl rfl isAddr (adV_one _ _) s84 rfl rfl ?_; intro w131 s131 ho131; refine Hid.out ?_)
        refine Hid.mk ?_
        clear s84
        have s132 := s83.only ho131 hn5
        clear s83
        have s133 := s85.only ho131 hn17.symm
        clear s85
        have hbt134 := hbt86.trans (ho131.below hz6)
        clear hbt86
        clear ho131
        go_wp2_with fail
        have hty : decide ((msgM P).typ = codT P.sv 4) = false := by rw [Hhb26.out]; exact Hhb87.out
        have hB : toldB P = false := by unfold toldB; rw [Hhb9.out, hty]; rfl
        have hV : toldV P = false := by unfold toldV; rw [hB]; rfl
        have hA : toldA P = fun _ => 0 := by unfold toldA; rw [if_neg (by rw [hB]; decide)]
        have hN : toldN P = 0 := by unfold toldN; rw [if_neg (by rw [hB]; decide)]
        refine bodyPost_ret (res_ctt rfl isAddr s131 (by rfl) (by rfl) (by rfl)) rfl ?_
        exact ⟨Eq.trans (rfl : _ = Ending.returned (.tuple #[.agg (SC 17 (adV false (fun _ => 0))), .int .i64 0, .bool false])) (by rw [← HRV.out, hB, hV, hA, hN] <;> rfl), hbt134⟩
  · have Hhb9 := Hid.mk hb9
    clear hb9
    have HC135 : Hid (Calls Tryd.prog 44 #[.agg (SC 46 (pkV P vx))] w4 fun e w' => e = .returned (.tuple #[.agg (SC 4 (msV (msgM P))), .bool false]) ∧ Below w4.heap.size w4 w') := Hid.mk (by have h := dmsg_run P vx w4 (ExAt.kept HX.out hbt8) HP.out; rw [Hhb9.out] at h; exact h)
    go_wp2_with (refine wl_cal en_aditref15_message HC135 rfl rfl (args1 rfl) ?_; intro w136 hB136; refine Hid.out ?_)
    refine Hid.mk ?_
    clear HC135
    have s137 := s7.kept hB136
    clear s7
    have s138 := s4.kept hB136
    clear s4
    have hbt139 := hbt8.trans (hB136.mono hbt8.size)
    clear hbt8
    clear hB136
    go_wp2_with (refine wl_alO (V := msV ms0) rfl rfl zeroMs ?_; intro g140 w140 hg140 s140 hB140; refine Hid.out ?_)
    refine Hid.mk ?_
    have hn141 : g1 ≠ g140 := by have := s137.lt; omega
    have hn142 : g4 ≠ g140 := by have := s138.lt; omega
    have hz143 : w.heap.size ≤ g140 := by have := hbt139.size; omega
    have s144 := s137.kept hB140
    clear s137
    have s145 := s138.kept hB140
    clear s138
    have hbt146 := hbt139.trans (hB140.mono hbt139.size)
    clear hbt139
    clear hB140 hg140
    go_wp2_with (refine st_stO (V := msV (msgM P)) (g := g140) rfl rfl isMs (msV_one _) s140 rfl rfl ?_; intro w147 s147 ho147; refine Hid.out ?_)
    refine Hid.mk ?_
    clear s140
    have s148 := s144.only ho147 hn141
    clear s144
    have s149 := s145.only ho147 hn142
    clear s145
    have hbt150 := hbt146.trans (ho147.below hz143)
    clear hbt146
    clear ho147
    go_wp2_with (refine wl_value rfl (exec_fpk 0 (by decide) rfl rfl) ?_; refine Hid.out ?_)
    refine Hid.mk ?_
    go_wp2_with (refine wl_value rfl (exec_fad0 rfl rfl) ?_; refine Hid.out ?_)
    refine Hid.mk ?_
    rcases Bool.eq_false_or_eq_true (P.sv) with hb151 | hb151
    · have Hhb151 := Hid.mk hb151
      clear hb151
      go_wp2_with (refine wl_value rfl (kn_ (c := true) Hhb151 (exec_ld rfl rfl (ldB (SAt.at s148 0 (by decide))))) ?_; refine Hid.out ?_)
      refine Hid.mk ?_
      have HC152 : Hid (Calls Tryd.prog 55 #[.int .i64 4, .bool true] w147 fun e w' => e = .returned (.tuple #[.int .i64 (codT true 4), .int .i64 (codC true 4)]) ∧ Below w147.heap.size w147 w') := Hid.mk (codes4_true w147)
      go_wp2_with (refine wl_cal en_aditref15_codes HC152 rfl rfl (args2 rfl rfl) ?_; intro w153 hB153; refine Hid.out ?_)
      refine Hid.mk ?_
      clear HC152
      have s154 := s148.kept hB153
      clear s148
      have s155 := s149.kept hB153
      clear s149
      have s156 := s147.kept hB153
      clear s147
      have hbt157 := hbt150.trans (hB153.mono hbt150.size)
      clear hbt150
      clear hB153
      go_wp2_with (refine wl_value rfl (exec_adW0 rfl) ?_; refine Hid.out ?_)
      refine Hid.mk ?_
      go_wp2_with (refine st_stO (V := adV false (fun _ => 0)) (g := g4) rfl rfl isAddr (adV_one _ _) s155 rfl rfl ?_; intro w158 s158 ho158; refine Hid.out ?_)
      refine Hid.mk ?_
      clear s155
      have s159 := s154.only ho158 hn5
      clear s154
      have s160 := s156.only ho158 hn142.symm
      clear s156
      have hbt161 := hbt157.trans (ho158.below hz6)
      clear hbt157
      clear ho158
      go_wp2_with fail
      have hB : toldB P = false := by unfold toldB; rw [Hhb9.out]; rfl
      have hV : toldV P = false := by unfold toldV; rw [hB]; rfl
      have hA : toldA P = fun _ => 0 := by unfold toldA; rw [if_neg (by rw [hB]; decide)]
      have hN : toldN P = 0 := by unfold toldN; rw [if_neg (by rw [hB]; decide)]
      refine bodyPost_ret (res_ctt rfl isAddr s158 (by rfl) (by rfl) (by rfl)) rfl ?_
      exact ⟨Eq.trans (rfl : _ = Ending.returned (.tuple #[.agg (SC 17 (adV false (fun _ => 0))), .int .i64 0, .bool false])) (by rw [← HRV.out, hB, hV, hA, hN] <;> rfl), hbt161⟩
    · have Hhb151 := Hid.mk hb151
      clear hb151
      go_wp2_with (refine wl_value rfl (kn_ (c := false) Hhb151 (exec_ld rfl rfl (ldB (SAt.at s148 0 (by decide))))) ?_; refine Hid.out ?_)
      refine Hid.mk ?_
      have HC162 : Hid (Calls Tryd.prog 55 #[.int .i64 4, .bool false] w147 fun e w' => e = .returned (.tuple #[.int .i64 (codT false 4), .int .i64 (codC false 4)]) ∧ Below w147.heap.size w147 w') := Hid.mk (codes4_false w147)
      go_wp2_with (refine wl_cal en_aditref15_codes HC162 rfl rfl (args2 rfl rfl) ?_; intro w163 hB163; refine Hid.out ?_)
      refine Hid.mk ?_
      clear HC162
      have s164 := s148.kept hB163
      clear s148
      have s165 := s149.kept hB163
      clear s149
      have s166 := s147.kept hB163
      clear s147
      have hbt167 := hbt150.trans (hB163.mono hbt150.size)
      clear hbt150
      clear hB163
      go_wp2_with (refine wl_value rfl (exec_adW0 rfl) ?_; refine Hid.out ?_)
      refine Hid.mk ?_
      go_wp2_with (refine st_stO (V := adV false (fun _ => 0)) (g := g4) rfl rfl isAddr (adV_one _ _) s165 rfl rfl ?_; intro w168 s168 ho168; refine Hid.out ?_)
      refine Hid.mk ?_
      clear s165
      have s169 := s164.only ho168 hn5
      clear s164
      have s170 := s166.only ho168 hn142.symm
      clear s166
      have hbt171 := hbt167.trans (ho168.below hz6)
      clear hbt167
      clear ho168
      go_wp2_with fail
      have hB : toldB P = false := by unfold toldB; rw [Hhb9.out]; rfl
      have hV : toldV P = false := by unfold toldV; rw [hB]; rfl
      have hA : toldA P = fun _ => 0 := by unfold toldA; rw [if_neg (by rw [hB]; decide)]
      have hN : toldN P = 0 := by unfold toldN; rw [if_neg (by rw [hB]; decide)]
      refine bodyPost_ret (res_ctt rfl isAddr s168 (by rfl) (by rfl) (by rfl)) rfl ?_
      exact ⟨Eq.trans (rfl : _ = Ending.returned (.tuple #[.agg (SC 17 (adV false (fun _ => 0))), .int .i64 0, .bool false])) (by rw [← HRV.out, hB, hV, hA, hN] <;> rfl), hbt171⟩
set_option linter.unusedSimpArgs false in
set_option maxHeartbeats 8000000 in
theorem told_walk (P : Pk) (vx : Value) (w : World) (he : Env w) (hx : ExAt w vx P.exts) (hp : PkB P) : Calls Tryd.prog 6 #[.agg (SC 46 (pkV P vx))] w fun e w' => e = .returned (.bool true) ∧ Below w.heap.size w w' := by
  generalize hRV : (.bool true : Value) = RV
  have HRV := Hid.mk hRV
  clear hRV
  have HE := Hid.mk he
  clear he
  have HX := Hid.mk hx
  have HP := Hid.mk hp
  clear hx hp
  go_enter Tryd.func6, Tryd.ntmps6
  go_wp2_with (refine wl_boxO (V := pkV P vx) rfl rfl isPk rfl ?_; intro g1 w1 hg1 s1 hB1; refine Hid.out ?_)
  refine Hid.mk ?_
  have hz2 : w.heap.size ≤ g1 := by omega
  have hbt3 := hB1
  clear hB1 hg1
  have HC4 : Hid (Calls Tryd.prog 8 #[] w1 fun e w' => e = .returned (.bool true) ∧ Below w1.heap.size w1 w') := Hid.mk (awake_run w1 (Env.kept HE.out hbt3))
  go_wp2_with (refine wl_cal en_aditlaw15_awake HC4 rfl rfl (args0) ?_; intro w5 hB5; refine Hid.out ?_)
  refine Hid.mk ?_
  clear HC4
  have s6 := s1.kept hB5
  clear s1
  have hbt7 := hbt3.trans (hB5.mono hbt3.size)
  clear hbt3
  clear hB5
  go_wp2_with (refine wl_value rfl (look_st rfl isPk s6 rfl) ?_; refine Hid.out ?_)
  refine Hid.mk ?_
  rcases Bool.eq_false_or_eq_true (toldB P) with hb8 | hb8
  · have Hhb8 := Hid.mk hb8
    clear hb8
    have HC9 : Hid (Calls Tryd.prog 18 #[.agg (SC 46 (pkV P vx))] w5 fun e w' => e = .returned (.tuple #[.agg (SC 17 (adV (toldV P) (toldA P))), .int .i64 ((toldN P : Nat) : Int), .bool true]) ∧ Below w5.heap.size w5 w') := Hid.mk (by have h := Told_run P vx w5 (Env.kept HE.out hbt7) (ExAt.kept HX.out hbt7) HP.out; rw [Hhb8.out] at h; exact h)
    go_wp2_with (refine wl_cal en_icmp_Told HC9 rfl rfl (args1 rfl) ?_; intro w10 hB10; refine Hid.out ?_)
    refine Hid.mk ?_
    clear HC9
    have s11 := s6.kept hB10
    clear s6
    have hbt12 := hbt7.trans (hB10.mono hbt7.size)
    clear hbt7
    clear hB10
    go_wp2_with (refine wl_alO (V := adV false (fun _ => 0)) rfl rfl zeroAddr ?_; intro g13 w13 hg13 s13 hB13; refine Hid.out ?_)
    refine Hid.mk ?_
    have hn14 : g1 ≠ g13 := by have := s11.lt; omega
    have hz15 : w.heap.size ≤ g13 := by have := hbt12.size; omega
    have s16 := s11.kept hB13
    clear s11
    have hbt17 := hbt12.trans (hB13.mono hbt12.size)
    clear hbt12
    clear hB13 hg13
    go_wp2_with (refine st_stO (V := adV (toldV P) (toldA P)) (g := g13) rfl rfl isAddr (adV_one _ _) s13 rfl rfl ?_; intro w18 s18 ho18; refine Hid.out ?_)
    refine Hid.mk ?_
    clear s13
    have s19 := s16.only ho18 hn14
    clear s16
    have hbt20 := hbt17.trans (ho18.below hz15)
    clear hbt17
    clear ho18
    go_wp2_with (refine wl_value rfl (look_st rfl isPk s19 rfl) ?_; refine Hid.out ?_)
    refine Hid.mk ?_
    have HC21 : Hid (Calls Tryd.prog 19 #[.agg (SC 46 (pkV P vx))] w18 fun e w' => e = .returned (.tuple #[.agg (SC 17 (adV (toldV P) (toldA P))), .int .i64 ((toldN P : Nat) : Int), .bool true]) ∧ Below w18.heap.size w18 w') := Hid.mk (by have h := dTold_run P vx w18  (ExAt.kept HX.out hbt20) HP.out; rw [Hhb8.out] at h; exact h)
    go_wp2_with (refine wl_cal en_aditref15_Told HC21 rfl rfl (args1 rfl) ?_; intro w22 hB22; refine Hid.out ?_)
    refine Hid.mk ?_
    clear HC21
    have s23 := s19.kept hB22
    clear s19
    have s24 := s18.kept hB22
    clear s18
    have hbt25 := hbt20.trans (hB22.mono hbt20.size)
    clear hbt20
    clear hB22
    go_wp2_with (refine wl_alO (V := adV false (fun _ => 0)) rfl rfl zeroAddr ?_; intro g26 w26 hg26 s26 hB26; refine Hid.out ?_)
    refine Hid.mk ?_
    have hn27 : g1 ≠ g26 := by have := s23.lt; omega
    have hn28 : g13 ≠ g26 := by have := s24.lt; omega
    have hz29 : w.heap.size ≤ g26 := by have := hbt25.size; omega
    have s30 := s23.kept hB26
    clear s23
    have s31 := s24.kept hB26
    clear s24
    have hbt32 := hbt25.trans (hB26.mono hbt25.size)
    clear hbt25
    clear hB26 hg26
    go_wp2_with (refine st_stO (V := adV (toldV P) (toldA P)) (g := g26) rfl rfl isAddr (adV_one _ _) s26 rfl rfl ?_; intro w33 s33 ho33; refine Hid.out ?_)
    refine Hid.mk ?_
    clear s26
    have s34 := s30.only ho33 hn27
    clear s30
    have s35 := s31.only ho33 hn28
    clear s31
    have hbt36 := hbt32.trans (ho33.below hz29)
    clear hbt32
    clear ho33
    go_wp2_with (refine wl_value rfl (look_st rfl isAddr s35 rfl) ?_; refine Hid.out ?_)
    refine Hid.mk ?_
    go_wp2_with (refine wl_value rfl (look_st rfl isAddr s33 rfl) ?_; refine Hid.out ?_)
    refine Hid.mk ?_
    have HK37 : Hid (eqAF (toldV P) (toldA P) (toldV P) (toldA P) = true) := Hid.mk (eqAF_iff.2 ⟨rfl, fun _ _ => rfl⟩)
    go_wp2_with (refine wl_value rfl (kn_ (c := true) HK37 (exec_eqA rfl rfl rfl)) ?_; refine Hid.out ?_)
    refine Hid.mk ?_
    have HK38 : Hid (decide (((toldN P : Nat) : Int) = ((toldN P : Nat) : Int)) = true) := Hid.mk (decide_eq_true rfl)
    go_wp2_with (refine wl_value rfl (kn_ (c := true) HK38 (cmp_eq (m := ((toldN P : Nat) : Int)) (n := ((toldN P : Nat) : Int)) rfl rfl rfl)) ?_; refine Hid.out ?_)
    refine Hid.mk ?_
    have HK39 : Hid ((true == true) = true) := Hid.mk rfl
    go_wp2_with (refine wl_value rfl (kn_ (c := true) HK39 (cmp_eqB (m := true) (n := true) rfl rfl rfl)) ?_; refine Hid.out ?_)
    refine Hid.mk ?_
    go_wp2_with fail
    go_ret
    exact ⟨Eq.trans (rfl : _ = Ending.returned (.bool true)) (by rw [← HRV.out]), hbt36⟩
  · have Hhb8 := Hid.mk hb8
    clear hb8
    have HC40 : Hid (Calls Tryd.prog 18 #[.agg (SC 46 (pkV P vx))] w5 fun e w' => e = .returned (.tuple #[.agg (SC 17 (adV (toldV P) (toldA P))), .int .i64 ((toldN P : Nat) : Int), .bool false]) ∧ Below w5.heap.size w5 w') := Hid.mk (by have h := Told_run P vx w5 (Env.kept HE.out hbt7) (ExAt.kept HX.out hbt7) HP.out; rw [Hhb8.out] at h; exact h)
    go_wp2_with (refine wl_cal en_icmp_Told HC40 rfl rfl (args1 rfl) ?_; intro w41 hB41; refine Hid.out ?_)
    refine Hid.mk ?_
    clear HC40
    have s42 := s6.kept hB41
    clear s6
    have hbt43 := hbt7.trans (hB41.mono hbt7.size)
    clear hbt7
    clear hB41
    go_wp2_with (refine wl_alO (V := adV false (fun _ => 0)) rfl rfl zeroAddr ?_; intro g44 w44 hg44 s44 hB44; refine Hid.out ?_)
    refine Hid.mk ?_
    have hn45 : g1 ≠ g44 := by have := s42.lt; omega
    have hz46 : w.heap.size ≤ g44 := by have := hbt43.size; omega
    have s47 := s42.kept hB44
    clear s42
    have hbt48 := hbt43.trans (hB44.mono hbt43.size)
    clear hbt43
    clear hB44 hg44
    go_wp2_with (refine st_stO (V := adV (toldV P) (toldA P)) (g := g44) rfl rfl isAddr (adV_one _ _) s44 rfl rfl ?_; intro w49 s49 ho49; refine Hid.out ?_)
    refine Hid.mk ?_
    clear s44
    have s50 := s47.only ho49 hn45
    clear s47
    have hbt51 := hbt48.trans (ho49.below hz46)
    clear hbt48
    clear ho49
    go_wp2_with (refine wl_value rfl (look_st rfl isPk s50 rfl) ?_; refine Hid.out ?_)
    refine Hid.mk ?_
    have HC52 : Hid (Calls Tryd.prog 19 #[.agg (SC 46 (pkV P vx))] w49 fun e w' => e = .returned (.tuple #[.agg (SC 17 (adV (toldV P) (toldA P))), .int .i64 ((toldN P : Nat) : Int), .bool false]) ∧ Below w49.heap.size w49 w') := Hid.mk (by have h := dTold_run P vx w49  (ExAt.kept HX.out hbt51) HP.out; rw [Hhb8.out] at h; exact h)
    go_wp2_with (refine wl_cal en_aditref15_Told HC52 rfl rfl (args1 rfl) ?_; intro w53 hB53; refine Hid.out ?_)
    refine Hid.mk ?_
    clear HC52
    have s54 := s50.kept hB53
    clear s50
    have s55 := s49.kept hB53
    clear s49
    have hbt56 := hbt51.trans (hB53.mono hbt51.size)
    clear hbt51
    clear hB53
    go_wp2_with (refine wl_alO (V := adV false (fun _ => 0)) rfl rfl zeroAddr ?_; intro g57 w57 hg57 s57 hB57; refine Hid.out ?_)
    refine Hid.mk ?_
    have hn58 : g1 ≠ g57 := by have := s54.lt; omega
    have hn59 : g44 ≠ g57 := by have := s55.lt; omega
    have hz60 : w.heap.size ≤ g57 := by have := hbt56.size; omega
    have s61 := s54.kept hB57
    clear s54
    have s62 := s55.kept hB57
    clear s55
    have hbt63 := hbt56.trans (hB57.mono hbt56.size)
    clear hbt56
    clear hB57 hg57
    go_wp2_with (refine st_stO (V := adV (toldV P) (toldA P)) (g := g57) rfl rfl isAddr (adV_one _ _) s57 rfl rfl ?_; intro w64 s64 ho64; refine Hid.out ?_)
    refine Hid.mk ?_
    clear s57
    have s65 := s61.only ho64 hn58
    clear s61
    have s66 := s62.only ho64 hn59
    clear s62
    have hbt67 := hbt63.trans (ho64.below hz60)
    clear hbt63
    clear ho64
    go_wp2_with (refine wl_value rfl (look_st rfl isAddr s66 rfl) ?_; refine Hid.out ?_)
    refine Hid.mk ?_
    go_wp2_with (refine wl_value rfl (look_st rfl isAddr s64 rfl) ?_; refine Hid.out ?_)
    refine Hid.mk ?_
    have HK68 : Hid (eqAF (toldV P) (toldA P) (toldV P) (toldA P) = true) := Hid.mk (eqAF_iff.2 ⟨rfl, fun _ _ => rfl⟩)
    go_wp2_with (refine wl_value rfl (kn_ (c := true) HK68 (exec_eqA rfl rfl rfl)) ?_; refine Hid.out ?_)
    refine Hid.mk ?_
    have HK69 : Hid (decide (((toldN P : Nat) : Int) = ((toldN P : Nat) : Int)) = true) := Hid.mk (decide_eq_true rfl)
    go_wp2_with (refine wl_value rfl (kn_ (c := true) HK69 (cmp_eq (m := ((toldN P : Nat) : Int)) (n := ((toldN P : Nat) : Int)) rfl rfl rfl)) ?_; refine Hid.out ?_)
    refine Hid.mk ?_
    have HK70 : Hid ((false == false) = true) := Hid.mk rfl
    go_wp2_with (refine wl_value rfl (kn_ (c := true) HK70 (cmp_eqB (m := false) (n := false) rfl rfl rfl)) ?_; refine Hid.out ?_)
    refine Hid.mk ?_
    go_wp2_with fail
    go_ret
    exact ⟨Eq.trans (rfl : _ = Ending.returned (.bool true)) (by rw [← HRV.out]), hbt67⟩
end Go.Proofs.YtojekoakgpkkdaaDoor

