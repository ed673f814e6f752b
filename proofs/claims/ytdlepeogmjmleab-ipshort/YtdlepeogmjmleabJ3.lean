/-
  Own text. The program's own addresses: V4, Valid, Bytes, From, Group, None.
-/
import Derived.ChangeKeysEq
import Derived.Laws.StructEq
import Derived.Test.YtdlepeogmjmleabJ2
import Derived.Test.YtdlepeogmjmleabJ1
import Derived.Tactics
namespace Go.Proofs.Ytdlepeogmjmleab
open Go.RowKit Go.Proofs
set_option maxRecDepth 100000
/-- Are two addresses the same? -/
def eqAF (v : Bool) (b : Nat → Int) (v' : Bool) (b' : Nat → Int) : Bool := (v == v') && (List.range 16).all fun i => b i == b' i
theorem eqAF_iff {v v' : Bool} {b b' : Nat → Int} : eqAF v b v' b' = true ↔ (v = v' ∧ ∀ i, i < 16 → b i = b' i) := by
  unfold eqAF
  rw [Bool.and_eq_true, beq_iff_eq, List.all_eq_true]
  constructor
  · rintro ⟨h, g⟩
    exact ⟨h, fun i hi => beq_iff_eq.1 (g i (List.mem_range.2 hi))⟩
  · rintro ⟨h, g⟩
    exact ⟨h, fun i hi => beq_iff_eq.2 (g i (List.mem_range.1 hi))⟩
theorem rowW_get (n : Nat) (b : Nat → Int) {i : Nat} (h : i < n) : (SC n fun j => Value.int .u8 (b j))[i]? = some (.int .u8 (b i)) := SC_get n _ i h
theorem eqItems_W (b b' : Nat → Int) (d : Nat) (w : World) : ∀ (is : List Nat), (∀ i ∈ is, i < 16) → (Op.eqItems (d + 1) 5 1 (SC 16 fun j => Value.int .u8 (b j)) (SC 16 fun j => Value.int .u8 (b' j)) is).run Try.prog w = .ok (is.all fun i => b i == b' i) w
  | [], _ => by simp [Op.eqItems]
  | i :: is, h => by
    have hi : i < 16 := h i (by simp)
    have ih := eqItems_W b b' d w is (fun j hj => h j (by simp [hj]))
    have e1 : (part 5 (SC 16 fun j => Value.int .u8 (b j)) (i * 1)).run Try.prog w = .ok (.int .u8 (b i)) w := by
      simp [part, rowW_get, hi, go_sem]
    have e2 : (part 5 (SC 16 fun j => Value.int .u8 (b' j)) (i * 1)).run Try.prog w = .ok (.int .u8 (b' i)) w := by
      simp [part, rowW_get, hi, go_sem]
    simp only [Op.eqItems, Sem.run_bind, e1, e2, Result.andThen_ok, run_equalIn_int w d 5 .u8 .u8 _ _ Try.underlying5, List.all_cons]
    cases hb : (b i == b' i)
    · simp
    · simpa using ih
theorem cellsW8 : Try.prog.cellsOf 5 = 1 := by kernel_rfl
theorem infoW8 : (Try.prog.info? 5).isSome = true := by kernel_rfl
theorem equal_b16 (b b' : Nat → Int) (d : Nat) (w : World) : (Op.equalIn (d + 1 + 1) 22 (.agg (SC 16 fun j => Value.int .u8 (b j))) (.agg (SC 16 fun j => Value.int .u8 (b' j)))).run Try.prog w = .ok ((List.range 16).all fun i => b i == b' i) w := by
  obtain ⟨i, hi⟩ := Option.isSome_iff_exists.1 infoW8
  rw [run_equalIn_array w (d + 1) _ _ Try.underlying22 hi, cellsW8]
  exact eqItems_W b b' d w _ (fun i hi => List.mem_range.1 hi)
theorem fieldsA : (Try.prog.fieldsOf 24).toList.map (fun f => (f.name, f.type, f.offset)) = [("V6", 4, 0), ("B", 22, 1)] := by kernel_rfl
theorem stoodA : Try.prog.stoodInHeld 24 = false := by kernel_rfl
theorem eqgA : Try.prog.eqGuardType Try.prog.depth 24 = false := by kernel_rfl
theorem partA0 (v : Bool) (b : Nat → Int) (w : World) : (part 4 (SC 17 (adV v b)) 0).run Try.prog w = .ok (.bool v) w := by kernel_rfl
theorem partA1 (v : Bool) (b : Nat → Int) (w : World) : (part 22 (SC 17 (adV v b)) 1).run Try.prog w = .ok (.agg (SC 16 fun j => Value.int .u8 (b j))) w := by kernel_rfl
theorem equal_addr (v : Bool) (b : Nat → Int) (v' : Bool) (b' : Nat → Int) (w : World) : (Op.equalIn 10000 24 (.agg (SC 17 (adV v b))) (.agg (SC 17 (adV v' b')))).run Try.prog w = .ok (eqAF v b v' b') w := by
  rw [run_equalIn_struct w 9999 24 _ _ Try.underlying24 stoodA]
  have hf := fieldsA
  generalize (Try.prog.fieldsOf 24).toList = fs at hf
  obtain ⟨f0, f1, rfl⟩ : ∃ f0 f1, fs = [f0, f1] := by
    have hl : fs.length = 2 := by have := congrArg List.length hf; simpa using this
    cases fs with
    | nil => simp at hl
    | cons f0 fs =>
      cases fs with
      | nil => simp at hl
      | cons f1 fs =>
        cases fs with
        | nil => exact ⟨f0, f1, rfl⟩
        | cons f2 fs => simp at hl
  · simp only [List.map_cons, List.map_nil, List.cons.injEq, Prod.mk.injEq, and_true] at hf
    obtain ⟨⟨n0, t0, o0⟩, n1, t1, o1⟩ := hf
    simp only [Op.eqFields, n0, t0, o0, n1, t1, o1, ne_eq, String.reduceEq, not_false_eq_true, if_true, Sem.run_bind, partA0, Result.andThen_ok, run_equalIn_bool w 9998 4 v v' Try.underlying4]
    unfold eqAF
    cases hv : (v == v')
    · simp
    · simp only [Bool.not_true, Bool.false_eq_true, if_false, Sem.run_bind, partA1, Result.andThen_ok, equal_b16 b b' 9997 w, Bool.true_and]
      cases (List.range 16).all fun i => b i == b' i <;> simp
section
variable {a : Act} {o : Oper} {w : World} {x y : Operand} {t : TypeId}
theorem exec_eqA (ho : o.op = .binOp .eql 24 x y t) {v : Bool} {b : Nat → Int} {v' : Bool} {b' : Nat → Int} (hx : a.eval x = .agg (SC 17 (adV v b))) (hy : a.eval y = .agg (SC 17 (adV v' b'))) : (execOp a.eval o).run Try.prog w = .ok (.value (.bool (eqAF v b v' b'))) w := by
  unfold execOp
  simp only [ho, hx, hy, Sem.run_bind, run_eqGuard_agg w .eql 24 x y _ _ eqgA, Result.andThen_ok, run_eql_struct, equal_addr v b v' b' w, Sem.run_pure]
theorem exec_neA (ho : o.op = .binOp .neq 24 x y t) {v : Bool} {b : Nat → Int} {v' : Bool} {b' : Nat → Int} (hx : a.eval x = .agg (SC 17 (adV v b))) (hy : a.eval y = .agg (SC 17 (adV v' b'))) : (execOp a.eval o).run Try.prog w = .ok (.value (.bool (!eqAF v b v' b'))) w := by
  unfold execOp
  simp only [ho, hx, hy, Sem.run_bind, run_eqGuard_agg w .neq 24 x y _ _ eqgA, Result.andThen_ok, run_neq_struct, equal_addr v b v' b' w, Sem.run_pure]
theorem run_b16 (p q r s : Int) (w : World) : (Instr.build 22 #[(0, .int .u8 p), (1, .int .u8 q), (2, .int .u8 r), (3, .int .u8 s)]).run Try.prog w = .ok (.agg (SC 16 fun j => Value.int .u8 (v4B p q r s j))) w := by kernel_rfl
theorem exec_b16 {x1 x2 x3 x4 : Operand} (ho : o.op = .build 22 #[(0, x1), (1, x2), (2, x3), (3, x4)]) {p q r s : Int} (h1 : a.eval x1 = .int .u8 p) (h2 : a.eval x2 = .int .u8 q) (h3 : a.eval x3 = .int .u8 r) (h4 : a.eval x4 = .int .u8 s) : (execOp a.eval o).run Try.prog w = .ok (.value (.agg (SC 16 fun j => Value.int .u8 (v4B p q r s j)))) w := by
  have h := run_b16 p q r s w
  unfold execOp
  simp only [ho, List.map_toArray, List.map_cons, List.map_nil, h1, h2, h3, h4, Sem.run_bind, h, Result.andThen_ok, Sem.run_pure]
theorem run_adB (b : Nat → Int) (w : World) : (Instr.build 24 #[(1, .agg (SC 16 fun j => Value.int .u8 (b j)))]).run Try.prog w = .ok (.agg (SC 17 (adV false b))) w := by kernel_rfl
theorem exec_adB (ho : o.op = .build 24 #[(1, x)]) {b : Nat → Int} (hx : a.eval x = .agg (SC 16 fun j => Value.int .u8 (b j))) : (execOp a.eval o).run Try.prog w = .ok (.value (.agg (SC 17 (adV false b)))) w := by
  have h := run_adB b w
  unfold execOp
  simp only [ho, List.map_toArray, List.map_cons, List.map_nil, hx, Sem.run_bind, h, Result.andThen_ok, Sem.run_pure]
end
set_option maxHeartbeats 4000000 in
theorem V4_run (p q r s : Int) (w : World) : Calls Try.prog 19 #[.int .u8 p, .int .u8 q, .int .u8 r, .int .u8 s] w fun e w' => e = .returned (.agg (SC 17 (adV false (v4B p q r s)))) ∧ Below w.heap.size w w' := by
  go_enter Try.func19, Try.ntmps19
  go_wp2_with (first | (refine wl_alO rfl rfl zeroAddr ?_; intro g w1 hg q1 hB1; refine Hid.out ?_))
  refine Hid.mk ?_
  go_wp2_with (first | (refine wl_value rfl (exec_b16 rfl (by rfl) (by rfl) (by rfl) (by rfl)) ?_) | (refine wl_value rfl (exec_adB rfl (by rfl)) ?_) | (refine st_stO rfl rfl isAddr (adV_one _ _) q1 (by rfl) (by rfl) ?_; intro u3 q3 o3; refine Hid.out ?_))
  refine Hid.mk ?_
  go_wp2_with fail
  exact bodyPost_ret (res_st rfl isAddr q3 (by rfl)) rfl ⟨rfl, hB1.trans (o3.below hg)⟩
theorem ldWb {w : World} {p : Addr} {v : Bool} (h : w.cell? p = some (.bool v)) : (Instr.loadAt 4 (.pointer (some p))).run Try.prog w = .ok (.bool v) w := by simp [go_sem, h]
theorem enterW_V4 (args : Array Value) (w : World) : (callFunc 19 args).run Try.prog w = .ok (.enter 19 args) w := by kernel_rfl
theorem valid_v4 (b : Nat → Int) : validF false b = eqAF false b false (v4B (b 0) (b 1) (b 2) (b 3)) := by
  have h1 := valid_iff (v := false) (b := b)
  have h2 := eqAF_iff (v := false) (v' := false) (b := b) (b' := v4B (b 0) (b 1) (b 2) (b 3))
  have h3 : (∀ i, 4 ≤ i → i < 16 → b i = 0) ↔ (∀ i, i < 16 → b i = v4B (b 0) (b 1) (b 2) (b 3) i) := by
    constructor
    · intro h i hi
      unfold v4B
      split
      · rename_i e; rw [e]
      · split
        · rename_i e; rw [e]
        · split
          · rename_i e; rw [e]
          · split
            · rename_i e; rw [e]
            · exact h i (by omega) hi
    · intro h i h4 hi
      rw [h i hi]
      unfold v4B
      rw [if_neg (by omega), if_neg (by omega), if_neg (by omega), if_neg (by omega)]
  cases hv : validF false b <;> cases he : eqAF false b false (v4B (b 0) (b 1) (b 2) (b 3))
  · rfl
  · exfalso
    have := h1.2 (.inr (h3.2 (h2.1 he).2))
    rw [hv] at this
    cases this
  · exfalso
    rcases h1.1 hv with e | e
    · cases e
    · have := h2.2 ⟨rfl, h3.1 e⟩
      rw [he] at this
      cases this
  · rfl
set_option maxHeartbeats 4000000 in
theorem Valid_run (v : Bool) (b : Nat → Int) (w : World) : Calls Try.prog 21 #[.agg (SC 17 (adV v b))] w fun e w' => e = .returned (.bool (validF v b)) ∧ Below w.heap.size w w' := by
  go_enter Try.func21, Try.ntmps21
  go_wp2_with (refine wl_boxO rfl rfl isAddr (by rfl) ?_; intro g u1 hg g1 hB1; refine Hid.out ?_)
  refine Hid.mk ?_
  go_upto_region 1 with fail
  cases v
  · have hf := valid_v4 b
    refine wp_region3 (Below u1.heap.size u1) u1.heap.size
        ([] : List (Nat × Cont))
        [kv (.pointer (some ⟨g, 0, none⟩)), kv (.bool false), kv (.bool false), kv (.agg (SC 17 (adV false b))), kv (.pointer (some ⟨g, 1, none⟩)), kv (.pointer (some ⟨g, 1 + 0, none⟩)), kv (.int .u8 (b 0)), kv (.pointer (some ⟨g, 1, none⟩)), kv (.pointer (some ⟨g, 1 + 1, none⟩)), kv (.int .u8 (b 1)), kv (.pointer (some ⟨g, 1, none⟩)), kv (.pointer (some ⟨g, 1 + 2, none⟩)), kv (.int .u8 (b 2)), kv (.pointer (some ⟨g, 1, none⟩)), kv (.pointer (some ⟨g, 1 + 3, none⟩)), kv (.int .u8 (b 3)), kv (.agg (SC 17 (adV false (v4B (b 0) (b 1) (b 2) (b 3))))), kv (.bool (eqAF false b false (v4B (b 0) (b 1) (b 2) (b 3)))), kv (.bool (eqAF false b false (v4B (b 0) (b 1) (b 2) (b 3)))), kv (.bool (eqAF false b false (v4B (b 0) (b 1) (b 2) (b 3))))]
        [.none, .none, .none, .none, .none, .none, .none, .none, .none, .none, .none, .none, .none, .none, .none, .none, .none, .none, .none, .none]
        [some 3, some 4, some 5, some 6, some 7, some 8, some 9, some 10, some 11, some 12, some 13, some 14, some 15, some 16, some 17, some 18, some 19, some 20, some 21, some 2]
        [(1, .pointer (some ⟨g, 0, none⟩))]
        [[], [.slot 0], [.slot 1], [.slot 2], [.slot 2], [.slot 2, .slot 4], [.slot 2, .slot 5], [.slot 2], [.slot 2, .slot 7], [.slot 2, .slot 8], [.slot 2], [.slot 2, .slot 10], [.slot 2, .slot 11], [.slot 2], [.slot 2, .slot 13], [.slot 2, .slot 14], [.slot 2, .slot 6, .slot 9, .slot 12, .slot 15], [.slot 2, .slot 3, .slot 16], [.slot 2, .slot 17], [.slot 18]]
        [.slot 19] [3, 4, 5, 6, 7, 8, 9, 10, 11, 12, 13, 14, 15, 16, 17, 18, 19, 20, 21, 2]
        rfl (by kernel_rfl) ⟨rfl, trivial⟩ ((Below.refl _ u1).drew) (Nat.le_refl _) trivial trivial (below_GcW (Nat.le_refl _))
        ⟨
          (fun Q aq ww own hS hBg fr kn => .inl ⟨trivial, fun K hK => wp_value (exec_fadW0 rfl fr.1) (hK _ _ ⟨Touch.refl _ _, rfl⟩)⟩),
          (fun Q aq ww own hS hBg fr kn => .inl ⟨trivial, fun K hK => wp_value (exec_ld rfl kn.1 (ldWb (ad_v (SAt.kept g1 hS)))) (hK _ _ ⟨Touch.refl _ _, rfl⟩)⟩),
          (fun Q aq ww own hS hBg fr kn => .inl ⟨trivial, fun K hK => wp_value (exec_move rfl kn.1) (hK _ _ ⟨Touch.refl _ _, rfl⟩)⟩),
          (fun Q aq ww own hS hBg fr kn => .inl ⟨kn.1, fun K hK => wp_value (look_st rfl isAddr (SAt.kept g1 hS) fr.1) (hK _ _ ⟨Touch.refl _ _, rfl⟩)⟩),
          (fun Q aq ww own hS hBg fr kn => .inl ⟨kn.1, fun K hK => wp_value (exec_fadW1 rfl fr.1) (hK _ _ ⟨Touch.refl _ _, rfl⟩)⟩),
          (fun Q aq ww own hS hBg fr kn => .inl ⟨kn.1, fun K hK => wp_value (exec_ixW16 (k := 0) rfl kn.2.1 rfl (by decide)) (hK _ _ ⟨Touch.refl _ _, rfl⟩)⟩),
          (fun Q aq ww own hS hBg fr kn => .inl ⟨kn.1, fun K hK => wp_value (exec_ld rfl kn.2.1 (ldW8 (ad_b (SAt.kept g1 hS) 0 (by decide)))) (hK _ _ ⟨Touch.refl _ _, rfl⟩)⟩),
          (fun Q aq ww own hS hBg fr kn => .inl ⟨kn.1, fun K hK => wp_value (exec_fadW1 rfl fr.1) (hK _ _ ⟨Touch.refl _ _, rfl⟩)⟩),
          (fun Q aq ww own hS hBg fr kn => .inl ⟨kn.1, fun K hK => wp_value (exec_ixW16 (k := 1) rfl kn.2.1 rfl (by decide)) (hK _ _ ⟨Touch.refl _ _, rfl⟩)⟩),
          (fun Q aq ww own hS hBg fr kn => .inl ⟨kn.1, fun K hK => wp_value (exec_ld rfl kn.2.1 (ldW8 (ad_b (SAt.kept g1 hS) 1 (by decide)))) (hK _ _ ⟨Touch.refl _ _, rfl⟩)⟩),
          (fun Q aq ww own hS hBg fr kn => .inl ⟨kn.1, fun K hK => wp_value (exec_fadW1 rfl fr.1) (hK _ _ ⟨Touch.refl _ _, rfl⟩)⟩),
          (fun Q aq ww own hS hBg fr kn => .inl ⟨kn.1, fun K hK => wp_value (exec_ixW16 (k := 2) rfl kn.2.1 rfl (by decide)) (hK _ _ ⟨Touch.refl _ _, rfl⟩)⟩),
          (fun Q aq ww own hS hBg fr kn => .inl ⟨kn.1, fun K hK => wp_value (exec_ld rfl kn.2.1 (ldW8 (ad_b (SAt.kept g1 hS) 2 (by decide)))) (hK _ _ ⟨Touch.refl _ _, rfl⟩)⟩),
          (fun Q aq ww own hS hBg fr kn => .inl ⟨kn.1, fun K hK => wp_value (exec_fadW1 rfl fr.1) (hK _ _ ⟨Touch.refl _ _, rfl⟩)⟩),
          (fun Q aq ww own hS hBg fr kn => .inl ⟨kn.1, fun K hK => wp_value (exec_ixW16 (k := 3) rfl kn.2.1 rfl (by decide)) (hK _ _ ⟨Touch.refl _ _, rfl⟩)⟩),
          (fun Q aq ww own hS hBg fr kn => .inl ⟨kn.1, fun K hK => wp_value (exec_ld rfl kn.2.1 (ldW8 (ad_b (SAt.kept g1 hS) 3 (by decide)))) (hK _ _ ⟨Touch.refl _ _, rfl⟩)⟩),
          (fun Q aq ww own hS hBg fr kn => .inl ⟨kn.1, fun K hK => stepc enterW_V4 rfl (args4 kn.2.1 kn.2.2.1 kn.2.2.2.1 kn.2.2.2.2.1) (V4_run _ _ _ _ ww) (fun w' hb => hK _ _ ⟨touch_below hb, rfl⟩)⟩),
          (fun Q aq ww own hS hBg fr kn => .inl ⟨kn.1, fun K hK => wp_value (exec_eqA rfl kn.2.1 kn.2.2.1) (hK _ _ ⟨Touch.refl _ _, rfl⟩)⟩),
          (fun Q aq ww own hS hBg fr kn => .inl ⟨trivial, fun K hK => wp_value (exec_pickF (v := .bool (eqAF false b false (v4B (b 0) (b 1) (b 2) (b 3)))) rfl kn.1 kn.2.1) (hK _ _ ⟨Touch.refl _ _, rfl⟩)⟩),
          (fun Q aq ww own hS hBg fr kn => .inl ⟨trivial, fun K hK => wp_value (exec_assign rfl kn.1) (hK _ _ ⟨Touch.refl _ _, rfl⟩)⟩),
          trivial⟩ ?_
    intro vs own u6 hB6 hsz6 kn inj
    have e19 : vs 2 = .bool (eqAF false b false (v4B (b 0) (b 1) (b 2) (b 3))) := kn.1
    clear kn inj hsz6
    simp only [putAll, Act.put, List.setIfInBounds_toArray, List.set_cons_zero, List.set_cons_succ, e19]
    clear e19
    go_wp2_with fail
    go_ret
    exact ⟨by rw [hf]; rfl, hB1.trans (hB6.mono hB1.size)⟩
  · have hf : validF true b = true := valid_iff.2 (.inl rfl)
    refine wp_region3 (Below u1.heap.size u1) u1.heap.size
        ([] : List (Nat × Cont))
        [kv (.pointer (some ⟨g, 0, none⟩)), kv (.bool true), kv (.bool true), kv (undef), kv (undef), kv (undef), kv (undef), kv (undef), kv (undef), kv (undef), kv (undef), kv (undef), kv (undef), kv (undef), kv (undef), kv (undef), kv (undef), kv (undef), kv (.bool true), kv (.bool true)]
        [.none, .none, .none, .none, .none, .none, .none, .none, .none, .none, .none, .none, .none, .none, .none, .none, .none, .none, .none, .none]
        [some 3, some 4, some 5, some 6, some 7, some 8, some 9, some 10, some 11, some 12, some 13, some 14, some 15, some 16, some 17, some 18, some 19, some 20, some 21, some 2]
        [(1, .pointer (some ⟨g, 0, none⟩))]
        [[], [.slot 0], [.slot 1], [.slot 2], [.slot 2], [.slot 2], [.slot 2], [.slot 2], [.slot 2], [.slot 2], [.slot 2], [.slot 2], [.slot 2], [.slot 2], [.slot 2], [.slot 2], [.slot 2], [.slot 2], [.slot 2], [.slot 18]]
        [.slot 19] [3, 4, 5, 6, 7, 8, 9, 10, 11, 12, 13, 14, 15, 16, 17, 18, 19, 20, 21, 2]
        rfl (by kernel_rfl) ⟨rfl, trivial⟩ ((Below.refl _ u1).drew) (Nat.le_refl _) trivial trivial (below_GcW (Nat.le_refl _))
        ⟨
          (fun Q aq ww own hS hBg fr kn => .inl ⟨trivial, fun K hK => wp_value (exec_fadW0 rfl fr.1) (hK _ _ ⟨Touch.refl _ _, rfl⟩)⟩),
          (fun Q aq ww own hS hBg fr kn => .inl ⟨trivial, fun K hK => wp_value (exec_ld rfl kn.1 (ldWb (ad_v (SAt.kept g1 hS)))) (hK _ _ ⟨Touch.refl _ _, rfl⟩)⟩),
          (fun Q aq ww own hS hBg fr kn => .inl ⟨trivial, fun K hK => wp_value (exec_move rfl kn.1) (hK _ _ ⟨Touch.refl _ _, rfl⟩)⟩),
          (fun Q aq ww own hS hBg fr kn => .inr ⟨.inl kn.1, ⟨Touch.refl _ _, rfl⟩⟩),
          (fun Q aq ww own hS hBg fr kn => .inr ⟨.inl kn.1, ⟨Touch.refl _ _, rfl⟩⟩),
          (fun Q aq ww own hS hBg fr kn => .inr ⟨.inl kn.1, ⟨Touch.refl _ _, rfl⟩⟩),
          (fun Q aq ww own hS hBg fr kn => .inr ⟨.inl kn.1, ⟨Touch.refl _ _, rfl⟩⟩),
          (fun Q aq ww own hS hBg fr kn => .inr ⟨.inl kn.1, ⟨Touch.refl _ _, rfl⟩⟩),
          (fun Q aq ww own hS hBg fr kn => .inr ⟨.inl kn.1, ⟨Touch.refl _ _, rfl⟩⟩),
          (fun Q aq ww own hS hBg fr kn => .inr ⟨.inl kn.1, ⟨Touch.refl _ _, rfl⟩⟩),
          (fun Q aq ww own hS hBg fr kn => .inr ⟨.inl kn.1, ⟨Touch.refl _ _, rfl⟩⟩),
          (fun Q aq ww own hS hBg fr kn => .inr ⟨.inl kn.1, ⟨Touch.refl _ _, rfl⟩⟩),
          (fun Q aq ww own hS hBg fr kn => .inr ⟨.inl kn.1, ⟨Touch.refl _ _, rfl⟩⟩),
          (fun Q aq ww own hS hBg fr kn => .inr ⟨.inl kn.1, ⟨Touch.refl _ _, rfl⟩⟩),
          (fun Q aq ww own hS hBg fr kn => .inr ⟨.inl kn.1, ⟨Touch.refl _ _, rfl⟩⟩),
          (fun Q aq ww own hS hBg fr kn => .inr ⟨.inl kn.1, ⟨Touch.refl _ _, rfl⟩⟩),
          (fun Q aq ww own hS hBg fr kn => .inr ⟨.inl kn.1, ⟨Touch.refl _ _, rfl⟩⟩),
          (fun Q aq ww own hS hBg fr kn => .inr ⟨.inl kn.1, ⟨Touch.refl _ _, rfl⟩⟩),
          (fun Q aq ww own hS hBg fr kn => .inl ⟨trivial, fun K hK => wp_value (exec_pick (v := .bool true) rfl kn.1 rfl) (hK _ _ ⟨Touch.refl _ _, rfl⟩)⟩),
          (fun Q aq ww own hS hBg fr kn => .inl ⟨trivial, fun K hK => wp_value (exec_assign rfl kn.1) (hK _ _ ⟨Touch.refl _ _, rfl⟩)⟩),
          trivial⟩ ?_
    intro vs own u6 hB6 hsz6 kn inj
    have e19 : vs 2 = .bool true := kn.1
    clear kn inj hsz6
    simp only [putAll, Act.put, List.setIfInBounds_toArray, List.set_cons_zero, List.set_cons_succ, e19]
    clear e19
    go_wp2_with fail
    go_ret
    exact ⟨by rw [hf]; rfl, hB1.trans (hB6.mono hB1.size)⟩
theorem groupV {b : Nat → Int} : groupF true b = (b 0 == 255) := by
  unfold groupF
  rw [valid_iff.2 (.inl rfl), if_pos rfl, Bool.true_and]
  by_cases e : b 0 = 255
  · rw [decide_eq_true e, e]; rfl
  · rw [decide_eq_false e, beq_eq_false_iff_ne.2 e]
theorem sl16 (g : Nat) (w : World) : (Instr.sliceAt 22 (.pointer (some ⟨g, 1, none⟩)) none none none).run Try.prog w = .ok (.slice (some ⟨g, 1, none⟩) 16 16) w := by simp [go_sem]
theorem sl16h (g : Nat) (w : World) : (Instr.sliceAt 22 (.pointer (some ⟨g, 1, none⟩)) none (some (.int .i64 4)) none).run Try.prog w = .ok (.slice (some ⟨g, 1, none⟩) 4 16) w := by simp [go_sem]
set_option maxHeartbeats 4000000 in
theorem Bytes_run (v : Bool) (b : Nat → Int) (w : World) (hb : Byts 16 b) : Calls Try.prog 29 #[.agg (SC 17 (adV v b))] w fun e w' => e = .returned (.string (bytT v b)) ∧ Below w.heap.size w w' := by
  obtain ⟨r, hr⟩ : ∃ r, validF v b = r := ⟨_, rfl⟩
  have HR := Hid.mk hr
  have HT : Hid (bytT v b = if r = true then mkS (if v = true then 16 else 4) b else ByteArray.empty) := Hid.mk (by unfold bytT; rw [hr])
  clear hr
  go_enter Try.func29, Try.ntmps29
  go_wp2_with (refine wl_boxO rfl rfl isAddr (by rfl) ?_; intro g u1 hg g1 hB1; refine Hid.out ?_)
  refine Hid.mk ?_
  go_wp2_with (first | (refine wl_value rfl (look_st rfl isAddr g1 (by rfl)) ?_) | (go_at_call 21; refine (Valid_run v b _).mono ?_; rintro e w2 ⟨rfl, hB2⟩; simp only [HR.out]; refine Hid.out ?_))
  refine Hid.mk ?_
  have hB3 := hB1.trans (hB2.mono hB1.size)
  have g2 := SAt.kept g1 hB2
  have c0 := ad_v g2
  cases r
  · go_wp2_with fail
    go_ret
    exact ⟨by rw [HT.out]; rfl, hB3⟩
  · cases v
    · have hcv := str_cells g 1 16 w2 4 b (fun j hj => ad_b g2 j (by omega)) (fun j hj => hb j (by omega))
      go_wp2_with (first | (refine wl_value rfl (exec_fadW0 rfl (by rfl)) ?_) | (refine wl_value rfl (exec_fadW1 rfl (by rfl)) ?_) | (refine wl_value rfl (exec_slH rfl (by rfl) (by rfl) (sl16h g _)) ?_) | (refine wl_value rfl (exec_conv rfl (by rfl) hcv) ?_))
      go_ret
      exact ⟨by rw [HT.out]; rfl, hB3⟩
    · have hcv := str_cells g 1 16 w2 16 b (fun j hj => ad_b g2 j hj) (fun j hj => hb j hj)
      go_wp2_with (first | (refine wl_value rfl (exec_fadW0 rfl (by rfl)) ?_) | (refine wl_value rfl (exec_fadW1 rfl (by rfl)) ?_) | (refine wl_value rfl (exec_sl rfl (by rfl) (sl16 g _)) ?_) | (refine wl_value rfl (exec_conv rfl (by rfl) hcv) ?_))
      go_ret
      exact ⟨by rw [HT.out]; rfl, hB3⟩
theorem wl_cpA {ops : Array Oper} {rest : List Oper} {Q : Exit → Act → World → Prop} {o : Oper} {a : Act} {w : World} {d s' : Operand} {g : Nat} {v : Bool} {b : Nat → Int} {T : ByteArray} (ho : o.op = .call { callee := .builtin .copy, args := #[d, s'], argTypes := #[32, 9] }) (hw : Region.wanted o (yielded ops a.tmps) = true) (hd : a.eval d = .slice (some ⟨g, 1, none⟩) 16 16) (hs : a.eval s' = .string T) (hT : T.size ≤ 16) (hg : SAt w g 24 17 (adV v b))
    (h : ∀ w2, SAt w2 g 24 17 (adV v (fun j => if j < T.size then txt T j else b j)) → Only g w w2 → wpList Try.prog ops Q rest (a.put o.dst (goInt T.size)) w2) : wpList Try.prog ops Q (o :: rest) a w := by
  refine wl_act hw ?_
  have hz : ∀ w, (Go.sizeOf 5).run Try.prog w = .ok 1 w := fun w => by kernel_rfl
  have h0 := run_copy_string (P := Try.prog) w 32 9 o.type 5 g 1 16 16 T Try.underlying32 hz hT (fun j hj => by rw [ad_b hg j (by omega)]; rfl) (fun j _ => frozen_of_row w g _ _ _ hg)
  rw [cells_txt] at h0
  have e : nums .u8 T.size (txt T) = (SC T.size fun j => Value.int .u8 (txt T j)).toList := rfl
  rw [e] at h0
  obtain ⟨k1, k2⟩ := hg.mid (fun j => Value.int .u8 (txt T j)) 1 T.size (by omega)
  unfold Oper.wp
  simp only [execOp, ho, resolve, invoke, builtin, List.map_toArray, List.map_cons, List.map_nil, hd, hs, Sem.run_bind, Sem.run_pure, Result.andThen_ok, h0, Oper.upon]
  refine h _ (k1.congr (fun x hx => ?_)) k2
  unfold adV
  by_cases e1 : x < 1
  · rw [if_neg (by omega), if_pos e1, if_pos e1]
  · rw [if_neg e1, if_neg e1]
    by_cases e2 : x - 1 < T.size
    · rw [if_pos (by omega)]
      show _ = Value.int .u8 (if x - 1 < T.size then txt T (x - 1) else b (x - 1))
      rw [if_pos e2]
    · rw [if_neg (by omega)]
      show _ = Value.int .u8 (if x - 1 < T.size then txt T (x - 1) else b (x - 1))
      rw [if_neg e2]
theorem From_no (T : ByteArray) (w : World) (h4 : T.size ≠ 4) (h16 : T.size ≠ 16) : Calls Try.prog 50 #[.string T] w fun e w' => e = .returned (.tuple #[.agg (SC 17 (adV false (fun _ => 0))), .int .i64 1]) ∧ Below w.heap.size w w' := by
  obtain ⟨N, hN⟩ : ∃ N, T.size = N := ⟨_, rfl⟩
  rw [hN] at h4 h16
  have b4 : ((N : Int) != 4) = true := bne_iff_ne.2 (by omega)
  have b16 : ((N : Int) != 16) = true := bne_iff_ne.2 (by omega)
  go_enter Try.func50, Try.ntmps50
  go_wp2_with (refine wl_alO rfl rfl zeroAddr ?_; intro g1 w1 hg1 q1 hB1; refine Hid.out ?_)
  refine Hid.mk ?_
  go_wp2_with (first | (refine wl_value rfl (exec_adW0 rfl) ?_) | (refine st_stO rfl rfl isAddr (adV_one _ _) q1 (by rfl) (by rfl) ?_; intro w2 q2 o2; refine Hid.out ?_))
  refine Hid.mk ?_
  go_wp2_with fail
  exact bodyPost_ret (res_ct rfl isAddr q2 (by rfl) (by rfl)) rfl ⟨rfl, hB1.trans (o2.below hg1)⟩
set_option maxHeartbeats 4000000 in
theorem From_run (T : ByteArray) (w : World) (h : T.size = 4 ∨ T.size = 16) : Calls Try.prog 50 #[.string T] w fun e w' => e = .returned (.tuple #[.agg (SC 17 (adV (decide (T.size = 16)) (frB T))), .int .i64 0]) ∧ Below w.heap.size w w' := by
  obtain ⟨N, hN⟩ : ∃ N, T.size = N := ⟨_, rfl⟩
  obtain ⟨d, hd⟩ : ∃ d, decide (T.size = 16) = d := ⟨_, rfl⟩
  rw [hd]
  have hdN : ((N : Int) == 16) = d := by
    rw [← hd, hN]
    by_cases e : N = 16
    · subst e; rfl
    · rw [decide_eq_false e]; exact beq_eq_false_iff_ne.2 (by omega)
  have HN := Hid.mk hN
  have HD := Hid.mk hdN
  rw [hN] at h
  clear hd hdN
  have hN16 : N ≤ 16 := by omega
  go_enter Try.func50, Try.ntmps50
  go_wp2_with (refine wl_alO rfl rfl zeroAddr ?_; intro g1 w1 hg1 q1 hB1; refine Hid.out ?_)
  refine Hid.mk ?_
  go_upto_region 1 with fail
  go_cut [12] (fun s12 z => s12 = .bool false ∧ z = w1)
  case first =>
    rcases h with e | e
    · subst e
      go_wp2_with fail
      go_meet
      case rel => exact ⟨rfl, rfl⟩
    · subst e
      go_wp2_with fail
      go_meet
      case rel => exact ⟨rfl, rfl⟩
  case rest =>
    obtain ⟨rfl, hz⟩ := hcut
    have hz2 := hz.symm
    subst hz2
    clear hz
    have hdN := HD.out
    go_wp2_with (first | (refine wl_value rfl (exec_adW1 rfl (by rfl)) ?_) | (refine wl_alO rfl rfl zeroAddr ?_; intro g2 w2 hg2 q2 hB2; refine Hid.out ?_))
    refine Hid.mk ?_
    go_wp2_with (refine st_stO rfl rfl isAddr (adV_one _ _) q2 (by rfl) (by rfl) ?_; intro w3 q3 o3; refine Hid.out ?_)
    refine Hid.mk ?_
    have h12 : g1 ≠ g2 := by have := SAt.lt q1; omega
    have hg2w : w.heap.size ≤ g2 := by have := hB1.size; omega
    have p3 := (SAt.kept q1 hB2).only o3 h12
    have hB3 : Below w.heap.size w w3 := (hB1.trans (hB2.mono hB1.size)).trans (o3.below hg2w)
    clear q1 q2 o3 hB1 hB2 hg2 hdN h hN
    go_wp2_with (first | (refine wl_value rfl (exec_fadW1 rfl (by rfl)) ?_) | (refine wl_value rfl (exec_sl rfl (by rfl) (sl16 g2 _)) ?_) | (refine wl_cpA rfl rfl (by rfl) (by rfl) (by rw [HN.out]; exact hN16) q3 ?_; intro w4 q4 o4; refine Hid.out ?_))
    refine Hid.mk ?_
    have p4 := SAt.only p3 o4 h12
    have hB4 := hB3.trans (o4.below hg2w)
    have q5 : SAt w4 g2 24 17 (adV d (frB T)) := q4
    go_wp2_with (first | (refine wl_value rfl (look_st rfl isAddr q5 (by rfl)) ?_) | (refine st_stO rfl rfl isAddr (adV_one _ _) p4 (by rfl) (by rfl) ?_; intro w7 q7 o7; refine Hid.out ?_))
    refine Hid.mk ?_
    go_wp2_with fail
    exact bodyPost_ret (res_ct rfl isAddr q7 (by rfl) (by rfl)) rfl ⟨rfl, hB4.trans (o7.below hg1)⟩
end Go.Proofs.Ytdlepeogmjmleab
/-
  Own text. IP packets as plain data: what may be, its bytes, how bytes are read. Names no function of the program.
-/
namespace Go.Proofs.Ytdlepeogmjmleab
open Go.RowKit Go.Proofs
set_option maxRecDepth 100000
theorem get_put (s : ByteArray) (N z : Nat) (hz : z ≤ 8) : ∀ i, i ≤ z → getN (txt (s ++ putT N z)) s.size i = N / 256 ^ (z - i) % 256 ^ i
  | 0, _ => by
    unfold getN
    rw [Nat.pow_zero, Nat.mod_one]
  | i + 1, hi => by
    have ih := get_put s N z hz i (by omega)
    have ht : txt (s ++ putT N z) (s.size + i) = putF N z i := by
      rw [txt_append, if_neg (by omega), Nat.add_sub_cancel_left]
      exact txt_mkS (putF_b N z i) (by omega)
    show getN (txt (s ++ putT N z)) s.size i * 256 + (txt (s ++ putT N z) (s.size + i)).toNat = _
    rw [ih, ht]
    unfold putF
    rw [Int.toNat_natCast, show z - 1 - i = z - (i + 1) by omega, show z - i = z - (i + 1) + 1 by omega, Nat.pow_succ, ← Nat.div_div_eq_div_mul, Nat.pow_succ, Nat.mul_comm (256 ^ i) 256, Nat.mod_mul]
    omega
theorem sw_app (A B : ByteArray) (he : A.size % 2 = 0) : ∀ j, sw (txt (A ++ B)) (A.size + j) = sw (txt A) A.size + sw (txt B) j
  | 0 => by
    have g : ∀ i, i ≤ A.size → sw (txt (A ++ B)) i = sw (txt A) i := by
      intro i
      induction i with
      | zero => intro _; rfl
      | succ i ih =>
        intro hi
        have ht : txt (A ++ B) i = txt A i := by rw [txt_append, if_pos (by omega)]
        unfold sw
        rw [ih (by omega), ht]
    rw [Nat.add_zero, g A.size (Nat.le_refl _)]
    show _ = _ + 0
    omega
  | j + 1 => by
    have ih := sw_app A B he j
    rw [← Nat.add_assoc]
    show sw (txt (A ++ B)) (A.size + j) + (if (A.size + j) % 2 = 0 then 256 * txt (A ++ B) (A.size + j) else txt (A ++ B) (A.size + j)) = sw (txt A) A.size + (sw (txt B) j + (if j % 2 = 0 then 256 * txt B j else txt B j))
    have ht : txt (A ++ B) (A.size + j) = txt B j := by rw [txt_append, if_neg (by omega), Nat.add_sub_cancel_left]
    rw [ih, ht, show (A.size + j) % 2 = j % 2 by omega]
    omega
theorem valid4 {b : Nat → Int} (h : validF false b = true) : ∀ j, 4 ≤ j → j < 16 → b j = 0 := by
  rcases valid_iff.1 h with e | e
  · cases e
  · exact e
structure Ex where
  kind : Int
  body : ByteArray
structure Pk where
  sv : Bool
  sb : Nat → Int
  dv : Bool
  db : Nat → Int
  proto : Int
  hop : Int
  cls : Int
  id : Int
  off : Int
  more : Bool
  still : Bool
  opts : ByteArray
  flow : Int
  exts : List Ex
  cut : Bool
  pay : ByteArray
def upB (n m : Int) : Bool := decide (0 ≤ n) && decide (n ≤ m)
def isEx (k : Int) : Bool := k == 0 || k == 43 || k == 60
def isHd (k : Int) : Bool := isEx k || k == 44
def mayB (k : Int) (i : Nat) : Bool := decide (i < 4) && (k != 0 || decide (i = 0))
def exOk (x : Ex) (i : Nat) : Bool := isEx x.kind && mayB x.kind i && decide (x.body.size % 8 = 6) && decide (x.body.size ≤ 2046)
def exsOk : List Ex → Nat → Bool
  | [], _ => true
  | x :: l, i => exOk x i && exsOk l (i + 1)
def rgt4 (P : Pk) : Bool := upB P.id 65535 && decide (P.opts.size % 4 = 0) && decide (P.opts.size ≤ 40) && P.flow == 0 && P.exts.isEmpty && !P.cut
def rgt6 (P : Pk) : Bool := upB P.flow 1048575 && decide (P.opts.size = 0) && !P.still && exsOk P.exts 0 && !isHd P.proto && upB P.id 4294967295 && (P.cut || (P.id == 0 && P.off == 0 && !P.more))
def rgtP (P : Pk) : Bool := validF P.sv P.sb && validF P.dv P.db && (P.sv == P.dv) && upB P.proto 255 && upB P.hop 255 && upB P.cls 255 && upB P.off 65528 && P.off % 8 == 0 && (if P.sv = true then rgt6 P else rgt4 P)
def exLen : List Ex → Nat
  | [] => 0
  | x :: l => 2 + x.body.size + exLen l
def headP (P : Pk) : Nat := if P.sv = true then 40 + exLen P.exts + (if P.cut = true then 8 else 0) else 20 + P.opts.size
def sizeP (P : Pk) : Nat := if rgtP P = true then headP P + P.pay.size else 0
def fitP (P : Pk) : Bool := if P.sv = true then decide (headP P + P.pay.size ≤ 65575) else decide (headP P + P.pay.size ≤ 65535)
def bN (b : Bool) (n : Nat) : Nat := if b = true then n else 0
def tailK (P : Pk) : Int := if P.cut = true then 44 else P.proto
def nextK (P : Pk) : List Ex → Int
  | [] => tailK P
  | x :: _ => x.kind
def cuB (P : Pk) : ByteArray := putT P.proto.toNat 1 ++ putT 0 1 ++ putT (P.off.toNat + bN P.more 1) 2 ++ putT P.id.toNat 4
def exB (P : Pk) : List Ex → ByteArray
  | [] => if P.cut = true then cuB P else ByteArray.empty
  | x :: l => putT (nextK P l).toNat 1 ++ putT ((2 + x.body.size) / 8 - 1) 1 ++ x.body ++ exB P l
def hd6 (P : Pk) : ByteArray := putT (1610612736 + P.cls.toNat * 1048576 + P.flow.toNat) 4 ++ putT (headP P + P.pay.size - 40) 2 ++ putT (nextK P P.exts).toNat 1 ++ putT P.hop.toNat 1 ++ bytT P.sv P.sb ++ bytT P.dv P.db
def sixB (P : Pk) : ByteArray := hd6 P ++ exB P P.exts ++ P.pay
def a4 (P : Pk) : ByteArray := putT (64 + headP P / 4) 1 ++ putT P.cls.toNat 1 ++ putT (headP P + P.pay.size) 2 ++ putT P.id.toNat 2 ++ putT (P.off.toNat / 8 + bN P.more 8192 + bN P.still 16384) 2 ++ putT P.hop.toNat 1 ++ putT P.proto.toNat 1
def b4 (P : Pk) : ByteArray := bytT P.sv P.sb ++ bytT P.dv P.db ++ P.opts
def fourB (P : Pk) : ByteArray := a4 P ++ putT (sumT (a4 P ++ b4 P)).toNat 2 ++ b4 P ++ P.pay
def bldT (P : Pk) : ByteArray := if rgtP P && fitP P then (if P.sv = true then sixB P else fourB P) else ByteArray.empty
def bldE (P : Pk) : Int := if rgtP P = true then (if fitP P = true then 0 else 75) else 1
def zeroP : Pk := ⟨false, fun _ => 0, false, fun _ => 0, 0, 0, 0, 0, 0, false, false, ByteArray.empty, 0, [], false, ByteArray.empty⟩
/-- What is read: a packet, or an error. -/
inductive Rd where
  | err (e : Int)
  | ok (P : Pk)
def rd4 (b : ByteArray) : Rd :=
  let h := (txt b 0).toNat % 16 * 4
  let size := getN (txt b) 2 2
  if h < 20 ∨ size < h ∨ b.size < size then .err 72
  else if sumT (b.extract 0 10 ++ b.extract 12 h) ≠ (getN (txt b) 10 2 : Int) then .err 73
  else if 32768 ≤ getN (txt b) 6 2 then .err 74
  else .ok ⟨false, frB (b.extract 12 16), false, frB (b.extract 16 20), txt b 9, txt b 8, txt b 1, (getN (txt b) 4 2 : Int), ((getN (txt b) 6 2 % 8192 * 8 : Nat) : Int), decide (getN (txt b) 6 2 / 8192 % 2 = 1), decide (getN (txt b) 6 2 / 16384 = 1), b.extract 20 h, 0, [], false, b.extract h size⟩
def rdEx (p : Pk) : Nat → List Ex → Int → ByteArray → Rd
  | 0, _, _, _ => .err 74
  | n + 1, acc, k, rest =>
    if isHd k = false then .ok { p with exts := acc, proto := k, pay := rest }
    else if k ≠ 44 ∧ mayB k acc.length = false then .err 74
    else if rest.size < 8 then .err 72
    else if k = 44 then
      (if txt rest 1 ≠ 0 ∨ getN (txt rest) 2 2 % 8 / 2 ≠ 0 ∨ isHd (txt rest 0) = true then .err 74
       else .ok { p with exts := acc, cut := true, off := ((getN (txt rest) 2 2 / 8 * 8 : Nat) : Int), more := decide (getN (txt rest) 2 2 % 2 = 1), id := (getN (txt rest) 4 4 : Int), proto := txt rest 0, pay := rest.extract 8 rest.size })
    else if rest.size < ((txt rest 1).toNat + 1) * 8 then .err 72
    else rdEx p n (acc ++ [⟨k, rest.extract 2 (((txt rest 1).toNat + 1) * 8)⟩]) (txt rest 0) (rest.extract (((txt rest 1).toNat + 1) * 8) rest.size)
def h6 (b : ByteArray) : Pk := ⟨true, frB (b.extract 8 24), true, frB (b.extract 24 40), 0, txt b 7, ((getN (txt b) 0 4 / 1048576 % 256 : Nat) : Int), 0, 0, false, false, ByteArray.empty, ((getN (txt b) 0 4 % 1048576 : Nat) : Int), [], false, ByteArray.empty⟩
def rdP (b : ByteArray) : Rd :=
  if b.size = 0 then .err 70
  else if (txt b 0).toNat / 16 ≠ 4 ∧ (txt b 0).toNat / 16 ≠ 6 then .err 71
  else if b.size < 20 ∨ ((txt b 0).toNat / 16 = 6 ∧ b.size < 40) then .err 70
  else if (txt b 0).toNat / 16 = 4 then rd4 b
  else if b.size < 40 + getN (txt b) 4 2 then .err 72
  else rdEx (h6 b) 5 [] (txt b 6) (b.extract 40 (40 + getN (txt b) 4 2))
def exEq : List Ex → List Ex → Bool
  | [], [] => true
  | x :: l, y :: m => decide (x.kind = y.kind) && decide (x.body = y.body) && exEq l m
  | _, _ => false
/-- Two packets are the same. -/
def samP (P Q : Pk) : Bool := eqAF P.sv P.sb Q.sv Q.sb && eqAF P.dv P.db Q.dv Q.db && decide (P.proto = Q.proto) && decide (P.hop = Q.hop) && decide (P.cls = Q.cls) && decide (P.id = Q.id) && decide (P.off = Q.off) && (P.more == Q.more) && (P.still == Q.still) && decide (P.opts = Q.opts) && decide (P.flow = Q.flow) && exEq P.exts Q.exts && (P.cut == Q.cut) && decide (P.pay = Q.pay)
theorem exEq_iff : ∀ {l m : List Ex}, exEq l m = true ↔ l = m
  | [], [] => by simp [exEq]
  | [], _ :: _ => by simp [exEq]
  | _ :: _, [] => by simp [exEq]
  | x :: l, y :: m => by
    have ih := @exEq_iff l m
    obtain ⟨k, b⟩ := x
    obtain ⟨k', b'⟩ := y
    simp [exEq, ih]
theorem samP_iff {P Q : Pk} : samP P Q = true ↔ P.sv = Q.sv ∧ (∀ i, i < 16 → P.sb i = Q.sb i) ∧ P.dv = Q.dv ∧ (∀ i, i < 16 → P.db i = Q.db i) ∧ P.proto = Q.proto ∧ P.hop = Q.hop ∧ P.cls = Q.cls ∧ P.id = Q.id ∧ P.off = Q.off ∧ P.more = Q.more ∧ P.still = Q.still ∧ P.opts = Q.opts ∧ P.flow = Q.flow ∧ P.exts = Q.exts ∧ P.cut = Q.cut ∧ P.pay = Q.pay := by
  unfold samP
  simp only [Bool.and_eq_true, eqAF_iff, exEq_iff, decide_eq_true_eq, beq_iff_eq, and_assoc]
theorem upB_iff {n m : Int} : upB n m = true ↔ 0 ≤ n ∧ n ≤ m := by unfold upB; simp
theorem isEx_iff {k : Int} : isEx k = true ↔ k = 0 ∨ k = 43 ∨ k = 60 := by unfold isEx; simp [or_assoc]
theorem isHd_iff {k : Int} : isHd k = true ↔ k = 0 ∨ k = 43 ∨ k = 60 ∨ k = 44 := by unfold isHd isEx; simp [or_assoc]
theorem isHd_no {k : Int} : isHd k = false ↔ k ≠ 0 ∧ k ≠ 43 ∧ k ≠ 60 ∧ k ≠ 44 := by
  rw [← Bool.not_eq_true, isHd_iff]; omega
theorem mayB_iff {k : Int} {i : Nat} : mayB k i = true ↔ i < 4 ∧ (k ≠ 0 ∨ i = 0) := by unfold mayB; simp
theorem exOk_iff {x : Ex} {i : Nat} : exOk x i = true ↔ (x.kind = 0 ∨ x.kind = 43 ∨ x.kind = 60) ∧ (i < 4 ∧ (x.kind ≠ 0 ∨ i = 0)) ∧ x.body.size % 8 = 6 ∧ x.body.size ≤ 2046 := by
  unfold exOk
  simp only [Bool.and_eq_true, isEx_iff, mayB_iff, decide_eq_true_eq, and_assoc]
theorem rgt4_iff {P : Pk} : rgt4 P = true ↔ (0 ≤ P.id ∧ P.id ≤ 65535) ∧ P.opts.size % 4 = 0 ∧ P.opts.size ≤ 40 ∧ P.flow = 0 ∧ P.exts = [] ∧ P.cut = false := by
  unfold rgt4
  simp only [Bool.and_eq_true, upB_iff, decide_eq_true_eq, beq_iff_eq, List.isEmpty_iff, Bool.not_eq_true', and_assoc]
theorem rgt6_iff {P : Pk} : rgt6 P = true ↔ (0 ≤ P.flow ∧ P.flow ≤ 1048575) ∧ P.opts.size = 0 ∧ P.still = false ∧ exsOk P.exts 0 = true ∧ isHd P.proto = false ∧ (0 ≤ P.id ∧ P.id ≤ 4294967295) ∧ (P.cut = true ∨ (P.id = 0 ∧ P.off = 0 ∧ P.more = false)) := by
  unfold rgt6
  simp only [Bool.and_eq_true, Bool.or_eq_true, upB_iff, decide_eq_true_eq, beq_iff_eq, Bool.not_eq_true', and_assoc]
theorem rgtP_iff {P : Pk} : rgtP P = true ↔ validF P.sv P.sb = true ∧ validF P.dv P.db = true ∧ P.sv = P.dv ∧ (0 ≤ P.proto ∧ P.proto ≤ 255) ∧ (0 ≤ P.hop ∧ P.hop ≤ 255) ∧ (0 ≤ P.cls ∧ P.cls ≤ 255) ∧ (0 ≤ P.off ∧ P.off ≤ 65528) ∧ P.off % 8 = 0 ∧ (if P.sv = true then rgt6 P else rgt4 P) = true := by
  unfold rgtP
  simp only [Bool.and_eq_true, upB_iff, beq_iff_eq, and_assoc]
end Go.Proofs.Ytdlepeogmjmleab
/-
  Own text. Parts of texts, and numbers in them.
-/
namespace Go.Proofs.Ytdlepeogmjmleab
open Go.RowKit Go.Proofs
set_option maxRecDepth 100000
theorem txt_ext {A B : ByteArray} (h : A.size = B.size) (h2 : ∀ j, j < A.size → txt A j = txt B j) : A = B := by
  rw [← mkS_txt A, ← mkS_txt B, ← h]
  exact mkS_congr h2
theorem txt_cutP (s : ByteArray) (a e j : Nat) (h : a + j < e) (he : e ≤ s.size) : txt (s.extract a e) j = txt s (a + j) := by
  have h1 : j < (s.extract a e).size := by rw [ByteArray.size_extract]; omega
  have h2 : a + j < s.size := by omega
  rw [← txt_get h1, ← txt_get h2]
  congr 2
  exact ByteArray.getElem_extract h1
theorem cutP_size (s : ByteArray) (a e : Nat) (he : e ≤ s.size) : (s.extract a e).size = e - a := by
  rw [ByteArray.size_extract]; omega
theorem cutP_join (s : ByteArray) {a m e : Nat} (h1 : a ≤ m) (h2 : m ≤ e) (h3 : e ≤ s.size) : s.extract a m ++ s.extract m e = s.extract a e := by
  have z1 := cutP_size s a m (by omega)
  have z2 := cutP_size s m e h3
  have z3 := cutP_size s a e h3
  refine txt_ext (by rw [ByteArray.size_append]; omega) (fun j hj => ?_)
  rw [ByteArray.size_append] at hj
  rw [txt_append, txt_cutP s a e j (by omega) h3]
  by_cases c : j < (s.extract a m).size
  · rw [if_pos c, txt_cutP s a m j (by omega) (by omega)]
  · rw [if_neg c, txt_cutP s m e _ (by omega) h3]
    congr 1
    omega
theorem cutP_cut (s : ByteArray) {a e b f : Nat} (he : e ≤ s.size) (hf : a + f ≤ e) : (s.extract a e).extract b f = s.extract (a + b) (a + f) := by
  have z1 := cutP_size s a e he
  have z2 := cutP_size (s.extract a e) b f (by omega)
  have z3 := cutP_size s (a + b) (a + f) (by omega)
  refine txt_ext (by omega) (fun j hj => ?_)
  rw [txt_cutP _ b f j (by omega) (by omega), txt_cutP s a e _ (by omega) he, txt_cutP s _ _ j (by omega) (by omega)]
  congr 1
  omega
theorem cutP_all (s : ByteArray) : s.extract 0 s.size = s := by
  refine txt_ext (by rw [cutP_size _ _ _ (Nat.le_refl _)]; omega) (fun j hj => ?_)
  rw [cutP_size _ _ _ (Nat.le_refl _)] at hj
  rw [txt_cutP s 0 s.size j (by omega) (Nat.le_refl _), Nat.zero_add]
theorem cutP_left (A B : ByteArray) {a e : Nat} (h : e ≤ A.size) : (A ++ B).extract a e = A.extract a e := by
  have z1 := cutP_size A a e h
  have z2 := cutP_size (A ++ B) a e (by rw [ByteArray.size_append]; omega)
  refine txt_ext (by omega) (fun j hj => ?_)
  rw [txt_cutP _ a e j (by omega) (by rw [ByteArray.size_append]; omega), txt_cutP A a e j (by omega) h, txt_append, if_pos (by omega)]
theorem cutP_right (A B : ByteArray) {n a e : Nat} (hn : A.size = n) (he : e ≤ B.size) : (A ++ B).extract (n + a) (n + e) = B.extract a e := by
  subst hn
  have z1 := cutP_size B a e he
  have z2 := cutP_size (A ++ B) (A.size + a) (A.size + e) (by rw [ByteArray.size_append]; omega)
  refine txt_ext (by omega) (fun j hj => ?_)
  rw [txt_cutP _ _ _ j (by omega) (by rw [ByteArray.size_append]; omega), txt_cutP B a e j (by omega) he, txt_append, if_neg (by omega)]
  congr 1
  omega
theorem txt_left (A B : ByteArray) {j : Nat} (h : j < A.size) : txt (A ++ B) j = txt A j := by rw [txt_append, if_pos h]
theorem txt_right (A B : ByteArray) {n j : Nat} (hn : A.size = n) : txt (A ++ B) (n + j) = txt B j := by
  subst hn
  rw [txt_append, if_neg (by omega), Nat.add_sub_cancel_left]
theorem getN_congr {f g : Nat → Int} {a b : Nat} : ∀ {z : Nat}, (∀ i, i < z → f (a + i) = g (b + i)) → getN f a z = getN g b z
  | 0, _ => rfl
  | z + 1, h => by
    unfold getN
    rw [getN_congr (fun i hi => h i (by omega)), h z (by omega)]
theorem getN_left (A B : ByteArray) {a z : Nat} (h : a + z ≤ A.size) : getN (txt (A ++ B)) a z = getN (txt A) a z := getN_congr (fun i hi => txt_left A B (by omega))
theorem getN_right (A B : ByteArray) {n a z : Nat} (hn : A.size = n) : getN (txt (A ++ B)) (n + a) z = getN (txt B) a z := getN_congr (fun i hi => by rw [Nat.add_assoc]; exact txt_right A B hn)
theorem getN_cut (s : ByteArray) {a e b z : Nat} (he : e ≤ s.size) (h : a + b + z ≤ e) : getN (txt (s.extract a e)) b z = getN (txt s) (a + b) z := getN_congr (fun i hi => by rw [txt_cutP s a e _ (by omega) he]; congr 1; omega)
theorem putT_size (N z : Nat) : (putT N z).size = z := mkS_size _ _
theorem empty_app (A : ByteArray) : ByteArray.empty ++ A = A := by
  refine txt_ext (by rw [ByteArray.size_append, ByteArray.size_empty]; omega) (fun j hj => ?_)
  rw [txt_append, if_neg (by rw [ByteArray.size_empty]; omega), ByteArray.size_empty]
  rfl
theorem app_empty (A : ByteArray) : A ++ ByteArray.empty = A := by
  refine txt_ext (by rw [ByteArray.size_append, ByteArray.size_empty]; omega) (fun j hj => ?_)
  rw [ByteArray.size_append, ByteArray.size_empty] at hj
  rw [txt_append, if_pos (by omega)]
theorem get_putP {N z : Nat} (hz : z ≤ 8) (hN : N < 256 ^ z) (B : ByteArray) : getN (txt (putT N z ++ B)) 0 z = N := by
  have h := get_put ByteArray.empty N z hz z (Nat.le_refl _)
  rw [empty_app, ByteArray.size_empty, Nat.sub_self, Nat.pow_zero, Nat.div_one, Nat.mod_eq_of_lt hN] at h
  rw [getN_left _ _ (by rw [putT_size]; omega), h]
theorem get_putA {N z : Nat} (hz : z ≤ 8) (hN : N < 256 ^ z) : getN (txt (putT N z)) 0 z = N := by
  have := get_putP hz hN ByteArray.empty
  rwa [app_empty] at this
theorem put_one {N : Nat} (h : N < 256) : txt (putT N 1) 0 = (N : Int) := by
  unfold putT
  rw [txt_mkS (putF_b N 1 0) (by decide)]
  unfold putF
  simp
  omega
theorem getN_one (f : Nat → Int) (a : Nat) : getN f a 1 = (f a).toNat := by
  unfold getN getN
  simp
theorem getN_two (f : Nat → Int) (a : Nat) : getN f a 2 = (f a).toNat * 256 + (f (a + 1)).toNat := by
  unfold getN
  rw [getN_one]
theorem getN_high {f : Nat → Int} (hf : ∀ j, 0 ≤ f j ∧ f j < 256) (a : Nat) : ∀ z i, i ≤ z → getN f a z / 256 ^ (z - i) = getN f a i
  | 0, i, h => by
    obtain rfl : i = 0 := by omega
    simp [getN]
  | z + 1, i, h => by
    by_cases e : i = z + 1
    · subst e
      simp
    · have ih := getN_high hf a z i (by omega)
      have hb := hf (a + z)
      rw [← ih, show z + 1 - i = z - i + 1 by omega, Nat.pow_succ, Nat.mul_comm, ← Nat.div_div_eq_div_mul]
      congr 1
      show (getN f a z * 256 + (f (a + z)).toNat) / 256 = getN f a z
      omega
theorem put_getN (b : ByteArray) {a z : Nat} (h : a + z ≤ b.size) : putT (getN (txt b) a z) z = b.extract a (a + z) := by
  have z1 := cutP_size b a (a + z) h
  refine txt_ext (by rw [putT_size]; omega) (fun j hj => ?_)
  rw [putT_size] at hj
  rw [txt_cutP b a (a + z) j (by omega) h]
  unfold putT
  rw [txt_mkS (putF_b _ z j) hj]
  unfold putF
  have e1 := getN_high (fun j => txt_b b j) a z (j + 1) (by omega)
  rw [show z - 1 - j = z - (j + 1) by omega, e1]
  have hb := txt_b b (a + j)
  show (((getN (txt b) a j * 256 + (txt b (a + j)).toNat) % 256 : Nat) : Int) = _
  omega
theorem put_at (b : ByteArray) {a : Nat} (h : a + 1 ≤ b.size) : putT (txt b a).toNat 1 = b.extract a (a + 1) := by
  rw [← put_getN b h, getN_one]
theorem bytT_ok {v : Bool} {b : Nat → Int} (h : validF v b = true) : bytT v b = mkS (if v = true then 16 else 4) b := by unfold bytT; rw [if_pos h]
theorem bytT_len {v : Bool} {b : Nat → Int} (h : validF v b = true) : (bytT v b).size = if v = true then 16 else 4 := by rw [bytT_ok h, mkS_size]
theorem frB_byt {v : Bool} {b : Nat → Int} (hb : Byts 16 b) (h : validF v b = true) {j : Nat} (hj : j < 16) : frB (bytT v b) j = b j := by
  unfold frB
  rw [bytT_len h]
  by_cases c : j < (if v = true then 16 else 4)
  · rw [if_pos c, bytT_ok h, txt_mkS (hb j hj) c]
  · rw [if_neg c]
    cases v
    · exact (valid4 h j (by simpa using c) hj).symm
    · simp at c; omega
theorem valid_fr {T : ByteArray} (h : T.size = 4) : validF false (frB T) = true := valid_iff.2 (.inr (fun i h1 _ => by unfold frB; rw [if_neg (by omega)]))
theorem valid_six (b : Nat → Int) : validF true b = true := valid_iff.2 (.inl rfl)
theorem byt_fr {v : Bool} {T : ByteArray} (h : T.size = if v = true then 16 else 4) : bytT v (frB T) = T := by
  have hv : validF v (frB T) = true := by
    cases v
    · exact valid_fr h
    · exact valid_six _
  rw [bytT_ok hv, ← h]
  have : mkS T.size (frB T) = mkS T.size (txt T) := mkS_congr (fun j hj => by unfold frB; rw [if_pos hj])
  rw [this, mkS_txt]
theorem app_assoc (A B C : ByteArray) : A ++ B ++ C = A ++ (B ++ C) := by
  refine txt_ext (by simp only [ByteArray.size_append]; omega) (fun j hj => ?_)
  simp only [txt_append, ByteArray.size_append]
  by_cases c1 : j < A.size
  · rw [if_pos (by omega), if_pos c1, if_pos c1]
  · by_cases c2 : j < A.size + B.size
    · rw [if_pos c2, if_neg c1, if_neg c1, if_pos (by omega)]
    · rw [if_neg c2, if_neg c1, if_neg (by omega)]
      congr 1
      omega
theorem app_inj {A B C D : ByteArray} (h : A ++ B = C ++ D) (hs : A.size = C.size) : A = C ∧ B = D := by
  have e1 : (A ++ B).extract 0 A.size = (C ++ D).extract 0 A.size := by rw [h]
  rw [cutP_left A B (Nat.le_refl _), cutP_all, hs, cutP_left C D (Nat.le_refl _), cutP_all] at e1
  refine ⟨e1, ?_⟩
  have hz : B.size = D.size := by
    have := congrArg ByteArray.size h
    simp only [ByteArray.size_append] at this
    omega
  refine txt_ext hz (fun j _ => ?_)
  rw [← txt_right A B rfl, ← txt_right C D (n := A.size) hs.symm, h]
end Go.Proofs.Ytdlepeogmjmleab
/-
  Own text. A region whose operations come in the text's order, operation by operation, with guards that nobody knows: what an operation yields is told whether it is wanted or not. No program is named here.
-/
namespace Go.Proofs.Ytdlepeogmjmleab
open Go
section
variable {P : Program} {ops : Array Oper} {Q : Exit → Act → World → Prop}
/-- Operation k: it is wanted, and yields what is known of it; or it is not, and that is known of 'undef'. -/
def WantP (P : Program) (R : World → World → Prop) (φ : Nat → Value → World → Prop) (ds : List Nat) (k : Nat) (o : Oper) (Q : Exit → Act → World → Prop) (a : Act) (w : World) : Prop :=
  ((match o.guard with | none => True | some (g, b) => a.eval (.tmp (ds.getD g 0)) = .bool b) ∧
      ∀ K : Act → World → Prop, (∀ v w', φ k v w' → R w w' → K (a.put o.dst v) w') → o.wp P a w K Q) ∨
    ((match o.guard with | none => False | some (g, b) => a.eval (.tmp (ds.getD g 0)) = .bool (!b) ∨ a.eval (.tmp (ds.getD g 0)) = undef) ∧ φ k undef w)
/-- The slots that the region does not write; up to operation K also those that it writes later on. -/
def baseAt (base base0 : List (Nat × Value)) (K k : Nat) : List (Nat × Value) := match Nat.ble k K with | true => base ++ base0 | false => base
def StepP (P : Program) (S : World → Prop) (R : World → World → Prop) (φ : Nat → Value → World → Prop) (ds : List Nat) (base : List (Nat × Value)) (p : List Nat) (k : Nat) (o : Oper) : Prop :=
  ∀ (Q : Exit → Act → World → Prop) (a : Act) (w : World), S w → Holds a base → Knows φ ds a w p → WantP P R φ ds k o Q a w
def AllStepsP (P : Program) (S : World → Prop) (R : World → World → Prop) (φ : Nat → Value → World → Prop) (ds : List Nat) (base base0 : List (Nat × Value)) (K : Nat) : List (List Nat) → Nat → List Oper → Prop
  | _, _, [] => True
  | p, k, o :: l => StepP P S R φ ds (baseAt base base0 K k) (p.headD []) k o ∧ AllStepsP P S R φ ds base base0 K p.tail (k + 1) l
def tabP (ops : Array Oper) (n : Nat) (ds : List Nat) (base base0 : List Nat) (K : Nat) (p : List (List Nat)) : Bool :=
  (ops.toList.map (·.dst) == ds.map some) && decide ds.Nodup && base.all (fun t => !ds.contains t) && base0.all (fun t => !(ds.take K).contains t) && ds.all (fun d => decide (d < n)) &&
  (List.range ops.size).all (fun i => (p.getD i []).all (fun j => decide (j < i)) && (match ops[i]? with | some o => (match o.guard with | some (g, _) => decide (g < i) | none => true) | none => true))
theorem holds_app {a : Act} : ∀ {l m : List (Nat × Value)}, Holds a l → Holds a m → Holds a (l ++ m)
  | [], _, _, h => h
  | _ :: _, _, h1, h2 => ⟨h1.1, holds_app h1.2 h2⟩
theorem put_else {a : Act} {d t : Nat} {v : Value} (h : d ≠ t) : (a.put (some d) v).tmps[t]? = a.tmps[t]? := by simp [Act.put, h]
theorem put_same {a : Act} {d : Nat} {v : Value} (h : d < a.tmps.size) : (a.put (some d) v).tmps.getD d undef = v := by simp [Act.put, h]
theorem plain_go {a0 : Act} {S : World → Prop} {R : World → World → Prop} {φ : Nat → Value → World → Prop} {ds : List Nat} {base base0 : List (Nat × Value)} {K : Nat}
    (hds : ops.toList.map (·.dst) = ds.map some) (hnd : ds.Nodup) (hbase : ∀ t ∈ base.map (·.1), t ∉ ds) (hbase0 : ∀ t ∈ base0.map (·.1), t ∉ ds.take K) (hsz : ∀ d ∈ ds, d < a0.tmps.size)
    (hb0 : Holds a0 base) (hb00 : Holds a0 base0) (hSR : ∀ w w', S w → R w w' → S w') (hφ : ∀ i v w w', φ i v w → R w w' → φ i v w')
    (fin : ∀ (vs : Nat → Value) (w : World), S w → (∀ j : Nat, j < ds.length → φ j (vs (ds.getD j 0)) w) → Q .normal (putAll a0 vs ds) w) :
    ∀ (l : List Oper) (p : List (List Nat)) (k : Nat), ops.toList.drop k = l → k ≤ ops.size →
      (∀ i, k ≤ i → i < ops.size → (p.getD (i - k) []).all (fun j => decide (j < i)) = true ∧ (match ops[i]? with | some o => (match o.guard with | some (g, _) => decide (g < i) | none => true) | none => true) = true) →
      AllStepsP P S R φ ds base base0 K p k l → ∀ (a : Act) (w : World), a.tmps.size = a0.tmps.size → a.defers = a0.defers → S w →
      (∀ t : Nat, (∀ j, j < k → ds.getD j 0 ≠ t) → a.tmps[t]? = a0.tmps[t]?) → (∀ j, j < k → φ j (a.tmps.getD (ds.getD j 0) undef) w) → wpList P ops Q l a w
  | [], p, k, hl, hk, _, _, a, w, hs, hd, hS, hfr, hkn => by
    have hlen : ops.toList.length = ds.length := by have := congrArg List.length hds; simpa using this
    have hke : k = ops.size := by
      have := congrArg List.length hl
      simp at this
      omega
    have hkl : k = ds.length := by rw [← hlen, hke]; simp
    have hq := fin (fun d => a.tmps.getD d undef) w hS (fun j hj => hkn j (by omega))
    have ha : putAll a0 (fun d => a.tmps.getD d undef) ds = a := by
      have h1 := putAll_defers (fun d => a.tmps.getD d undef) ds a0
      have h2 : (putAll a0 (fun d => a.tmps.getD d undef) ds).tmps = a.tmps := by
        apply Array.ext_getElem?
        intro t
        by_cases ht : t < a0.tmps.size
        · rw [putAll_get _ _ _ _ ht]
          by_cases hm2 : t ∈ ds
          · rw [if_pos hm2]
            have : t < a.tmps.size := by rw [hs]; exact ht
            simp [this]
          · rw [if_neg hm2]
            exact (hfr t (fun j hj e => hm2 (by
              rw [← e, List.getD_eq_getElem?_getD, List.getElem?_eq_getElem (by omega)]
              simp))).symm
        · rw [Array.getElem?_eq_none (by rw [putAll_size]; omega), Array.getElem?_eq_none (by rw [hs]; omega)]
      rw [← hd] at h1
      generalize putAll a0 (fun d => a.tmps.getD d undef) ds = b at h1 h2
      cases a; cases b
      simp only at h1 h2
      rw [h1, h2]
    rw [ha] at hq
    exact hq
  | o :: l, p, k, hl, hk, htab, hst, a, w, hs, hd, hS, hfr, hkn => by
    have hlen : ops.toList.length = ds.length := by have := congrArg List.length hds; simpa using this
    have hkl : k < ops.size := by
      rcases Nat.lt_or_ge k ops.size with h | h
      · exact h
      · rw [List.drop_eq_nil_of_le (by simpa using h)] at hl
        cases hl
    have hkd : k < ds.length := by rw [← hlen]; simpa using hkl
    have ho : ops[k]? = some o := by
      have h1 : (ops.toList.drop k)[0]? = some o := by rw [hl]; rfl
      rw [List.getElem?_drop] at h1
      simpa using h1
    have hdst : ∀ (j : Nat) (oj : Oper), ops[j]? = some oj → oj.dst = some (ds.getD j 0) := fun j oj hj => by
      have h1 : (ops.toList.map (·.dst))[j]? = some oj.dst := by rw [List.getElem?_map]; simp [hj]
      rw [hds, List.getElem?_map] at h1
      cases hq : ds[j]? with
      | none => rw [hq] at h1; simp at h1
      | some d =>
        rw [hq] at h1
        rw [List.getD_eq_getElem?_getD, hq]
        simpa using h1.symm
    have hdk := hdst k o ho
    have hmem : ds.getD k 0 ∈ ds := by
      rw [List.getD_eq_getElem?_getD, List.getElem?_eq_getElem hkd]
      simp
    have hne : ∀ j, j < k → ds.getD j 0 ≠ ds.getD k 0 := fun j hj e => by
      have hj2 : j < ds.length := by omega
      rw [List.getD_eq_getElem?_getD, List.getD_eq_getElem?_getD, List.getElem?_eq_getElem hj2, List.getElem?_eq_getElem hkd] at e
      have := (List.getElem_inj hnd).1 (by simpa using e)
      omega
    have hl2 : ops.toList.drop (k + 1) = l := by
      have := congrArg List.tail hl
      simpa using this
    obtain ⟨hp, hg0⟩ := htab k (Nat.le_refl _) hkl
    rw [Nat.sub_self] at hp
    have hp' : ∀ j ∈ p.headD [], j < k := fun j hj => by
      have : p.getD 0 [] = p.headD [] := by cases p <;> rfl
      rw [this] at hp
      simpa using List.all_eq_true.1 hp j hj
    have htab' : ∀ i, k + 1 ≤ i → i < ops.size → (p.tail.getD (i - (k + 1)) []).all (fun j => decide (j < i)) = true ∧ (match ops[i]? with | some o => (match o.guard with | some (g, _) => decide (g < i) | none => true) | none => true) = true := fun i h1 h2 => by
      have h3 := htab i (by omega) h2
      refine ⟨?_, h3.2⟩
      have e : p.tail.getD (i - (k + 1)) [] = p.getD (i - k) [] := by
        cases p with
        | nil => rfl
        | cons x p => rw [show i - k = i - (k + 1) + 1 by omega]; rfl
      rw [e]
      exact h3.1
    have next : ∀ v w', S w' → (∀ j, j < k → φ j (a.tmps.getD (ds.getD j 0) undef) w') → φ k v w' → wpList P ops Q l (a.put o.dst v) w' := fun v w' hS' hkn' hv => by
      have hlt : ds.getD k 0 < a.tmps.size := by rw [hs]; exact hsz _ hmem
      refine plain_go hds hnd hbase hbase0 hsz hb0 hb00 hSR hφ fin l p.tail (k + 1) hl2 (by omega) htab' hst.2 (a.put o.dst v) w' ?_ ?_ hS' ?_ ?_
      · rw [hdk]; simpa [Act.put] using hs
      · rw [hdk]; exact hd
      · intro t ht
        have h1 : ds.getD k 0 ≠ t := ht k (by omega)
        rw [hdk, put_else h1]
        exact hfr t (fun j hj => ht j (by omega))
      · intro j hj
        by_cases e : j = k
        · subst e
          rw [hdk, put_same hlt]
          exact hv
        · have h1 := Ne.symm (hne j (by omega))
          rw [hdk, Array.getD_eq_getD_getElem?, put_else h1, ← Array.getD_eq_getD_getElem?]
          exact hkn' j (by omega)
    have hH : Holds a base := holds_of base (fun t ht => eval_tmp_of (hfr t (fun j hj e => hbase t ht (by
      rw [← e, List.getD_eq_getElem?_getD, List.getElem?_eq_getElem (by omega)]
      simp)))) hb0
    have hH' : Holds a (baseAt base base0 K k) := by
      unfold baseAt
      cases hk' : Nat.ble k K
      · exact hH
      · refine holds_app hH (holds_of base0 (fun t ht => eval_tmp_of (hfr t (fun j hj e => hbase0 t ht ?_))) hb00)
        have hjK : j < K := Nat.lt_of_lt_of_le hj (Nat.le_of_ble_eq_true hk')
        rw [← e, List.getD_eq_getElem?_getD, List.getElem?_eq_getElem (by omega)]
        exact List.mem_take_iff_getElem.2 ⟨j, by omega, rfl⟩
    have hK : Knows φ ds a w (p.headD []) := knows_of _ (fun j hj => by simpa [Act.eval] using hkn j (hp' j hj))
    have hyield : ∀ g, g < k → ∀ v, a.eval (.tmp (ds.getD g 0)) = v → yielded ops a.tmps g = (match v with | .bool b => some b | _ => none) := fun g hg v hv => by
      have hog : ops[g]? = some (ops[g]'(by omega)) := Array.getElem?_eq_getElem (by omega)
      have hd := hdst g _ hog
      have hgm : ds.getD g 0 < a.tmps.size := by
        rw [hs]
        apply hsz
        rw [List.getD_eq_getElem?_getD, List.getElem?_eq_getElem (by omega)]
        simp
      have h4 : a.tmps[ds.getD g 0]? = some v := by
        simp only [Act.eval] at hv
        rw [Array.getD_eq_getD_getElem?, Array.getElem?_eq_getElem hgm] at hv
        rw [Array.getElem?_eq_getElem hgm]
        simpa using hv
      unfold yielded
      rw [hog]
      simp only [Option.bind_some, hd, h4]
      cases v <;> rfl
    have hgk : ∀ g b, o.guard = some (g, b) → g < k := fun g b hgd => by
      rw [ho] at hg0
      simp only [hgd] at hg0
      simpa using hg0
    unfold wpList
    rcases hst.1 Q a w hS hH' hK with ⟨hg, hk2⟩ | ⟨hg, hu⟩
    · have hw : Region.wanted o (yielded ops a.tmps) = true := by
        unfold Region.wanted
        cases hgd : o.guard with
        | none => rfl
        | some x =>
          obtain ⟨g, b⟩ := x
          rw [hgd] at hg
          have := hyield g (hgk g b hgd) _ hg
          simp [this]
      rw [if_pos hw]
      exact .inl (hk2 _ (fun v w' h1 h2 => next v w' (hSR w w' hS h2) (fun j hj => hφ j _ w w' (hkn j hj) h2) h1))
    · have hw : Region.wanted o (yielded ops a.tmps) = false := by
        unfold Region.wanted
        cases hgd : o.guard with
        | none => rw [hgd] at hg; exact hg.elim
        | some x =>
          obtain ⟨g, b⟩ := x
          rw [hgd] at hg
          rcases hg with hg | hg
          · have := hyield g (hgk g b hgd) _ hg
            cases b <;> simp [this]
          · have := hyield g (hgk g b hgd) _ hg
            simp [this, undef]
      rw [if_neg (by rw [hw]; decide)]
      exact next undef w hS hkn hu
/-- THE LAW. -/
theorem wp_plain_steps {id : Nat} {a0 : Act} {w0 : World} (S : World → Prop) (R : World → World → Prop) (φ : Nat → Value → World → Prop) (ds : List Nat) (base base0 : List (Nat × Value)) (K : Nat) (p : List (List Nat))
    (hB : tabP ops a0.tmps.size ds (base.map (·.1)) (base0.map (·.1)) K p = true)
    (hb0 : Holds a0 base) (hb00 : Holds a0 base0) (hS0 : S w0) (hSR : ∀ w w', S w → R w w' → S w') (hφ : ∀ i v w w', φ i v w → R w w' → φ i v w')
    (steps : AllStepsP P S R φ ds base base0 K p 0 ops.toList)
    (fin : ∀ (vs : Nat → Value) (w : World), S w → (∀ j : Nat, j < ds.length → φ j (vs (ds.getD j 0)) w) → Q .normal (putAll a0 vs ds) w) : (Code.region id ops false).wp P Q a0 w0 := by
  simp only [tabP, Bool.and_eq_true, beq_iff_eq, decide_eq_true_eq] at hB
  obtain ⟨⟨⟨⟨⟨hds, hnd⟩, hbase⟩, hbase0⟩, hsz⟩, htab⟩ := hB
  refine wp_region_list (plain_go hds hnd (fun t ht => ?_) (fun t ht => ?_) (fun d hd => ?_) hb0 hb00 hSR hφ fin ops.toList p 0 (by simp) (by omega) (fun i _ hi => ?_) steps a0 w0 rfl rfl hS0 (fun _ _ => rfl) (fun j hj => by omega))
  · have := List.all_eq_true.1 hbase t ht
    simpa using this
  · have := List.all_eq_true.1 hbase0 t ht
    simpa using this
  · simpa using List.all_eq_true.1 hsz d hd
  · have := List.all_eq_true.1 htab i (List.mem_range.2 hi)
    rw [Nat.sub_zero]
    rw [Bool.and_eq_true] at this
    exact this
end
-- what is known of an operation that is wanted only if something holds
def gv (c : Bool) (v : Value) : Value := if c = true then v else undef
theorem gv_t {c : Bool} {v : Value} (h : c = true) : gv c v = v := by unfold gv; rw [if_pos h]
theorem gv_f {c : Bool} {v : Value} (h : c = false) : gv c v = undef := by unfold gv; rw [if_neg (by rw [h]; decide)]
theorem nt_t {c : Bool} (h : c = false) : (!c) = true := by rw [h]; rfl
theorem nt_f {c : Bool} (h : c = true) : (!c) = false := by rw [h]; rfl
theorem an_t {c d : Bool} (h : c = true) (k : d = true) : (c && d) = true := by rw [h, k]; rfl
theorem an_l {c d : Bool} (h : (c && d) = true) : c = true := (Bool.and_eq_true _ _ ▸ h).1
theorem an_r {c d : Bool} (h : (c && d) = true) : d = true := (Bool.and_eq_true _ _ ▸ h).2
section
variable {P : Program} {a : Act} {o : Oper} {w : World} {x y z : Operand}
theorem exec_pickAnd (ho : o.op = .pick x y z) {c p : Bool} (hx : a.eval x = .bool c) (hy : c = true → a.eval y = .bool p) (hz : a.eval z = .bool false) : (execOp a.eval o).run P w = .ok (.value (.bool (c && p))) w := by
  unfold execOp
  cases c
  · simp [ho, hx, asBool, Sem.run_pure, hz]
  · simp [ho, hx, asBool, Sem.run_pure, hy rfl]
theorem exec_pickOr (ho : o.op = .pick x y z) {c p : Bool} (hx : a.eval x = .bool c) (hy : a.eval y = .bool true) (hz : c = false → a.eval z = .bool p) : (execOp a.eval o).run P w = .ok (.value (.bool (c || p))) w := by
  unfold execOp
  cases c
  · simp [ho, hx, asBool, Sem.run_pure, hz rfl]
  · simp [ho, hx, asBool, Sem.run_pure, hy]
theorem exec_notB {t : TypeId} (ho : o.op = .unOp .not t x) {c : Bool} (hx : a.eval x = .bool c) : (execOp a.eval o).run P w = .ok (.value (.bool (!c))) w := by
  unfold execOp
  simp only [ho, hx]
  simp [Op.unary, go_sem]
end
section
variable {P : Program} {S : World → Prop} {R : World → World → Prop} {φ : Nat → Value → World → Prop} {a : Act} {o : Oper} {w : World} {Q : Exit → Act → World → Prop} {ds : List Nat} {k g : Nat}
theorem sg0 (hgd : o.guard = none) (h1 : ∀ K : Act → World → Prop, (∀ v w', φ k v w' → R w w' → K (a.put o.dst v) w') → o.wp P a w K Q) : WantP P R φ ds k o Q a w := by
  unfold WantP
  rw [hgd]
  exact .inl ⟨trivial, h1⟩
theorem sgK {b : Bool} (hgd : o.guard = some (g, b)) (hg : a.eval (.tmp (ds.getD g 0)) = .bool b) (h1 : ∀ K : Act → World → Prop, (∀ v w', φ k v w' → R w w' → K (a.put o.dst v) w') → o.wp P a w K Q) : WantP P R φ ds k o Q a w := by
  unfold WantP
  rw [hgd]
  exact .inl ⟨hg, h1⟩
/-- A guard that is a known fact: wanted if c. -/
theorem sgT {c : Bool} (hgd : o.guard = some (g, true)) (hg : a.eval (.tmp (ds.getD g 0)) = .bool c) (h1 : c = true → ∀ K : Act → World → Prop, (∀ v w', φ k v w' → R w w' → K (a.put o.dst v) w') → o.wp P a w K Q) (h0 : c = false → φ k undef w) : WantP P R φ ds k o Q a w := by
  unfold WantP
  rw [hgd]
  cases c
  · exact .inr ⟨.inl hg, h0 rfl⟩
  · exact .inl ⟨hg, h1 rfl⟩
theorem sgF {c : Bool} (hgd : o.guard = some (g, false)) (hg : a.eval (.tmp (ds.getD g 0)) = .bool c) (h1 : c = false → ∀ K : Act → World → Prop, (∀ v w', φ k v w' → R w w' → K (a.put o.dst v) w') → o.wp P a w K Q) (h0 : c = true → φ k undef w) : WantP P R φ ds k o Q a w := by
  unfold WantP
  rw [hgd]
  cases c
  · exact .inl ⟨hg, h1 rfl⟩
  · exact .inr ⟨.inl hg, h0 rfl⟩
/-- The same where the guard itself is wanted only if d. -/
theorem sgTT {c d : Bool} (hgd : o.guard = some (g, true)) (hg : a.eval (.tmp (ds.getD g 0)) = gv d (.bool c)) (h1 : (d && c) = true → ∀ K : Act → World → Prop, (∀ v w', φ k v w' → R w w' → K (a.put o.dst v) w') → o.wp P a w K Q) (h0 : (d && c) = false → φ k undef w) : WantP P R φ ds k o Q a w := by
  unfold WantP
  rw [hgd]
  cases d
  · exact .inr ⟨.inr hg, h0 rfl⟩
  · cases c
    · exact .inr ⟨.inl hg, h0 rfl⟩
    · exact .inl ⟨hg, h1 rfl⟩
theorem sgTF {c d : Bool} (hgd : o.guard = some (g, false)) (hg : a.eval (.tmp (ds.getD g 0)) = gv d (.bool c)) (h1 : (d && !c) = true → ∀ K : Act → World → Prop, (∀ v w', φ k v w' → R w w' → K (a.put o.dst v) w') → o.wp P a w K Q) (h0 : (d && !c) = false → φ k undef w) : WantP P R φ ds k o Q a w := by
  unfold WantP
  rw [hgd]
  cases d
  · exact .inr ⟨.inr hg, h0 rfl⟩
  · cases c
    · exact .inl ⟨hg, h1 rfl⟩
    · exact .inr ⟨.inl hg, h0 rfl⟩
end
end Go.Proofs.Ytdlepeogmjmleab
/-
  Own text. Packets and extension headers in memory, and laws of single operations over them.
-/
namespace Go.Proofs.Ytdlepeogmjmleab
open Go.RowKit Go.Proofs
set_option maxRecDepth 100000
def pkT (P : Pk) (v : Value) : Nat → Value
  | 0 => .int .i64 P.proto
  | 1 => .int .i64 P.hop
  | 2 => .int .i64 P.cls
  | 3 => .int .i64 P.id
  | 4 => .int .i64 P.off
  | 5 => .bool P.more
  | 6 => .bool P.still
  | 7 => .string P.opts
  | 8 => .int .i64 P.flow
  | 9 => v
  | 10 => .bool P.cut
  | _ => .string P.pay
/-- The cells of a packet; v: the slice of its extension headers. -/
def pkV (P : Pk) (v : Value) (j : Nat) : Value := if j < 17 then adV P.sv P.sb j else if j < 34 then adV P.dv P.db (j - 17) else pkT P v (j - 34)
theorem pkV_one {P : Pk} {v : Value} (hv : v.oneCell' = true) (j : Nat) : (pkV P v j).oneCell' = true := by
  unfold pkV
  split
  · exact adV_one _ _ _
  · split
    · exact adV_one _ _ _
    · unfold pkT
      split <;> first | rfl | exact hv
def exV (x : Ex) (j : Nat) : Value := if j = 0 then .int .i64 x.kind else .string x.body
theorem exV_one (x : Ex) (j : Nat) : (exV x j).oneCell' = true := by unfold exV; split <;> rfl
theorem isPk : IsSt 27 46 := ⟨_, Try.underlying27, rfl, by kernel_rfl⟩
theorem isEx2 : IsSt 45 2 := ⟨_, Try.underlying45, rfl, by kernel_rfl⟩
theorem zeroPk (w : World) : (zeroValue 27).run Try.prog w = .ok (.agg (SC 46 (pkV zeroP (.slice none 0 0)))) w := by kernel_rfl
theorem zeroEx (w : World) : (zeroValue 45).run Try.prog w = .ok (.agg (SC 2 (exV ⟨0, ByteArray.empty⟩))) w := by kernel_rfl
theorem run_pk0 (w : World) : (Instr.build 27 #[]).run Try.prog w = .ok (.agg (SC 46 (pkV zeroP (.slice none 0 0)))) w := by kernel_rfl
/-- A slice of extension headers. -/
def ExAt (w : World) (v : Value) (l : List Ex) : Prop := ∃ a cap, v = .slice a l.length cap ∧ ∀ j x, l[j]? = some x → ∃ ad : Addr, a = some ad ∧ ad.block < w.heap.size ∧ w.cell? (ad.add (2 * j)) = some (.int .i64 x.kind) ∧ w.cell? (ad.add (2 * j + 1)) = some (.string x.body)
theorem ExAt.kept {w w' : World} {v : Value} {l : List Ex} (h : ExAt w v l) (hb : Below w.heap.size w w') : ExAt w' v l := by
  obtain ⟨a, cap, rfl, h⟩ := h
  refine ⟨a, cap, rfl, fun j x hj => ?_⟩
  obtain ⟨ad, ha, hl, h1, h2⟩ := h j x hj
  exact ⟨ad, ha, Nat.lt_of_lt_of_le hl hb.size, by rw [hb.cell (by rw [add_blk]; exact hl)]; exact h1, by rw [hb.cell (by rw [add_blk]; exact hl)]; exact h2⟩
theorem ExAt.nil (w : World) : ExAt w (.slice none 0 0) [] := ⟨none, 0, rfl, fun j x h => by simp at h⟩
theorem ExAt.one {w : World} {v : Value} {l : List Ex} (h : ExAt w v l) : v.oneCell' = true := by
  obtain ⟨a, cap, rfl, _⟩ := h
  rfl
section
variable {w : World} {g : Nat} {P : Pk} {v : Value}
theorem pk_sv (h : SAt w g 27 46 (pkV P v)) : w.cell? ⟨g, 0, none⟩ = some (.bool P.sv) := h.at 0 (by decide)
theorem pk_dv (h : SAt w g 27 46 (pkV P v)) : w.cell? ⟨g, 17, none⟩ = some (.bool P.dv) := h.at 17 (by decide)
theorem pk_proto (h : SAt w g 27 46 (pkV P v)) : w.cell? ⟨g, 34, none⟩ = some (.int .i64 P.proto) := h.at 34 (by decide)
theorem pk_hop (h : SAt w g 27 46 (pkV P v)) : w.cell? ⟨g, 35, none⟩ = some (.int .i64 P.hop) := h.at 35 (by decide)
theorem pk_cls (h : SAt w g 27 46 (pkV P v)) : w.cell? ⟨g, 36, none⟩ = some (.int .i64 P.cls) := h.at 36 (by decide)
theorem pk_id (h : SAt w g 27 46 (pkV P v)) : w.cell? ⟨g, 37, none⟩ = some (.int .i64 P.id) := h.at 37 (by decide)
theorem pk_off (h : SAt w g 27 46 (pkV P v)) : w.cell? ⟨g, 38, none⟩ = some (.int .i64 P.off) := h.at 38 (by decide)
theorem pk_more (h : SAt w g 27 46 (pkV P v)) : w.cell? ⟨g, 39, none⟩ = some (.bool P.more) := h.at 39 (by decide)
theorem pk_still (h : SAt w g 27 46 (pkV P v)) : w.cell? ⟨g, 40, none⟩ = some (.bool P.still) := h.at 40 (by decide)
theorem pk_opts (h : SAt w g 27 46 (pkV P v)) : w.cell? ⟨g, 41, none⟩ = some (.string P.opts) := h.at 41 (by decide)
theorem pk_flow (h : SAt w g 27 46 (pkV P v)) : w.cell? ⟨g, 42, none⟩ = some (.int .i64 P.flow) := h.at 42 (by decide)
theorem pk_exts (h : SAt w g 27 46 (pkV P v)) : w.cell? ⟨g, 43, none⟩ = some v := h.at 43 (by decide)
theorem pk_cut (h : SAt w g 27 46 (pkV P v)) : w.cell? ⟨g, 44, none⟩ = some (.bool P.cut) := h.at 44 (by decide)
theorem pk_pay (h : SAt w g 27 46 (pkV P v)) : w.cell? ⟨g, 45, none⟩ = some (.string P.pay) := h.at 45 (by decide)
theorem ex_kind {x : Ex} (h : SAt w g 45 2 (exV x)) : w.cell? ⟨g, 0, none⟩ = some (.int .i64 x.kind) := h.at 0 (by decide)
theorem ex_body {x : Ex} (h : SAt w g 45 2 (exV x)) : w.cell? ⟨g, 1, none⟩ = some (.string x.body) := h.at 1 (by decide)
theorem ldP {p : Addr} {n : Int} (h : w.cell? p = some (.int .i64 n)) : (Instr.loadAt 3 (.pointer (some p))).run Try.prog w = .ok (.int .i64 n) w := by simp [go_sem, h]
theorem ldPb {p : Addr} {b : Bool} (h : w.cell? p = some (.bool b)) : (Instr.loadAt 4 (.pointer (some p))).run Try.prog w = .ok (.bool b) w := by simp [go_sem, h]
theorem ldPs {p : Addr} {s : ByteArray} (h : w.cell? p = some (.string s)) : (Instr.loadAt 9 (.pointer (some p))).run Try.prog w = .ok (.string s) w := by simp [go_sem, h]
theorem ldPx {p : Addr} {x : Value} (h : w.cell? p = some x) : (Instr.loadAt 25 (.pointer (some p))).run Try.prog w = .ok x w := by simp [go_sem, h]
theorem ld_src (h : SAt w g 27 46 (pkV P v)) : (Instr.loadAt 24 (.pointer (some ⟨g, 0, none⟩))).run Try.prog w = .ok (.agg (SC 17 (adV P.sv P.sb))) w := by
  refine run_loadAt_addr w ⟨g, 0, none⟩ 24 ((List.range 17).map (adV P.sv P.sb)) _ (fun j x hj => ?_) Try.underlying24 rfl (by rw [List.length_map, List.length_range]; kernel_rfl)
  rw [List.getElem?_map] at hj
  have hl : j < 17 := by
    rcases Nat.lt_or_ge j 17 with h | h
    · exact h
    · rw [List.getElem?_eq_none (by simpa using h)] at hj; cases hj
  rw [List.getElem?_range hl] at hj
  rw [Addr.add_lit, Nat.zero_add, h.at j (by omega)]
  unfold pkV
  rw [if_pos hl]
  exact hj
theorem ld_dst (h : SAt w g 27 46 (pkV P v)) : (Instr.loadAt 24 (.pointer (some ⟨g, 17, none⟩))).run Try.prog w = .ok (.agg (SC 17 (adV P.dv P.db))) w := by
  refine run_loadAt_addr w ⟨g, 17, none⟩ 24 ((List.range 17).map (adV P.dv P.db)) _ (fun j x hj => ?_) Try.underlying24 rfl (by rw [List.length_map, List.length_range]; kernel_rfl)
  rw [List.getElem?_map] at hj
  have hl : j < 17 := by
    rcases Nat.lt_or_ge j 17 with h | h
    · exact h
    · rw [List.getElem?_eq_none (by simpa using h)] at hj; cases hj
  rw [List.getElem?_range hl] at hj
  rw [Addr.add_lit, h.at (17 + j) (by omega)]
  unfold pkV
  rw [if_neg (by omega), if_pos (by omega), Nat.add_sub_cancel_left]
  exact hj
end
section
variable {a : Act} {o : Oper} {w : World} {x y : Operand} {t : TypeId}
def pkO (k : Nat) : Nat := if k = 0 then 0 else if k = 1 then 17 else k + 32
theorem exec_fpk (k : Nat) (hk : k < 14) (ho : o.op = .fieldAddr 27 x k) {g : Nat} (hx : a.eval x = .pointer (some ⟨g, 0, none⟩)) : (execOp a.eval o).run Try.prog w = .ok (.value (.pointer (some ⟨g, pkO k, none⟩))) w := by
  have h : (Instr.fieldAt 27 (.pointer (some ⟨g, 0, none⟩)) k).run Try.prog w = .ok (.pointer (some ⟨g, pkO k, none⟩)) w := by
    match k, hk with
    | 0, _ => simp [go_sem, pkO]
    | 1, _ => simp [go_sem, pkO]
    | 2, _ => simp [go_sem, pkO]
    | 3, _ => simp [go_sem, pkO]
    | 4, _ => simp [go_sem, pkO]
    | 5, _ => simp [go_sem, pkO]
    | 6, _ => simp [go_sem, pkO]
    | 7, _ => simp [go_sem, pkO]
    | 8, _ => simp [go_sem, pkO]
    | 9, _ => simp [go_sem, pkO]
    | 10, _ => simp [go_sem, pkO]
    | 11, _ => simp [go_sem, pkO]
    | 12, _ => simp [go_sem, pkO]
    | 13, _ => simp [go_sem, pkO]
  unfold execOp
  simp only [ho, hx, Sem.run_bind, h, Result.andThen_ok, Sem.run_pure]
theorem exec_fex (k : Nat) (hk : k < 2) (ho : o.op = .fieldAddr 45 x k) {ad : Addr} (hx : a.eval x = .pointer (some ad)) : (execOp a.eval o).run Try.prog w = .ok (.value (.pointer (some (ad.add k)))) w := by
  have h : (Instr.fieldAt 45 (.pointer (some ad)) k).run Try.prog w = .ok (.pointer (some (ad.add k))) w := by
    match k, hk with
    | 0, _ => simp [go_sem]
    | 1, _ => simp [go_sem]
  unfold execOp
  simp only [ho, hx, Sem.run_bind, h, Result.andThen_ok, Sem.run_pure]
theorem exec_fexG (k : Nat) (hk : k < 2) (ho : o.op = .fieldAddr 45 x k) {g : Nat} (hx : a.eval x = .pointer (some ⟨g, 0, none⟩)) : (execOp a.eval o).run Try.prog w = .ok (.value (.pointer (some ⟨g, k, none⟩))) w := by
  have := exec_fex (w := w) k hk ho hx
  rwa [Addr.add_lit, Nat.zero_add] at this
theorem exec_fad0 (ho : o.op = .fieldAddr 24 x 0) {g f : Nat} (hx : a.eval x = .pointer (some ⟨g, f, none⟩)) : (execOp a.eval o).run Try.prog w = .ok (.value (.pointer (some ⟨g, f, none⟩))) w := by
  have h : (Instr.fieldAt 24 (.pointer (some ⟨g, f, none⟩)) 0).run Try.prog w = .ok (.pointer (some ⟨g, f, none⟩)) w := by simp [go_sem]
  unfold execOp
  simp only [ho, hx, Sem.run_bind, h, Result.andThen_ok, Sem.run_pure]
theorem exec_ixE (ho : o.op = .indexAddr 25 x y) {p : Addr} {n c i : Nat} (hx : a.eval x = .slice (some p) n c) (hy : a.eval y = .int .i64 (i : Int)) (hi : i < n) : (execOp a.eval o).run Try.prog w = .ok (.value (.pointer (some (p.add (2 * i))))) w := by
  unfold execOp
  simp only [ho, hx, hy, Sem.run_bind]
  rw [run_indexAt_slice w 25 _ n c .i64 (i : Int) Try.underlying25, if_pos ⟨by omega, by omega⟩]
  have e : (sizeOf (Try.prog.elem 25)).run Try.prog w = .ok 2 w := by kernel_rfl
  simp [e, Nat.mul_comm]
theorem exec_lenX (ho : o.op = .call { callee := .builtin .len, args := #[x], argTypes := #[25] }) {ad : Option Addr} {n c : Nat} (hx : a.eval x = .slice ad n c) : (execOp a.eval o).run Try.prog w = .ok (.value (.int .i64 (n : Int))) w := by
  have hr : (Builtin.len_ #[25] o.type #[.slice ad n c]).run Try.prog w = .ok (goInt n) w := by simp [go_sem]
  simp [execOp, ho, resolve, invoke, builtin, hx, hr, goInt]
theorem ldEx {p : Addr} {e : Ex} (h1 : w.cell? p = some (.int .i64 e.kind)) (h2 : w.cell? (p.add 1) = some (.string e.body)) : (Instr.loadAt 45 (.pointer (some p))).run Try.prog w = .ok (.agg (SC 2 (exV e))) w := by
  refine run_loadAt_addr w p 45 [.int .i64 e.kind, .string e.body] _ (fun j x hj => ?_) Try.underlying45 rfl (by kernel_rfl)
  match j, hj with
  | 0, hj =>
    simp at hj
    subst hj
    have e0 : p.add 0 = p := by cases p with | mk b o q => cases q <;> simp [Addr.add]
    rw [e0]
    exact h1
  | 1, hj => simp at hj; subst hj; exact h2
theorem exec_pk0 (ho : o.op = .build 27 #[]) : (execOp a.eval o).run Try.prog w = .ok (.value (.agg (SC 46 (pkV zeroP (.slice none 0 0))))) w := by
  unfold execOp
  simp only [ho, List.map_toArray, List.map_nil, Sem.run_bind, run_pk0, Result.andThen_ok, Sem.run_pure]
-- comparisons whose outcome nobody knows
theorem cmp_eq (ho : o.op = .binOp .eql 3 x y 3) {m n : Int} (hx : a.eval x = .int .i64 m) (hy : a.eval y = .int .i64 n) : (execOp a.eval o).run Try.prog w = .ok (.value (.bool (decide (m = n)))) w := exec_bin2 ho hx hy rfl (by simp [go_sem]; exact (Bool.beq_eq_decide_eq m n))
theorem cmp_ne (ho : o.op = .binOp .neq 3 x y 3) {m n : Int} (hx : a.eval x = .int .i64 m) (hy : a.eval y = .int .i64 n) : (execOp a.eval o).run Try.prog w = .ok (.value (.bool (!decide (m = n)))) w := exec_bin2 ho hx hy rfl (by simp [go_sem, bne, Bool.beq_eq_decide_eq])
theorem cmp_lt (ho : o.op = .binOp .lss 3 x y 3) {m n : Int} (hx : a.eval x = .int .i64 m) (hy : a.eval y = .int .i64 n) : (execOp a.eval o).run Try.prog w = .ok (.value (.bool (decide (m < n)))) w := exec_bin2 ho hx hy rfl (by simp [go_sem])
theorem cmp_le (ho : o.op = .binOp .leq 3 x y 3) {m n : Int} (hx : a.eval x = .int .i64 m) (hy : a.eval y = .int .i64 n) : (execOp a.eval o).run Try.prog w = .ok (.value (.bool (decide (m ≤ n)))) w := exec_bin2 ho hx hy rfl (by simp [go_sem])
theorem cmp_gt (ho : o.op = .binOp .gtr 3 x y 3) {m n : Int} (hx : a.eval x = .int .i64 m) (hy : a.eval y = .int .i64 n) : (execOp a.eval o).run Try.prog w = .ok (.value (.bool (decide (n < m)))) w := exec_bin2 ho hx hy rfl (by simp [go_sem])
theorem cmp_ge (ho : o.op = .binOp .geq 3 x y 3) {m n : Int} (hx : a.eval x = .int .i64 m) (hy : a.eval y = .int .i64 n) : (execOp a.eval o).run Try.prog w = .ok (.value (.bool (decide (n ≤ m)))) w := exec_bin2 ho hx hy rfl (by simp [go_sem])
theorem cmp_eqE (ho : o.op = .binOp .eql 29 x y 29) {m n : Int} (hx : a.eval x = .int .i64 m) (hy : a.eval y = .int .i64 n) : (execOp a.eval o).run Try.prog w = .ok (.value (.bool (decide (m = n)))) w := exec_bin2 ho hx hy rfl (by simp [go_sem]; exact (Bool.beq_eq_decide_eq m n))
theorem cmp_neE (ho : o.op = .binOp .neq 29 x y 29) {m n : Int} (hx : a.eval x = .int .i64 m) (hy : a.eval y = .int .i64 n) : (execOp a.eval o).run Try.prog w = .ok (.value (.bool (!decide (m = n)))) w := exec_bin2 ho hx hy rfl (by simp [go_sem, bne, Bool.beq_eq_decide_eq])
theorem cmp_eq8 (ho : o.op = .binOp .eql 5 x y 5) {m n : Int} (hx : a.eval x = .int .u8 m) (hy : a.eval y = .int .u8 n) : (execOp a.eval o).run Try.prog w = .ok (.value (.bool (decide (m = n)))) w := exec_bin2 ho hx hy rfl (by simp [go_sem]; exact (Bool.beq_eq_decide_eq m n))
theorem cmp_ne8 (ho : o.op = .binOp .neq 5 x y 5) {m n : Int} (hx : a.eval x = .int .u8 m) (hy : a.eval y = .int .u8 n) : (execOp a.eval o).run Try.prog w = .ok (.value (.bool (!decide (m = n)))) w := exec_bin2 ho hx hy rfl (by simp [go_sem, bne, Bool.beq_eq_decide_eq])
theorem cmp_eqB (ho : o.op = .binOp .eql 4 x y 4) {m n : Bool} (hx : a.eval x = .bool m) (hy : a.eval y = .bool n) : (execOp a.eval o).run Try.prog w = .ok (.value (.bool (m == n))) w := exec_bin2 ho hx hy rfl (by simp [go_sem])
theorem cmp_neB (ho : o.op = .binOp .neq 4 x y 4) {m n : Bool} (hx : a.eval x = .bool m) (hy : a.eval y = .bool n) : (execOp a.eval o).run Try.prog w = .ok (.value (.bool (!(m == n)))) w := exec_bin2 ho hx hy rfl (by simp [go_sem])
theorem cmp_neS (ho : o.op = .binOp .neq 9 x y 9) {s t : ByteArray} (hx : a.eval x = .string s) (hy : a.eval y = .string t) : (execOp a.eval o).run Try.prog w = .ok (.value (.bool (!decide (s = t)))) w := by
  by_cases e : s = t
  · subst e
    exact exec_bin2 ho hx hy rfl (by simp [go_sem])
  · rw [decide_eq_false e]
    exact exec_neqST ho hx hy e
theorem rem_nn (ho : o.op = .binOp .rem 3 x y 3) {m n : Int} (hx : a.eval x = .int .i64 m) (hy : a.eval y = .int .i64 n) (h0 : 0 ≤ m) (hn : 0 < n) : (execOp a.eval o).run Try.prog w = .ok (.value (.int .i64 (m % n))) w := by
  obtain ⟨i, rfl⟩ := Int.eq_ofNat_of_zero_le h0
  obtain ⟨k, rfl⟩ := Int.eq_ofNat_of_zero_le (by omega : 0 ≤ n)
  have := exec_remW (w := w) (q := i % k) ho hx hy rfl (by omega)
  exact this
theorem exec_cvIU64 (ho : o.op = .convert 3 66 x) {m : Int} (hx : a.eval x = .int .i64 m) (h0 : 0 ≤ m) (h1 : m < 9223372036854775808) : (execOp a.eval o).run Try.prog w = .ok (.value (.int .u64 ((m.toNat : Nat) : Int))) w := by
  have e : IntKind.u64.wrap m = ((m.toNat : Nat) : Int) := by rw [IntKind.wrap_u64]; omega
  unfold execOp
  simp only [ho, hx]
  simp [go_sem, e]
end
end Go.Proofs.Ytdlepeogmjmleab
/-
  Own text. Small functions of the program and of the document: numbers within bounds, kinds of headers.
-/
namespace Go.Proofs.Ytdlepeogmjmleab
open Go.RowKit Go.Proofs
set_option maxRecDepth 100000
theorem isEx_d (k : Int) : isEx k = (decide (k = 0) || decide (k = 43) || decide (k = 60)) := rfl
theorem isHd_d (k : Int) : isHd k = (isEx k || decide (k = 44)) := rfl
theorem isHd_e (k : Int) : isHd k = (decide (k = 0) || decide (k = 43) || decide (k = 44) || decide (k = 60)) := by
  unfold isHd isEx
  by_cases h : k = 60
  · subst h; decide
  · by_cases h2 : k = 44
    · subst h2; decide
    · have e1 : (k == 60) = false := by simpa using h
      have e2 : (k == 44) = false := by simpa using h2
      rw [e1, e2, decide_eq_false h, decide_eq_false h2, Bool.or_false, Bool.or_false, Bool.or_false, Bool.or_false]
      rfl
theorem mayB_d (k : Int) (i : Nat) : mayB k i = (decide ((i : Int) < 4) && (!decide (k = 0) || decide ((i : Int) = 0))) := by
  unfold mayB
  have e1 : decide (i < 4) = decide ((i : Int) < 4) := by congr 1; exact propext ⟨fun h => by omega, fun h => by omega⟩
  have e2 : decide (i = 0) = decide ((i : Int) = 0) := by congr 1; exact propext ⟨fun h => by omega, fun h => by omega⟩
  rw [e1, e2]
  rfl
set_option maxHeartbeats 4000000 in
theorem upTo_run (n m : Int) (w : World) : Calls Try.prog 22 #[.int .i64 n, .int .i64 m] w fun e w' => e = .returned (.bool (upB n m)) ∧ Below w.heap.size w w' := by
  go_enter Try.func22, Try.ntmps22
  go_upto_region 1 with fail
  refine wp_plain_steps (Below w.heap.size w) (fun v v' => Below v.heap.size v v') (fun j vv _ => vv = ([.int .i64 n, .bool (decide (0 ≤ n)), .bool (decide (0 ≤ n)), gv (decide (0 ≤ n)) (.int .i64 n), gv (decide (0 ≤ n)) (.int .i64 m), gv (decide (0 ≤ n)) (.bool (decide (n ≤ m))), .bool ((decide (0 ≤ n)) && (decide (n ≤ m))), .bool ((decide (0 ≤ n)) && (decide (n ≤ m)))] : List Value).getD j undef)
      [5, 6, 7, 8, 9, 10, 11, 4]
      [(0, .int .i64 n), (1, .int .i64 m)] [] 0
      [[], [0], [1], [2], [2], [2, 3, 4], [2, 5], [6]]
      (by kernel_rfl) ⟨rfl, rfl, trivial⟩ trivial (Below.refl _ _) (fun v v' h hb => h.trans (hb.mono h.size)) (fun _ _ _ _ h _ => h)
      ⟨
      (fun QQ aa ww hS fr kn => sg0 rfl (fun K hK => wp_value (exec_move rfl fr.1) (hK _ _ rfl (Below.refl _ _)))),
      (fun QQ aa ww hS fr kn => sg0 rfl (fun K hK => wp_value (cmp_ge (m := n) (n := 0) rfl kn.1 rfl) (hK _ _ rfl (Below.refl _ _)))),
      (fun QQ aa ww hS fr kn => sg0 rfl (fun K hK => wp_value (exec_move rfl kn.1) (hK _ _ rfl (Below.refl _ _)))),
      (fun QQ aa ww hS fr kn => sgT rfl kn.1 (fun hc K hK => wp_value (exec_move rfl fr.1) (hK _ _ (gv_t hc).symm (Below.refl _ _))) (fun h0 => (gv_f h0).symm)),
      (fun QQ aa ww hS fr kn => sgT rfl kn.1 (fun hc K hK => wp_value (exec_move rfl fr.2.1) (hK _ _ (gv_t hc).symm (Below.refl _ _))) (fun h0 => (gv_f h0).symm)),
      (fun QQ aa ww hS fr kn => sgT rfl kn.1 (fun hc K hK => wp_value (cmp_le (m := n) (n := m) rfl (kn.2.1.trans (gv_t hc)) (kn.2.2.1.trans (gv_t hc))) (hK _ _ (gv_t hc).symm (Below.refl _ _))) (fun h0 => (gv_f h0).symm)),
      (fun QQ aa ww hS fr kn => sg0 rfl (fun K hK => wp_value (exec_pickAnd rfl kn.1 (fun hx => kn.2.1.trans (gv_t hx)) rfl) (hK _ _ rfl (Below.refl _ _)))),
      (fun QQ aa ww hS fr kn => sg0 rfl (fun K hK => wp_value (exec_assign rfl kn.1) (hK _ _ rfl (Below.refl _ _)))),
      trivial⟩ ?_
  intro vs u2 hB2 kn
  have e4 : vs 4 = .bool ((decide (0 ≤ n)) && (decide (n ≤ m))) := kn 7 (by decide)
  clear kn
  simp only [putAll, Act.put, List.setIfInBounds_toArray, List.set_cons_zero, List.set_cons_succ, e4]
  clear e4
  go_wp2_with fail
  go_ret
  exact ⟨rfl, hB2⟩
set_option maxHeartbeats 4000000 in
theorem isExt_run (k : Int) (w : World) : Calls Try.prog 45 #[.int .i64 k] w fun e w' => e = .returned (.bool (isEx k)) ∧ Below w.heap.size w w' := by
  go_enter Try.func45, Try.ntmps45
  go_upto_region 1 with fail
  refine wp_plain_steps (Below w.heap.size w) (fun v v' => Below v.heap.size v v') (fun j vv _ => vv = ([.int .i64 k, .bool (decide (k = 0)), .bool (decide (k = 0)), gv (!(decide (k = 0))) (.int .i64 k), gv (!(decide (k = 0))) (.bool (decide (k = 43))), .bool ((decide (k = 0)) || (decide (k = 43))), .bool ((decide (k = 0)) || (decide (k = 43))), gv (!((decide (k = 0)) || (decide (k = 43)))) (.int .i64 k), gv (!((decide (k = 0)) || (decide (k = 43)))) (.bool (decide (k = 60))), .bool (((decide (k = 0)) || (decide (k = 43))) || (decide (k = 60))), .bool (((decide (k = 0)) || (decide (k = 43))) || (decide (k = 60)))] : List Value).getD j undef)
      [3, 4, 5, 6, 7, 8, 9, 10, 11, 12, 2]
      [(0, .int .i64 k)] [] 0
      [[], [0], [1], [2], [2, 3], [2, 4], [5], [6], [6, 7], [6, 8], [9]]
      (by kernel_rfl) ⟨rfl, trivial⟩ trivial (Below.refl _ _) (fun v v' h hb => h.trans (hb.mono h.size)) (fun _ _ _ _ h _ => h)
      ⟨
      (fun QQ aa ww hS fr kn => sg0 rfl (fun K hK => wp_value (exec_move rfl fr.1) (hK _ _ rfl (Below.refl _ _)))),
      (fun QQ aa ww hS fr kn => sg0 rfl (fun K hK => wp_value (cmp_eq (m := k) (n := 0) rfl kn.1 rfl) (hK _ _ rfl (Below.refl _ _)))),
      (fun QQ aa ww hS fr kn => sg0 rfl (fun K hK => wp_value (exec_move rfl kn.1) (hK _ _ rfl (Below.refl _ _)))),
      (fun QQ aa ww hS fr kn => sgF rfl kn.1 (fun hng K hK => have hc := nt_t hng; wp_value (exec_move rfl fr.1) (hK _ _ (gv_t hc).symm (Below.refl _ _))) (fun h0 => (gv_f (nt_f h0)).symm)),
      (fun QQ aa ww hS fr kn => sgF rfl kn.1 (fun hng K hK => have hc := nt_t hng; wp_value (cmp_eq (m := k) (n := 43) rfl (kn.2.1.trans (gv_t hc)) rfl) (hK _ _ (gv_t hc).symm (Below.refl _ _))) (fun h0 => (gv_f (nt_f h0)).symm)),
      (fun QQ aa ww hS fr kn => sg0 rfl (fun K hK => wp_value (exec_pickOr rfl kn.1 rfl (fun hx => kn.2.1.trans (gv_t (nt_t hx)))) (hK _ _ rfl (Below.refl _ _)))),
      (fun QQ aa ww hS fr kn => sg0 rfl (fun K hK => wp_value (exec_move rfl kn.1) (hK _ _ rfl (Below.refl _ _)))),
      (fun QQ aa ww hS fr kn => sgF rfl kn.1 (fun hng K hK => have hc := nt_t hng; wp_value (exec_move rfl fr.1) (hK _ _ (gv_t hc).symm (Below.refl _ _))) (fun h0 => (gv_f (nt_f h0)).symm)),
      (fun QQ aa ww hS fr kn => sgF rfl kn.1 (fun hng K hK => have hc := nt_t hng; wp_value (cmp_eq (m := k) (n := 60) rfl (kn.2.1.trans (gv_t hc)) rfl) (hK _ _ (gv_t hc).symm (Below.refl _ _))) (fun h0 => (gv_f (nt_f h0)).symm)),
      (fun QQ aa ww hS fr kn => sg0 rfl (fun K hK => wp_value (exec_pickOr rfl kn.1 rfl (fun hx => kn.2.1.trans (gv_t (nt_t hx)))) (hK _ _ rfl (Below.refl _ _)))),
      (fun QQ aa ww hS fr kn => sg0 rfl (fun K hK => wp_value (exec_assign rfl kn.1) (hK _ _ rfl (Below.refl _ _)))),
      trivial⟩ ?_
  intro vs u2 hB2 kn
  have e2 : vs 2 = .bool (((decide (k = 0)) || (decide (k = 43))) || (decide (k = 60))) := kn 10 (by decide)
  clear kn
  simp only [putAll, Act.put, List.setIfInBounds_toArray, List.set_cons_zero, List.set_cons_succ, e2]
  clear e2
  go_wp2_with fail
  go_ret
  exact ⟨by rw [isEx_d]; rfl, hB2⟩
theorem en_upTo (args : Array Value) (w : World) : (callFunc 22 args).run Try.prog w = .ok (.enter 22 args) w := by kernel_rfl
theorem en_isExt (args : Array Value) (w : World) : (callFunc 45 args).run Try.prog w = .ok (.enter 45 args) w := by kernel_rfl
set_option maxHeartbeats 4000000 in
theorem isHeader_run (k : Int) (w : World) : Calls Try.prog 37 #[.int .i64 k] w fun e w' => e = .returned (.bool (isHd k)) ∧ Below w.heap.size w w' := by
  go_enter Try.func37, Try.ntmps37
  go_upto_region 1 with fail
  refine wp_plain_steps (Below w.heap.size w) (fun v v' => Below v.heap.size v v') (fun j vv _ => vv = ([.int .i64 k, .bool (isEx k), .bool (isEx k), gv (!(isEx k)) (.int .i64 k), gv (!(isEx k)) (.bool (decide (k = 44))), .bool ((isEx k) || (decide (k = 44))), .bool ((isEx k) || (decide (k = 44)))] : List Value).getD j undef)
      [3, 4, 5, 6, 7, 8, 2]
      [(0, .int .i64 k)] [] 0
      [[], [0], [1], [2], [2, 3], [2, 4], [5]]
      (by kernel_rfl) ⟨rfl, trivial⟩ trivial (Below.refl _ _) (fun v v' h hb => h.trans (hb.mono h.size)) (fun _ _ _ _ h _ => h)
      ⟨
      (fun QQ aa ww hS fr kn => sg0 rfl (fun K hK => wp_value (exec_move rfl fr.1) (hK _ _ rfl (Below.refl _ _)))),
      (fun QQ aa ww hS fr kn => sg0 rfl (fun K hK => stepc en_isExt rfl (args1 kn.1) (isExt_run k ww) (fun w' hb => hK _ _ rfl hb))),
      (fun QQ aa ww hS fr kn => sg0 rfl (fun K hK => wp_value (exec_move rfl kn.1) (hK _ _ rfl (Below.refl _ _)))),
      (fun QQ aa ww hS fr kn => sgF rfl kn.1 (fun hng K hK => have hc := nt_t hng; wp_value (exec_move rfl fr.1) (hK _ _ (gv_t hc).symm (Below.refl _ _))) (fun h0 => (gv_f (nt_f h0)).symm)),
      (fun QQ aa ww hS fr kn => sgF rfl kn.1 (fun hng K hK => have hc := nt_t hng; wp_value (cmp_eq (m := k) (n := 44) rfl (kn.2.1.trans (gv_t hc)) rfl) (hK _ _ (gv_t hc).symm (Below.refl _ _))) (fun h0 => (gv_f (nt_f h0)).symm)),
      (fun QQ aa ww hS fr kn => sg0 rfl (fun K hK => wp_value (exec_pickOr rfl kn.1 rfl (fun hx => kn.2.1.trans (gv_t (nt_t hx)))) (hK _ _ rfl (Below.refl _ _)))),
      (fun QQ aa ww hS fr kn => sg0 rfl (fun K hK => wp_value (exec_assign rfl kn.1) (hK _ _ rfl (Below.refl _ _)))),
      trivial⟩ ?_
  intro vs u2 hB2 kn
  have e2 : vs 2 = .bool ((isEx k) || (decide (k = 44))) := kn 6 (by decide)
  clear kn
  simp only [putAll, Act.put, List.setIfInBounds_toArray, List.set_cons_zero, List.set_cons_succ, e2]
  clear e2
  go_wp2_with fail
  go_ret
  exact ⟨by rw [isHd_d]; rfl, hB2⟩
set_option maxHeartbeats 4000000 in
theorem mayStand_run (k : Int) (i : Nat) (w : World) : Calls Try.prog 46 #[.int .i64 k, .int .i64 (i : Int)] w fun e w' => e = .returned (.bool (mayB k i)) ∧ Below w.heap.size w w' := by
  go_enter Try.func46, Try.ntmps46
  go_upto_region 1 with fail
  refine wp_plain_steps (Below w.heap.size w) (fun v v' => Below v.heap.size v v') (fun j vv _ => vv = ([.int .i64 (i : Int), .bool (decide ((i : Int) < 4)), .bool (decide ((i : Int) < 4)), gv (decide ((i : Int) < 4)) (.int .i64 k), gv (decide ((i : Int) < 4)) (.bool (!decide (k = 0))), gv (decide ((i : Int) < 4)) (.bool (!decide (k = 0))), gv ((decide ((i : Int) < 4)) && (!(!decide (k = 0)))) (.int .i64 (i : Int)), gv ((decide ((i : Int) < 4)) && (!(!decide (k = 0)))) (.bool (decide ((i : Int) = 0))), gv (decide ((i : Int) < 4)) (.bool ((!decide (k = 0)) || (decide ((i : Int) = 0)))), .bool ((decide ((i : Int) < 4)) && ((!decide (k = 0)) || (decide ((i : Int) = 0)))), .bool ((decide ((i : Int) < 4)) && ((!decide (k = 0)) || (decide ((i : Int) = 0))))] : List Value).getD j undef)
      [5, 6, 7, 8, 9, 10, 11, 12, 13, 14, 4]
      [(0, .int .i64 k), (1, .int .i64 (i : Int))] [] 0
      [[], [0], [1], [2], [2, 3], [2, 4], [5], [5, 6], [2, 5, 7], [2, 8], [9]]
      (by kernel_rfl) ⟨rfl, rfl, trivial⟩ trivial (Below.refl _ _) (fun v v' h hb => h.trans (hb.mono h.size)) (fun _ _ _ _ h _ => h)
      ⟨
      (fun QQ aa ww hS fr kn => sg0 rfl (fun K hK => wp_value (exec_move rfl fr.2.1) (hK _ _ rfl (Below.refl _ _)))),
      (fun QQ aa ww hS fr kn => sg0 rfl (fun K hK => wp_value (cmp_lt (m := (i : Int)) (n := 4) rfl kn.1 rfl) (hK _ _ rfl (Below.refl _ _)))),
      (fun QQ aa ww hS fr kn => sg0 rfl (fun K hK => wp_value (exec_move rfl kn.1) (hK _ _ rfl (Below.refl _ _)))),
      (fun QQ aa ww hS fr kn => sgT rfl kn.1 (fun hc K hK => wp_value (exec_move rfl fr.1) (hK _ _ (gv_t hc).symm (Below.refl _ _))) (fun h0 => (gv_f h0).symm)),
      (fun QQ aa ww hS fr kn => sgT rfl kn.1 (fun hc K hK => wp_value (cmp_ne (m := k) (n := 0) rfl (kn.2.1.trans (gv_t hc)) rfl) (hK _ _ (gv_t hc).symm (Below.refl _ _))) (fun h0 => (gv_f h0).symm)),
      (fun QQ aa ww hS fr kn => sgT rfl kn.1 (fun hc K hK => wp_value (exec_move rfl (kn.2.1.trans (gv_t hc))) (hK _ _ (gv_t hc).symm (Below.refl _ _))) (fun h0 => (gv_f h0).symm)),
      (fun QQ aa ww hS fr kn => sgTF rfl kn.1 (fun hc K hK => wp_value (exec_move rfl fr.2.1) (hK _ _ (gv_t hc).symm (Below.refl _ _))) (fun h0 => (gv_f h0).symm)),
      (fun QQ aa ww hS fr kn => sgTF rfl kn.1 (fun hc K hK => wp_value (cmp_eq (m := (i : Int)) (n := 0) rfl (kn.2.1.trans (gv_t hc)) rfl) (hK _ _ (gv_t hc).symm (Below.refl _ _))) (fun h0 => (gv_f h0).symm)),
      (fun QQ aa ww hS fr kn => sgT rfl kn.1 (fun hc K hK => wp_value (exec_pickOr rfl (kn.2.1.trans (gv_t hc)) rfl (fun hx => kn.2.2.1.trans (gv_t (an_t hc (nt_t hx))))) (hK _ _ (gv_t hc).symm (Below.refl _ _))) (fun h0 => (gv_f h0).symm)),
      (fun QQ aa ww hS fr kn => sg0 rfl (fun K hK => wp_value (exec_pickAnd rfl kn.1 (fun hx => kn.2.1.trans (gv_t hx)) rfl) (hK _ _ rfl (Below.refl _ _)))),
      (fun QQ aa ww hS fr kn => sg0 rfl (fun K hK => wp_value (exec_assign rfl kn.1) (hK _ _ rfl (Below.refl _ _)))),
      trivial⟩ ?_
  intro vs u2 hB2 kn
  have e4 : vs 4 = .bool ((decide ((i : Int) < 4)) && ((!decide (k = 0)) || (decide ((i : Int) = 0)))) := kn 10 (by decide)
  clear kn
  simp only [putAll, Act.put, List.setIfInBounds_toArray, List.set_cons_zero, List.set_cons_succ, e4]
  clear e4
  go_wp2_with fail
  go_ret
  exact ⟨by rw [mayB_d]; rfl, hB2⟩
theorem en_isHeader (args : Array Value) (w : World) : (callFunc 37 args).run Try.prog w = .ok (.enter 37 args) w := by kernel_rfl
theorem en_mayStand (args : Array Value) (w : World) : (callFunc 46 args).run Try.prog w = .ok (.enter 46 args) w := by kernel_rfl
end Go.Proofs.Ytdlepeogmjmleab
/-
  Own text. Extension headers are compared; slices.Equal of them.
-/
namespace Go.Proofs.Ytdlepeogmjmleab
open Go.RowKit Go.Proofs
set_option maxRecDepth 100000
def eqEx (x y : Ex) : Bool := decide (x.kind = y.kind) && decide (x.body = y.body)
theorem eqEx_iff {x y : Ex} : eqEx x y = true ↔ x = y := by
  obtain ⟨k, b⟩ := x
  obtain ⟨k', b'⟩ := y
  simp [eqEx]
theorem fieldsE : (Try.prog.fieldsOf 45).toList.map (fun f => (f.name, f.type, f.offset)) = [("Kind", 3, 0), ("Body", 9, 1)] := by kernel_rfl
theorem stoodE : Try.prog.stoodInHeld 45 = false := by kernel_rfl
theorem eqgE : Try.prog.eqGuardType Try.prog.depth 45 = false := by kernel_rfl
theorem partE0 (x : Ex) (w : World) : (part 3 (SC 2 (exV x)) 0).run Try.prog w = .ok (.int .i64 x.kind) w := by kernel_rfl
theorem partE1 (x : Ex) (w : World) : (part 9 (SC 2 (exV x)) 1).run Try.prog w = .ok (.string x.body) w := by kernel_rfl
theorem equal_ex (x y : Ex) (w : World) : (Op.equalIn 10000 45 (.agg (SC 2 (exV x))) (.agg (SC 2 (exV y)))).run Try.prog w = .ok (eqEx x y) w := by
  rw [run_equalIn_struct w 9999 45 _ _ Try.underlying45 stoodE]
  have hf := fieldsE
  generalize (Try.prog.fieldsOf 45).toList = fs at hf
  obtain ⟨f0, f1, rfl⟩ : ∃ f0 f1, fs = [f0, f1] := by
    have hl : fs.length = 2 := by have := congrArg List.length hf; simpa using this
    cases fs with
    | nil => simp at hl
    | cons f0 fs =>
      cases fs with
      | nil => simp at hl
      | cons f1 fs =>
        cases fs with
        | nil => exact ⟨f0, f1, rfl⟩
        | cons f2 fs => simp at hl
  simp only [List.map_cons, List.map_nil, List.cons.injEq, Prod.mk.injEq, and_true] at hf
  obtain ⟨⟨n0, t0, o0⟩, n1, t1, o1⟩ := hf
  have e1 : (Op.equalIn 9999 3 (.int .i64 x.kind) (.int .i64 y.kind)).run Try.prog w = .ok (x.kind == y.kind) w := run_equalIn_int w 9998 3 .i64 .i64 x.kind y.kind Try.underlying3
  have e2 : (Op.equalIn 9999 9 (.string x.body) (.string y.body)).run Try.prog w = .ok (x.body.toList == y.body.toList) w := run_equalIn_string w 9998 9 x.body y.body Try.underlying9
  simp only [Op.eqFields, n0, t0, o0, n1, t1, o1, ne_eq, String.reduceEq, not_false_eq_true, if_true, Sem.run_bind, partE0, Result.andThen_ok, e1]
  have e3 : (x.body.toList == y.body.toList) = decide (x.body = y.body) := by
    by_cases hb : x.body = y.body
    · rw [hb]; simp
    · rw [decide_eq_false hb, beq_eq_false_iff_ne]
      intro h
      rw [ByteArray.toList_eq, ByteArray.toList_eq] at h
      exact hb (ByteArray.ext (Array.toList_inj.1 h))
  unfold eqEx
  by_cases hv : x.kind = y.kind
  · simp only [hv, beq_self_eq_true, Bool.not_true, Bool.false_eq_true, if_false, Sem.run_bind, partE1, Result.andThen_ok, e2, e3]
    by_cases hb : x.body = y.body
    · simp [hb]
    · simp [hb]
  · have e4 : (x.kind == y.kind) = false := by simpa using hv
    simp [hv, e4]
section
variable {a : Act} {o : Oper} {w : World} {x y : Operand} {t : TypeId}
theorem exec_neEx (ho : o.op = .binOp .neq 45 x y t) {p q : Ex} (hx : a.eval x = .agg (SC 2 (exV p))) (hy : a.eval y = .agg (SC 2 (exV q))) : (execOp a.eval o).run Try.prog w = .ok (.value (.bool (!eqEx p q))) w := by
  unfold execOp
  simp only [ho, hx, hy, Sem.run_bind, run_eqGuard_agg w .neq 45 x y _ _ eqgE, Result.andThen_ok, run_neq_struct, equal_ex p q w, Sem.run_pure]
end
theorem ExAt.at {w w' : World} {v : Value} {l : List Ex} (h : ExAt w v l) (hB : Below w.heap.size w w') {j : Nat} {x : Ex} (hj : l[j]? = some x) : ∃ ad cap, v = .slice (some ad) l.length cap ∧ w'.cell? (ad.add (2 * j)) = some (.int .i64 x.kind) ∧ w'.cell? ((ad.add (2 * j)).add 1) = some (.string x.body) := by
  obtain ⟨a, cap, rfl, hc⟩ := h.kept hB
  obtain ⟨ad, rfl, _, h1, h2⟩ := hc j x hj
  exact ⟨ad, cap, rfl, h1, by rw [Addr.add_add]; exact h2⟩
theorem ExAt.sl {w w' : World} {a : Option Addr} {n c : Nat} {l : List Ex} (h : ExAt w (.slice a n c) l) (hB : Below w.heap.size w w') {j : Nat} {x : Ex} (hj : l[j]? = some x) : ∃ ad, a = some ad ∧ w'.cell? (ad.add (2 * j)) = some (.int .i64 x.kind) ∧ w'.cell? ((ad.add (2 * j)).add 1) = some (.string x.body) := by
  obtain ⟨a', cap, e, hc⟩ := h.kept hB
  obtain ⟨ad, e2, _, h1, h2⟩ := hc j x hj
  injection e with e
  exact ⟨ad, e.trans e2, h1, by rw [Addr.add_add]; exact h2⟩
/-- Two lists are the same from a place on. -/
theorem exEq_step {l m : List Ex} {x y : Ex} {i : Nat} (hx : l[i]? = some x) (hy : m[i]? = some y) : exEq (l.drop i) (m.drop i) = (eqEx x y && exEq (l.drop (i + 1)) (m.drop (i + 1))) := by
  have h1 := (List.getElem?_eq_some_iff.1 hx)
  have h2 := (List.getElem?_eq_some_iff.1 hy)
  rw [List.drop_eq_getElem_cons h1.1, List.drop_eq_getElem_cons h2.1, h1.2, h2.2]
  rfl
theorem exEq_len {l m : List Ex} (h : l.length ≠ m.length) : exEq l m = false := by
  cases e : exEq l m
  · rfl
  · rw [exEq_iff] at e
    subst e
    exact absurd rfl h
end Go.Proofs.Ytdlepeogmjmleab
/-
  Own text. slices.Equal of extension headers; Same of the program and of the document.
-/
namespace Go.Proofs.Ytdlepeogmjmleab
open Go.RowKit Go.Proofs
set_option maxRecDepth 100000
theorem list_at {l : List Ex} {i : Nat} (h : i < l.length) : ∃ x, l[i]? = some x := ⟨_, List.getElem?_eq_getElem h⟩
theorem samP_two (P Q : Pk) : samP P Q = (exEq P.exts Q.exts && (((eqAF P.sv P.sb Q.sv Q.sb && eqAF P.dv P.db Q.dv Q.db && decide (P.proto = Q.proto) && decide (P.hop = Q.hop) && decide (P.cls = Q.cls) && decide (P.id = Q.id)) && (decide (P.off = Q.off) && (P.more == Q.more) && (P.still == Q.still) && decide (P.opts = Q.opts) && decide (P.flow = Q.flow))) && (P.cut == Q.cut) && decide (P.pay = Q.pay))) := by
  unfold samP
  cases exEq P.exts Q.exts
  · simp only [Bool.and_false, Bool.false_and]
  · simp only [Bool.and_true, Bool.true_and, Bool.and_assoc]
set_option maxHeartbeats 16000000 in
theorem rSame_run (P Q : Pk) (v1 v2 : Value) (w : World) (h1 : ExAt w v1 P.exts) (h2 : ExAt w v2 Q.exts) (hn1 : P.exts.length < 4611686018427387904) (_hn2 : Q.exts.length < 4611686018427387904) : Calls Try.prog 9 #[.agg (SC 46 (pkV P v1)), .agg (SC 46 (pkV Q v2))] w fun e w' => e = .returned (.bool (samP P Q)) ∧ Below w.heap.size w w' := by
  obtain ⟨a1, c1, rfl, _⟩ := id h1
  obtain ⟨a2, c2, rfl, _⟩ := id h2
  have HT := Hid.mk (samP_two P Q)
  generalize samP P Q = r at *
  go_enter Try.func9, Try.ntmps9
  go_wp2_with (refine wl_boxWW rfl rfl rfl rfl isPk isPk (by rfl) (fun u => by rfl) ?_; intro g1 g2 u2 hg1 hg2 q1 q2 hB2; refine Hid.out ?_)
  refine Hid.mk ?_
  have hx1 := h1.kept hB2
  have hx2 := h2.kept hB2
  have s1 := pk_exts q1
  have s2 := pk_exts q2
  by_cases he : P.exts.length = Q.exts.length
  · have HR : Hid (exEq P.exts Q.exts = exEq (P.exts.drop 0) (Q.exts.drop 0)) := Hid.mk (by rw [List.drop_zero, List.drop_zero])
    have HE : Hid (exEq (P.exts.drop P.exts.length) (Q.exts.drop P.exts.length) = true) := Hid.mk (by rw [List.drop_length, he, List.drop_length]; rfl)
    rw [← he] at h2 hx2 q2 s2 ⊢
    obtain ⟨n, hnn⟩ : ∃ n, P.exts.length = n := ⟨_, rfl⟩
    have HN := Hid.mk hnn
    have HN2 := Hid.mk (he.symm.trans hnn)
    rw [hnn] at h1 h2 hx1 hx2 q1 q2 s1 s2 hn1 HE ⊢
    clear hnn he _hn2
    go_wp2_with (first | (refine wl_value rfl (exec_fpk 11 (by decide) rfl (by rfl)) ?_) | (refine wl_value rfl (exec_ld rfl (by rfl) (ldPx s1)) ?_) | (refine wl_value rfl (exec_ld rfl (by rfl) (ldPx s2)) ?_))
    go_loopg [5] n (fun gm s5 z => ∃ i : Nat, Hid (gm + i = n) ∧ s5 = .int .i64 (i : Int) ∧ Hid (exEq P.exts Q.exts = exEq (P.exts.drop i) (Q.exts.drop i)) ∧ Below u2.heap.size u2 z)
    case atStart => exact ⟨0, Hid.mk rfl, rfl, HR, Below.refl _ _⟩
    case round =>
      obtain ⟨i, HI, rfl, HRi, hBz⟩ := hrel
      have r1 := SAt.kept q1 hBz
      have r2 := SAt.kept q2 hBz
      have t1 := pk_exts r1
      have t2 := pk_exts r2
      by_cases hil : i < n
      · have hili : (i : Int) < (n : Int) := by omega
        obtain ⟨x1, hx1'⟩ := list_at (l := P.exts) (i := i) (by rw [HN.out]; exact hil)
        obtain ⟨x2, hx2'⟩ := list_at (l := Q.exts) (i := i) (by rw [HN2.out]; exact hil)
        have HS := Hid.mk (exEq_step hx1' hx2')
        obtain ⟨p1, rfl, k1, k1b⟩ := hx1.sl hBz hx1'
        obtain ⟨p2, rfl, k2, k2b⟩ := hx2.sl hBz hx2'
        have L1 := Hid.mk (World.block_lt_of_cell? _ _ k1)
        have M1 := Hid.mk (World.block_lt_of_cell? _ _ k1b)
        have L2 := Hid.mk (World.block_lt_of_cell? _ _ k2)
        have M2 := Hid.mk (World.block_lt_of_cell? _ _ k2b)
        have H1 := Hid.mk hil
        have H2 := Hid.mk hil
        go_upto_region 6 with (first | (refine wl_value rfl (exec_fpk 11 (by decide) rfl (by rfl)) ?_) | (refine wl_value rfl (exec_ld rfl (by rfl) (ldPx t1)) ?_))
        refine wp_region3 (Below wr.heap.size wr) wr.heap.size
            ([] : List (Nat × Cont))
            [kv (.pointer (some ⟨g1, 43, none⟩)), kv (.slice (some p1) n c1), kv (.int .i64 (i : Int)), kv (.pointer (some (p1.add (2 * i)))), kv (.agg (SC 2 (exV x1))), kv (.pointer (some ⟨g2, 43, none⟩)), kv (.slice (some p2) n c2), kv (.int .i64 (i : Int)), kv (.pointer (some (p2.add (2 * i)))), kv (.agg (SC 2 (exV x2))), kv (.bool (!eqEx x1 x2))]
            [.none, .none, .none, .none, .none, .none, .none, .none, .none, .none, .none]
            [some 22, some 23, some 24, some 25, some 26, some 27, some 28, some 29, some 30, some 31, some 32]
            [(2, .pointer (some ⟨g1, 0, none⟩)), (3, .pointer (some ⟨g2, 0, none⟩)), (5, .int .i64 (i : Int))]
            [[], [.slot 0], [], [.slot 1, .slot 2], [.slot 3], [], [.slot 5], [], [.slot 6, .slot 7], [.slot 8], [.slot 4, .slot 9]]
            [.slot 10] [22, 23, 24, 25, 26, 27, 28, 29, 30, 31, 32]
            rfl (by kernel_rfl) ⟨rfl, rfl, rfl, trivial⟩ ((Below.refl _ wr).drew) (Nat.le_refl _) trivial trivial (below_GcW (Nat.le_refl _))
            ⟨
            (fun QQ aa ww own hS hBg fr kn => .inl ⟨trivial, fun K hK => wp_value (exec_fpk 11 (by decide) rfl fr.1) (hK _ _ ⟨Touch.refl _ _, rfl⟩)⟩),
            (fun QQ aa ww own hS hBg fr kn => .inl ⟨trivial, fun K hK => wp_value (exec_ld rfl kn.1 (ldPx (pk_exts (SAt.kept r1 hS)))) (hK _ _ ⟨Touch.refl _ _, rfl⟩)⟩),
            (fun QQ aa ww own hS hBg fr kn => .inl ⟨trivial, fun K hK => wp_value (exec_move rfl fr.2.2.1) (hK _ _ ⟨Touch.refl _ _, rfl⟩)⟩),
            (fun QQ aa ww own hS hBg fr kn => .inl ⟨trivial, fun K hK => wp_value (exec_ixE (i := i) rfl kn.1 kn.2.1 H1.out) (hK _ _ ⟨Touch.refl _ _, rfl⟩)⟩),
            (fun QQ aa ww own hS hBg fr kn => .inl ⟨trivial, fun K hK => wp_value (exec_ld rfl kn.1 (ldEx ((hS.cell L1.out).trans k1) ((hS.cell M1.out).trans k1b))) (hK _ _ ⟨Touch.refl _ _, rfl⟩)⟩),
            (fun QQ aa ww own hS hBg fr kn => .inl ⟨trivial, fun K hK => wp_value (exec_fpk 11 (by decide) rfl fr.2.1) (hK _ _ ⟨Touch.refl _ _, rfl⟩)⟩),
            (fun QQ aa ww own hS hBg fr kn => .inl ⟨trivial, fun K hK => wp_value (exec_ld rfl kn.1 (ldPx (pk_exts (SAt.kept r2 hS)))) (hK _ _ ⟨Touch.refl _ _, rfl⟩)⟩),
            (fun QQ aa ww own hS hBg fr kn => .inl ⟨trivial, fun K hK => wp_value (exec_move rfl fr.2.2.1) (hK _ _ ⟨Touch.refl _ _, rfl⟩)⟩),
            (fun QQ aa ww own hS hBg fr kn => .inl ⟨trivial, fun K hK => wp_value (exec_ixE (i := i) rfl kn.1 kn.2.1 H2.out) (hK _ _ ⟨Touch.refl _ _, rfl⟩)⟩),
            (fun QQ aa ww own hS hBg fr kn => .inl ⟨trivial, fun K hK => wp_value (exec_ld rfl kn.1 (ldEx ((hS.cell L2.out).trans k2) ((hS.cell M2.out).trans k2b))) (hK _ _ ⟨Touch.refl _ _, rfl⟩)⟩),
            (fun QQ aa ww own hS hBg fr kn => .inl ⟨trivial, fun K hK => wp_value (exec_neEx rfl kn.1 kn.2.1) (hK _ _ ⟨Touch.refl _ _, rfl⟩)⟩),
            trivial⟩ ?_
        intro vs own z2 hB3 hsz kn inj
        have e32 : vs 32 = .bool (!eqEx x1 x2) := kn.1
        clear kn inj hsz
        simp only [putAll, Act.put, List.setIfInBounds_toArray, List.set_cons_zero, List.set_cons_succ, e32]
        clear e32
        have hBy := hBz.trans (hB3.mono hBz.size)
        cases hq : eqEx x1 x2
        · have hr : r = false := by rw [HT.out, HRi.out, HS.out, hq]; rfl
          go_wp2_with fail
          go_ret
          exact ⟨by rw [hr]; rfl, hB2.trans (hBy.mono hB2.size)⟩
        · have HR2 : Hid (exEq P.exts Q.exts = exEq (P.exts.drop (i + 1)) (Q.exts.drop (i + 1))) := Hid.mk (by rw [HRi.out, HS.out, hq]; rfl)
          go_wp2_with fail
          go_roundg (n - (i + 1))
          case rel => exact ⟨i + 1, Hid.mk (by omega), by go_num, HR2, hBy⟩
          case measure => have := HI.out; omega
      · have hi2 : i = n := by have := HI.out; omega
        subst hi2
        have HQ : Hid (r = ((((eqAF P.sv P.sb Q.sv Q.sb && eqAF P.dv P.db Q.dv Q.db && decide (P.proto = Q.proto) && decide (P.hop = Q.hop) && decide (P.cls = Q.cls) && decide (P.id = Q.id)) && (decide (P.off = Q.off) && (P.more == Q.more) && (P.still == Q.still) && decide (P.opts = Q.opts) && decide (P.flow = Q.flow))) && (P.cut == Q.cut) && decide (P.pay = Q.pay)))) := Hid.mk (by rw [HT.out, HRi.out, HE.out, Bool.true_and])
        go_upto_region 8 with (first | (refine wl_value rfl (exec_fpk 11 (by decide) rfl (by rfl)) ?_) | (refine wl_value rfl (exec_ld rfl (by rfl) (ldPx t1)) ?_))
        obtain ⟨v1, hv1⟩ : ∃ v1 : Value, .slice a1 i c1 = v1 := ⟨_, rfl⟩
        obtain ⟨v2, hv2⟩ : ∃ v2 : Value, .slice a2 i c2 = v2 := ⟨_, rfl⟩
        rw [hv1] at r1
        rw [hv2] at r2
        clear hv1 hv2
        have rr1 := r1
        have rr2 := r2
        refine wp_plain_steps (Below wr.heap.size wr) (fun v v' => Below v.heap.size v v') (fun j vv _ => vv = ((.pointer (some ⟨g1, 0, none⟩) :: .agg (SC 17 (adV P.sv P.sb)) :: .pointer (some ⟨g2, 0, none⟩) :: .agg (SC 17 (adV Q.sv Q.sb)) :: .bool (eqAF P.sv P.sb Q.sv Q.sb) :: .bool (eqAF P.sv P.sb Q.sv Q.sb) :: gv (eqAF P.sv P.sb Q.sv Q.sb) (.pointer (some ⟨g1, 17, none⟩)) :: gv (eqAF P.sv P.sb Q.sv Q.sb) (.agg (SC 17 (adV P.dv P.db))) :: gv (eqAF P.sv P.sb Q.sv Q.sb) (.pointer (some ⟨g2, 17, none⟩)) :: gv (eqAF P.sv P.sb Q.sv Q.sb) (.agg (SC 17 (adV Q.dv Q.db))) :: gv (eqAF P.sv P.sb Q.sv Q.sb) (.bool (eqAF P.dv P.db Q.dv Q.db)) :: .bool ((eqAF P.sv P.sb Q.sv Q.sb) && (eqAF P.dv P.db Q.dv Q.db)) :: .bool ((eqAF P.sv P.sb Q.sv Q.sb) && (eqAF P.dv P.db Q.dv Q.db)) :: gv ((eqAF P.sv P.sb Q.sv Q.sb) && (eqAF P.dv P.db Q.dv Q.db)) (.pointer (some ⟨g1, 34, none⟩)) :: gv ((eqAF P.sv P.sb Q.sv Q.sb) && (eqAF P.dv P.db Q.dv Q.db)) (.int .i64 P.proto) :: gv ((eqAF P.sv P.sb Q.sv Q.sb) && (eqAF P.dv P.db Q.dv Q.db)) (.pointer (some ⟨g2, 34, none⟩)) :: gv ((eqAF P.sv P.sb Q.sv Q.sb) && (eqAF P.dv P.db Q.dv Q.db)) (.int .i64 Q.proto) :: gv ((eqAF P.sv P.sb Q.sv Q.sb) && (eqAF P.dv P.db Q.dv Q.db)) (.bool (decide (P.proto = Q.proto))) :: .bool (((eqAF P.sv P.sb Q.sv Q.sb) && (eqAF P.dv P.db Q.dv Q.db)) && (decide (P.proto = Q.proto))) :: .bool (((eqAF P.sv P.sb Q.sv Q.sb) && (eqAF P.dv P.db Q.dv Q.db)) && (decide (P.proto = Q.proto))) :: gv (((eqAF P.sv P.sb Q.sv Q.sb) && (eqAF P.dv P.db Q.dv Q.db)) && (decide (P.proto = Q.proto))) (.pointer (some ⟨g1, 35, none⟩)) :: gv (((eqAF P.sv P.sb Q.sv Q.sb) && (eqAF P.dv P.db Q.dv Q.db)) && (decide (P.proto = Q.proto))) (.int .i64 P.hop) :: gv (((eqAF P.sv P.sb Q.sv Q.sb) && (eqAF P.dv P.db Q.dv Q.db)) && (decide (P.proto = Q.proto))) (.pointer (some ⟨g2, 35, none⟩)) :: gv (((eqAF P.sv P.sb Q.sv Q.sb) && (eqAF P.dv P.db Q.dv Q.db)) && (decide (P.proto = Q.proto))) (.int .i64 Q.hop) :: gv (((eqAF P.sv P.sb Q.sv Q.sb) && (eqAF P.dv P.db Q.dv Q.db)) && (decide (P.proto = Q.proto))) (.bool (decide (P.hop = Q.hop))) :: .bool ((((eqAF P.sv P.sb Q.sv Q.sb) && (eqAF P.dv P.db Q.dv Q.db)) && (decide (P.proto = Q.proto))) && (decide (P.hop = Q.hop))) :: .bool ((((eqAF P.sv P.sb Q.sv Q.sb) && (eqAF P.dv P.db Q.dv Q.db)) && (decide (P.proto = Q.proto))) && (decide (P.hop = Q.hop))) :: gv ((((eqAF P.sv P.sb Q.sv Q.sb) && (eqAF P.dv P.db Q.dv Q.db)) && (decide (P.proto = Q.proto))) && (decide (P.hop = Q.hop))) (.pointer (some ⟨g1, 36, none⟩)) :: gv ((((eqAF P.sv P.sb Q.sv Q.sb) && (eqAF P.dv P.db Q.dv Q.db)) && (decide (P.proto = Q.proto))) && (decide (P.hop = Q.hop))) (.int .i64 P.cls) :: gv ((((eqAF P.sv P.sb Q.sv Q.sb) && (eqAF P.dv P.db Q.dv Q.db)) && (decide (P.proto = Q.proto))) && (decide (P.hop = Q.hop))) (.pointer (some ⟨g2, 36, none⟩)) :: gv ((((eqAF P.sv P.sb Q.sv Q.sb) && (eqAF P.dv P.db Q.dv Q.db)) && (decide (P.proto = Q.proto))) && (decide (P.hop = Q.hop))) (.int .i64 Q.cls) :: gv ((((eqAF P.sv P.sb Q.sv Q.sb) && (eqAF P.dv P.db Q.dv Q.db)) && (decide (P.proto = Q.proto))) && (decide (P.hop = Q.hop))) (.bool (decide (P.cls = Q.cls))) :: .bool (((((eqAF P.sv P.sb Q.sv Q.sb) && (eqAF P.dv P.db Q.dv Q.db)) && (decide (P.proto = Q.proto))) && (decide (P.hop = Q.hop))) && (decide (P.cls = Q.cls))) :: .bool (((((eqAF P.sv P.sb Q.sv Q.sb) && (eqAF P.dv P.db Q.dv Q.db)) && (decide (P.proto = Q.proto))) && (decide (P.hop = Q.hop))) && (decide (P.cls = Q.cls))) :: gv (((((eqAF P.sv P.sb Q.sv Q.sb) && (eqAF P.dv P.db Q.dv Q.db)) && (decide (P.proto = Q.proto))) && (decide (P.hop = Q.hop))) && (decide (P.cls = Q.cls))) (.pointer (some ⟨g1, 37, none⟩)) :: gv (((((eqAF P.sv P.sb Q.sv Q.sb) && (eqAF P.dv P.db Q.dv Q.db)) && (decide (P.proto = Q.proto))) && (decide (P.hop = Q.hop))) && (decide (P.cls = Q.cls))) (.int .i64 P.id) :: gv (((((eqAF P.sv P.sb Q.sv Q.sb) && (eqAF P.dv P.db Q.dv Q.db)) && (decide (P.proto = Q.proto))) && (decide (P.hop = Q.hop))) && (decide (P.cls = Q.cls))) (.pointer (some ⟨g2, 37, none⟩)) :: gv (((((eqAF P.sv P.sb Q.sv Q.sb) && (eqAF P.dv P.db Q.dv Q.db)) && (decide (P.proto = Q.proto))) && (decide (P.hop = Q.hop))) && (decide (P.cls = Q.cls))) (.int .i64 Q.id) :: gv (((((eqAF P.sv P.sb Q.sv Q.sb) && (eqAF P.dv P.db Q.dv Q.db)) && (decide (P.proto = Q.proto))) && (decide (P.hop = Q.hop))) && (decide (P.cls = Q.cls))) (.bool (decide (P.id = Q.id))) :: .bool ((((((eqAF P.sv P.sb Q.sv Q.sb) && (eqAF P.dv P.db Q.dv Q.db)) && (decide (P.proto = Q.proto))) && (decide (P.hop = Q.hop))) && (decide (P.cls = Q.cls))) && (decide (P.id = Q.id))) :: .bool ((((((eqAF P.sv P.sb Q.sv Q.sb) && (eqAF P.dv P.db Q.dv Q.db)) && (decide (P.proto = Q.proto))) && (decide (P.hop = Q.hop))) && (decide (P.cls = Q.cls))) && (decide (P.id = Q.id))) :: []) : List Value).getD j undef)
            (33 :: 34 :: 35 :: 36 :: 37 :: 38 :: 39 :: 40 :: 41 :: 42 :: 43 :: 44 :: 45 :: 46 :: 47 :: 48 :: 49 :: 50 :: 51 :: 52 :: 53 :: 54 :: 55 :: 56 :: 57 :: 58 :: 59 :: 60 :: 61 :: 62 :: 63 :: 64 :: 65 :: 66 :: 67 :: 68 :: 69 :: 70 :: 71 :: 72 :: 6 :: [])
            [(2, .pointer (some ⟨g1, 0, none⟩)), (3, .pointer (some ⟨g2, 0, none⟩))] [] 0
            ([] :: [0] :: [] :: [2] :: [1, 3] :: [4] :: [5] :: [5, 6] :: [5] :: [5, 8] :: [5, 7, 9] :: [5, 10] :: [11] :: [12] :: [12, 13] :: [12] :: [12, 15] :: [12, 14, 16] :: [12, 17] :: [18] :: [19] :: [19, 20] :: [19] :: [19, 22] :: [19, 21, 23] :: [19, 24] :: [25] :: [26] :: [26, 27] :: [26] :: [26, 29] :: [26, 28, 30] :: [26, 31] :: [32] :: [33] :: [33, 34] :: [33] :: [33, 36] :: [33, 35, 37] :: [33, 38] :: [39] :: [])
            (by kernel_rfl) ⟨rfl, rfl, trivial⟩ trivial (Below.refl _ _) (fun v v' h hb => h.trans (hb.mono h.size)) (fun _ _ _ _ h _ => h)
            ⟨
            (fun QQ aa ww hS fr kn => sg0 rfl (fun K hK => wp_value (exec_fpk 0 (by decide) rfl fr.1) (hK _ _ rfl (Below.refl _ _)))),
            (fun QQ aa ww hS fr kn => sg0 rfl (fun K hK => wp_value (exec_ld rfl kn.1 (ld_src (SAt.kept r1 hS))) (hK _ _ rfl (Below.refl _ _)))),
            (fun QQ aa ww hS fr kn => sg0 rfl (fun K hK => wp_value (exec_fpk 0 (by decide) rfl fr.2.1) (hK _ _ rfl (Below.refl _ _)))),
            (fun QQ aa ww hS fr kn => sg0 rfl (fun K hK => wp_value (exec_ld rfl kn.1 (ld_src (SAt.kept r2 hS))) (hK _ _ rfl (Below.refl _ _)))),
            (fun QQ aa ww hS fr kn => sg0 rfl (fun K hK => wp_value (exec_eqA rfl kn.1 kn.2.1) (hK _ _ rfl (Below.refl _ _)))),
            (fun QQ aa ww hS fr kn => sg0 rfl (fun K hK => wp_value (exec_move rfl kn.1) (hK _ _ rfl (Below.refl _ _)))),
            (fun QQ aa ww hS fr kn => sgT rfl kn.1 (fun hc K hK => wp_value (exec_fpk 1 (by decide) rfl fr.1) (hK _ _ (gv_t hc).symm (Below.refl _ _))) (fun h0 => (gv_f h0).symm)),
            (fun QQ aa ww hS fr kn => sgT rfl kn.1 (fun hc K hK => wp_value (exec_ld rfl (kn.2.1.trans (gv_t hc)) (ld_dst (SAt.kept r1 hS))) (hK _ _ (gv_t hc).symm (Below.refl _ _))) (fun h0 => (gv_f h0).symm)),
            (fun QQ aa ww hS fr kn => sgT rfl kn.1 (fun hc K hK => wp_value (exec_fpk 1 (by decide) rfl fr.2.1) (hK _ _ (gv_t hc).symm (Below.refl _ _))) (fun h0 => (gv_f h0).symm)),
            (fun QQ aa ww hS fr kn => sgT rfl kn.1 (fun hc K hK => wp_value (exec_ld rfl (kn.2.1.trans (gv_t hc)) (ld_dst (SAt.kept r2 hS))) (hK _ _ (gv_t hc).symm (Below.refl _ _))) (fun h0 => (gv_f h0).symm)),
            (fun QQ aa ww hS fr kn => sgT rfl kn.1 (fun hc K hK => wp_value (exec_eqA rfl (kn.2.1.trans (gv_t hc)) (kn.2.2.1.trans (gv_t hc))) (hK _ _ (gv_t hc).symm (Below.refl _ _))) (fun h0 => (gv_f h0).symm)),
            (fun QQ aa ww hS fr kn => sg0 rfl (fun K hK => wp_value (exec_pickAnd rfl kn.1 (fun hx => kn.2.1.trans (gv_t hx)) rfl) (hK _ _ rfl (Below.refl _ _)))),
            (fun QQ aa ww hS fr kn => sg0 rfl (fun K hK => wp_value (exec_move rfl kn.1) (hK _ _ rfl (Below.refl _ _)))),
            (fun QQ aa ww hS fr kn => sgT rfl kn.1 (fun hc K hK => wp_value (exec_fpk 2 (by decide) rfl fr.1) (hK _ _ (gv_t hc).symm (Below.refl _ _))) (fun h0 => (gv_f h0).symm)),
            (fun QQ aa ww hS fr kn => sgT rfl kn.1 (fun hc K hK => wp_value (exec_ld rfl (kn.2.1.trans (gv_t hc)) (ldP (pk_proto (SAt.kept r1 hS)))) (hK _ _ (gv_t hc).symm (Below.refl _ _))) (fun h0 => (gv_f h0).symm)),
            (fun QQ aa ww hS fr kn => sgT rfl kn.1 (fun hc K hK => wp_value (exec_fpk 2 (by decide) rfl fr.2.1) (hK _ _ (gv_t hc).symm (Below.refl _ _))) (fun h0 => (gv_f h0).symm)),
            (fun QQ aa ww hS fr kn => sgT rfl kn.1 (fun hc K hK => wp_value (exec_ld rfl (kn.2.1.trans (gv_t hc)) (ldP (pk_proto (SAt.kept r2 hS)))) (hK _ _ (gv_t hc).symm (Below.refl _ _))) (fun h0 => (gv_f h0).symm)),
            (fun QQ aa ww hS fr kn => sgT rfl kn.1 (fun hc K hK => wp_value (cmp_eq (m := P.proto) (n := Q.proto) rfl (kn.2.1.trans (gv_t hc)) (kn.2.2.1.trans (gv_t hc))) (hK _ _ (gv_t hc).symm (Below.refl _ _))) (fun h0 => (gv_f h0).symm)),
            (fun QQ aa ww hS fr kn => sg0 rfl (fun K hK => wp_value (exec_pickAnd rfl kn.1 (fun hx => kn.2.1.trans (gv_t hx)) rfl) (hK _ _ rfl (Below.refl _ _)))),
            (fun QQ aa ww hS fr kn => sg0 rfl (fun K hK => wp_value (exec_move rfl kn.1) (hK _ _ rfl (Below.refl _ _)))),
            (fun QQ aa ww hS fr kn => sgT rfl kn.1 (fun hc K hK => wp_value (exec_fpk 3 (by decide) rfl fr.1) (hK _ _ (gv_t hc).symm (Below.refl _ _))) (fun h0 => (gv_f h0).symm)),
            (fun QQ aa ww hS fr kn => sgT rfl kn.1 (fun hc K hK => wp_value (exec_ld rfl (kn.2.1.trans (gv_t hc)) (ldP (pk_hop (SAt.kept r1 hS)))) (hK _ _ (gv_t hc).symm (Below.refl _ _))) (fun h0 => (gv_f h0).symm)),
            (fun QQ aa ww hS fr kn => sgT rfl kn.1 (fun hc K hK => wp_value (exec_fpk 3 (by decide) rfl fr.2.1) (hK _ _ (gv_t hc).symm (Below.refl _ _))) (fun h0 => (gv_f h0).symm)),
            (fun QQ aa ww hS fr kn => sgT rfl kn.1 (fun hc K hK => wp_value (exec_ld rfl (kn.2.1.trans (gv_t hc)) (ldP (pk_hop (SAt.kept r2 hS)))) (hK _ _ (gv_t hc).symm (Below.refl _ _))) (fun h0 => (gv_f h0).symm)),
            (fun QQ aa ww hS fr kn => sgT rfl kn.1 (fun hc K hK => wp_value (cmp_eq (m := P.hop) (n := Q.hop) rfl (kn.2.1.trans (gv_t hc)) (kn.2.2.1.trans (gv_t hc))) (hK _ _ (gv_t hc).symm (Below.refl _ _))) (fun h0 => (gv_f h0).symm)),
            (fun QQ aa ww hS fr kn => sg0 rfl (fun K hK => wp_value (exec_pickAnd rfl kn.1 (fun hx => kn.2.1.trans (gv_t hx)) rfl) (hK _ _ rfl (Below.refl _ _)))),
            (fun QQ aa ww hS fr kn => sg0 rfl (fun K hK => wp_value (exec_move rfl kn.1) (hK _ _ rfl (Below.refl _ _)))),
            (fun QQ aa ww hS fr kn => sgT rfl kn.1 (fun hc K hK => wp_value (exec_fpk 4 (by decide) rfl fr.1) (hK _ _ (gv_t hc).symm (Below.refl _ _))) (fun h0 => (gv_f h0).symm)),
            (fun QQ aa ww hS fr kn => sgT rfl kn.1 (fun hc K hK => wp_value (exec_ld rfl (kn.2.1.trans (gv_t hc)) (ldP (pk_cls (SAt.kept r1 hS)))) (hK _ _ (gv_t hc).symm (Below.refl _ _))) (fun h0 => (gv_f h0).symm)),
            (fun QQ aa ww hS fr kn => sgT rfl kn.1 (fun hc K hK => wp_value (exec_fpk 4 (by decide) rfl fr.2.1) (hK _ _ (gv_t hc).symm (Below.refl _ _))) (fun h0 => (gv_f h0).symm)),
            (fun QQ aa ww hS fr kn => sgT rfl kn.1 (fun hc K hK => wp_value (exec_ld rfl (kn.2.1.trans (gv_t hc)) (ldP (pk_cls (SAt.kept r2 hS)))) (hK _ _ (gv_t hc).symm (Below.refl _ _))) (fun h0 => (gv_f h0).symm)),
            (fun QQ aa ww hS fr kn => sgT rfl kn.1 (fun hc K hK => wp_value (cmp_eq (m := P.cls) (n := Q.cls) rfl (kn.2.1.trans (gv_t hc)) (kn.2.2.1.trans (gv_t hc))) (hK _ _ (gv_t hc).symm (Below.refl _ _))) (fun h0 => (gv_f h0).symm)),
            (fun QQ aa ww hS fr kn => sg0 rfl (fun K hK => wp_value (exec_pickAnd rfl kn.1 (fun hx => kn.2.1.trans (gv_t hx)) rfl) (hK _ _ rfl (Below.refl _ _)))),
            (fun QQ aa ww hS fr kn => sg0 rfl (fun K hK => wp_value (exec_move rfl kn.1) (hK _ _ rfl (Below.refl _ _)))),
            (fun QQ aa ww hS fr kn => sgT rfl kn.1 (fun hc K hK => wp_value (exec_fpk 5 (by decide) rfl fr.1) (hK _ _ (gv_t hc).symm (Below.refl _ _))) (fun h0 => (gv_f h0).symm)),
            (fun QQ aa ww hS fr kn => sgT rfl kn.1 (fun hc K hK => wp_value (exec_ld rfl (kn.2.1.trans (gv_t hc)) (ldP (pk_id (SAt.kept r1 hS)))) (hK _ _ (gv_t hc).symm (Below.refl _ _))) (fun h0 => (gv_f h0).symm)),
            (fun QQ aa ww hS fr kn => sgT rfl kn.1 (fun hc K hK => wp_value (exec_fpk 5 (by decide) rfl fr.2.1) (hK _ _ (gv_t hc).symm (Below.refl _ _))) (fun h0 => (gv_f h0).symm)),
            (fun QQ aa ww hS fr kn => sgT rfl kn.1 (fun hc K hK => wp_value (exec_ld rfl (kn.2.1.trans (gv_t hc)) (ldP (pk_id (SAt.kept r2 hS)))) (hK _ _ (gv_t hc).symm (Below.refl _ _))) (fun h0 => (gv_f h0).symm)),
            (fun QQ aa ww hS fr kn => sgT rfl kn.1 (fun hc K hK => wp_value (cmp_eq (m := P.id) (n := Q.id) rfl (kn.2.1.trans (gv_t hc)) (kn.2.2.1.trans (gv_t hc))) (hK _ _ (gv_t hc).symm (Below.refl _ _))) (fun h0 => (gv_f h0).symm)),
            (fun QQ aa ww hS fr kn => sg0 rfl (fun K hK => wp_value (exec_pickAnd rfl kn.1 (fun hx => kn.2.1.trans (gv_t hx)) rfl) (hK _ _ rfl (Below.refl _ _)))),
            (fun QQ aa ww hS fr kn => sg0 rfl (fun K hK => wp_value (exec_assign rfl kn.1) (hK _ _ rfl (Below.refl _ _)))),
            trivial⟩ ?_
        intro vs z2 hB3 kn
        have e6 : vs 6 = .bool ((((((eqAF P.sv P.sb Q.sv Q.sb) && (eqAF P.dv P.db Q.dv Q.db)) && (decide (P.proto = Q.proto))) && (decide (P.hop = Q.hop))) && (decide (P.cls = Q.cls))) && (decide (P.id = Q.id))) := kn 40 (by decide)
        clear kn
        simp only [putAll, Act.put, List.setIfInBounds_toArray, List.set_cons_zero, List.set_cons_succ, e6]
        clear e6
        replace r1 := SAt.kept rr1 hB3
        replace r2 := SAt.kept rr2 hB3
        obtain ⟨X, hX⟩ : ∃ X, (eqAF P.sv P.sb Q.sv Q.sb && eqAF P.dv P.db Q.dv Q.db && decide (P.proto = Q.proto) && decide (P.hop = Q.hop) && decide (P.cls = Q.cls) && decide (P.id = Q.id)) = X := ⟨_, rfl⟩
        rw [hX] at HQ ⊢
        go_upto_region 9 with fail
        refine wp_plain_steps (Below z2.heap.size z2) (fun v v' => Below v.heap.size v v') (fun j vv _ => vv = ((.pointer (some ⟨g1, 38, none⟩) :: .int .i64 P.off :: .pointer (some ⟨g2, 38, none⟩) :: .int .i64 Q.off :: .bool (decide (P.off = Q.off)) :: .bool (decide (P.off = Q.off)) :: gv (decide (P.off = Q.off)) (.pointer (some ⟨g1, 39, none⟩)) :: gv (decide (P.off = Q.off)) (.bool P.more) :: gv (decide (P.off = Q.off)) (.pointer (some ⟨g2, 39, none⟩)) :: gv (decide (P.off = Q.off)) (.bool Q.more) :: gv (decide (P.off = Q.off)) (.bool (P.more == Q.more)) :: .bool ((decide (P.off = Q.off)) && (P.more == Q.more)) :: .bool ((decide (P.off = Q.off)) && (P.more == Q.more)) :: gv ((decide (P.off = Q.off)) && (P.more == Q.more)) (.pointer (some ⟨g1, 40, none⟩)) :: gv ((decide (P.off = Q.off)) && (P.more == Q.more)) (.bool P.still) :: gv ((decide (P.off = Q.off)) && (P.more == Q.more)) (.pointer (some ⟨g2, 40, none⟩)) :: gv ((decide (P.off = Q.off)) && (P.more == Q.more)) (.bool Q.still) :: gv ((decide (P.off = Q.off)) && (P.more == Q.more)) (.bool (P.still == Q.still)) :: .bool (((decide (P.off = Q.off)) && (P.more == Q.more)) && (P.still == Q.still)) :: .bool (((decide (P.off = Q.off)) && (P.more == Q.more)) && (P.still == Q.still)) :: gv (((decide (P.off = Q.off)) && (P.more == Q.more)) && (P.still == Q.still)) (.pointer (some ⟨g1, 41, none⟩)) :: gv (((decide (P.off = Q.off)) && (P.more == Q.more)) && (P.still == Q.still)) (.string P.opts) :: gv (((decide (P.off = Q.off)) && (P.more == Q.more)) && (P.still == Q.still)) (.pointer (some ⟨g2, 41, none⟩)) :: gv (((decide (P.off = Q.off)) && (P.more == Q.more)) && (P.still == Q.still)) (.string Q.opts) :: gv (((decide (P.off = Q.off)) && (P.more == Q.more)) && (P.still == Q.still)) (.bool (decide (P.opts = Q.opts))) :: .bool ((((decide (P.off = Q.off)) && (P.more == Q.more)) && (P.still == Q.still)) && (decide (P.opts = Q.opts))) :: .bool ((((decide (P.off = Q.off)) && (P.more == Q.more)) && (P.still == Q.still)) && (decide (P.opts = Q.opts))) :: gv ((((decide (P.off = Q.off)) && (P.more == Q.more)) && (P.still == Q.still)) && (decide (P.opts = Q.opts))) (.pointer (some ⟨g1, 42, none⟩)) :: gv ((((decide (P.off = Q.off)) && (P.more == Q.more)) && (P.still == Q.still)) && (decide (P.opts = Q.opts))) (.int .i64 P.flow) :: gv ((((decide (P.off = Q.off)) && (P.more == Q.more)) && (P.still == Q.still)) && (decide (P.opts = Q.opts))) (.pointer (some ⟨g2, 42, none⟩)) :: gv ((((decide (P.off = Q.off)) && (P.more == Q.more)) && (P.still == Q.still)) && (decide (P.opts = Q.opts))) (.int .i64 Q.flow) :: gv ((((decide (P.off = Q.off)) && (P.more == Q.more)) && (P.still == Q.still)) && (decide (P.opts = Q.opts))) (.bool (decide (P.flow = Q.flow))) :: .bool (((((decide (P.off = Q.off)) && (P.more == Q.more)) && (P.still == Q.still)) && (decide (P.opts = Q.opts))) && (decide (P.flow = Q.flow))) :: .bool (((((decide (P.off = Q.off)) && (P.more == Q.more)) && (P.still == Q.still)) && (decide (P.opts = Q.opts))) && (decide (P.flow = Q.flow))) :: []) : List Value).getD j undef)
            (73 :: 74 :: 75 :: 76 :: 77 :: 78 :: 79 :: 80 :: 81 :: 82 :: 83 :: 84 :: 85 :: 86 :: 87 :: 88 :: 89 :: 90 :: 91 :: 92 :: 93 :: 94 :: 95 :: 96 :: 97 :: 98 :: 99 :: 100 :: 101 :: 102 :: 103 :: 104 :: 105 :: 7 :: [])
            [(2, .pointer (some ⟨g1, 0, none⟩)), (3, .pointer (some ⟨g2, 0, none⟩))] [] 0
            ([] :: [0] :: [] :: [2] :: [1, 3] :: [4] :: [5] :: [5, 6] :: [5] :: [5, 8] :: [5, 7, 9] :: [5, 10] :: [11] :: [12] :: [12, 13] :: [12] :: [12, 15] :: [12, 14, 16] :: [12, 17] :: [18] :: [19] :: [19, 20] :: [19] :: [19, 22] :: [19, 21, 23] :: [19, 24] :: [25] :: [26] :: [26, 27] :: [26] :: [26, 29] :: [26, 28, 30] :: [26, 31] :: [32] :: [])
            (by kernel_rfl) ⟨rfl, rfl, trivial⟩ trivial (Below.refl _ _) (fun v v' h hb => h.trans (hb.mono h.size)) (fun _ _ _ _ h _ => h)
            ⟨
            (fun QQ aa ww hS fr kn => sg0 rfl (fun K hK => wp_value (exec_fpk 6 (by decide) rfl fr.1) (hK _ _ rfl (Below.refl _ _)))),
            (fun QQ aa ww hS fr kn => sg0 rfl (fun K hK => wp_value (exec_ld rfl kn.1 (ldP (pk_off (SAt.kept r1 hS)))) (hK _ _ rfl (Below.refl _ _)))),
            (fun QQ aa ww hS fr kn => sg0 rfl (fun K hK => wp_value (exec_fpk 6 (by decide) rfl fr.2.1) (hK _ _ rfl (Below.refl _ _)))),
            (fun QQ aa ww hS fr kn => sg0 rfl (fun K hK => wp_value (exec_ld rfl kn.1 (ldP (pk_off (SAt.kept r2 hS)))) (hK _ _ rfl (Below.refl _ _)))),
            (fun QQ aa ww hS fr kn => sg0 rfl (fun K hK => wp_value (cmp_eq (m := P.off) (n := Q.off) rfl kn.1 kn.2.1) (hK _ _ rfl (Below.refl _ _)))),
            (fun QQ aa ww hS fr kn => sg0 rfl (fun K hK => wp_value (exec_move rfl kn.1) (hK _ _ rfl (Below.refl _ _)))),
            (fun QQ aa ww hS fr kn => sgT rfl kn.1 (fun hc K hK => wp_value (exec_fpk 7 (by decide) rfl fr.1) (hK _ _ (gv_t hc).symm (Below.refl _ _))) (fun h0 => (gv_f h0).symm)),
            (fun QQ aa ww hS fr kn => sgT rfl kn.1 (fun hc K hK => wp_value (exec_ld rfl (kn.2.1.trans (gv_t hc)) (ldPb (pk_more (SAt.kept r1 hS)))) (hK _ _ (gv_t hc).symm (Below.refl _ _))) (fun h0 => (gv_f h0).symm)),
            (fun QQ aa ww hS fr kn => sgT rfl kn.1 (fun hc K hK => wp_value (exec_fpk 7 (by decide) rfl fr.2.1) (hK _ _ (gv_t hc).symm (Below.refl _ _))) (fun h0 => (gv_f h0).symm)),
            (fun QQ aa ww hS fr kn => sgT rfl kn.1 (fun hc K hK => wp_value (exec_ld rfl (kn.2.1.trans (gv_t hc)) (ldPb (pk_more (SAt.kept r2 hS)))) (hK _ _ (gv_t hc).symm (Below.refl _ _))) (fun h0 => (gv_f h0).symm)),
            (fun QQ aa ww hS fr kn => sgT rfl kn.1 (fun hc K hK => wp_value (cmp_eqB rfl (kn.2.1.trans (gv_t hc)) (kn.2.2.1.trans (gv_t hc))) (hK _ _ (gv_t hc).symm (Below.refl _ _))) (fun h0 => (gv_f h0).symm)),
            (fun QQ aa ww hS fr kn => sg0 rfl (fun K hK => wp_value (exec_pickAnd rfl kn.1 (fun hx => kn.2.1.trans (gv_t hx)) rfl) (hK _ _ rfl (Below.refl _ _)))),
            (fun QQ aa ww hS fr kn => sg0 rfl (fun K hK => wp_value (exec_move rfl kn.1) (hK _ _ rfl (Below.refl _ _)))),
            (fun QQ aa ww hS fr kn => sgT rfl kn.1 (fun hc K hK => wp_value (exec_fpk 8 (by decide) rfl fr.1) (hK _ _ (gv_t hc).symm (Below.refl _ _))) (fun h0 => (gv_f h0).symm)),
            (fun QQ aa ww hS fr kn => sgT rfl kn.1 (fun hc K hK => wp_value (exec_ld rfl (kn.2.1.trans (gv_t hc)) (ldPb (pk_still (SAt.kept r1 hS)))) (hK _ _ (gv_t hc).symm (Below.refl _ _))) (fun h0 => (gv_f h0).symm)),
            (fun QQ aa ww hS fr kn => sgT rfl kn.1 (fun hc K hK => wp_value (exec_fpk 8 (by decide) rfl fr.2.1) (hK _ _ (gv_t hc).symm (Below.refl _ _))) (fun h0 => (gv_f h0).symm)),
            (fun QQ aa ww hS fr kn => sgT rfl kn.1 (fun hc K hK => wp_value (exec_ld rfl (kn.2.1.trans (gv_t hc)) (ldPb (pk_still (SAt.kept r2 hS)))) (hK _ _ (gv_t hc).symm (Below.refl _ _))) (fun h0 => (gv_f h0).symm)),
            (fun QQ aa ww hS fr kn => sgT rfl kn.1 (fun hc K hK => wp_value (cmp_eqB rfl (kn.2.1.trans (gv_t hc)) (kn.2.2.1.trans (gv_t hc))) (hK _ _ (gv_t hc).symm (Below.refl _ _))) (fun h0 => (gv_f h0).symm)),
            (fun QQ aa ww hS fr kn => sg0 rfl (fun K hK => wp_value (exec_pickAnd rfl kn.1 (fun hx => kn.2.1.trans (gv_t hx)) rfl) (hK _ _ rfl (Below.refl _ _)))),
            (fun QQ aa ww hS fr kn => sg0 rfl (fun K hK => wp_value (exec_move rfl kn.1) (hK _ _ rfl (Below.refl _ _)))),
            (fun QQ aa ww hS fr kn => sgT rfl kn.1 (fun hc K hK => wp_value (exec_fpk 9 (by decide) rfl fr.1) (hK _ _ (gv_t hc).symm (Below.refl _ _))) (fun h0 => (gv_f h0).symm)),
            (fun QQ aa ww hS fr kn => sgT rfl kn.1 (fun hc K hK => wp_value (exec_ld rfl (kn.2.1.trans (gv_t hc)) (ldPs (pk_opts (SAt.kept r1 hS)))) (hK _ _ (gv_t hc).symm (Below.refl _ _))) (fun h0 => (gv_f h0).symm)),
            (fun QQ aa ww hS fr kn => sgT rfl kn.1 (fun hc K hK => wp_value (exec_fpk 9 (by decide) rfl fr.2.1) (hK _ _ (gv_t hc).symm (Below.refl _ _))) (fun h0 => (gv_f h0).symm)),
            (fun QQ aa ww hS fr kn => sgT rfl kn.1 (fun hc K hK => wp_value (exec_ld rfl (kn.2.1.trans (gv_t hc)) (ldPs (pk_opts (SAt.kept r2 hS)))) (hK _ _ (gv_t hc).symm (Below.refl _ _))) (fun h0 => (gv_f h0).symm)),
            (fun QQ aa ww hS fr kn => sgT rfl kn.1 (fun hc K hK => wp_value (exec_eqSd (s := P.opts) (t := Q.opts) rfl (kn.2.1.trans (gv_t hc)) (kn.2.2.1.trans (gv_t hc))) (hK _ _ (gv_t hc).symm (Below.refl _ _))) (fun h0 => (gv_f h0).symm)),
            (fun QQ aa ww hS fr kn => sg0 rfl (fun K hK => wp_value (exec_pickAnd rfl kn.1 (fun hx => kn.2.1.trans (gv_t hx)) rfl) (hK _ _ rfl (Below.refl _ _)))),
            (fun QQ aa ww hS fr kn => sg0 rfl (fun K hK => wp_value (exec_move rfl kn.1) (hK _ _ rfl (Below.refl _ _)))),
            (fun QQ aa ww hS fr kn => sgT rfl kn.1 (fun hc K hK => wp_value (exec_fpk 10 (by decide) rfl fr.1) (hK _ _ (gv_t hc).symm (Below.refl _ _))) (fun h0 => (gv_f h0).symm)),
            (fun QQ aa ww hS fr kn => sgT rfl kn.1 (fun hc K hK => wp_value (exec_ld rfl (kn.2.1.trans (gv_t hc)) (ldP (pk_flow (SAt.kept r1 hS)))) (hK _ _ (gv_t hc).symm (Below.refl _ _))) (fun h0 => (gv_f h0).symm)),
            (fun QQ aa ww hS fr kn => sgT rfl kn.1 (fun hc K hK => wp_value (exec_fpk 10 (by decide) rfl fr.2.1) (hK _ _ (gv_t hc).symm (Below.refl _ _))) (fun h0 => (gv_f h0).symm)),
            (fun QQ aa ww hS fr kn => sgT rfl kn.1 (fun hc K hK => wp_value (exec_ld rfl (kn.2.1.trans (gv_t hc)) (ldP (pk_flow (SAt.kept r2 hS)))) (hK _ _ (gv_t hc).symm (Below.refl _ _))) (fun h0 => (gv_f h0).symm)),
            (fun QQ aa ww hS fr kn => sgT rfl kn.1 (fun hc K hK => wp_value (cmp_eq (m := P.flow) (n := Q.flow) rfl (kn.2.1.trans (gv_t hc)) (kn.2.2.1.trans (gv_t hc))) (hK _ _ (gv_t hc).symm (Below.refl _ _))) (fun h0 => (gv_f h0).symm)),
            (fun QQ aa ww hS fr kn => sg0 rfl (fun K hK => wp_value (exec_pickAnd rfl kn.1 (fun hx => kn.2.1.trans (gv_t hx)) rfl) (hK _ _ rfl (Below.refl _ _)))),
            (fun QQ aa ww hS fr kn => sg0 rfl (fun K hK => wp_value (exec_assign rfl kn.1) (hK _ _ rfl (Below.refl _ _)))),
            trivial⟩ ?_
        intro vs z3 hB4 kn
        have e7 : vs 7 = .bool (((((decide (P.off = Q.off)) && (P.more == Q.more)) && (P.still == Q.still)) && (decide (P.opts = Q.opts))) && (decide (P.flow = Q.flow))) := kn 33 (by decide)
        clear kn
        simp only [putAll, Act.put, List.setIfInBounds_toArray, List.set_cons_zero, List.set_cons_succ, e7]
        clear e7
        replace r1 := SAt.kept r1 hB4
        replace r2 := SAt.kept r2 hB4
        obtain ⟨Y, hY⟩ : ∃ Y, (decide (P.off = Q.off) && (P.more == Q.more) && (P.still == Q.still) && decide (P.opts = Q.opts) && decide (P.flow = Q.flow)) = Y := ⟨_, rfl⟩
        rw [hY] at HQ ⊢
        go_upto_region 10 with fail
        refine wp_plain_steps (Below z3.heap.size z3) (fun v v' => Below v.heap.size v v') (fun j vv _ => vv = ([.bool X, .bool X, gv X (.bool Y), .bool (X && Y), .bool (X && Y), gv (X && Y) (.pointer (some ⟨g1, 44, none⟩)), gv (X && Y) (.bool P.cut), gv (X && Y) (.pointer (some ⟨g2, 44, none⟩)), gv (X && Y) (.bool Q.cut), gv (X && Y) (.bool (P.cut == Q.cut)), .bool ((X && Y) && (P.cut == Q.cut)), .bool ((X && Y) && (P.cut == Q.cut)), gv ((X && Y) && (P.cut == Q.cut)) (.pointer (some ⟨g1, 45, none⟩)), gv ((X && Y) && (P.cut == Q.cut)) (.string P.pay), gv ((X && Y) && (P.cut == Q.cut)) (.pointer (some ⟨g2, 45, none⟩)), gv ((X && Y) && (P.cut == Q.cut)) (.string Q.pay), gv ((X && Y) && (P.cut == Q.cut)) (.bool (decide (P.pay = Q.pay))), .bool (((X && Y) && (P.cut == Q.cut)) && (decide (P.pay = Q.pay))), .bool (((X && Y) && (P.cut == Q.cut)) && (decide (P.pay = Q.pay)))] : List Value).getD j undef)
            [106, 107, 108, 109, 110, 111, 112, 113, 114, 115, 116, 117, 118, 119, 120, 121, 122, 123, 4]
            [(6, .bool X), (7, .bool Y), (2, .pointer (some ⟨g1, 0, none⟩)), (3, .pointer (some ⟨g2, 0, none⟩))] [] 0
            [[], [0], [1], [1, 2], [3], [4], [4, 5], [4], [4, 7], [4, 6, 8], [4, 9], [10], [11], [11, 12], [11], [11, 14], [11, 13, 15], [11, 16], [17]]
            (by kernel_rfl) ⟨rfl, rfl, rfl, rfl, trivial⟩ trivial (Below.refl _ _) (fun v v' h hb => h.trans (hb.mono h.size)) (fun _ _ _ _ h _ => h)
            ⟨
            (fun QQ aa ww hS fr kn => sg0 rfl (fun K hK => wp_value (exec_move rfl fr.1) (hK _ _ rfl (Below.refl _ _)))),
            (fun QQ aa ww hS fr kn => sg0 rfl (fun K hK => wp_value (exec_move rfl kn.1) (hK _ _ rfl (Below.refl _ _)))),
            (fun QQ aa ww hS fr kn => sgT rfl kn.1 (fun hc K hK => wp_value (exec_move rfl fr.2.1) (hK _ _ (gv_t hc).symm (Below.refl _ _))) (fun h0 => (gv_f h0).symm)),
            (fun QQ aa ww hS fr kn => sg0 rfl (fun K hK => wp_value (exec_pickAnd rfl kn.1 (fun hx => kn.2.1.trans (gv_t hx)) rfl) (hK _ _ rfl (Below.refl _ _)))),
            (fun QQ aa ww hS fr kn => sg0 rfl (fun K hK => wp_value (exec_move rfl kn.1) (hK _ _ rfl (Below.refl _ _)))),
            (fun QQ aa ww hS fr kn => sgT rfl kn.1 (fun hc K hK => wp_value (exec_fpk 12 (by decide) rfl fr.2.2.1) (hK _ _ (gv_t hc).symm (Below.refl _ _))) (fun h0 => (gv_f h0).symm)),
            (fun QQ aa ww hS fr kn => sgT rfl kn.1 (fun hc K hK => wp_value (exec_ld rfl (kn.2.1.trans (gv_t hc)) (ldPb (pk_cut (SAt.kept r1 hS)))) (hK _ _ (gv_t hc).symm (Below.refl _ _))) (fun h0 => (gv_f h0).symm)),
            (fun QQ aa ww hS fr kn => sgT rfl kn.1 (fun hc K hK => wp_value (exec_fpk 12 (by decide) rfl fr.2.2.2.1) (hK _ _ (gv_t hc).symm (Below.refl _ _))) (fun h0 => (gv_f h0).symm)),
            (fun QQ aa ww hS fr kn => sgT rfl kn.1 (fun hc K hK => wp_value (exec_ld rfl (kn.2.1.trans (gv_t hc)) (ldPb (pk_cut (SAt.kept r2 hS)))) (hK _ _ (gv_t hc).symm (Below.refl _ _))) (fun h0 => (gv_f h0).symm)),
            (fun QQ aa ww hS fr kn => sgT rfl kn.1 (fun hc K hK => wp_value (cmp_eqB rfl (kn.2.1.trans (gv_t hc)) (kn.2.2.1.trans (gv_t hc))) (hK _ _ (gv_t hc).symm (Below.refl _ _))) (fun h0 => (gv_f h0).symm)),
            (fun QQ aa ww hS fr kn => sg0 rfl (fun K hK => wp_value (exec_pickAnd rfl kn.1 (fun hx => kn.2.1.trans (gv_t hx)) rfl) (hK _ _ rfl (Below.refl _ _)))),
            (fun QQ aa ww hS fr kn => sg0 rfl (fun K hK => wp_value (exec_move rfl kn.1) (hK _ _ rfl (Below.refl _ _)))),
            (fun QQ aa ww hS fr kn => sgT rfl kn.1 (fun hc K hK => wp_value (exec_fpk 13 (by decide) rfl fr.2.2.1) (hK _ _ (gv_t hc).symm (Below.refl _ _))) (fun h0 => (gv_f h0).symm)),
            (fun QQ aa ww hS fr kn => sgT rfl kn.1 (fun hc K hK => wp_value (exec_ld rfl (kn.2.1.trans (gv_t hc)) (ldPs (pk_pay (SAt.kept r1 hS)))) (hK _ _ (gv_t hc).symm (Below.refl _ _))) (fun h0 => (gv_f h0).symm)),
            (fun QQ aa ww hS fr kn => sgT rfl kn.1 (fun hc K hK => wp_value (exec_fpk 13 (by decide) rfl fr.2.2.2.1) (hK _ _ (gv_t hc).symm (Below.refl _ _))) (fun h0 => (gv_f h0).symm)),
            (fun QQ aa ww hS fr kn => sgT rfl kn.1 (fun hc K hK => wp_value (exec_ld rfl (kn.2.1.trans (gv_t hc)) (ldPs (pk_pay (SAt.kept r2 hS)))) (hK _ _ (gv_t hc).symm (Below.refl _ _))) (fun h0 => (gv_f h0).symm)),
            (fun QQ aa ww hS fr kn => sgT rfl kn.1 (fun hc K hK => wp_value (exec_eqSd (s := P.pay) (t := Q.pay) rfl (kn.2.1.trans (gv_t hc)) (kn.2.2.1.trans (gv_t hc))) (hK _ _ (gv_t hc).symm (Below.refl _ _))) (fun h0 => (gv_f h0).symm)),
            (fun QQ aa ww hS fr kn => sg0 rfl (fun K hK => wp_value (exec_pickAnd rfl kn.1 (fun hx => kn.2.1.trans (gv_t hx)) rfl) (hK _ _ rfl (Below.refl _ _)))),
            (fun QQ aa ww hS fr kn => sg0 rfl (fun K hK => wp_value (exec_assign rfl kn.1) (hK _ _ rfl (Below.refl _ _)))),
            trivial⟩ ?_
        intro vs z4 hB5 kn
        have e4 : vs 4 = .bool (((X && Y) && (P.cut == Q.cut)) && (decide (P.pay = Q.pay))) := kn 18 (by decide)
        clear kn
        simp only [putAll, Act.put, List.setIfInBounds_toArray, List.set_cons_zero, List.set_cons_succ, e4]
        clear e4
        go_wp2_with fail
        go_ret
        have hBy := hBz.trans (hB3.mono hBz.size)
        have hBx := hBy.trans (hB4.mono hBy.size)
        have hBw := hBx.trans (hB5.mono hBx.size)
        exact ⟨by rw [HQ.out]; rfl, hB2.trans (hBw.mono hB2.size)⟩
  · have hr : r = false := by rw [HT.out, exEq_len he]; rfl
    have hei : ¬ (P.exts.length : Int) = (Q.exts.length : Int) := by omega
    go_wp2_with (first | (refine wl_value rfl (exec_fpk 11 (by decide) rfl (by rfl)) ?_) | (refine wl_value rfl (exec_ld rfl (by rfl) (ldPx s1)) ?_) | (refine wl_value rfl (exec_ld rfl (by rfl) (ldPx s2)) ?_))
    go_ret
    exact ⟨by rw [hr]; rfl, hB2⟩
end Go.Proofs.Ytdlepeogmjmleab
