/-
  Own text. The document's V4 and From: the address of bytes.
-/
import Derived.Test.YtdlepeogmjmleaaDoorJ2
import Derived.ChangeKeysEq
import Derived.Laws.StructEq
import Derived.Test.YtdlepeogmjmleaaDoorJ1
import Derived.Lib.Split
import Derived.Lib.IndexMore
import Derived.Lib.Join
import Derived.Lib.ParseIntB
import Derived.Lib.Repeat
import Derived.Shelf.LaysM
import Derived.Shelf.Strconv.Itoa3
import Derived.Test.YtdlepeogmjmleaaDoorProg
import Derived.Shelf.Pu.ParseUintPublic10
import Derived.Shelf.Strings.Cut
import Derived.Shelf.Strings.OnBuilder
import Derived.Shelf.Strings.Repeat
import Derived.Shelf.Strings.Split
import Derived.Laws.Bits64b
namespace Go.Proofs.YtdlepeogmjmleaaDoor
open Go.RowKit Go.Proofs Go.Lib
set_option maxRecDepth 100000
/-- The address of a text of 4 or 16 bytes. -/
def frB (T : ByteArray) (j : Nat) : Int := if j < T.size then txt T j else 0
theorem frB_b (T : ByteArray) : Byts 16 (frB T) := fun j _ => by
  unfold frB
  have := txt_b T j
  split <;> omega
theorem adV_ext {v : Bool} {b c : Nat → Int} (h : ∀ j, j < 16 → b j = c j) : SC 17 (adV v b) = SC 17 (adV v c) := by
  refine SC_ext (SC_size 17 _) (fun i hi => ?_)
  rw [SC_get 17 _ i hi]
  unfold adV
  by_cases e : i < 1
  · rw [if_pos e, if_pos e]
  · rw [if_neg e, if_neg e, h (i - 1) (by omega)]
set_option maxHeartbeats 4000000 in
theorem rV4_run (p q r s : Int) (w : World) : Calls Tryd.prog 16 #[.int .u8 p, .int .u8 q, .int .u8 r, .int .u8 s] w fun e w' => e = .returned (.agg (SC 17 (adV false (v4B p q r s)))) ∧ Below w.heap.size w w' := by
  have HE : Hid (SC 17 (adV false (upd (upd (upd (upd (fun _ => 0) 0 p) 1 q) 2 r) 3 s)) = SC 17 (adV false (v4B p q r s))) := Hid.mk (adV_ext (fun j _ => by
    unfold v4B upd
    by_cases e0 : j = 0
    · subst e0; simp
    · by_cases e1 : j = 1
      · subst e1; simp
      · by_cases e2 : j = 2
        · subst e2; simp
        · simp [e0, e1, e2]))
  go_enter Tryd.func16, Tryd.ntmps16
  go_wp2_with (refine wl_alO rfl rfl zeroAddr ?_; intro g1 w1 hg1 q1 hB1; refine Hid.out ?_)
  refine Hid.mk ?_
  go_wp2_with (refine wl_alO rfl rfl zeroAddr ?_; intro g2 w2 hg2 q2 hB2; refine Hid.out ?_)
  refine Hid.mk ?_
  have p1 := SAt.kept q1 hB2
  have h12 : g1 ≠ g2 := by have := SAt.lt q1; omega
  have hBa : Below w.heap.size w w2 := hB1.trans (hB2.mono hB1.size)
  have hg2w : w.heap.size ≤ g2 := by have := hB1.size; omega
  clear q1 hB1 hB2 hg2
  go_wp2_with (first | (refine wl_value rfl (exec_fadW1 rfl (by rfl)) ?_) | (refine wl_value rfl (exec_ixW16 (k := 0) rfl (by rfl) (by rfl) (by omega)) ?_) | (refine wl_stA (k := 0) rfl rfl q2 (by rfl) (by rfl) (by omega) ?_; intro w3 q3 o3; refine Hid.out ?_))
  refine Hid.mk ?_
  go_wp2_with (first | (refine wl_value rfl (exec_fadW1 rfl (by rfl)) ?_) | (refine wl_value rfl (exec_ixW16 (k := 1) rfl (by rfl) (by rfl) (by omega)) ?_) | (refine wl_stA (k := 1) rfl rfl q3 (by rfl) (by rfl) (by omega) ?_; intro w4 q4 o4; refine Hid.out ?_))
  refine Hid.mk ?_
  go_wp2_with (first | (refine wl_value rfl (exec_fadW1 rfl (by rfl)) ?_) | (refine wl_value rfl (exec_ixW16 (k := 2) rfl (by rfl) (by rfl) (by omega)) ?_) | (refine wl_stA (k := 2) rfl rfl q4 (by rfl) (by rfl) (by omega) ?_; intro w5 q5 o5; refine Hid.out ?_))
  refine Hid.mk ?_
  go_wp2_with (first | (refine wl_value rfl (exec_fadW1 rfl (by rfl)) ?_) | (refine wl_value rfl (exec_ixW16 (k := 3) rfl (by rfl) (by rfl) (by omega)) ?_) | (refine wl_stA (k := 3) rfl rfl q5 (by rfl) (by rfl) (by omega) ?_; intro w6 q6 o6; refine Hid.out ?_))
  refine Hid.mk ?_
  have p6 := (((p1.only o3 h12).only o4 h12).only o5 h12).only o6 h12
  have hBb : Below w.heap.size w w6 := (((hBa.trans (o3.below hg2w)).trans (o4.below hg2w)).trans (o5.below hg2w)).trans (o6.below hg2w)
  clear p1 o3 o4 o5 o6 q2 q3 q4 q5 hBa
  go_wp2_with (first | (refine wl_value rfl (look_st rfl isAddr q6 (by rfl)) ?_) | (refine st_stO rfl rfl isAddr (adV_one _ _) p6 (by rfl) (by rfl) ?_; intro w7 q7 o7; refine Hid.out ?_))
  refine Hid.mk ?_
  go_wp2_with fail
  exact bodyPost_ret (res_st rfl isAddr q7 (by rfl)) rfl ⟨by rw [HE.out], hBb.trans (o7.below hg1)⟩
end Go.Proofs.YtdlepeogmjmleaaDoor
/-
  Own text. What a drawn region that stores nothing of what was there keeps.
-/
namespace Go.Proofs.YtdlepeogmjmleaaDoor
open Go.RowKit Go.Proofs Go.Lib
set_option maxRecDepth 100000
theorem below_GcW {u7 u8 : World} (h : u7.heap.size ≤ u8.heap.size) (w w' : World) (hb : Below u7.heap.size u7 w) (ht : Touch (fun k => u8.heap.size ≤ k ∨ k ∈ (([] : List (Nat × Cont)).map (·.1))) w w') : Below u7.heap.size u7 w' :=
  hb.trans ⟨ht.os, ht.tape, ht.output, ht.size, fun k hk => ht.block k (by have := hb.size; omega) (fun e => by
    rcases e with e | e
    · omega
    · simp at e)⟩
end Go.Proofs.YtdlepeogmjmleaaDoor
/-
  Own text. The program's own addresses: V4, Valid, Bytes, From, Group, None.
-/
namespace Go.Proofs.YtdlepeogmjmleaaDoor
open Go.RowKit Go.Proofs
set_option maxRecDepth 100000
/-- Are two addresses the same? -/
def eqAF (v : Bool) (b : Nat → Int) (v' : Bool) (b' : Nat → Int) : Bool := (v == v') && (List.range 16).all fun i => b i == b' i
theorem eqAF_iff {v v' : Bool} {b b' : Nat → Int} : eqAF v b v' b' = true ↔ (v = v' ∧ ∀ i, i < 16 → b i = b' i) := by
  unfold eqAF
  rw [Bool.and_eq_true, beq_iff_eq, List.all_eq_true]
  constructor
  · rintro ⟨h, g⟩
    exact ⟨h, fun i hi => beq_iff_eq.1 (g i (List.mem_range.2 hi))⟩
  · rintro ⟨h, g⟩
    exact ⟨h, fun i hi => beq_iff_eq.2 (g i (List.mem_range.1 hi))⟩
theorem rowW_get (n : Nat) (b : Nat → Int) {i : Nat} (h : i < n) : (SC n fun j => Value.int .u8 (b j))[i]? = some (.int .u8 (b i)) := SC_get n _ i h
theorem eqItems_W (b b' : Nat → Int) (d : Nat) (w : World) : ∀ (is : List Nat), (∀ i ∈ is, i < 16) → (Op.eqItems (d + 1) 5 1 (SC 16 fun j => Value.int .u8 (b j)) (SC 16 fun j => Value.int .u8 (b' j)) is).run Tryd.prog w = .ok (is.all fun i => b i == b' i) w
  | [], _ => by simp [Op.eqItems]
  | i :: is, h => by
    have hi : i < 16 := h i (by simp)
    have ih := eqItems_W b b' d w is (fun j hj => h j (by simp [hj]))
    have e1 : (part 5 (SC 16 fun j => Value.int .u8 (b j)) (i * 1)).run Tryd.prog w = .ok (.int .u8 (b i)) w := by
      simp [part, rowW_get, hi, go_sem]
    have e2 : (part 5 (SC 16 fun j => Value.int .u8 (b' j)) (i * 1)).run Tryd.prog w = .ok (.int .u8 (b' i)) w := by
      simp [part, rowW_get, hi, go_sem]
    simp only [Op.eqItems, Sem.run_bind, e1, e2, Result.andThen_ok, run_equalIn_int w d 5 .u8 .u8 _ _ Tryd.underlying5, List.all_cons]
    cases hb : (b i == b' i)
    · simp
    · simpa using ih
theorem cellsW8 : Tryd.prog.cellsOf 5 = 1 := by kernel_rfl
theorem infoW8 : (Tryd.prog.info? 5).isSome = true := by kernel_rfl
theorem equal_b16 (b b' : Nat → Int) (d : Nat) (w : World) : (Op.equalIn (d + 1 + 1) 22 (.agg (SC 16 fun j => Value.int .u8 (b j))) (.agg (SC 16 fun j => Value.int .u8 (b' j)))).run Tryd.prog w = .ok ((List.range 16).all fun i => b i == b' i) w := by
  obtain ⟨i, hi⟩ := Option.isSome_iff_exists.1 infoW8
  rw [run_equalIn_array w (d + 1) _ _ Tryd.underlying22 hi, cellsW8]
  exact eqItems_W b b' d w _ (fun i hi => List.mem_range.1 hi)
theorem fieldsA : (Tryd.prog.fieldsOf 24).toList.map (fun f => (f.name, f.type, f.offset)) = [("V6", 4, 0), ("B", 22, 1)] := by kernel_rfl
theorem stoodA : Tryd.prog.stoodInHeld 24 = false := by kernel_rfl
theorem eqgA : Tryd.prog.eqGuardType Tryd.prog.depth 24 = false := by kernel_rfl
theorem partA0 (v : Bool) (b : Nat → Int) (w : World) : (part 4 (SC 17 (adV v b)) 0).run Tryd.prog w = .ok (.bool v) w := by kernel_rfl
theorem partA1 (v : Bool) (b : Nat → Int) (w : World) : (part 22 (SC 17 (adV v b)) 1).run Tryd.prog w = .ok (.agg (SC 16 fun j => Value.int .u8 (b j))) w := by kernel_rfl
theorem equal_addr (v : Bool) (b : Nat → Int) (v' : Bool) (b' : Nat → Int) (w : World) : (Op.equalIn 10000 24 (.agg (SC 17 (adV v b))) (.agg (SC 17 (adV v' b')))).run Tryd.prog w = .ok (eqAF v b v' b') w := by
  rw [run_equalIn_struct w 9999 24 _ _ Tryd.underlying24 stoodA]
  have hf := fieldsA
  generalize (Tryd.prog.fieldsOf 24).toList = fs at hf
  obtain ⟨f0, f1, rfl⟩ : ∃ f0 f1, fs = [f0, f1] := by
    have hl : fs.length = 2 := by have := congrArg List.length hf; simpa using this
    cases fs with
    | nil => simp at hl
    | cons f0 fs =>
      cases fs with
      | nil => simp at hl
      | cons f1 fs =>
        cases fs with
        | nil => exact ⟨f0, f1, rfl⟩
        | cons f2 fs => simp at hl
  · simp only [List.map_cons, List.map_nil, List.cons.injEq, Prod.mk.injEq, and_true] at hf
    obtain ⟨⟨n0, t0, o0⟩, n1, t1, o1⟩ := hf
    simp only [Op.eqFields, n0, t0, o0, n1, t1, o1, ne_eq, String.reduceEq, not_false_eq_true, if_true, Sem.run_bind, partA0, Result.andThen_ok, run_equalIn_bool w 9998 4 v v' Tryd.underlying4]
    unfold eqAF
    cases hv : (v == v')
    · simp
    · simp only [Bool.not_true, Bool.false_eq_true, if_false, Sem.run_bind, partA1, Result.andThen_ok, equal_b16 b b' 9997 w, Bool.true_and]
      cases (List.range 16).all fun i => b i == b' i <;> simp
section
variable {a : Act} {o : Oper} {w : World} {x y : Operand} {t : TypeId}
theorem exec_eqA (ho : o.op = .binOp .eql 24 x y t) {v : Bool} {b : Nat → Int} {v' : Bool} {b' : Nat → Int} (hx : a.eval x = .agg (SC 17 (adV v b))) (hy : a.eval y = .agg (SC 17 (adV v' b'))) : (execOp a.eval o).run Tryd.prog w = .ok (.value (.bool (eqAF v b v' b'))) w := by
  unfold execOp
  simp only [ho, hx, hy, Sem.run_bind, run_eqGuard_agg w .eql 24 x y _ _ eqgA, Result.andThen_ok, run_eql_struct, equal_addr v b v' b' w, Sem.run_pure]
theorem exec_neA (ho : o.op = .binOp .neq 24 x y t) {v : Bool} {b : Nat → Int} {v' : Bool} {b' : Nat → Int} (hx : a.eval x = .agg (SC 17 (adV v b))) (hy : a.eval y = .agg (SC 17 (adV v' b'))) : (execOp a.eval o).run Tryd.prog w = .ok (.value (.bool (!eqAF v b v' b'))) w := by
  unfold execOp
  simp only [ho, hx, hy, Sem.run_bind, run_eqGuard_agg w .neq 24 x y _ _ eqgA, Result.andThen_ok, run_neq_struct, equal_addr v b v' b' w, Sem.run_pure]
theorem run_b16 (p q r s : Int) (w : World) : (Instr.build 22 #[(0, .int .u8 p), (1, .int .u8 q), (2, .int .u8 r), (3, .int .u8 s)]).run Tryd.prog w = .ok (.agg (SC 16 fun j => Value.int .u8 (v4B p q r s j))) w := by kernel_rfl
theorem exec_b16 {x1 x2 x3 x4 : Operand} (ho : o.op = .build 22 #[(0, x1), (1, x2), (2, x3), (3, x4)]) {p q r s : Int} (h1 : a.eval x1 = .int .u8 p) (h2 : a.eval x2 = .int .u8 q) (h3 : a.eval x3 = .int .u8 r) (h4 : a.eval x4 = .int .u8 s) : (execOp a.eval o).run Tryd.prog w = .ok (.value (.agg (SC 16 fun j => Value.int .u8 (v4B p q r s j)))) w := by
  have h := run_b16 p q r s w
  unfold execOp
  simp only [ho, List.map_toArray, List.map_cons, List.map_nil, h1, h2, h3, h4, Sem.run_bind, h, Result.andThen_ok, Sem.run_pure]
theorem run_adB (b : Nat → Int) (w : World) : (Instr.build 24 #[(1, .agg (SC 16 fun j => Value.int .u8 (b j)))]).run Tryd.prog w = .ok (.agg (SC 17 (adV false b))) w := by kernel_rfl
theorem exec_adB (ho : o.op = .build 24 #[(1, x)]) {b : Nat → Int} (hx : a.eval x = .agg (SC 16 fun j => Value.int .u8 (b j))) : (execOp a.eval o).run Tryd.prog w = .ok (.value (.agg (SC 17 (adV false b)))) w := by
  have h := run_adB b w
  unfold execOp
  simp only [ho, List.map_toArray, List.map_cons, List.map_nil, hx, Sem.run_bind, h, Result.andThen_ok, Sem.run_pure]
end
set_option maxHeartbeats 4000000 in
theorem V4_run (p q r s : Int) (w : World) : Calls Tryd.prog 15 #[.int .u8 p, .int .u8 q, .int .u8 r, .int .u8 s] w fun e w' => e = .returned (.agg (SC 17 (adV false (v4B p q r s)))) ∧ Below w.heap.size w w' := by
  go_enter Tryd.func15, Tryd.ntmps15
  go_wp2_with (first | (refine wl_alO rfl rfl zeroAddr ?_; intro g w1 hg q1 hB1; refine Hid.out ?_))
  refine Hid.mk ?_
  go_wp2_with (first | (refine wl_value rfl (exec_b16 rfl (by rfl) (by rfl) (by rfl) (by rfl)) ?_) | (refine wl_value rfl (exec_adB rfl (by rfl)) ?_) | (refine st_stO rfl rfl isAddr (adV_one _ _) q1 (by rfl) (by rfl) ?_; intro u3 q3 o3; refine Hid.out ?_))
  refine Hid.mk ?_
  go_wp2_with fail
  exact bodyPost_ret (res_st rfl isAddr q3 (by rfl)) rfl ⟨rfl, hB1.trans (o3.below hg)⟩
theorem ldWb {w : World} {p : Addr} {v : Bool} (h : w.cell? p = some (.bool v)) : (Instr.loadAt 4 (.pointer (some p))).run Tryd.prog w = .ok (.bool v) w := by simp [go_sem, h]
theorem enterW_V4 (args : Array Value) (w : World) : (callFunc 15 args).run Tryd.prog w = .ok (.enter 15 args) w := by kernel_rfl
theorem valid_v4 (b : Nat → Int) : validF false b = eqAF false b false (v4B (b 0) (b 1) (b 2) (b 3)) := by
  have h1 := valid_iff (v := false) (b := b)
  have h2 := eqAF_iff (v := false) (v' := false) (b := b) (b' := v4B (b 0) (b 1) (b 2) (b 3))
  have h3 : (∀ i, 4 ≤ i → i < 16 → b i = 0) ↔ (∀ i, i < 16 → b i = v4B (b 0) (b 1) (b 2) (b 3) i) := by
    constructor
    · intro h i hi
      unfold v4B
      split
      · rename_i e; rw [e]
      · split
        · rename_i e; rw [e]
        · split
          · rename_i e; rw [e]
          · split
            · rename_i e; rw [e]
            · exact h i (by omega) hi
    · intro h i h4 hi
      rw [h i hi]
      unfold v4B
      rw [if_neg (by omega), if_neg (by omega), if_neg (by omega), if_neg (by omega)]
  cases hv : validF false b <;> cases he : eqAF false b false (v4B (b 0) (b 1) (b 2) (b 3))
  · rfl
  · exfalso
    have := h1.2 (.inr (h3.2 (h2.1 he).2))
    rw [hv] at this
    cases this
  · exfalso
    rcases h1.1 hv with e | e
    · cases e
    · have := h2.2 ⟨rfl, h3.1 e⟩
      rw [he] at this
      cases this
  · rfl
set_option maxHeartbeats 4000000 in
theorem Valid_run (v : Bool) (b : Nat → Int) (w : World) : Calls Tryd.prog 7 #[.agg (SC 17 (adV v b))] w fun e w' => e = .returned (.bool (validF v b)) ∧ Below w.heap.size w w' := by
  go_enter Tryd.func7, Tryd.ntmps7
  go_wp2_with (refine wl_boxO rfl rfl isAddr (by rfl) ?_; intro g u1 hg g1 hB1; refine Hid.out ?_)
  refine Hid.mk ?_
  go_upto_region 1 with fail
  cases v
  · have hf := valid_v4 b
    refine wp_region3 (Below u1.heap.size u1) u1.heap.size
        ([] : List (Nat × Cont))
        [kv (.pointer (some ⟨g, 0, none⟩)), kv (.bool false), kv (.bool false), kv (.agg (SC 17 (adV false b))), kv (.pointer (some ⟨g, 1, none⟩)), kv (.pointer (some ⟨g, 1 + 0, none⟩)), kv (.int .u8 (b 0)), kv (.pointer (some ⟨g, 1, none⟩)), kv (.pointer (some ⟨g, 1 + 1, none⟩)), kv (.int .u8 (b 1)), kv (.pointer (some ⟨g, 1, none⟩)), kv (.pointer (some ⟨g, 1 + 2, none⟩)), kv (.int .u8 (b 2)), kv (.pointer (some ⟨g, 1, none⟩)), kv (.pointer (some ⟨g, 1 + 3, none⟩)), kv (.int .u8 (b 3)), kv (.agg (SC 17 (adV false (v4B (b 0) (b 1) (b 2) (b 3))))), kv (.bool (eqAF false b false (v4B (b 0) (b 1) (b 2) (b 3)))), kv (.bool (eqAF false b false (v4B (b 0) (b 1) (b 2) (b 3)))), kv (.bool (eqAF false b false (v4B (b 0) (b 1) (b 2) (b 3))))]
        [.none, .none, .none, .none, .none, .none, .none, .none, .none, .none, .none, .none, .none, .none, .none, .none, .none, .none, .none, .none]
        [some 3, some 4, some 5, some 6, some 7, some 8, some 9, some 10, some 11, some 12, some 13, some 14, some 15, some 16, some 17, some 18, some 19, some 20, some 21, some 2]
        [(1, .pointer (some ⟨g, 0, none⟩))]
        [[], [.slot 0], [.slot 1], [.slot 2], [.slot 2], [.slot 2, .slot 4], [.slot 2, .slot 5], [.slot 2], [.slot 2, .slot 7], [.slot 2, .slot 8], [.slot 2], [.slot 2, .slot 10], [.slot 2, .slot 11], [.slot 2], [.slot 2, .slot 13], [.slot 2, .slot 14], [.slot 2, .slot 6, .slot 9, .slot 12, .slot 15], [.slot 2, .slot 3, .slot 16], [.slot 2, .slot 17], [.slot 18]]
        [.slot 19] [3, 4, 5, 6, 7, 8, 9, 10, 11, 12, 13, 14, 15, 16, 17, 18, 19, 20, 21, 2]
        rfl (by kernel_rfl) ⟨rfl, trivial⟩ ((Below.refl _ u1).drew) (Nat.le_refl _) trivial trivial (below_GcW (Nat.le_refl _))
        ⟨
          (fun Q aq ww own hS hBg fr kn => .inl ⟨trivial, fun K hK => wp_value (exec_fadW0 rfl fr.1) (hK _ _ ⟨Touch.refl _ _, rfl⟩)⟩),
          (fun Q aq ww own hS hBg fr kn => .inl ⟨trivial, fun K hK => wp_value (exec_ld rfl kn.1 (ldWb (ad_v (SAt.kept g1 hS)))) (hK _ _ ⟨Touch.refl _ _, rfl⟩)⟩),
          (fun Q aq ww own hS hBg fr kn => .inl ⟨trivial, fun K hK => wp_value (exec_move rfl kn.1) (hK _ _ ⟨Touch.refl _ _, rfl⟩)⟩),
          (fun Q aq ww own hS hBg fr kn => .inl ⟨kn.1, fun K hK => wp_value (look_st rfl isAddr (SAt.kept g1 hS) fr.1) (hK _ _ ⟨Touch.refl _ _, rfl⟩)⟩),
          (fun Q aq ww own hS hBg fr kn => .inl ⟨kn.1, fun K hK => wp_value (exec_fadW1 rfl fr.1) (hK _ _ ⟨Touch.refl _ _, rfl⟩)⟩),
          (fun Q aq ww own hS hBg fr kn => .inl ⟨kn.1, fun K hK => wp_value (exec_ixW16 (k := 0) rfl kn.2.1 rfl (by decide)) (hK _ _ ⟨Touch.refl _ _, rfl⟩)⟩),
          (fun Q aq ww own hS hBg fr kn => .inl ⟨kn.1, fun K hK => wp_value (exec_ld rfl kn.2.1 (ldW8 (ad_b (SAt.kept g1 hS) 0 (by decide)))) (hK _ _ ⟨Touch.refl _ _, rfl⟩)⟩),
          (fun Q aq ww own hS hBg fr kn => .inl ⟨kn.1, fun K hK => wp_value (exec_fadW1 rfl fr.1) (hK _ _ ⟨Touch.refl _ _, rfl⟩)⟩),
          (fun Q aq ww own hS hBg fr kn => .inl ⟨kn.1, fun K hK => wp_value (exec_ixW16 (k := 1) rfl kn.2.1 rfl (by decide)) (hK _ _ ⟨Touch.refl _ _, rfl⟩)⟩),
          (fun Q aq ww own hS hBg fr kn => .inl ⟨kn.1, fun K hK => wp_value (exec_ld rfl kn.2.1 (ldW8 (ad_b (SAt.kept g1 hS) 1 (by decide)))) (hK _ _ ⟨Touch.refl _ _, rfl⟩)⟩),
          (fun Q aq ww own hS hBg fr kn => .inl ⟨kn.1, fun K hK => wp_value (exec_fadW1 rfl fr.1) (hK _ _ ⟨Touch.refl _ _, rfl⟩)⟩),
          (fun Q aq ww own hS hBg fr kn => .inl ⟨kn.1, fun K hK => wp_value (exec_ixW16 (k := 2) rfl kn.2.1 rfl (by decide)) (hK _ _ ⟨Touch.refl _ _, rfl⟩)⟩),
          (fun Q aq ww own hS hBg fr kn => .inl ⟨kn.1, fun K hK => wp_value (exec_ld rfl kn.2.1 (ldW8 (ad_b (SAt.kept g1 hS) 2 (by decide)))) (hK _ _ ⟨Touch.refl _ _, rfl⟩)⟩),
          (fun Q aq ww own hS hBg fr kn => .inl ⟨kn.1, fun K hK => wp_value (exec_fadW1 rfl fr.1) (hK _ _ ⟨Touch.refl _ _, rfl⟩)⟩),
          (fun Q aq ww own hS hBg fr kn => .inl ⟨kn.1, fun K hK => wp_value (exec_ixW16 (k := 3) rfl kn.2.1 rfl (by decide)) (hK _ _ ⟨Touch.refl _ _, rfl⟩)⟩),
          (fun Q aq ww own hS hBg fr kn => .inl ⟨kn.1, fun K hK => wp_value (exec_ld rfl kn.2.1 (ldW8 (ad_b (SAt.kept g1 hS) 3 (by decide)))) (hK _ _ ⟨Touch.refl _ _, rfl⟩)⟩),
          (fun Q aq ww own hS hBg fr kn => .inl ⟨kn.1, fun K hK => stepc enterW_V4 rfl (args4 kn.2.1 kn.2.2.1 kn.2.2.2.1 kn.2.2.2.2.1) (V4_run _ _ _ _ ww) (fun w' hb => hK _ _ ⟨touch_below hb, rfl⟩)⟩),
          (fun Q aq ww own hS hBg fr kn => .inl ⟨kn.1, fun K hK => wp_value (exec_eqA rfl kn.2.1 kn.2.2.1) (hK _ _ ⟨Touch.refl _ _, rfl⟩)⟩),
          (fun Q aq ww own hS hBg fr kn => .inl ⟨trivial, fun K hK => wp_value (exec_pickF (v := .bool (eqAF false b false (v4B (b 0) (b 1) (b 2) (b 3)))) rfl kn.1 kn.2.1) (hK _ _ ⟨Touch.refl _ _, rfl⟩)⟩),
          (fun Q aq ww own hS hBg fr kn => .inl ⟨trivial, fun K hK => wp_value (exec_assign rfl kn.1) (hK _ _ ⟨Touch.refl _ _, rfl⟩)⟩),
          trivial⟩ ?_
    intro vs own u6 hB6 hsz6 kn inj
    have e19 : vs 2 = .bool (eqAF false b false (v4B (b 0) (b 1) (b 2) (b 3))) := kn.1
    clear kn inj hsz6
    simp only [putAll, Act.put, List.setIfInBounds_toArray, List.set_cons_zero, List.set_cons_succ, e19]
    clear e19
    go_wp2_with fail
    go_ret
    exact ⟨by rw [hf]; rfl, hB1.trans (hB6.mono hB1.size)⟩
  · have hf : validF true b = true := valid_iff.2 (.inl rfl)
    refine wp_region3 (Below u1.heap.size u1) u1.heap.size
        ([] : List (Nat × Cont))
        [kv (.pointer (some ⟨g, 0, none⟩)), kv (.bool true), kv (.bool true), kv (undef), kv (undef), kv (undef), kv (undef), kv (undef), kv (undef), kv (undef), kv (undef), kv (undef), kv (undef), kv (undef), kv (undef), kv (undef), kv (undef), kv (undef), kv (.bool true), kv (.bool true)]
        [.none, .none, .none, .none, .none, .none, .none, .none, .none, .none, .none, .none, .none, .none, .none, .none, .none, .none, .none, .none]
        [some 3, some 4, some 5, some 6, some 7, some 8, some 9, some 10, some 11, some 12, some 13, some 14, some 15, some 16, some 17, some 18, some 19, some 20, some 21, some 2]
        [(1, .pointer (some ⟨g, 0, none⟩))]
        [[], [.slot 0], [.slot 1], [.slot 2], [.slot 2], [.slot 2], [.slot 2], [.slot 2], [.slot 2], [.slot 2], [.slot 2], [.slot 2], [.slot 2], [.slot 2], [.slot 2], [.slot 2], [.slot 2], [.slot 2], [.slot 2], [.slot 18]]
        [.slot 19] [3, 4, 5, 6, 7, 8, 9, 10, 11, 12, 13, 14, 15, 16, 17, 18, 19, 20, 21, 2]
        rfl (by kernel_rfl) ⟨rfl, trivial⟩ ((Below.refl _ u1).drew) (Nat.le_refl _) trivial trivial (below_GcW (Nat.le_refl _))
        ⟨
          (fun Q aq ww own hS hBg fr kn => .inl ⟨trivial, fun K hK => wp_value (exec_fadW0 rfl fr.1) (hK _ _ ⟨Touch.refl _ _, rfl⟩)⟩),
          (fun Q aq ww own hS hBg fr kn => .inl ⟨trivial, fun K hK => wp_value (exec_ld rfl kn.1 (ldWb (ad_v (SAt.kept g1 hS)))) (hK _ _ ⟨Touch.refl _ _, rfl⟩)⟩),
          (fun Q aq ww own hS hBg fr kn => .inl ⟨trivial, fun K hK => wp_value (exec_move rfl kn.1) (hK _ _ ⟨Touch.refl _ _, rfl⟩)⟩),
          (fun Q aq ww own hS hBg fr kn => .inr ⟨.inl kn.1, ⟨Touch.refl _ _, rfl⟩⟩),
          (fun Q aq ww own hS hBg fr kn => .inr ⟨.inl kn.1, ⟨Touch.refl _ _, rfl⟩⟩),
          (fun Q aq ww own hS hBg fr kn => .inr ⟨.inl kn.1, ⟨Touch.refl _ _, rfl⟩⟩),
          (fun Q aq ww own hS hBg fr kn => .inr ⟨.inl kn.1, ⟨Touch.refl _ _, rfl⟩⟩),
          (fun Q aq ww own hS hBg fr kn => .inr ⟨.inl kn.1, ⟨Touch.refl _ _, rfl⟩⟩),
          (fun Q aq ww own hS hBg fr kn => .inr ⟨.inl kn.1, ⟨Touch.refl _ _, rfl⟩⟩),
          (fun Q aq ww own hS hBg fr kn => .inr ⟨.inl kn.1, ⟨Touch.refl _ _, rfl⟩⟩),
          (fun Q aq ww own hS hBg fr kn => .inr ⟨.inl kn.1, ⟨Touch.refl _ _, rfl⟩⟩),
          (fun Q aq ww own hS hBg fr kn => .inr ⟨.inl kn.1, ⟨Touch.refl _ _, rfl⟩⟩),
          (fun Q aq ww own hS hBg fr kn => .inr ⟨.inl kn.1, ⟨Touch.refl _ _, rfl⟩⟩),
          (fun Q aq ww own hS hBg fr kn => .inr ⟨.inl kn.1, ⟨Touch.refl _ _, rfl⟩⟩),
          (fun Q aq ww own hS hBg fr kn => .inr ⟨.inl kn.1, ⟨Touch.refl _ _, rfl⟩⟩),
          (fun Q aq ww own hS hBg fr kn => .inr ⟨.inl kn.1, ⟨Touch.refl _ _, rfl⟩⟩),
          (fun Q aq ww own hS hBg fr kn => .inr ⟨.inl kn.1, ⟨Touch.refl _ _, rfl⟩⟩),
          (fun Q aq ww own hS hBg fr kn => .inr ⟨.inl kn.1, ⟨Touch.refl _ _, rfl⟩⟩),
          (fun Q aq ww own hS hBg fr kn => .inl ⟨trivial, fun K hK => wp_value (exec_pick (v := .bool true) rfl kn.1 rfl) (hK _ _ ⟨Touch.refl _ _, rfl⟩)⟩),
          (fun Q aq ww own hS hBg fr kn => .inl ⟨trivial, fun K hK => wp_value (exec_assign rfl kn.1) (hK _ _ ⟨Touch.refl _ _, rfl⟩)⟩),
          trivial⟩ ?_
    intro vs own u6 hB6 hsz6 kn inj
    have e19 : vs 2 = .bool true := kn.1
    clear kn inj hsz6
    simp only [putAll, Act.put, List.setIfInBounds_toArray, List.set_cons_zero, List.set_cons_succ, e19]
    clear e19
    go_wp2_with fail
    go_ret
    exact ⟨by rw [hf]; rfl, hB1.trans (hB6.mono hB1.size)⟩
set_option maxHeartbeats 4000000 in
theorem None_run (v : Bool) (b : Nat → Int) (w : World) : Calls Tryd.prog 13 #[.agg (SC 17 (adV v b))] w fun e w' => e = .returned (.bool (noneF b)) ∧ Below w.heap.size w w' := by
  have hf : noneF b = eqAF v b v (fun _ => 0) := by
    have h1 := none_iff (b := b)
    have h2 := eqAF_iff (v := v) (v' := v) (b := b) (b' := fun _ => 0)
    cases hn : noneF b <;> cases he : eqAF v b v (fun _ => 0)
    · rfl
    · have := h1.2 (h2.1 he).2
      rw [hn] at this
      cases this
    · have := h2.2 ⟨rfl, h1.1 hn⟩
      rw [he] at this
      cases this
    · rfl
  have HF := Hid.mk hf
  clear hf
  go_enter Tryd.func13, Tryd.ntmps13
  go_wp2_with (refine wl_boxO rfl rfl isAddr (by rfl) ?_; intro g u1 hg g1 hB1; refine Hid.out ?_)
  refine Hid.mk ?_
  have c0 := ad_v g1
  go_wp2_with (first | (refine wl_value rfl (look_st rfl isAddr g1 (by rfl)) ?_) | (refine wl_value rfl (exec_fadW0 rfl (by rfl)) ?_) | (refine wl_value rfl (exec_adW1 rfl (by rfl)) ?_) | (refine wl_value rfl (exec_eqA rfl (by rfl) (by rfl)) ?_))
  go_ret
  exact ⟨by rw [HF.out]; rfl, hB1⟩
theorem groupV {b : Nat → Int} : groupF true b = (b 0 == 255) := by
  unfold groupF
  rw [valid_iff.2 (.inl rfl), if_pos rfl, Bool.true_and]
  by_cases e : b 0 = 255
  · rw [decide_eq_true e, e]; rfl
  · rw [decide_eq_false e, beq_eq_false_iff_ne.2 e]
set_option maxHeartbeats 4000000 in
theorem Group_run (v : Bool) (b : Nat → Int) (w : World) : Calls Tryd.prog 11 #[.agg (SC 17 (adV v b))] w fun e w' => e = .returned (.bool (groupF v b)) ∧ Below w.heap.size w w' := by
  go_enter Tryd.func11, Tryd.ntmps11
  go_wp2_with (refine wl_boxO rfl rfl isAddr (by rfl) ?_; intro g u1 hg g1 hB1; refine Hid.out ?_)
  refine Hid.mk ?_
  have c0 := ad_v g1
  have HB := Hid.mk (ad_b g1 0 (by decide))
  cases v
  · obtain ⟨r, hr⟩ : ∃ r, validF false b = r := ⟨_, rfl⟩
    have HR := Hid.mk hr
    have HG : Hid (groupF false b = (r && decide (224 ≤ b 0))) := Hid.mk (by unfold groupF; rw [hr, if_neg (by decide)])
    clear hr
    go_wp2_with (first | (refine wl_value rfl (exec_fadW0 rfl (by rfl)) ?_) | (refine wl_value rfl (look_st rfl isAddr g1 (by rfl)) ?_) | (go_at_call 7; refine (Valid_run false b _).mono ?_; rintro e w2 ⟨rfl, hB2⟩; simp only [HR.out]; refine Hid.out ?_))
    refine Hid.mk ?_
    have hB3 := hB1.trans (hB2.mono hB1.size)
    have c1 : w2.cell? ⟨g, 1 + 0, none⟩ = some (.int .u8 (b 0)) := (hB2.cell (SAt.lt g1)).trans HB.out
    cases r
    · go_wp2_with fail
      go_ret
      exact ⟨by rw [HG.out]; rfl, hB3⟩
    · by_cases h : 224 ≤ b 0
      · go_wp2_with (first | (refine wl_value rfl (exec_fadW1 rfl (by rfl)) ?_) | (refine wl_value rfl (exec_ixW16 (k := 0) rfl (by rfl) (by rfl) (by decide)) ?_) | (refine wl_value rfl (exec_ld rfl (by rfl) (ldW8 c1)) ?_))
        go_ret
        exact ⟨by rw [HG.out, decide_eq_true (by omega)]; rfl, hB3⟩
      · go_wp2_with (first | (refine wl_value rfl (exec_fadW1 rfl (by rfl)) ?_) | (refine wl_value rfl (exec_ixW16 (k := 0) rfl (by rfl) (by rfl) (by decide)) ?_) | (refine wl_value rfl (exec_ld rfl (by rfl) (ldW8 c1)) ?_))
        go_ret
        exact ⟨by rw [HG.out, decide_eq_false (by omega)]; rfl, hB3⟩
  · have HG := Hid.mk (groupV (b := b))
    have c1 := HB.out
    go_wp2_with (first | (refine wl_value rfl (exec_fadW0 rfl (by rfl)) ?_) | (refine wl_value rfl (exec_fadW1 rfl (by rfl)) ?_) | (refine wl_value rfl (exec_ixW16 (k := 0) rfl (by rfl) (by rfl) (by decide)) ?_) | (refine wl_value rfl (exec_ld rfl (by rfl) (ldW8 c1)) ?_))
    go_ret
    exact ⟨by rw [HG.out]; rfl, hB1⟩
theorem sl16 (g : Nat) (w : World) : (Instr.sliceAt 22 (.pointer (some ⟨g, 1, none⟩)) none none none).run Tryd.prog w = .ok (.slice (some ⟨g, 1, none⟩) 16 16) w := by simp [go_sem]
theorem sl16h (g : Nat) (w : World) : (Instr.sliceAt 22 (.pointer (some ⟨g, 1, none⟩)) none (some (.int .i64 4)) none).run Tryd.prog w = .ok (.slice (some ⟨g, 1, none⟩) 4 16) w := by simp [go_sem]
set_option maxHeartbeats 4000000 in
theorem Bytes_run (v : Bool) (b : Nat → Int) (w : World) (hb : Byts 16 b) : Calls Tryd.prog 9 #[.agg (SC 17 (adV v b))] w fun e w' => e = .returned (.string (bytT v b)) ∧ Below w.heap.size w w' := by
  obtain ⟨r, hr⟩ : ∃ r, validF v b = r := ⟨_, rfl⟩
  have HR := Hid.mk hr
  have HT : Hid (bytT v b = if r = true then mkS (if v = true then 16 else 4) b else ByteArray.empty) := Hid.mk (by unfold bytT; rw [hr])
  clear hr
  go_enter Tryd.func9, Tryd.ntmps9
  go_wp2_with (refine wl_boxO rfl rfl isAddr (by rfl) ?_; intro g u1 hg g1 hB1; refine Hid.out ?_)
  refine Hid.mk ?_
  go_wp2_with (first | (refine wl_value rfl (look_st rfl isAddr g1 (by rfl)) ?_) | (go_at_call 7; refine (Valid_run v b _).mono ?_; rintro e w2 ⟨rfl, hB2⟩; simp only [HR.out]; refine Hid.out ?_))
  refine Hid.mk ?_
  have hB3 := hB1.trans (hB2.mono hB1.size)
  have g2 := SAt.kept g1 hB2
  have c0 := ad_v g2
  cases r
  · go_wp2_with fail
    go_ret
    exact ⟨by rw [HT.out]; rfl, hB3⟩
  · cases v
    · have hcv := str_cells g 1 16 w2 4 b (fun j hj => ad_b g2 j (by omega)) (fun j hj => hb j (by omega))
      go_wp2_with (first | (refine wl_value rfl (exec_fadW0 rfl (by rfl)) ?_) | (refine wl_value rfl (exec_fadW1 rfl (by rfl)) ?_) | (refine wl_value rfl (exec_slH rfl (by rfl) (by rfl) (sl16h g _)) ?_) | (refine wl_value rfl (exec_conv rfl (by rfl) hcv) ?_))
      go_ret
      exact ⟨by rw [HT.out]; rfl, hB3⟩
    · have hcv := str_cells g 1 16 w2 16 b (fun j hj => ad_b g2 j hj) (fun j hj => hb j hj)
      go_wp2_with (first | (refine wl_value rfl (exec_fadW0 rfl (by rfl)) ?_) | (refine wl_value rfl (exec_fadW1 rfl (by rfl)) ?_) | (refine wl_value rfl (exec_sl rfl (by rfl) (sl16 g _)) ?_) | (refine wl_value rfl (exec_conv rfl (by rfl) hcv) ?_))
      go_ret
      exact ⟨by rw [HT.out]; rfl, hB3⟩
theorem wl_cpA {ops : Array Oper} {rest : List Oper} {Q : Exit → Act → World → Prop} {o : Oper} {a : Act} {w : World} {d s' : Operand} {g : Nat} {v : Bool} {b : Nat → Int} {T : ByteArray} (ho : o.op = .call { callee := .builtin .copy, args := #[d, s'], argTypes := #[44, 9] }) (hw : Region.wanted o (yielded ops a.tmps) = true) (hd : a.eval d = .slice (some ⟨g, 1, none⟩) 16 16) (hs : a.eval s' = .string T) (hT : T.size ≤ 16) (hg : SAt w g 24 17 (adV v b))
    (h : ∀ w2, SAt w2 g 24 17 (adV v (fun j => if j < T.size then txt T j else b j)) → Only g w w2 → wpList Tryd.prog ops Q rest (a.put o.dst (goInt T.size)) w2) : wpList Tryd.prog ops Q (o :: rest) a w := by
  refine wl_act hw ?_
  have hz : ∀ w, (Go.sizeOf 5).run Tryd.prog w = .ok 1 w := fun w => by kernel_rfl
  have h0 := run_copy_string (P := Tryd.prog) w 44 9 o.type 5 g 1 16 16 T Tryd.underlying44 hz hT (fun j hj => by rw [ad_b hg j (by omega)]; rfl) (fun j _ => frozen_of_row w g _ _ _ hg)
  rw [cells_txt] at h0
  have e : nums .u8 T.size (txt T) = (SC T.size fun j => Value.int .u8 (txt T j)).toList := rfl
  rw [e] at h0
  obtain ⟨k1, k2⟩ := hg.mid (fun j => Value.int .u8 (txt T j)) 1 T.size (by omega)
  unfold Oper.wp
  simp only [execOp, ho, resolve, invoke, builtin, List.map_toArray, List.map_cons, List.map_nil, hd, hs, Sem.run_bind, Sem.run_pure, Result.andThen_ok, h0, Oper.upon]
  refine h _ (k1.congr (fun x hx => ?_)) k2
  unfold adV
  by_cases e1 : x < 1
  · rw [if_neg (by omega), if_pos e1, if_pos e1]
  · rw [if_neg e1, if_neg e1]
    by_cases e2 : x - 1 < T.size
    · rw [if_pos (by omega)]
      show _ = Value.int .u8 (if x - 1 < T.size then txt T (x - 1) else b (x - 1))
      rw [if_pos e2]
    · rw [if_neg (by omega)]
      show _ = Value.int .u8 (if x - 1 < T.size then txt T (x - 1) else b (x - 1))
      rw [if_neg e2]
theorem From_no (T : ByteArray) (w : World) (h4 : T.size ≠ 4) (h16 : T.size ≠ 16) : Calls Tryd.prog 40 #[.string T] w fun e w' => e = .returned (.tuple #[.agg (SC 17 (adV false (fun _ => 0))), .int .i64 1]) ∧ Below w.heap.size w w' := by
  obtain ⟨N, hN⟩ : ∃ N, T.size = N := ⟨_, rfl⟩
  rw [hN] at h4 h16
  have b4 : ((N : Int) != 4) = true := bne_iff_ne.2 (by omega)
  have b16 : ((N : Int) != 16) = true := bne_iff_ne.2 (by omega)
  go_enter Tryd.func40, Tryd.ntmps40
  go_wp2_with (refine wl_alO rfl rfl zeroAddr ?_; intro g1 w1 hg1 q1 hB1; refine Hid.out ?_)
  refine Hid.mk ?_
  go_wp2_with (first | (refine wl_value rfl (exec_adW0 rfl) ?_) | (refine st_stO rfl rfl isAddr (adV_one _ _) q1 (by rfl) (by rfl) ?_; intro w2 q2 o2; refine Hid.out ?_))
  refine Hid.mk ?_
  go_wp2_with fail
  exact bodyPost_ret (res_ct rfl isAddr q2 (by rfl) (by rfl)) rfl ⟨rfl, hB1.trans (o2.below hg1)⟩
set_option maxHeartbeats 4000000 in
theorem From_run (T : ByteArray) (w : World) (h : T.size = 4 ∨ T.size = 16) : Calls Tryd.prog 40 #[.string T] w fun e w' => e = .returned (.tuple #[.agg (SC 17 (adV (decide (T.size = 16)) (frB T))), .int .i64 0]) ∧ Below w.heap.size w w' := by
  obtain ⟨N, hN⟩ : ∃ N, T.size = N := ⟨_, rfl⟩
  obtain ⟨d, hd⟩ : ∃ d, decide (T.size = 16) = d := ⟨_, rfl⟩
  rw [hd]
  have hdN : ((N : Int) == 16) = d := by
    rw [← hd, hN]
    by_cases e : N = 16
    · subst e; rfl
    · rw [decide_eq_false e]; exact beq_eq_false_iff_ne.2 (by omega)
  have HN := Hid.mk hN
  have HD := Hid.mk hdN
  rw [hN] at h
  clear hd hdN
  have hN16 : N ≤ 16 := by omega
  go_enter Tryd.func40, Tryd.ntmps40
  go_wp2_with (refine wl_alO rfl rfl zeroAddr ?_; intro g1 w1 hg1 q1 hB1; refine Hid.out ?_)
  refine Hid.mk ?_
  go_upto_region 1 with fail
  go_cut [12] (fun s12 z => s12 = .bool false ∧ z = w1)
  case first =>
    rcases h with e | e
    · subst e
      go_wp2_with fail
      go_meet
      case rel => exact ⟨rfl, rfl⟩
    · subst e
      go_wp2_with fail
      go_meet
      case rel => exact ⟨rfl, rfl⟩
  case rest =>
    obtain ⟨rfl, hz⟩ := hcut
    have hz2 := hz.symm
    subst hz2
    clear hz
    have hdN := HD.out
    go_wp2_with (first | (refine wl_value rfl (exec_adW1 rfl (by rfl)) ?_) | (refine wl_alO rfl rfl zeroAddr ?_; intro g2 w2 hg2 q2 hB2; refine Hid.out ?_))
    refine Hid.mk ?_
    go_wp2_with (refine st_stO rfl rfl isAddr (adV_one _ _) q2 (by rfl) (by rfl) ?_; intro w3 q3 o3; refine Hid.out ?_)
    refine Hid.mk ?_
    have h12 : g1 ≠ g2 := by have := SAt.lt q1; omega
    have hg2w : w.heap.size ≤ g2 := by have := hB1.size; omega
    have p3 := (SAt.kept q1 hB2).only o3 h12
    have hB3 : Below w.heap.size w w3 := (hB1.trans (hB2.mono hB1.size)).trans (o3.below hg2w)
    clear q1 q2 o3 hB1 hB2 hg2 hdN h hN
    go_wp2_with (first | (refine wl_value rfl (exec_fadW1 rfl (by rfl)) ?_) | (refine wl_value rfl (exec_sl rfl (by rfl) (sl16 g2 _)) ?_) | (refine wl_cpA rfl rfl (by rfl) (by rfl) (by rw [HN.out]; exact hN16) q3 ?_; intro w4 q4 o4; refine Hid.out ?_))
    refine Hid.mk ?_
    have p4 := SAt.only p3 o4 h12
    have hB4 := hB3.trans (o4.below hg2w)
    have q5 : SAt w4 g2 24 17 (adV d (frB T)) := q4
    go_wp2_with (first | (refine wl_value rfl (look_st rfl isAddr q5 (by rfl)) ?_) | (refine st_stO rfl rfl isAddr (adV_one _ _) p4 (by rfl) (by rfl) ?_; intro w7 q7 o7; refine Hid.out ?_))
    refine Hid.mk ?_
    go_wp2_with fail
    exact bodyPost_ret (res_ct rfl isAddr q7 (by rfl) (by rfl)) rfl ⟨rfl, hB4.trans (o7.below hg1)⟩
end Go.Proofs.YtdlepeogmjmleaaDoor
/-
  Own text. Texts of addresses, as lists of bytes: what a text says, and that an address's own text says it.
-/
namespace Go.Proofs.YtdlepeogmjmleaaDoor
open Go.RowKit Go.Proofs
set_option maxRecDepth 100000
/-- A text at each byte c. -/
def splitC (c : UInt8) : List UInt8 → List (List UInt8)
  | [] => [[]]
  | x :: l => if x = c then [] :: splitC c l else match splitC c l with
    | [] => [[x]]
    | h :: t => (x :: h) :: t
def joinC (c : UInt8) : List (List UInt8) → List UInt8
  | [] => []
  | [a] => a
  | a :: b :: l => a ++ c :: joinC c (b :: l)
theorem split_ne (c : UInt8) : ∀ l, splitC c l ≠ []
  | [] => by simp [splitC]
  | x :: l => by
    unfold splitC
    split
    · simp
    · split <;> simp
theorem split_app {c : UInt8} : ∀ (a l : List UInt8), c ∉ a → splitC c (a ++ c :: l) = a :: splitC c l
  | [], l, _ => by simp [splitC]
  | x :: a, l, h => by
    have h1 : ¬ x = c := fun e => h (by simp [e])
    have h2 := split_app a l (fun e => h (List.mem_cons_of_mem _ e))
    rw [List.cons_append, splitC, if_neg h1, h2]
theorem split_one {c : UInt8} : ∀ (a : List UInt8), c ∉ a → splitC c a = [a]
  | [], _ => rfl
  | x :: a, h => by
    have h1 : ¬ x = c := fun e => h (by simp [e])
    have h2 := split_one a (fun e => h (List.mem_cons_of_mem _ e))
    rw [splitC, if_neg h1, h2]
theorem split_join {c : UInt8} : ∀ (L : List (List UInt8)), L ≠ [] → (∀ p ∈ L, c ∉ p) → splitC c (joinC c L) = L
  | [], h, _ => absurd rfl h
  | [a], _, h => split_one a (h a (by simp))
  | a :: b :: l, _, h => by
    rw [joinC, split_app a _ (h a (by simp)), split_join (b :: l) (by simp) (fun p hp => h p (by simp [hp]))]
theorem split_mem {c : UInt8} : ∀ (l : List UInt8) (x : UInt8), x ∈ l → x = c ∨ ∃ p ∈ splitC c l, x ∈ p
  | [], x, h => by simp at h
  | y :: l, x, h => by
    unfold splitC
    by_cases e : y = c
    · rw [if_pos e]
      rcases List.mem_cons.1 h with rfl | h
      · exact .inl e
      · rcases split_mem (c := c) l x h with h1 | ⟨p, hp, hx⟩
        · exact .inl h1
        · exact .inr ⟨p, by simp [hp], hx⟩
    · rw [if_neg e]
      have hne := split_ne c l
      cases hs : splitC c l with
      | nil => exact absurd hs hne
      | cons q t =>
        rcases List.mem_cons.1 h with rfl | h
        · exact .inr ⟨x :: q, by simp, by simp⟩
        · rcases split_mem (c := c) l x h with h1 | ⟨p, hp, hx⟩
          · exact .inl h1
          · rw [hs] at hp
            rcases List.mem_cons.1 hp with rfl | hp
            · exact .inr ⟨y :: p, by simp, by simp [hx]⟩
            · exact .inr ⟨p, by simp [hp], hx⟩
/-- The value of a hexadecimal digit. -/
def hexV (c : UInt8) : Option Nat := if 48 ≤ c.toNat ∧ c.toNat ≤ 57 then some (c.toNat - 48) else if 97 ≤ c.toNat ∧ c.toNat ≤ 102 then some (c.toNat - 87) else if 65 ≤ c.toNat ∧ c.toNat ≤ 70 then some (c.toNat - 55) else none
def hexC (d : Nat) : UInt8 := if d < 10 then UInt8.ofNat (48 + d) else UInt8.ofNat (87 + d)
theorem hex_lt {c : UInt8} {d : Nat} (h : hexV c = some d) : d < 16 := by
  unfold hexV at h
  split at h
  · injection h with h; omega
  · split at h
    · injection h with h; omega
    · split at h
      · injection h with h; omega
      · cases h
theorem hex_tab : ((List.range 16).all fun d => (hexV (hexC d) == some d) && !(hexC d == 58) && !(hexC d == 46)) = true := by decide
theorem hex_c {d : Nat} (hd : d < 16) : hexV (hexC d) = some d ∧ hexC d ≠ 58 ∧ hexC d ≠ 46 := by
  have h := List.all_eq_true.1 hex_tab d (List.mem_range.2 hd)
  simp only [Bool.and_eq_true, beq_iff_eq, Bool.not_eq_true', beq_eq_false_iff_ne] at h
  exact ⟨h.1.1, h.1.2, h.2⟩
/-- The number that digits say, behind n. -/
def foldH : Nat → List UInt8 → Option Nat
  | n, [] => some n
  | n, c :: l => match hexV c with
    | some d => foldH (16 * n + d) l
    | none => none
/-- A pair: one to four digits. -/
def pairV (p : List UInt8) : Option Nat := if 1 ≤ p.length ∧ p.length ≤ 4 then foldH 0 p else none
theorem fold_lt : ∀ (l : List UInt8) (n m : Nat), foldH n l = some m → m < 16 ^ l.length * (n + 1)
  | [], n, m, h => by
    injection h with h
    simp
    omega
  | c :: l, n, m, h => by
    unfold foldH at h
    cases hc : hexV c with
    | none => rw [hc] at h; cases h
    | some d =>
      rw [hc] at h
      have h1 := fold_lt l (16 * n + d) m h
      have h2 := hex_lt hc
      have h3 : 16 ^ l.length * (16 * n + d + 1) ≤ 16 ^ l.length * (16 * (n + 1)) := Nat.mul_le_mul_left _ (by omega)
      rw [List.length_cons, Nat.pow_succ, Nat.mul_assoc]
      omega
theorem pair_lt {p : List UInt8} {n : Nat} (h : pairV p = some n) : n < 65536 := by
  unfold pairV at h
  split at h
  · rename_i e
    have h1 := fold_lt p 0 n h
    have h2 : 16 ^ p.length ≤ 16 ^ 4 := Nat.pow_le_pow_right (by decide) e.2
    have h3 : (16 : Nat) ^ 4 = 65536 := rfl
    omega
  · cases h
/-- The text of a pair. -/
def hexT (n : Nat) : List UInt8 := if n < 16 then [hexC n] else if n < 256 then [hexC (n / 16), hexC (n % 16)] else if n < 4096 then [hexC (n / 256), hexC (n / 16 % 16), hexC (n % 16)] else [hexC (n / 4096), hexC (n / 256 % 16), hexC (n / 16 % 16), hexC (n % 16)]
theorem hexT_len (n : Nat) : 1 ≤ (hexT n).length ∧ (hexT n).length ≤ 4 := by
  unfold hexT
  split
  · simp
  · split
    · simp
    · split <;> simp
theorem hexT_pair {n : Nat} (hn : n < 65536) : pairV (hexT n) = some n := by
  have hl := hexT_len n
  unfold pairV
  rw [if_pos hl]
  unfold hexT
  split
  · rename_i e
    simp only [foldH, (hex_c e).1]
    simp
  · split
    · have e1 := (hex_c (show n / 16 < 16 by omega)).1
      have e2 := (hex_c (show n % 16 < 16 by omega)).1
      simp only [foldH, e1, e2]
      congr 1
      omega
    · split
      · have e1 := (hex_c (show n / 256 < 16 by omega)).1
        have e2 := (hex_c (show n / 16 % 16 < 16 by omega)).1
        have e3 := (hex_c (show n % 16 < 16 by omega)).1
        simp only [foldH, e1, e2, e3]
        congr 1
        omega
      · have e0 := (hex_c (show n / 4096 < 16 by omega)).1
        have e1 := (hex_c (show n / 256 % 16 < 16 by omega)).1
        have e2 := (hex_c (show n / 16 % 16 < 16 by omega)).1
        have e3 := (hex_c (show n % 16 < 16 by omega)).1
        simp only [foldH, e0, e1, e2, e3]
        congr 1
        omega
theorem hexT_mem {n : Nat} (hn : n < 65536) {c : UInt8} (hc : c ∈ hexT n) : ∃ d, d < 16 ∧ c = hexC d := by
  unfold hexT at hc
  split at hc
  · simp at hc
    exact ⟨n, by omega, hc⟩
  · split at hc
    · simp at hc
      rcases hc with rfl | rfl
      · exact ⟨_, by omega, rfl⟩
      · exact ⟨_, by omega, rfl⟩
    · split at hc
      · simp at hc
        rcases hc with rfl | rfl | rfl
        · exact ⟨_, by omega, rfl⟩
        · exact ⟨_, by omega, rfl⟩
        · exact ⟨_, by omega, rfl⟩
      · simp at hc
        rcases hc with rfl | rfl | rfl | rfl
        · exact ⟨_, by omega, rfl⟩
        · exact ⟨_, by omega, rfl⟩
        · exact ⟨_, by omega, rfl⟩
        · exact ⟨_, by omega, rfl⟩
theorem hexT_no {n : Nat} (hn : n < 65536) : (58 : UInt8) ∉ hexT n := fun h => by
  obtain ⟨d, hd, e⟩ := hexT_mem hn h
  exact (hex_c hd).2.1 e.symm
/-- All of a list, if each may be. -/
def allO {α β : Type} (f : α → Option β) : List α → Option (List β)
  | [] => some []
  | a :: l => match f a, allO f l with
    | some b, some m => some (b :: m)
    | _, _ => none
theorem allO_map {α β γ : Type} {f : β → Option γ} {g : α → β} {h : α → γ} : ∀ (l : List α), (∀ a ∈ l, f (g a) = some (h a)) → allO f (l.map g) = some (l.map h)
  | [], _ => rfl
  | a :: l, hh => by
    rw [List.map_cons, List.map_cons, allO, hh a (by simp), allO_map l (fun b hb => hh b (by simp [hb]))]
theorem allO_len {α β : Type} {f : α → Option β} : ∀ (l : List α) (m : List β), allO f l = some m → m.length = l.length
  | [], m, h => by injection h with h; subst h; rfl
  | a :: l, m, h => by
    unfold allO at h
    split at h
    · rename_i b k e1 e2
      injection h with h
      subst h
      simp [allO_len l k e2]
    · cases h
theorem allO_mem {α β : Type} {f : α → Option β} : ∀ (l : List α) (m : List β), allO f l = some m → ∀ b ∈ m, ∃ a ∈ l, f a = some b
  | [], m, h => by injection h with h; subst h; simp
  | a :: l, m, h => by
    unfold allO at h
    split at h
    · rename_i b k e1 e2
      injection h with h
      subst h
      intro c hc
      rcases List.mem_cons.1 hc with rfl | hc
      · exact ⟨a, by simp, e1⟩
      · obtain ⟨x, hx, he⟩ := allO_mem l k e2 c hc
        exact ⟨x, by simp [hx], he⟩
    · cases h
theorem allO_src {α β : Type} {f : α → Option β} : ∀ (l : List α) (m : List β), allO f l = some m → ∀ a ∈ l, ∃ b, f a = some b
  | [], m, h => by simp
  | a :: l, m, h => by
    unfold allO at h
    split at h
    · rename_i b k e1 e2
      intro c hc
      rcases List.mem_cons.1 hc with rfl | hc
      · exact ⟨b, e1⟩
      · exact allO_src l k e2 c hc
    · cases h
/-- The pairs of a text without two : in a row. -/
def pairsV (s : List UInt8) : Option (List Nat) := if s = [] then some [] else allO pairV (splitC 58 s)
theorem pairs_join {P : List Nat} (h : ∀ p ∈ P, p < 65536) : pairsV (joinC 58 (P.map hexT)) = some P := by
  cases P with
  | nil => rfl
  | cons p l =>
    have hne : joinC 58 ((p :: l).map hexT) ≠ [] := by
      have hp : hexT p ≠ [] := fun e => by
        have := (hexT_len p).1
        rw [e] at this
        simp at this
      cases l with
      | nil => exact hp
      | cons q m =>
        rw [List.map_cons, List.map_cons, joinC]
        simp
    unfold pairsV
    rw [if_neg hne, split_join _ (by simp) (fun q hq => by
      obtain ⟨n, hn, rfl⟩ := List.mem_map.1 hq
      exact hexT_no (h n hn))]
    have := allO_map (f := pairV) (g := hexT) (h := id) (p :: l) (fun a ha => hexT_pair (h a ha))
    rw [this]
    simp
theorem pairs_lt {s : List UInt8} {P : List Nat} (h : pairsV s = some P) : ∀ p ∈ P, p < 65536 := fun p hp => by
  unfold pairsV at h
  split at h
  · injection h with h
    subst h
    simp at hp
  · obtain ⟨a, _, he⟩ := allO_mem _ _ h p hp
    exact pair_lt he
/-- What stands ahead of the first :: and behind it. -/
def cutDD : List UInt8 → Option (List UInt8 × List UInt8)
  | [] => none
  | x :: l => match l with
    | [] => none
    | y :: m => if x = 58 ∧ y = 58 then some ([], m) else match cutDD l with
      | none => none
      | some (h, t) => some (x :: h, t)
theorem cut_none : ∀ (P : List Nat), (∀ p ∈ P, p < 65536) → ∀ (a : List UInt8), (58 : UInt8) ∉ a → a ≠ [] → cutDD (joinC 58 (a :: P.map hexT)) = none := by
  intro P
  induction P with
  | nil =>
    intro _ a ha _
    show cutDD a = none
    induction a with
    | nil => rfl
    | cons x l ih =>
      cases l with
      | nil => rfl
      | cons y m =>
        rw [cutDD, if_neg (fun e => ha (by simp [e.1])), ih (fun e => ha (List.mem_cons_of_mem _ e))]
        simp
  | cons p P ih =>
    intro hP a ha hne
    have hp : hexT p ≠ [] := fun e => by
      have := (hexT_len p).1
      rw [e] at this
      simp at this
    have ih' := ih (fun q hq => hP q (by simp [hq])) (hexT p) (hexT_no (hP p (by simp))) hp
    show cutDD (a ++ 58 :: joinC 58 ((p :: P).map hexT)) = none
    rw [← List.map_cons] at ih'
    generalize hJ : joinC 58 ((p :: P).map hexT) = J at *
    have hJ0 : ∃ x l, J = x :: l ∧ x ≠ 58 := by
      cases hh : hexT p with
      | nil => exact absurd hh hp
      | cons x l =>
        have hx : x ≠ 58 := fun e => hexT_no (hP p (by simp)) (by rw [hh, e]; simp)
        cases P with
        | nil =>
          refine ⟨x, l, ?_, hx⟩
          rw [← hJ]
          show hexT p = _
          exact hh
        | cons q m =>
          refine ⟨x, l ++ 58 :: joinC 58 ((q :: m).map hexT), ?_, hx⟩
          rw [← hJ, List.map_cons, List.map_cons, joinC, hh]
          rfl
    obtain ⟨x, l, rfl, hx⟩ := hJ0
    induction a with
    | nil => exact absurd rfl hne
    | cons y m ihm =>
      have hy : y ≠ 58 := fun e => ha (by simp [e])
      cases m with
      | nil =>
        show cutDD (y :: 58 :: x :: l) = none
        rw [cutDD, if_neg (fun e => hy e.1), cutDD, if_neg (fun e => hx e.2), ih']
      | cons z k =>
        have := ihm (fun e => ha (List.mem_cons_of_mem _ e)) (by simp)
        show cutDD (y :: z :: (k ++ 58 :: x :: l)) = none
        rw [cutDD, if_neg (fun e => hy e.1)]
        have e2 : z :: (k ++ 58 :: x :: l) = z :: k ++ 58 :: x :: l := rfl
        rw [e2, this]
theorem cut_join {P : List Nat} (h : ∀ p ∈ P, p < 65536) : cutDD (joinC 58 (P.map hexT)) = none := by
  cases P with
  | nil => rfl
  | cons p l =>
    have hp : hexT p ≠ [] := fun e => by
      have := (hexT_len p).1
      rw [e] at this
      simp at this
    exact cut_none l (fun q hq => h q (by simp [hq])) (hexT p) (hexT_no (h p (by simp))) hp
end Go.Proofs.YtdlepeogmjmleaaDoor
/-
  Own text. An address's own text says the address.
-/
namespace Go.Proofs.YtdlepeogmjmleaaDoor
open Go.RowKit Go.Proofs
set_option maxRecDepth 100000
theorem cut_app : ∀ (J t : List UInt8), cutDD J = none → J.getLast? ≠ some 58 → cutDD (J ++ 58 :: 58 :: t) = some (J, t)
  | [], t, _, _ => rfl
  | [x], t, _, h => by
    have hx : x ≠ 58 := fun e => h (by rw [e]; rfl)
    show cutDD (x :: 58 :: 58 :: t) = _
    rw [cutDD, if_neg (fun e => hx e.1)]
    rfl
  | x :: y :: m, t, hn, h => by
    have h1 : ¬ (x = 58 ∧ y = 58) := fun e => by
      rw [cutDD, if_pos e] at hn
      cases hn
    rw [cutDD, if_neg h1] at hn
    have h2 : cutDD (y :: m) = none := by
      cases hc : cutDD (y :: m) with
      | none => rfl
      | some q => rw [hc] at hn; cases hn
    have ih := cut_app (y :: m) t h2 (fun e => h (by rw [← e]; rfl))
    show cutDD (x :: (y :: (m ++ 58 :: 58 :: t))) = _
    rw [cutDD, if_neg h1]
    have e2 : y :: (m ++ 58 :: 58 :: t) = y :: m ++ 58 :: 58 :: t := rfl
    rw [e2, ih]
theorem last_join : ∀ (P : List Nat), (∀ p ∈ P, p < 65536) → (joinC 58 (P.map hexT)).getLast? ≠ some 58
  | [], _ => by simp [joinC]
  | [p], h => fun e => hexT_no (h p (by simp)) (List.mem_of_getLast? e)
  | p :: q :: l, h => by
    have ih := last_join (q :: l) (fun x hx => h x (List.mem_cons_of_mem _ hx))
    show (hexT p ++ 58 :: joinC 58 ((q :: l).map hexT)).getLast? ≠ some 58
    have hne : joinC 58 ((q :: l).map hexT) ≠ [] := by
      have hq : hexT q ≠ [] := fun e => by
        have := (hexT_len q).1
        rw [e] at this
        simp at this
      cases l with
      | nil => exact hq
      | cons r m =>
        rw [List.map_cons, List.map_cons, joinC]
        simp
    generalize joinC 58 ((q :: l).map hexT) = K at *
    cases K with
    | nil => exact absurd rfl hne
    | cons x k =>
      rw [List.getLast?_append, List.getLast?_cons_cons]
      cases hk : (x :: k).getLast? with
      | none => simp at hk
      | some z =>
        rw [hk] at ih
        simpa using ih
/-- The eight pairs of a text. -/
def sixV (s : List UInt8) : Option (List Nat) := match cutDD s with
  | none => match pairsV s with
    | some l => if l.length = 8 then some l else none
    | none => none
  | some (h, t) => match pairsV h, pairsV t with
    | some a, some b => if a.length + b.length ≤ 7 then some (a ++ (List.replicate (8 - a.length - b.length) 0 ++ b)) else none
    | _, _ => none
/-- The texts of the pairs from a on, n of them. -/
def prL (pr : Nat → Nat) (a n : Nat) : List Nat := (List.range' a n).map pr
def sixT (pr : Nat → Nat) (at0 long : Nat) : List UInt8 := if long = 0 then joinC 58 ((prL pr 0 8).map hexT) else joinC 58 ((prL pr 0 at0).map hexT) ++ 58 :: 58 :: joinC 58 ((prL pr (at0 + long) (8 - (at0 + long))).map hexT)
theorem prL_len (pr : Nat → Nat) (a n : Nat) : (prL pr a n).length = n := by simp [prL]
theorem prL_mem {pr : Nat → Nat} (hp : ∀ i, i < 8 → pr i < 65536) {a n : Nat} (h : a + n ≤ 8) : ∀ p ∈ prL pr a n, p < 65536 := fun p hm => by
  unfold prL at hm
  obtain ⟨i, hi, rfl⟩ := List.mem_map.1 hm
  have := List.mem_range'_1.1 hi
  exact hp i (by omega)
theorem prL_zero {pr : Nat → Nat} {a n : Nat} (h : ∀ i, a ≤ i → i < a + n → pr i = 0) : prL pr a n = List.replicate n 0 := by
  unfold prL
  apply List.ext_getElem
  · simp
  · intro i h1 h2
    simp at h1
    rw [List.getElem_map, List.getElem_range', List.getElem_replicate]
    exact h _ (by omega) (by omega)
theorem prL_app (pr : Nat → Nat) (a n m : Nat) : prL pr a n ++ prL pr (a + n) m = prL pr a (n + m) := by
  unfold prL
  rw [← List.map_append, List.range'_append_1]
theorem six_back {pr : Nat → Nat} {at0 long : Nat} (hp : ∀ i, i < 8 → pr i < 65536) (h : long = 0 ∨ (at0 + long ≤ 8 ∧ ∀ i, at0 ≤ i → i < at0 + long → pr i = 0)) : sixV (sixT pr at0 long) = some (prL pr 0 8) := by
  unfold sixT
  by_cases e : long = 0
  · rw [if_pos e]
    have hm := prL_mem hp (a := 0) (n := 8) (by omega)
    unfold sixV
    rw [cut_join hm]
    show (match pairsV (joinC 58 ((prL pr 0 8).map hexT)) with
      | some l => if l.length = 8 then some l else none
      | none => none) = _
    rw [pairs_join hm]
    show (if (prL pr 0 8).length = 8 then some (prL pr 0 8) else none) = _
    rw [if_pos (prL_len _ _ _)]
  · rw [if_neg e]
    rcases h with h | ⟨h8, hz⟩
    · exact absurd h e
    · have hm1 := prL_mem hp (a := 0) (n := at0) (by omega)
      have hm2 := prL_mem hp (a := at0 + long) (n := 8 - (at0 + long)) (by omega)
      unfold sixV
      rw [cut_app _ _ (cut_join hm1) (last_join _ hm1)]
      show (match pairsV (joinC 58 ((prL pr 0 at0).map hexT)), pairsV (joinC 58 ((prL pr (at0 + long) (8 - (at0 + long))).map hexT)) with
        | some a, some b => if a.length + b.length ≤ 7 then some (a ++ (List.replicate (8 - a.length - b.length) 0 ++ b)) else none
        | _, _ => none) = _
      rw [pairs_join hm1, pairs_join hm2]
      show (if (prL pr 0 at0).length + (prL pr (at0 + long) (8 - (at0 + long))).length ≤ 7 then some (prL pr 0 at0 ++ (List.replicate (8 - (prL pr 0 at0).length - (prL pr (at0 + long) (8 - (at0 + long))).length) 0 ++ prL pr (at0 + long) (8 - (at0 + long)))) else none) = _
      rw [prL_len, prL_len, if_pos (by omega), show 8 - at0 - (8 - (at0 + long)) = long by omega, ← prL_zero hz, prL_app]
      have e0 := prL_app pr 0 at0 (long + (8 - (at0 + long)))
      rw [Nat.zero_add] at e0
      rw [e0, show at0 + (long + (8 - (at0 + long))) = 8 by omega]
theorem six_lt {s : List UInt8} {P : List Nat} (h : sixV s = some P) : P.length = 8 ∧ ∀ p ∈ P, p < 65536 := by
  unfold sixV at h
  split at h
  · split at h
    · rename_i l hl
      split at h
      · injection h with h
        subst h
        exact ⟨by assumption, pairs_lt hl⟩
      · cases h
    · cases h
  · split at h
    · rename_i a b ha hb
      split at h
      · rename_i hle
        injection h with h
        subst h
        refine ⟨by simp; omega, fun p hp => ?_⟩
        rcases List.mem_append.1 hp with hp | hp
        · exact pairs_lt ha p hp
        · rcases List.mem_append.1 hp with hp | hp
          · have := (List.mem_replicate.1 hp).2
            omega
          · exact pairs_lt hb p hp
      · cases h
    · cases h
/-- The text of a byte as a decimal number. -/
def decT (n : Nat) : List UInt8 := if n < 10 then [UInt8.ofNat (48 + n)] else if n < 100 then [UInt8.ofNat (48 + n / 10), UInt8.ofNat (48 + n % 10)] else [UInt8.ofNat (48 + n / 100), UInt8.ofNat (48 + n / 10 % 10), UInt8.ofNat (48 + n % 10)]
def foldD : Nat → List UInt8 → Option Nat
  | n, [] => some n
  | n, c :: l => if 48 ≤ c.toNat ∧ c.toNat ≤ 57 then foldD (10 * n + (c.toNat - 48)) l else none
/-- A byte as Text tells it. -/
def byteV (p : List UInt8) : Option Nat := if 1 ≤ p.length ∧ p.length ≤ 3 then match foldD 0 p with
    | some n => if n ≤ 255 ∧ decT n = p then some n else none
    | none => none
  else none
theorem dec_tab : ((List.range 256).all fun n => (byteV (decT n) == some n) && (decT n).all (fun c => !(c == 46) && !(c == 58)) && decide ((decT n).length ≤ 3)) = true := by decide +kernel
theorem dec_b {n : Nat} (hn : n < 256) : byteV (decT n) = some n ∧ (∀ c ∈ decT n, c ≠ 46 ∧ c ≠ 58) ∧ (decT n).length ≤ 3 := by
  have h := List.all_eq_true.1 dec_tab n (List.mem_range.2 hn)
  simp only [Bool.and_eq_true, beq_iff_eq, decide_eq_true_eq] at h
  refine ⟨h.1.1, fun c hc => ?_, h.2⟩
  have := List.all_eq_true.1 h.1.2 c hc
  simp only [Bool.and_eq_true, Bool.not_eq_true', beq_eq_false_iff_ne] at this
  exact this
theorem fold_dig : ∀ (l : List UInt8) (n m : Nat), foldD n l = some m → ∀ c ∈ l, c ≠ 58
  | [], _, _, _, c, hc => by simp at hc
  | x :: l, n, m, h, c, hc => by
    unfold foldD at h
    split at h
    · rename_i e
      rcases List.mem_cons.1 hc with rfl | hc
      · intro e2
        rw [e2] at e
        have : (58 : UInt8).toNat = 58 := rfl
        omega
      · exact fold_dig l _ m h c hc
    · cases h
theorem byte_dig {p : List UInt8} {n : Nat} (h : byteV p = some n) : n < 256 ∧ ∀ c ∈ p, c ≠ 58 := by
  unfold byteV at h
  split at h
  · split at h
    · rename_i m hm
      split at h
      · rename_i e
        injection h with h
        subst h
        exact ⟨by omega, fold_dig p 0 m hm⟩
      · cases h
    · cases h
  · cases h
/-- The four bytes of a text. -/
def fourV (s : List UInt8) : Option (List Nat) := if (splitC 46 s).length = 4 then allO byteV (splitC 46 s) else none
def fourT (p q r s : Nat) : List UInt8 := decT p ++ 46 :: (decT q ++ 46 :: (decT r ++ 46 :: decT s))
theorem four_back {p q r s : Nat} (hp : p < 256) (hq : q < 256) (hr : r < 256) (hs : s < 256) : fourV (fourT p q r s) = some [p, q, r, s] := by
  have e : fourT p q r s = joinC 46 [decT p, decT q, decT r, decT s] := rfl
  have h : splitC 46 (fourT p q r s) = [decT p, decT q, decT r, decT s] := by
    rw [e]
    refine split_join _ (by simp) (fun x hx => ?_)
    simp at hx
    rcases hx with rfl | rfl | rfl | rfl
    · exact fun hc => ((dec_b hp).2.1 _ hc).1 rfl
    · exact fun hc => ((dec_b hq).2.1 _ hc).1 rfl
    · exact fun hc => ((dec_b hr).2.1 _ hc).1 rfl
    · exact fun hc => ((dec_b hs).2.1 _ hc).1 rfl
  unfold fourV
  rw [h, if_pos (show [decT p, decT q, decT r, decT s].length = 4 from rfl)]
  simp [allO, (dec_b hp).1, (dec_b hq).1, (dec_b hr).1, (dec_b hs).1]
theorem four_lt {s : List UInt8} {l : List Nat} (h : fourV s = some l) : l.length = 4 ∧ (∀ n ∈ l, n < 256) ∧ ∀ c ∈ s, c ≠ 58 := by
  unfold fourV at h
  split at h
  · rename_i e
    refine ⟨by rw [allO_len _ _ h, e], fun n hn => ?_, fun c hc => ?_⟩
    · obtain ⟨a, _, ha⟩ := allO_mem _ _ h n hn
      exact (byte_dig ha).1
    · rcases split_mem (c := 46) s c hc with rfl | ⟨p, hp, hx⟩
      · decide
      · obtain ⟨n, hn⟩ := allO_src _ _ h p hp
        exact (byte_dig hn).2 c hx
  · cases h
theorem six_colon (pr : Nat → Nat) (at0 long : Nat) : (58 : UInt8) ∈ sixT pr at0 long := by
  unfold sixT
  split
  · show (58 : UInt8) ∈ joinC 58 (hexT (pr 0) :: hexT (pr 1) :: ((prL pr 2 6).map hexT))
    rw [joinC]
    simp
  · simp
theorem six_four (pr : Nat → Nat) (at0 long : Nat) : fourV (sixT pr at0 long) = none := by
  cases h : fourV (sixT pr at0 long) with
  | none => rfl
  | some l => exact absurd rfl ((four_lt h).2.2 _ (six_colon pr at0 long))
/-- What a text says: its version, and its four bytes or its eight pairs. -/
def parV (s : List UInt8) : Option (Bool × List Nat) := match fourV s with
  | some l => some (false, l)
  | none => match sixV s with
    | some l => some (true, l)
    | none => none
theorem par_four {p q r s : Nat} (hp : p < 256) (hq : q < 256) (hr : r < 256) (hs : s < 256) : parV (fourT p q r s) = some (false, [p, q, r, s]) := by
  unfold parV
  rw [four_back hp hq hr hs]
theorem par_six {pr : Nat → Nat} {at0 long : Nat} (hp : ∀ i, i < 8 → pr i < 65536) (h : long = 0 ∨ (at0 + long ≤ 8 ∧ ∀ i, at0 ≤ i → i < at0 + long → pr i = 0)) : parV (sixT pr at0 long) = some (true, prL pr 0 8) := by
  unfold parV
  rw [six_four, six_back hp h]
theorem join_len : ∀ (P : List Nat), (joinC 58 (P.map hexT)).length + 1 ≤ 5 * P.length + (if P = [] then 1 else 0)
  | [] => by simp [joinC]
  | [p] => by
    have := (hexT_len p).2
    show (hexT p).length + 1 ≤ _
    simp
    omega
  | p :: q :: l => by
    have ih := join_len (q :: l)
    have := (hexT_len p).2
    show (hexT p ++ 58 :: joinC 58 ((q :: l).map hexT)).length + 1 ≤ _
    rw [List.length_append, List.length_cons]
    simp at ih ⊢
    omega
theorem six_len (pr : Nat → Nat) {at0 long : Nat} (h : long = 0 ∨ (2 ≤ long ∧ at0 + long ≤ 8)) : (sixT pr at0 long).length ≤ 39 := by
  unfold sixT
  split
  · have := join_len (prL pr 0 8)
    rw [prL_len, if_neg (fun e => by have := prL_len pr 0 8; rw [e] at this; simp at this)] at this
    omega
  · have h1 := join_len (prL pr 0 at0)
    have h2 := join_len (prL pr (at0 + long) (8 - (at0 + long)))
    rw [prL_len] at h1 h2
    rw [List.length_append, List.length_cons, List.length_cons]
    split at h1 <;> split at h2 <;> omega
theorem four_len {p q r s : Nat} (hp : p < 256) (hq : q < 256) (hr : r < 256) (hs : s < 256) : (fourT p q r s).length ≤ 15 := by
  have := (dec_b hp).2.2
  have := (dec_b hq).2.2
  have := (dec_b hr).2.2
  have := (dec_b hs).2.2
  unfold fourT
  simp
  omega
end Go.Proofs.YtdlepeogmjmleaaDoor
/-
  Own text. What the library's own words for texts (cuts, joins, numbers) say in the words of this layer.
-/
namespace Go.Proofs.YtdlepeogmjmleaaDoor
open Go.RowKit Go.Proofs
set_option maxRecDepth 100000
theorem idx_hit {c : UInt8} (l : List UInt8) : Lib.index (c :: l) [c] = 0 := by
  rw [Lib.index, if_pos (by simp [List.isPrefixOf])]
theorem idx_skip {c x : UInt8} (h : x ≠ c) (l : List UInt8) : Lib.index (x :: l) [c] = if Lib.index l [c] = -1 then -1 else Lib.index l [c] + 1 := by
  have hp : ([c] : List UInt8).isPrefixOf (x :: l) = false := by
    simp only [List.isPrefixOf, Bool.and_eq_false_iff]
    exact .inl (by simp; exact fun e => h e.symm)
  rw [Lib.index, if_neg (by rw [hp]; decide)]
  by_cases e : Lib.index l [c] = -1
  · rw [if_pos e, if_pos (beq_iff_eq.2 e)]
  · rw [if_neg e, if_neg (fun q => e (beq_iff_eq.1 q))]
theorem idx_nn {c : UInt8} : ∀ (l : List UInt8), Lib.index l [c] = -1 ∨ 0 ≤ Lib.index l [c] := fun l => by
  have := Lib.index_ge l [c]
  omega
/-- The pieces of a cut at most k times: all of them, or just k + 1. -/
theorem splitK_c (c : UInt8) : ∀ (l : List UInt8) (k : Nat), (Lib.splitK [c] 0 k l).length = min (k + 1) (splitC c l).length ∧ ((splitC c l).length ≤ k + 1 → Lib.splitK [c] 0 k l = splitC c l) ∧ (k + 1 < (splitC c l).length → ∃ pre z, Lib.splitK [c] 0 k l = pre ++ [z] ∧ c ∈ z) := by
  intro l
  induction l with
  | nil =>
    intro k
    cases k with
    | zero => simp [Lib.splitK, splitC]
    | succ k => simp [Lib.splitK, splitC, Lib.index]
  | cons x l ih =>
    intro k
    by_cases hx : x = c
    · subst hx
      have hs : splitC x (x :: l) = [] :: splitC x l := by rw [splitC, if_pos rfl]
      have hne := split_ne x l
      have hl : 1 ≤ (splitC x l).length := List.length_pos_iff.2 hne
      cases k with
      | zero =>
        refine ⟨?_, fun h => ?_, fun _ => ⟨[], x :: l, rfl, by simp⟩⟩
        · rw [hs]; simp [Lib.splitK]
        · rw [hs] at h; simp at h; exact absurd h hne
      | succ k =>
        have e : Lib.splitK [x] 0 (k + 1) (x :: l) = [] :: Lib.splitK [x] 0 k l := by
          rw [Lib.splitK, idx_hit, if_neg (by decide)]
          rfl
        obtain ⟨i1, i2, i3⟩ := ih k
        rw [e, hs]
        refine ⟨?_, fun h => ?_, fun h => ?_⟩
        · simp only [List.length_cons, i1]; omega
        · rw [i2 (by simpa using h)]
        · obtain ⟨pre, z, hz, hm⟩ := i3 (by simpa using h)
          exact ⟨[] :: pre, z, by rw [hz]; rfl, hm⟩
    · obtain ⟨h0, t0, hht⟩ : ∃ h0 t0, splitC c l = h0 :: t0 := by
        cases h : splitC c l with
        | nil => exact absurd h (split_ne c l)
        | cons a b => exact ⟨a, b, rfl⟩
      have hs : splitC c (x :: l) = (x :: h0) :: t0 := by rw [splitC, if_neg hx, hht]
      cases k with
      | zero =>
        refine ⟨?_, fun h => ?_, fun h => ?_⟩
        · rw [hs]; simp [Lib.splitK]
        · have := (ih 0).2.1 (by rw [hs] at h; rw [hht]; simpa using h)
          rw [Lib.splitK] at this
          rw [hs, Lib.splitK]
          rw [hht] at this
          injection this with p1 p2
          rw [p1, ← p2]
        · obtain ⟨pre, z, hz, hm⟩ := (ih 0).2.2 (by rw [hs] at h; rw [hht]; simpa using h)
          rw [Lib.splitK] at hz
          have hl : z = l := by
            cases pre with
            | nil => simpa using hz.symm
            | cons a b => simp at hz
          subst hl
          exact ⟨[], x :: z, by rw [Lib.splitK]; rfl, List.mem_cons_of_mem _ hm⟩
      | succ k =>
        have e : Lib.splitK [c] 0 (k + 1) (x :: l) = match Lib.splitK [c] 0 (k + 1) l with | [] => [[x]] | a :: b => (x :: a) :: b := by
          rw [Lib.splitK, Lib.splitK, idx_skip hx]
          rcases idx_nn (c := c) l with hi | hi
          · rw [if_pos hi, if_pos (by decide), if_pos (beq_iff_eq.2 hi)]
          · have hn : ¬ Lib.index l [c] = -1 := by omega
            rw [if_neg hn, if_neg (fun q => by have := beq_iff_eq.1 q; omega), if_neg (fun q => hn (beq_iff_eq.1 q))]
            have hnat : (Lib.index l [c] + 1).toNat = (Lib.index l [c]).toNat + 1 := by omega
            rw [hnat]
            simp [List.take]
        obtain ⟨i1, i2, i3⟩ := ih (k + 1)
        have hne : Lib.splitK [c] 0 (k + 1) l ≠ [] := by
          intro q
          rw [q, hht] at i1
          simp at i1
        obtain ⟨a, b, hab⟩ : ∃ a b, Lib.splitK [c] 0 (k + 1) l = a :: b := by
          cases h : Lib.splitK [c] 0 (k + 1) l with
          | nil => exact absurd h hne
          | cons a b => exact ⟨a, b, rfl⟩
        rw [e, hab, hs]
        rw [hab, hht] at i1
        refine ⟨?_, fun h => ?_, fun h => ?_⟩
        · simpa using i1
        · have := i2 (by rw [hht]; simpa using h)
          rw [hab, hht] at this
          injection this with p1 p2
          rw [p1, p2]
        · obtain ⟨pre, z, hz, hm⟩ := i3 (by rw [hht]; simpa using h)
          rw [hab] at hz
          cases pre with
          | nil =>
            simp at hz
            exact ⟨[], x :: a, by rw [hz.2]; rfl, by rw [hz.1]; exact List.mem_cons_of_mem _ hm⟩
          | cons p q =>
            simp at hz
            exact ⟨(x :: a) :: q, z, by rw [hz.2]; rfl, hm⟩
theorem split_size (c : UInt8) : ∀ l : List UInt8, (splitC c l).length ≤ l.length + 1
  | [] => by simp [splitC]
  | x :: l => by
    have ih := split_size c l
    rw [splitC]
    split
    · simp; omega
    · cases h : splitC c l with
      | nil => simp
      | cons a b => rw [h] at ih; simp at ih ⊢; omega
/-- Joined anew. -/
theorem join_split (c : UInt8) : ∀ l : List UInt8, joinC c (splitC c l) = l
  | [] => rfl
  | x :: l => by
    have ih := join_split c l
    obtain ⟨h0, t0, hht⟩ : ∃ h0 t0, splitC c l = h0 :: t0 := by
      cases h : splitC c l with
      | nil => exact absurd h (split_ne c l)
      | cons a b => exact ⟨a, b, rfl⟩
    rw [hht] at ih
    rw [splitC]
    split
    · rename_i e
      subst e
      rw [hht]
      cases t0 with
      | nil => rw [joinC] at ih; rw [joinC, joinC]; simp [ih]
      | cons a b => rw [joinC, ih]; rfl
    · rw [hht]
      cases t0 with
      | nil => rw [joinC] at ih ⊢; simp [ih]
      | cons a b => rw [joinC] at ih ⊢; simp [← ih]
theorem join_lib (c : UInt8) : ∀ L : List (List UInt8), Lib.join L [c] = joinC c L
  | [] => rfl
  | [a] => by rw [Lib.join_one, joinC]
  | a :: b :: r => by
    have ih := join_lib c (b :: r)
    rw [Lib.join_cons] at ih ⊢
    rw [joinC, ← ih]
    simp [Lib.joinTail]
/-- The first :: as the library finds it. -/
theorem idx_dd : ∀ l : List UInt8, (cutDD l = none ∧ Lib.index l [58, 58] = -1) ∨ ∃ h t, cutDD l = some (h, t) ∧ l = h ++ 58 :: 58 :: t ∧ Lib.index l [58, 58] = (h.length : Int)
  | [] => .inl ⟨rfl, by simp [Lib.index]⟩
  | [x] => .inl ⟨rfl, by simp [Lib.index, List.isPrefixOf]⟩
  | x :: y :: m => by
    have ih := idx_dd (y :: m)
    by_cases e : x = 58 ∧ y = 58
    · obtain ⟨rfl, rfl⟩ := e
      refine .inr ⟨[], m, ?_, rfl, ?_⟩
      · rw [cutDD]; simp
      · rw [Lib.index, if_pos (by simp [List.isPrefixOf])]; rfl
    · have hp : ([58, 58] : List UInt8).isPrefixOf (x :: y :: m) = false := by
        cases h : ([58, 58] : List UInt8).isPrefixOf (x :: y :: m) with
        | false => rfl
        | true => simp [List.isPrefixOf] at h; exact absurd ⟨h.1.symm, h.2.symm⟩ e
      have hc : cutDD (x :: y :: m) = match cutDD (y :: m) with | none => none | some (h, t) => some (x :: h, t) := by
        rw [cutDD]; simp only [if_neg e]
        all_goals (cases cutDD (y :: m) <;> rfl)
      have hi : Lib.index (x :: y :: m) [58, 58] = if Lib.index (y :: m) [58, 58] == -1 then -1 else Lib.index (y :: m) [58, 58] + 1 := by
        rw [Lib.index, if_neg (by rw [hp]; decide)]
      rcases ih with ⟨h1, h2⟩ | ⟨h, t, h1, h2, h3⟩
      · refine .inl ⟨by rw [hc, h1], by rw [hi, h2]; rfl⟩
      · refine .inr ⟨x :: h, t, by rw [hc, h1], by rw [h2]; rfl, ?_⟩
        rw [hi, h3, if_neg (fun q => by have := beq_iff_eq.1 q; omega)]
        simp
theorem cut_lib (l : List UInt8) : (cutDD l = none ∧ Lib.cut l [58, 58] = (l, [], false)) ∨ ∃ h t, cutDD l = some (h, t) ∧ Lib.cut l [58, 58] = (h, t, true) ∧ l = h ++ 58 :: 58 :: t := by
  rcases idx_dd l with ⟨h1, h2⟩ | ⟨h, t, h1, h2, h3⟩
  · exact .inl ⟨h1, by rw [Lib.cut, h2]; rfl⟩
  · refine .inr ⟨h, t, h1, ?_, h2⟩
    rw [Lib.cut, h3, if_pos (by omega)]
    subst h2
    simp
/-- A decimal number as the library reads it: what Text tells of a byte is read as that byte. -/
theorem dec_read_tab : ((List.range 256).all fun n => Lib.parseUintB 8 (decT n) == .ok n) = true := by decide +kernel
theorem dec_read {n : Nat} (hn : n < 256) : Lib.parseUintB 8 (decT n) = .ok n := by
  have h := List.all_eq_true.1 dec_read_tab n (List.mem_range.2 hn)
  exact beq_iff_eq.1 h
theorem read_m : ∀ (l : List UInt8) (a n : Nat), a ≤ 255 → Lib.parseUintM 255 a l = .ok n → n ≤ 255
  | [], a, n, ha, h => by
    rw [Lib.parseUintM] at h
    injection h with e
    omega
  | c :: l, a, n, ha, h => by
    rw [Lib.parseUintM] at h
    split at h
    · split at h
      · cases h
      · split at h
        · cases h
        · exact read_m l _ n (by omega) h
    · cases h
theorem read_lt {p : List UInt8} {n : Nat} (h : Lib.parseUintB 8 p = .ok n) : n < 256 := by
  unfold Lib.parseUintB at h
  split at h
  · cases h
  · have := read_m p 0 n (by omega) h
    omega
theorem byte_dec {p : List UInt8} {n : Nat} (h : byteV p = some n) : p = decT n ∧ n < 256 := by
  unfold byteV at h
  split at h
  · split at h
    · split at h
      · rename_i e
        injection h with h
        subst h
        exact ⟨e.2.symm, by omega⟩
      · cases h
    · cases h
  · cases h
/-- Of four pieces one that the library does not read: no address. -/
theorem four_bad {s p : List UInt8} (hp : p ∈ splitC 46 s) (h : ∀ n, Lib.parseUintB 8 p ≠ .ok n) : fourV s = none := by
  cases hf : fourV s with
  | none => rfl
  | some l =>
    unfold fourV at hf
    split at hf
    · obtain ⟨n, hn⟩ := allO_src _ _ hf p hp
      obtain ⟨e, hl⟩ := byte_dec hn
      exact absurd (by rw [e]; exact dec_read hl) (h n)
    · cases hf
theorem four_not {s : List UInt8} (h : (splitC 46 s).length ≠ 4) : fourV s = none := by
  unfold fourV
  rw [if_neg h]
theorem four_eq {s p0 p1 p2 p3 : List UInt8} {a b c d : Nat} (hp : splitC 46 s = [p0, p1, p2, p3]) (h0 : Lib.parseUintB 8 p0 = .ok a) (h1 : Lib.parseUintB 8 p1 = .ok b) (h2 : Lib.parseUintB 8 p2 = .ok c) (h3 : Lib.parseUintB 8 p3 = .ok d) : fourV s = if fourT a b c d = s then some [a, b, c, d] else none := by
  by_cases e : fourT a b c d = s
  · rw [if_pos e, ← e]
    exact four_back (read_lt h0) (read_lt h1) (read_lt h2) (read_lt h3)
  · rw [if_neg e]
    cases hf : fourV s with
    | none => rfl
    | some l =>
      exfalso
      unfold fourV at hf
      rw [hp] at hf
      rw [if_pos (by rfl)] at hf
      have g : ∀ {p : List UInt8} {n m : Nat}, byteV p = some m → Lib.parseUintB 8 p = .ok n → p = decT n := fun {p n m} k1 k2 => by
        obtain ⟨q1, q2⟩ := byte_dec k1
        rw [q1, dec_read q2] at k2
        injection k2 with k2
        rw [← k2]
        exact q1
      obtain ⟨m0, e0⟩ := allO_src _ _ hf p0 (by simp)
      obtain ⟨m1, e1⟩ := allO_src _ _ hf p1 (by simp)
      obtain ⟨m2, e2⟩ := allO_src _ _ hf p2 (by simp)
      obtain ⟨m3, e3⟩ := allO_src _ _ hf p3 (by simp)
      apply e
      have hj := join_split 46 s
      rw [hp, g e0 h0, g e1 h1, g e2 h2, g e3 h3] at hj
      exact hj
/-- The pairs of a text, of nine pieces at most. -/
def pairs9 (s : List UInt8) : Option (List Nat) := if s = [] then some [] else if (splitC 58 s).length ≤ 9 then allO pairV (splitC 58 s) else none
theorem pairs9_or (s : List UInt8) : pairs9 s = pairsV s ∨ (pairs9 s = none ∧ ∀ P, pairsV s = some P → 9 < P.length) := by
  unfold pairs9 pairsV
  by_cases h : s = []
  · rw [if_pos h, if_pos h]; exact .inl rfl
  · rw [if_neg h, if_neg h]
    by_cases h9 : (splitC 58 s).length ≤ 9
    · rw [if_pos h9]; exact .inl rfl
    · rw [if_neg h9]
      exact .inr ⟨rfl, fun P hP => by have := allO_len _ _ hP; omega⟩
def oneV : Option (List Nat) → Option (List Nat)
  | some l => if l.length = 8 then some l else none
  | none => none
def twoV : Option (List Nat) → Option (List Nat) → Option (List Nat)
  | some a, some b => if a.length + b.length ≤ 7 then some (a ++ (List.replicate (8 - a.length - b.length) 0 ++ b)) else none
  | _, _ => none
theorem six9_no {s : List UInt8} (hc : cutDD s = none) : sixV s = oneV (pairs9 s) := by
  have e0 : sixV s = oneV (pairsV s) := by unfold sixV; rw [hc]; show (match pairsV s with | some l => if l.length = 8 then some l else none | none => none) = _; cases pairsV s <;> rfl
  rw [e0]
  rcases pairs9_or s with e | ⟨e, e2⟩
  · rw [e]
  · rw [e]
    cases h : pairsV s with
    | none => rfl
    | some P =>
      have := e2 P h
      show (if P.length = 8 then some P else none) = none
      rw [if_neg (by omega)]
theorem six9_cut {s h t : List UInt8} (hc : cutDD s = some (h, t)) : sixV s = twoV (pairs9 h) (pairs9 t) := by
  have e0 : sixV s = twoV (pairsV h) (pairsV t) := by
    unfold sixV
    rw [hc]
    show (match pairsV h, pairsV t with | some a, some b => if a.length + b.length ≤ 7 then some (a ++ (List.replicate (8 - a.length - b.length) 0 ++ b)) else none | _, _ => none) = _
    cases pairsV h <;> cases pairsV t <;> rfl
  rw [e0]
  rcases pairs9_or h with e | ⟨e, e2⟩
  · rw [e]
    rcases pairs9_or t with f | ⟨f, f2⟩
    · rw [f]
    · rw [f]
      cases hh : pairsV h with
      | none => rfl
      | some A =>
        cases ht : pairsV t with
        | none => rfl
        | some B =>
          have := f2 B ht
          show (if A.length + B.length ≤ 7 then some _ else none) = none
          rw [if_neg (by omega)]
  · rw [e]
    cases hh : pairsV h with
    | none => rfl
    | some A =>
      have := e2 A hh
      cases ht : pairsV t with
      | none => rfl
      | some B =>
        show (if A.length + B.length ≤ 7 then some _ else none) = none
        rw [if_neg (by omega)]
theorem pairs9_len {s : List UInt8} {P : List Nat} (h : pairs9 s = some P) : P.length ≤ 9 ∧ ∀ p ∈ P, p < 65536 := by
  unfold pairs9 at h
  split at h
  · injection h with h; subst h; exact ⟨by simp, fun p hp => by simp at hp⟩
  · split at h
    · exact ⟨by rw [allO_len _ _ h]; assumption, fun p hp => by
        obtain ⟨a, _, he⟩ := allO_mem _ _ h p hp
        exact pair_lt he⟩
    · cases h
/-- A hexadecimal number of 16 bits as the library reads it. -/
def hexM (acc : Nat) : List UInt8 → Lib.NumEnd Nat
  | [] => .ok acc
  | c :: r => match hexV c with
    | some d => if 65535 < acc * 16 + d then .range else hexM (acc * 16 + d) r
    | none => .syntax
def hexB (l : List UInt8) : Lib.NumEnd Nat := if l = [] then .syntax else hexM 0 l
theorem hexM_fold : ∀ (l : List UInt8) (a : Nat), (a + 1) * 16 ^ l.length ≤ 65536 → hexM a l = match foldH a l with | some n => .ok n | none => .syntax
  | [], a, _ => rfl
  | c :: l, a, h => by
    rw [hexM, foldH]
    cases hv : hexV c with
    | none => rfl
    | some d =>
      have hd := hex_lt hv
      have hp : 1 ≤ 16 ^ l.length := Nat.one_le_pow _ _ (by omega)
      rw [List.length_cons, Nat.pow_succ] at h
      have h2 : (a + 1) * 16 ≤ 65536 := by
        have : (a + 1) * 16 * 1 ≤ (a + 1) * 16 * 16 ^ l.length := Nat.mul_le_mul_left _ hp
        have e : (a + 1) * 16 * 16 ^ l.length = (a + 1) * (16 ^ l.length * 16) := by rw [Nat.mul_assoc, Nat.mul_comm 16]
        omega
      have h3 : (a * 16 + d + 1) * 16 ^ l.length ≤ 65536 := by
        have : (a * 16 + d + 1) * 16 ^ l.length ≤ ((a + 1) * 16) * 16 ^ l.length := Nat.mul_le_mul_right _ (by omega)
        have e : (a + 1) * 16 * 16 ^ l.length = (a + 1) * (16 ^ l.length * 16) := by rw [Nat.mul_assoc, Nat.mul_comm 16]
        omega
      show (if 65535 < a * 16 + d then Lib.NumEnd.range else hexM (a * 16 + d) l) = _
      rw [if_neg (by omega), hexM_fold l _ h3, Nat.mul_comm a 16]
theorem hexB_pair {p : List UInt8} (h : p.length ≤ 4) : hexB p = match pairV p with | some n => .ok n | none => .syntax := by
  unfold hexB pairV
  cases p with
  | nil => rfl
  | cons c l =>
    rw [if_neg (by simp), if_pos ⟨by simp, h⟩]
    refine hexM_fold _ 0 ?_
    have : 16 ^ (c :: l).length ≤ 16 ^ 4 := Nat.pow_le_pow_right (by omega) h
    omega
theorem pair_long {p : List UInt8} (h : 4 < p.length) : pairV p = none := by
  unfold pairV
  rw [if_neg (by omega)]
/-- A piece with a colon is no number. -/
theorem pair_colon {p : List UInt8} (h : (58 : UInt8) ∈ p) : pairV p = none := by
  have g : ∀ (l : List UInt8) (n : Nat), (58 : UInt8) ∈ l → foldH n l = none := by
    intro l
    induction l with
    | nil => intro n hm; simp at hm
    | cons c l ih =>
      intro n hm
      rw [foldH]
      cases hv : hexV c with
      | none => rfl
      | some d =>
        rcases List.mem_cons.1 hm with e | hm
        · subst e; cases (show (none : Option Nat) = some d from hv)
        · exact ih _ hm
  unfold pairV
  split
  · exact g p 0 h
  · rfl
end Go.Proofs.YtdlepeogmjmleaaDoor
/-
  Own text. The document's cut and digit.
-/
namespace Go.Proofs.YtdlepeogmjmleaaDoor
open Go.RowKit Go.Proofs Go.Lib
set_option maxRecDepth 100000
/-- The bytes of a text as a list. -/
def lsT (s : ByteArray) : List UInt8 := s.data.toList
theorem lsT_len (s : ByteArray) : (lsT s).length = s.size := by unfold lsT; rfl
theorem lsT_ext (s : ByteArray) (a e : Nat) : lsT (s.extract a e) = ((lsT s).drop a).take (e - a) := by
  unfold lsT
  rw [ByteArray.data_extract, Array.toList_extract, List.extract_eq_take_drop]
theorem txt_ls {s : ByteArray} {i : Nat} {x : UInt8} {l : List UInt8} (h : (lsT s).drop i = x :: l) : txt s i = (x.toNat : Int) := by
  have h1 : (lsT s)[i]? = some x := by
    have := List.getElem?_drop (xs := lsT s) (i := i) (j := 0)
    rw [h] at this
    simpa using this.symm
  unfold txt
  unfold lsT at h1
  rw [List.getD_eq_getElem?_getD, h1]
  rfl
theorem lsT_at {s : ByteArray} {i : Nat} (h : i < s.size) : ∃ x, (lsT s).drop i = x :: (lsT s).drop (i + 1) ∧ txt s i = (x.toNat : Int) := by
  have h1 : i < (lsT s).length := by rw [lsT_len]; exact h
  have h2 := List.drop_eq_getElem_cons h1
  exact ⟨_, h2, txt_ls h2⟩
theorem lsT_inj {s t : ByteArray} (h : lsT s = lsT t) : s = t := by
  unfold lsT at h
  have h2 : s.data = t.data := Array.toList_inj.1 h
  cases s
  cases t
  simpa using h2
/-- A first part goes ahead of the first text. -/
def consH (cur : List UInt8) : List (List UInt8) → List (List UInt8)
  | [] => [cur]
  | h :: t => (cur ++ h) :: t
theorem consH_nil (c : UInt8) (l : List UInt8) : consH [] (splitC c l) = splitC c l := by
  have := split_ne c l
  cases hs : splitC c l with
  | nil => exact absurd hs this
  | cons h t => rfl
theorem consH_skip {c x : UInt8} {cur l : List UInt8} (h : x ≠ c) : consH cur (splitC c (x :: l)) = consH (cur ++ [x]) (splitC c l) := by
  rw [splitC, if_neg h]
  cases hs : splitC c l with
  | nil => exact absurd hs (split_ne c l)
  | cons q t => simp [consH]
theorem consH_hit {c : UInt8} {cur l : List UInt8} : consH cur (splitC c (c :: l)) = cur :: splitC c l := by
  rw [splitC, if_pos rfl]
  simp [consH]
section
variable {a : Act} {o : Oper} {w : World} {x y : Operand}
theorem strLH (s : ByteArray) (n m : Nat) (w : World) (h1 : n ≤ m) (h : m ≤ s.size) : (Instr.sliceAt 9 (.string s) (some (.int .i64 (n : Int))) (some (.int .i64 (m : Int))) none).run Tryd.prog w = .ok (.string (s.extract n m)) w := by
  have i1 : (n : Int) ≤ (m : Int) := by omega
  have i2 : (m : Int) ≤ (s.size : Int) := by omega
  simp [go_sem, i1, i2]
theorem wl_bsS1 {ops : Array Oper} {rest : List Oper} {Q : Exit → Act → World → Prop} {s : ByteArray} (ho : o.op = .buildSlice 48 1 #[(0, x)]) (hw : Region.wanted o (yielded ops a.tmps) = true) (hx : a.eval x = .string s)
    (h : ∀ g w', w.heap.size ≤ g → Strs w' (.slice (some ⟨g, 0, none⟩) 1 1) 1 (one1 s) → Below w.heap.size w w' → wpList Tryd.prog ops Q rest (a.put o.dst (.slice (some ⟨g, 0, none⟩) 1 1)) w') : wpList Tryd.prog ops Q (o :: rest) a w := by
  have hr := run_bs1 s w
  refine wl_act hw ?_
  unfold Oper.wp execOp
  simp only [ho, List.map_toArray, List.map_cons, List.map_nil, hx, Sem.run_bind, hr, Result.andThen_ok, Sem.run_pure, Oper.upon]
  exact h _ _ (Nat.le_refl _) (strs1 (heap_alloc_new w _)) ((Below.refl _ _).alloc (Nat.le_refl _) _)
end
def strV (ps : List ByteArray) : List Value := ps.map Value.string
/-- Texts in a row of their own. -/
def OwnS (w : World) (B : Nat) (v : Value) (ps : List ByteArray) : Prop := w.ownsRow B 9 1 v ps.length (strV ps)
theorem OwnS.nil (w : World) (B : Nat) : OwnS w B (.slice none 0 0) [] := ⟨rfl, .inl ⟨rfl, rfl⟩⟩
theorem OwnS.shape {w : World} {B : Nat} {v : Value} {ps : List ByteArray} (h : OwnS w B v ps) : ∃ p c, v = .slice p ps.length c := by
  obtain ⟨p, c, e, _⟩ := ownM_shape h
  exact ⟨p, c, e⟩
theorem OwnS.strs {w : World} {B : Nat} {v : Value} {ps : List ByteArray} (h : OwnS w B v ps) : Strs w v ps.length (fun i => ps.getD i ByteArray.empty) := by
  by_cases h0 : 0 < ps.length
  · refine own_Strs (B := B) ?_ h0
    unfold OwnS at h
    have e : strV ps = strW ps.length (fun i => ps.getD i ByteArray.empty) := by
      unfold strV strW
      apply List.ext_getElem
      · simp
      · intro i h1 h2
        simp at h1
        simp [h1]
    rw [← e]
    exact h
  · obtain ⟨p, c, e⟩ := h.shape
    exact ⟨p, c, e, fun h1 => absurd h1 h0⟩
theorem OwnS.kept {w w' : World} {B : Nat} {v : Value} {ps : List ByteArray} (h : OwnS w B v ps) (hb : Below w.heap.size w w') : OwnS w' B v ps := own_kept h hb
end Go.Proofs.YtdlepeogmjmleaaDoor
/-
  Own text. The document's pairs.
-/
namespace Go.Proofs.YtdlepeogmjmleaaDoor
open Go.RowKit Go.Proofs Go.Lib
set_option maxRecDepth 100000
theorem foldH_app : ∀ (a b : List UInt8) (n : Nat), foldH n (a ++ b) = match foldH n a with | some m => foldH m b | none => none
  | [], b, n => rfl
  | c :: a, b, n => by
    show foldH n (c :: (a ++ b)) = _
    rw [foldH, foldH]
    cases hc : hexV c with
    | none => rfl
    | some d => exact foldH_app a b (16 * n + d)
theorem allO_none {α β : Type} {f : α → Option β} {l : List α} {a : α} (ha : a ∈ l) (h : f a = none) : allO f l = none := by
  cases e : allO f l with
  | none => rfl
  | some m =>
    obtain ⟨b, hb⟩ := allO_src l m e a ha
    rw [h] at hb
    cases hb
theorem allO_snoc {α β : Type} {f : α → Option β} : ∀ (l : List α) (m : List β) (a : α) (b : β), allO f l = some m → f a = some b → allO f (l ++ [a]) = some (m ++ [b])
  | [], m, a, b, h, ha => by
    injection h with h
    subst h
    simp [allO, ha]
  | x :: l, m, a, b, h, ha => by
    unfold allO at h
    split at h
    · rename_i y k e1 e2
      injection h with h
      subst h
      show allO f (x :: (l ++ [a])) = _
      unfold allO
      rw [e1, allO_snoc l k a b e2 ha]
      rfl
    · cases h
theorem ap_ownW {ops : Array Oper} {rest : List Oper} {o : Oper} {a : Act} {w : World} {Q : Exit → Act → World → Prop} (hgd : o.guard = none) (s x : Operand) (t e : TypeId) (k : IntKind) (by' : Nat) (ht : Tryd.prog.underlying t = some (.slice e)) (hi : (Tryd.prog.info? e).map (fun i => (i.zero, i.size, i.bytes)) = some (some (.int k 0), 1, by')) (hby : by' ≤ 8)
    (ho : o.op = .call { callee := .builtin .append, args := #[s, x], argTypes := #[t, t] })
    {B n m c : Nat} {f r : Nat → Int} {v : Value} {b off : Nat} (hs : a.eval s = v) (hD : w.ownsRow B e 1 v n (nums k n f)) (hx : a.eval x = .slice (some ⟨b, off, none⟩) m c)
    (hc : ∀ j, j < m → w.cell? ⟨b, off + j, none⟩ = some (.int k (r j))) (hl : n + m < 100000000) (hB : B ≤ w.heap.size)
    (h : ∀ v' w', w'.ownsRow B e 1 v' (n + m) (nums k (n + m) (cat n f r)) → Below B w w' → wpList Tryd.prog ops Q rest (a.put o.dst v') w') : wpList Tryd.prog ops Q (o :: rest) a w := by
  obtain ⟨i0, hi, hz0, hz1, hz2⟩ := info_parts hi
  refine wpList_append_own w hgd s x t ho B e i0 (.int k 0) 1 by' ht hi hz0 hz1 hz2 rfl (by decide) _ n _ hs hD ⟨b, off, none⟩ m c (nums k m r) hx (by rw [nums_len]; omega) ?_ nums_one ?_ ?_ hB ?_
  · intro j u hj
    obtain ⟨hj2, rfl⟩ := nums_get hj
    rw [Addr.add_lit]
    exact hc j hj2
  · unfold maxLen; omega
  · have : (n + m) * by' ≤ (n + m) * 8 := Nat.mul_le_mul_left _ hby
    omega
  · intro v' w1 hown hgrow _
    rw [nums_cat] at hown
    exact h v' w1 hown (Below.grow hgrow hB (own_base hD))
/-- Numbers in a row of their own. -/
def nnV (P : List Nat) : List Value := P.map fun n : Nat => Value.int .i64 (n : Int)
def OwnN (w : World) (B : Nat) (v : Value) (P : List Nat) : Prop := w.ownsRow B 3 1 v P.length (nnV P)
theorem OwnN.nil (w : World) (B : Nat) : OwnN w B (.slice none 0 0) [] := ⟨rfl, .inl ⟨rfl, rfl⟩⟩
theorem OwnN.shape {w : World} {B : Nat} {v : Value} {P : List Nat} (h : OwnN w B v P) : ∃ p c, v = .slice p P.length c := by
  obtain ⟨p, c, e, _⟩ := ownM_shape h
  exact ⟨p, c, e⟩
theorem OwnN.kept {w w' : World} {B : Nat} {v : Value} {P : List Nat} (h : OwnN w B v P) (hb : Below w.heap.size w w') : OwnN w' B v P := own_kept h hb
theorem OwnN.mono {w : World} {B C : Nat} {v : Value} {P : List Nat} (h : OwnN w B v P) (hC : C ≤ B) : OwnN w C v P := ownM_mono h hC
theorem nnV_nums (P : List Nat) : nnV P = nums .i64 P.length (fun i => ((P.getD i 0 : Nat) : Int)) := by
  unfold nnV nums
  apply List.ext_getElem
  · simp
  · intro i h1 h2
    simp at h1
    simp [h1]
theorem nums_nnV {n : Nat} {f : Nat → Int} {P : List Nat} (hl : n = P.length) (h : ∀ i, i < n → f i = ((P.getD i 0 : Nat) : Int)) : nums .i64 n f = nnV P := by
  subst hl
  rw [nnV_nums]
  exact nums_congr h
section
variable {a : Act} {o : Oper} {w : World} {x y : Operand}
theorem exec_ixSt (ho : o.op = .indexAddr 48 x y) {p : Addr} {n c i : Nat} (hx : a.eval x = .slice (some p) n c) (hy : a.eval y = .int .i64 (i : Int)) (hi : i < n) : (execOp a.eval o).run Tryd.prog w = .ok (.value (.pointer (some (p.add i)))) w := by
  unfold execOp
  simp only [ho, hx, hy, Sem.run_bind]
  rw [run_indexAt_slice w 48 _ n c .i64 (i : Int) Tryd.underlying48, if_pos ⟨by omega, by omega⟩, size_str]
  simp
theorem exec_eqSn (ho : o.op = .binOp .eql 9 x y 9) {s t : ByteArray} (hx : a.eval x = .string s) (hy : a.eval y = .string t) (hn : s ≠ t) : (execOp a.eval o).run Tryd.prog w = .ok (.value (.bool false)) w := by
  have h := exec_eqSd (w := w) ho hx hy
  rw [decide_eq_false hn] at h
  exact h
theorem exec_mul16 (ho : o.op = .binOp .mul 3 x y 3) {i m q : Nat} (hx : a.eval x = .int .i64 (m : Int)) (hy : a.eval y = .int .i64 (i : Int)) (hq : m * i = q) (hl : q < 9223372036854775808) : (execOp a.eval o).run Tryd.prog w = .ok (.value (.int .i64 (q : Int))) w := exec_mulW ho hx hy hq hl
end
theorem OwnS.cell {w : World} {B : Nat} {p : Option Addr} {n c : Nat} {ps : List ByteArray} (h : OwnS w B (.slice p n c) ps) {i : Nat} {s : ByteArray} (hs : ps[i]? = some s) : ∃ ad, p = some ad ∧ w.cell? (ad.add i) = some (.string s) := by
  obtain ⟨a0, c0, e, hp⟩ := h.strs
  have hi := (List.getElem?_eq_some_iff.1 hs).1
  obtain ⟨q, hq, hc⟩ := hp (by omega)
  injection e with e1 e2 e3
  refine ⟨q, e1.trans hq, ?_⟩
  rw [hc i hi]
  show some (Value.string (ps.getD i ByteArray.empty)) = _
  rw [List.getD_eq_getElem?_getD, hs]
  rfl
/-- What pairs tells. -/
def PairsQ (R : Option (List Nat)) (B : Nat) (e : Ending) (w : World) : Prop := (∃ P v, R = some P ∧ e = .returned (.tuple #[v, .bool true]) ∧ OwnN w B v P) ∨ (R = none ∧ e = .returned (.tuple #[.slice none 0 0, .bool false]))
end Go.Proofs.YtdlepeogmjmleaaDoor
/-
  Own text. The library's contract of strconv.Itoa at this program.
-/
namespace Go.Proofs.YtdlepeogmjmleaaDoor
open Go.Proofs Go.Shelf
set_option maxRecDepth 100000
def laysM171_ren : Go.Shelf.Ren := ⟨fun | 171 => 23 | 243 => 34 | 246 => 35 | 283 => 46 | 284 => 47 | 285 => 48 | 286 => 49 | 129 => 60 | 317 => 59 | 318 => 61 | 319 => 62 | 320 => 63 | 337 => 79 | 338 => 80 | n => n, fun | 3 => 3 | 9 => 9 | 2 => 2 | 4 => 4 | 171 => 73 | 0 => 0 | 53 => 34 | 37 => 44 | 5 => 5 | 173 => 75 | 212 => 86 | 51 => 87 | 20 => 20 | 213 => 88 | 46 => 47 | 232 => 115 | 233 => 116 | n => n, fun | 17 => 0 | 18 => 4 | 19 => 5 | n => n⟩
theorem laysM171 : Go.Proofs.LaysM.n171 Tryd.prog laysM171_ren := {
  mixed := by kernel_rfl
  f129 := Tryd.func60.trans (congrArg some (by kernel_rfl))
  f171 := Tryd.func23.trans (congrArg some (by kernel_rfl))
  f243 := Tryd.func34.trans (congrArg some (by kernel_rfl))
  f246 := Tryd.func35.trans (congrArg some (by kernel_rfl))
  f283 := Tryd.func46.trans (congrArg some (by kernel_rfl))
  f284 := Tryd.func47.trans (congrArg some (by kernel_rfl))
  f285 := Tryd.func48.trans (congrArg some (by kernel_rfl))
  f286 := Tryd.func49.trans (congrArg some (by kernel_rfl))
  f317 := Tryd.func59.trans (congrArg some (by kernel_rfl))
  f318 := Tryd.func61.trans (congrArg some (by kernel_rfl))
  f319 := Tryd.func62.trans (congrArg some (by kernel_rfl))
  f320 := Tryd.func63.trans (congrArg some (by kernel_rfl))
  f337 := Tryd.func79.trans (congrArg some (by kernel_rfl))
  f338 := Tryd.func80.trans (congrArg some (by kernel_rfl))
  t0 := Tryd.underlying0
  a0 := Tryd.isAgg0
  z0 := Tryd.sizeOf0
  v0 := Tryd.zeroValue0
  t2 := Tryd.underlying2
  a2 := Tryd.isAgg2
  z2 := Tryd.sizeOf2
  v2 := Tryd.zeroValue2
  t3 := Tryd.underlying3
  a3 := Tryd.isAgg3
  z3 := Tryd.sizeOf3
  v3 := Tryd.zeroValue3
  t4 := Tryd.underlying4
  a4 := Tryd.isAgg4
  z4 := Tryd.sizeOf4
  v4 := Tryd.zeroValue4
  t5 := Tryd.underlying5
  a5 := Tryd.isAgg5
  z5 := Tryd.sizeOf5
  v5 := Tryd.zeroValue5
  t9 := Tryd.underlying9
  a9 := Tryd.isAgg9
  z9 := Tryd.sizeOf9
  v9 := Tryd.zeroValue9
  t20 := Tryd.underlying20
  a20 := Tryd.isAgg20
  z20 := Tryd.sizeOf20
  v20 := Tryd.zeroValue20
  t37 := Tryd.underlying44
  a37 := Tryd.isAgg44
  z37 := Tryd.sizeOf44
  v37 := Tryd.zeroValue44
  t46 := Tryd.underlying47
  a46 := Tryd.isAgg47
  z46 := Tryd.sizeOf47
  v46 := Tryd.zeroValue47
  t51 := Tryd.underlying87
  a51 := Tryd.isAgg87
  z51 := Tryd.sizeOf87
  v51 := Tryd.zeroValue87
  t53 := Tryd.underlying34
  a53 := Tryd.isAgg34
  z53 := Tryd.sizeOf34
  v53 := Tryd.zeroValue34
  t171 := Tryd.underlying73
  a171 := Tryd.isAgg73
  z171 := Tryd.sizeOf73
  v171 := Tryd.zeroValue73
  t173 := Tryd.underlying75
  a173 := Tryd.isAgg75
  z173 := Tryd.sizeOf75
  v173 := Tryd.zeroValue75
  t212 := Tryd.underlying86
  a212 := Tryd.isAgg86
  z212 := Tryd.sizeOf86
  v212 := Tryd.zeroValue86
  t213 := Tryd.underlying88
  a213 := Tryd.isAgg88
  z213 := Tryd.sizeOf88
  t232 := Tryd.underlying115
  a232 := Tryd.isAgg115
  z232 := Tryd.sizeOf115
  v232 := Tryd.zeroValue115
  t233 := Tryd.underlying116
  a233 := Tryd.isAgg116
  z233 := Tryd.sizeOf116
  v233 := Tryd.zeroValue116
  g17 := by kernel_rfl
  g18 := by kernel_rfl
  g19 := by kernel_rfl
  i0 := by kernel_rfl
  i2 := by kernel_rfl
  i3 := by kernel_rfl
  i4 := by kernel_rfl
  i5 := by kernel_rfl
  i9 := by kernel_rfl
  i20 := by kernel_rfl
  i37 := by kernel_rfl
  i46 := by kernel_rfl
  i51 := by kernel_rfl
  i53 := by kernel_rfl
  i171 := by kernel_rfl
  i173 := by kernel_rfl
  i212 := by kernel_rfl
  i232 := by kernel_rfl
  i233 := by kernel_rfl
  m17 := by kernel_rfl
  m18 := by kernel_rfl
  m19 := by kernel_rfl }
open Go.RowKit Go.Sort Go.Lib in
theorem shelf_Itoa (n : Int) (h0 : -9223372036854775808 ≤ n) (h1 : n ≤ 9223372036854775807) (w : World) (htab : Lib.TabIs Tryd.prog w "internal/strconv.uint64pow10" .u64 Lib.pow10Tab) :
    Calls Tryd.prog 23 #[.int .i64 n] w fun e w' => e = .returned (.string ⟨(Lib.itoa n).toArray⟩) ∧ ∃ k os, w' = grow (w.drewN k) os := Any.strconv_Itoa laysM171 n h0 h1 w htab
end Go.Proofs.YtdlepeogmjmleaaDoor
/-
  Own text. strconv.Itoa of a byte; the document's four.
-/
namespace Go.Proofs.YtdlepeogmjmleaaDoor
open Go.RowKit Go.Proofs Go.Lib
set_option maxRecDepth 100000
/-- The library's table of powers of ten stands. -/
def Pow (w : World) : Prop := TabIs Tryd.prog w "internal/strconv.uint64pow10" .u64 pow10Tab
theorem pow_glob : ∃ g, Tryd.prog.globalNamed "internal/strconv.uint64pow10" = some g := by
  cases h : Tryd.prog.globalNamed "internal/strconv.uint64pow10" with
  | some g => exact ⟨g, rfl⟩
  | none =>
    have : (Tryd.prog.globalNamed "internal/strconv.uint64pow10").isSome = true := by kernel_rfl
    rw [h] at this
    cases this
theorem Pow.kept {w w' : World} (h : Pow w) (hb : Below w.heap.size w w') : Pow w' := by
  obtain ⟨g, hg⟩ := pow_glob
  unfold Pow TabIs World.var? at h ⊢
  rw [hg] at h ⊢
  simp only [Option.bind_some] at h ⊢
  have hl : g < w.heap.size := by
    rcases Nat.lt_or_ge g w.heap.size with hl | hl
    · exact hl
    · rw [Array.getElem?_eq_none hl] at h
      cases h
  rw [hb.block g hl]
  exact h
theorem dec_is {n : Nat} (hn : n < 256) : decDigits n = decT n := by
  unfold decT
  by_cases h1 : n < 10
  · rw [if_pos h1, decDigits, dif_pos h1]
  · rw [if_neg h1, decDigits, dif_neg h1]
    by_cases h2 : n < 100
    · rw [if_pos h2, decDigits, dif_pos (by omega)]
      rfl
    · rw [if_neg h2, decDigits, dif_neg (by omega), decDigits, dif_pos (by omega)]
      have e1 : n / 10 / 10 = n / 100 := by omega
      rw [e1]
      rfl
def decS (n : Nat) : ByteArray := ⟨(decT n).toArray⟩
theorem decS_ls (n : Nat) : lsT (decS n) = decT n := by unfold lsT decS; rfl
theorem below_gr (w : World) (q : Nat) (os : Array Obj) : Below w.heap.size w (Sort.grow (w.drewN q) os) :=
  ⟨rfl, rfl, rfl, by simp [Sort.grow, World.drewN], fun k hk => by
    show (w.heap ++ os)[k]? = w.heap[k]?
    rw [Array.getElem?_append_left hk]⟩
theorem Itoa_run (n : Nat) (w : World) (hn : n < 256) (hp : Pow w) : Calls Tryd.prog 23 #[.int .i64 (n : Int)] w fun e w' => e = .returned (.string (decS n)) ∧ Below w.heap.size w w' := by
  refine (shelf_Itoa (n : Int) (by omega) (by omega) w hp).mono ?_
  rintro e w' ⟨rfl, k, os, rfl⟩
  refine ⟨?_, below_gr w k os⟩
  have e1 : itoa (n : Int) = decT n := by
    unfold itoa
    rw [if_neg (by omega), Int.toNat_natCast, dec_is hn]
  rw [e1]
  rfl
theorem foldD_app : ∀ (a b : List UInt8) (n : Nat), foldD n (a ++ b) = match foldD n a with | some m => foldD m b | none => none
  | [], b, n => rfl
  | c :: a, b, n => by
    show foldD n (c :: (a ++ b)) = _
    rw [foldD, foldD]
    by_cases hc : 48 ≤ c.toNat ∧ c.toNat ≤ 57
    · rw [if_pos hc, if_pos hc]
      exact foldD_app a b _
    · rw [if_neg hc, if_neg hc]
/-- The bytes of an address from numbers. -/
def lsB (l : List Nat) (j : Nat) : Int := ((l.getD j 0 : Nat) : Int)
/-- What four tells. -/
def FourQ (R : Option (List Nat)) (e : Ending) : Prop := (∃ l, R = some l ∧ e = .returned (.tuple #[.agg (SC 17 (adV false (lsB l))), .bool true])) ∨ (R = none ∧ e = .returned (.tuple #[.agg (SC 17 (adV false (fun _ => 0))), .bool false]))
theorem lsB_upd {l : List Nat} {i : Nat} (hl : l.length = i) (n : Nat) (j : Nat) : upd (lsB l) i (n : Int) j = lsB (l ++ [n]) j := by
  unfold upd lsB
  by_cases e : j = i
  · rw [if_pos e, List.getD_eq_getElem?_getD, List.getElem?_append_right (by omega), e, hl, Nat.sub_self]
    rfl
  · rw [if_neg e, List.getD_eq_getElem?_getD, List.getD_eq_getElem?_getD]
    by_cases e2 : j < i
    · rw [List.getElem?_append_left (by omega)]
    · rw [List.getElem?_eq_none (by omega), List.getElem?_eq_none (by simp; omega)]
theorem OwnS.only {w w' : World} {B g n : Nat} {v : Value} {ps : List ByteArray} {V : Nat → Value} (h : OwnS w B v ps) (ho : Only g w w') (hg : SAt w g 24 n V) : OwnS w' B v ps := ownM_block h (fun k hk => ho.block k (fun e => by
  subst e
  rcases h.2 with ⟨e1, _⟩ | ⟨g1, cap, cur, e1, _, hg1, _⟩
  · rw [e1] at hk
    cases hk
  · rw [e1] at hk
    have e3 : g1 = k := Option.some.inj hk
    rw [e3] at hg1
    have h1 := hg.symm.trans hg1
    simp at h1))
theorem Pow.only {w0 w w' : World} {g : Nat} (h0 : Pow w0) (h : Pow w) (ho : Only g w w') (hg : w0.heap.size ≤ g) : Pow w' := by
  obtain ⟨k, hk⟩ := pow_glob
  unfold Pow TabIs World.var? at h0 h ⊢
  rw [hk] at h0 h ⊢
  simp only [Option.bind_some] at h0 h ⊢
  have hl : k < w0.heap.size := by
    rcases Nat.lt_or_ge k w0.heap.size with hl | hl
    · exact hl
    · rw [Array.getElem?_eq_none hl] at h0
      cases h0
  rw [ho.block k (by omega)]
  exact h
theorem exec_gtW {a : Act} {o : Oper} {w : World} {x y : Operand} (ho : o.op = .binOp .gtr 3 x y 3) {m n : Int} (hx : a.eval x = .int .i64 m) (hy : a.eval y = .int .i64 n) {b : Bool} (h : decide (n < m) = b) : (execOp a.eval o).run Tryd.prog w = .ok (.value (.bool b)) w := by subst h; exact exec_bin2 ho hx hy rfl (by simp [go_sem])
theorem enterW_It (args : Array Value) (w : World) : (callFunc 23 args).run Tryd.prog w = .ok (.enter 23 args) w := by kernel_rfl
section
variable {a : Act} {o : Oper} {w : World} {x y : Operand}
theorem exec_sub8 (ho : o.op = .binOp .sub 5 x y 5) {m n q : Int} (hx : a.eval x = .int .u8 m) (hy : a.eval y = .int .u8 n) (hq : m - n = q) (h0 : 0 ≤ q) (h1 : q < 256) : (execOp a.eval o).run Tryd.prog w = .ok (.value (.int .u8 q)) w := by
  refine exec_bin2 ho hx hy rfl ?_
  have e2 : IntKind.u8.wrap q = q := by rw [IntKind.wrap_u8]; omega
  simp [go_sem, hq, e2]
theorem exec_cvI8 (ho : o.op = .convert 3 5 x) {m : Nat} (hx : a.eval x = .int .i64 (m : Int)) (h1 : m < 256) : (execOp a.eval o).run Tryd.prog w = .ok (.value (.int .u8 (m : Int))) w := by
  have e : IntKind.u8.wrap (m : Int) = (m : Int) := by rw [IntKind.wrap_u8]; omega
  unfold execOp
  simp only [ho, hx]
  simp [go_sem, e]
theorem exec_neSn (ho : o.op = .binOp .neq 9 x y 9) {s t : ByteArray} (hx : a.eval x = .string s) (hy : a.eval y = .string t) {b : Bool} (hb : decide (s ≠ t) = b) : (execOp a.eval o).run Tryd.prog w = .ok (.value (.bool b)) w := by
  by_cases e : s = t
  · have : b = false := by rw [← hb]; simp [e]
    subst this
    exact exec_neqS ho hx hy e
  · have : b = true := by rw [← hb]; simp [e]
    subst this
    exact exec_neqST ho hx hy e
end
end Go.Proofs.YtdlepeogmjmleaaDoor
/-
  Own text. The contracts of strings.Join, SplitN, Cut, Repeat and of strconv.ParseUint at this program.
-/
namespace Go.Proofs.YtdlepeogmjmleaaDoor
open Go.Proofs Go.Shelf
set_option maxRecDepth 100000
def sh_lays156_ren : Go.Shelf.Ren := ⟨fun | 156 => 33 | 165 => 43 | 166 => 44 | 169 => 45 | 240 => 57 | 241 => 58 | 276 => 77 | 277 => 78 | n => n, fun | 31 => 48 | 9 => 9 | 3 => 3 | 4 => 4 | 0 => 0 | 20 => 20 | 72 => 68 | 76 => 70 | 70 => 66 | 37 => 44 | 75 => 58 | 127 => 83 | 164 => 103 | 5 => 5 | 80 => 72 | n => n, fun | n => n⟩
theorem sh_lays156 : Go.Proofs.Lays.n156 Tryd.prog sh_lays156_ren := {
  mixed := by kernel_rfl
  f156 := Tryd.func33.trans (congrArg some (by kernel_rfl))
  f165 := Tryd.func43.trans (congrArg some (by kernel_rfl))
  f166 := Tryd.func44.trans (congrArg some (by kernel_rfl))
  f169 := Tryd.func45.trans (congrArg some (by kernel_rfl))
  f240 := Tryd.func57.trans (congrArg some (by kernel_rfl))
  f241 := Tryd.func58.trans (congrArg some (by kernel_rfl))
  f276 := Tryd.func77.trans (congrArg some (by kernel_rfl))
  f277 := Tryd.func78.trans (congrArg some (by kernel_rfl))
  t0 := Tryd.underlying0
  a0 := Tryd.isAgg0
  z0 := Tryd.sizeOf0
  v0 := Tryd.zeroValue0
  t3 := Tryd.underlying3
  a3 := Tryd.isAgg3
  z3 := Tryd.sizeOf3
  v3 := Tryd.zeroValue3
  t4 := Tryd.underlying4
  a4 := Tryd.isAgg4
  z4 := Tryd.sizeOf4
  v4 := Tryd.zeroValue4
  t9 := Tryd.underlying9
  a9 := Tryd.isAgg9
  z9 := Tryd.sizeOf9
  v9 := Tryd.zeroValue9
  t20 := Tryd.underlying20
  a20 := Tryd.isAgg20
  z20 := Tryd.sizeOf20
  v20 := Tryd.zeroValue20
  t31 := Tryd.underlying48
  a31 := Tryd.isAgg48
  z31 := Tryd.sizeOf48
  v31 := Tryd.zeroValue48
  t37 := Tryd.underlying44
  a37 := Tryd.isAgg44
  z37 := Tryd.sizeOf44
  v37 := Tryd.zeroValue44
  t70 := Tryd.underlying66
  a70 := Tryd.isAgg66
  z70 := Tryd.sizeOf66
  v70 := Tryd.zeroValue66
  t72 := Tryd.underlying68
  a72 := Tryd.isAgg68
  z72 := Tryd.sizeOf68
  v72 := Tryd.zeroValue68
  t75 := Tryd.underlying58
  a75 := Tryd.isAgg58
  z75 := Tryd.sizeOf58
  v75 := Tryd.zeroValue58
  t76 := Tryd.underlying70
  a76 := Tryd.isAgg70
  z76 := Tryd.sizeOf70
  v76 := Tryd.zeroValue70
  t127 := Tryd.underlying83
  a127 := Tryd.isAgg83
  z127 := Tryd.sizeOf83
  v127 := Tryd.zeroValue83
  t164 := Tryd.underlying103
  a164 := Tryd.isAgg103
  z164 := Tryd.sizeOf103
  v164 := Tryd.zeroValue103 }
theorem sh_Builder_Extra_156 : Builder.Extra Tryd.prog sh_lays156_ren := {
  sizeBuilder := by kernel_rfl
  liesBuilder := by kernel_rfl
  t5 := Tryd.underlying5
  a5 := Tryd.isAgg5
  z5 := Tryd.sizeOf5
  v5 := Tryd.zeroValue5
  infoByte := by kernel_rfl
  cellsByte := by kernel_rfl
  sizeByte := by kernel_rfl
  neB5 := by decide }
open Go.RowKit in
theorem sh_strings_Join_none (a : Option Addr) (c : Nat) (sep : ByteArray) (w : World) :
    Calls Tryd.prog 33 #[.slice a 0 c, .string sep] w fun e w' => e = .returned (.string ⟨#[]⟩) ∧ w' = w := Any.strings_Join_none sh_lays156 sh_Builder_Extra_156 a c sep w
open Go.RowKit in
theorem sh_strings_Join (bk o c : Nat) (xs : List ByteArray) (sep : ByteArray) (w : World) (hcells : ∀ (j : Nat) x, xs[j]? = some x → w.cell? ⟨bk, o + j, none⟩ = some (.string x)) (hbk : bk < w.heap.size) (hN : xs.length ≤ 140737488355328) (hcap : xs.length ≤ c) (hlen : (Lib.join (xs.map (·.data.toList)) sep.data.toList).length ≤ 140737488355328) :
    Calls Tryd.prog 33 #[.slice (some ⟨bk, o, none⟩) xs.length c, .string sep] w fun e w' => e = .returned (.string ⟨(Lib.join (xs.map (·.data.toList)) sep.data.toList).toArray⟩) ∧ Below w.heap.size w w' := Any.strings_Join sh_lays156 sh_Builder_Extra_156 bk o c xs sep w hcells hbk hN hcap hlen
def sh_lays147_ren : Go.Shelf.Ren := ⟨fun | 147 => 36 | 221 => 50 | 268 => 64 | 138 => 65 | 143 => 66 | 195 => 81 | 197 => 82 | 218 => 83 | 219 => 73 | 260 => 90 | 217 => 86 | 225 => 87 | 224 => 88 | 267 => 89 | 266 => 91 | 314 => 92 | n => n, fun | 9 => 9 | 3 => 3 | 31 => 48 | 4 => 4 | 0 => 0 | 105 => 108 | 21 => 21 | 5 => 5 | 46 => 47 | 119 => 121 | 139 => 124 | 138 => 123 | 146 => 99 | 51 => 87 | n => n, fun | 1 => 3 | 3 => 6 | 4 => 7 | n => n⟩
theorem sh_lays147 : Go.Proofs.Lays.n147 Tryd.prog sh_lays147_ren := {
  mixed := by kernel_rfl
  f138 := Tryd.func65.trans (congrArg some (by kernel_rfl))
  f143 := Tryd.func66.trans (congrArg some (by kernel_rfl))
  f147 := Tryd.func36.trans (congrArg some (by kernel_rfl))
  f195 := Tryd.func81.trans (congrArg some (by kernel_rfl))
  f197 := Tryd.func82.trans (congrArg some (by kernel_rfl))
  f217 := Tryd.func86.trans (congrArg some (by kernel_rfl))
  f218 := Tryd.func83.trans (congrArg some (by kernel_rfl))
  f219 := Tryd.func73.trans (congrArg some (by kernel_rfl))
  f221 := Tryd.func50.trans (congrArg some (by kernel_rfl))
  f224 := Tryd.func88.trans (congrArg some (by kernel_rfl))
  f225 := Tryd.func87.trans (congrArg some (by kernel_rfl))
  f260 := Tryd.func90.trans (congrArg some (by kernel_rfl))
  f266 := Tryd.func91.trans (congrArg some (by kernel_rfl))
  f267 := Tryd.func89.trans (congrArg some (by kernel_rfl))
  f268 := Tryd.func64.trans (congrArg some (by kernel_rfl))
  f314 := Tryd.func92.trans (congrArg some (by kernel_rfl))
  t0 := Tryd.underlying0
  a0 := Tryd.isAgg0
  z0 := Tryd.sizeOf0
  v0 := Tryd.zeroValue0
  t3 := Tryd.underlying3
  a3 := Tryd.isAgg3
  z3 := Tryd.sizeOf3
  v3 := Tryd.zeroValue3
  t4 := Tryd.underlying4
  a4 := Tryd.isAgg4
  z4 := Tryd.sizeOf4
  v4 := Tryd.zeroValue4
  t5 := Tryd.underlying5
  a5 := Tryd.isAgg5
  z5 := Tryd.sizeOf5
  v5 := Tryd.zeroValue5
  t9 := Tryd.underlying9
  a9 := Tryd.isAgg9
  z9 := Tryd.sizeOf9
  v9 := Tryd.zeroValue9
  t21 := Tryd.underlying21
  a21 := Tryd.isAgg21
  z21 := Tryd.sizeOf21
  v21 := Tryd.zeroValue21
  t31 := Tryd.underlying48
  a31 := Tryd.isAgg48
  z31 := Tryd.sizeOf48
  v31 := Tryd.zeroValue48
  t46 := Tryd.underlying47
  a46 := Tryd.isAgg47
  z46 := Tryd.sizeOf47
  v46 := Tryd.zeroValue47
  t51 := Tryd.underlying87
  a51 := Tryd.isAgg87
  z51 := Tryd.sizeOf87
  v51 := Tryd.zeroValue87
  t105 := Tryd.underlying108
  a105 := Tryd.isAgg108
  z105 := Tryd.sizeOf108
  v105 := Tryd.zeroValue108
  t119 := Tryd.underlying121
  a119 := Tryd.isAgg121
  z119 := Tryd.sizeOf121
  t138 := Tryd.underlying123
  a138 := Tryd.isAgg123
  z138 := Tryd.sizeOf123
  v138 := Tryd.zeroValue123
  t139 := Tryd.underlying124
  a139 := Tryd.isAgg124
  z139 := Tryd.sizeOf124
  v139 := Tryd.zeroValue124
  t146 := Tryd.underlying99
  a146 := Tryd.isAgg99
  z146 := Tryd.sizeOf99
  v146 := Tryd.zeroValue99
  g1 := by kernel_rfl
  g3 := by kernel_rfl
  g4 := by kernel_rfl }
open Go.RowKit Go.Lib in
theorem sh_strings_SplitN (s sep : ByteArray) (n : Nat) (m : Int) (w : World) (hs : s.size < 4294967281) (hm : w.cell? ⟨3, 0, none⟩ = some (.int .i64 m)) (h1 : 1 ≤ sep.size) (hn : 1 ≤ n) (hn63 : n ≤ 9223372036854775807) :
    Calls Tryd.prog 36 #[.string s, .string sep, .int .i64 n] w fun e w' =>
      e = .returned (.slice (some ⟨w.heap.size, 0, none⟩) (Lib.splitB sep 0 (min n (s.size + 1) - 1) s).length (min n (s.size + 1))) ∧ w' = w.alloc (.cells (Lib.cellsOf (Lib.splitB sep 0 (min n (s.size + 1) - 1) s) (min n (s.size + 1))) 9) := Any.strings_SplitN sh_lays147 (by kernel_rfl) s sep n m w hs hm h1 hn hn63
def sh_lays145_ren : Go.Shelf.Ren := ⟨fun | 145 => 38 | 220 => 53 | 219 => 73 | 217 => 86 | 225 => 87 | 224 => 88 | 267 => 89 | 266 => 91 | 314 => 92 | n => n, fun | 9 => 9 | 4 => 4 | 59 => 61 | 3 => 3 | 5 => 5 | 46 => 47 | 146 => 99 | 51 => 87 | n => n, fun | 1 => 3 | n => n⟩
theorem sh_lays145 : Go.Proofs.Lays.n145 Tryd.prog sh_lays145_ren := {
  mixed := by kernel_rfl
  f145 := Tryd.func38.trans (congrArg some (by kernel_rfl))
  f217 := Tryd.func86.trans (congrArg some (by kernel_rfl))
  f219 := Tryd.func73.trans (congrArg some (by kernel_rfl))
  f220 := Tryd.func53.trans (congrArg some (by kernel_rfl))
  f224 := Tryd.func88.trans (congrArg some (by kernel_rfl))
  f225 := Tryd.func87.trans (congrArg some (by kernel_rfl))
  f266 := Tryd.func91.trans (congrArg some (by kernel_rfl))
  f267 := Tryd.func89.trans (congrArg some (by kernel_rfl))
  f314 := Tryd.func92.trans (congrArg some (by kernel_rfl))
  t3 := Tryd.underlying3
  a3 := Tryd.isAgg3
  z3 := Tryd.sizeOf3
  v3 := Tryd.zeroValue3
  t4 := Tryd.underlying4
  a4 := Tryd.isAgg4
  z4 := Tryd.sizeOf4
  v4 := Tryd.zeroValue4
  t5 := Tryd.underlying5
  a5 := Tryd.isAgg5
  z5 := Tryd.sizeOf5
  v5 := Tryd.zeroValue5
  t9 := Tryd.underlying9
  a9 := Tryd.isAgg9
  z9 := Tryd.sizeOf9
  v9 := Tryd.zeroValue9
  t46 := Tryd.underlying47
  a46 := Tryd.isAgg47
  z46 := Tryd.sizeOf47
  v46 := Tryd.zeroValue47
  t51 := Tryd.underlying87
  a51 := Tryd.isAgg87
  z51 := Tryd.sizeOf87
  v51 := Tryd.zeroValue87
  t59 := Tryd.underlying61
  a59 := Tryd.isAgg61
  z59 := Tryd.sizeOf61
  v59 := Tryd.zeroValue61
  t146 := Tryd.underlying99
  a146 := Tryd.isAgg99
  z146 := Tryd.sizeOf99
  v146 := Tryd.zeroValue99
  g1 := by kernel_rfl }
open Go.RowKit Go.Lib in
theorem sh_strings_Cut (s sep : ByteArray) (m : Int) (w : World) (hs : s.size < 4294967281) (hm : w.cell? ⟨3, 0, none⟩ = some (.int .i64 m)) :
    Calls Tryd.prog 38 #[.string s, .string sep] w fun e w' => e = .returned (.tuple #[.string ⟨(Lib.cut s.data.toList sep.data.toList).1.toArray⟩, .string ⟨(Lib.cut s.data.toList sep.data.toList).2.1.toArray⟩, .bool (Lib.cut s.data.toList sep.data.toList).2.2]) ∧ ∃ n, w' = w.drewN n := Any.strings_Cut sh_lays145 s sep m w hs hm
def sh_lays105_ren : Go.Shelf.Ren := ⟨fun | 105 => 41 | 212 => 54 | 99 => 55 | 165 => 43 | 166 => 44 | 170 => 56 | 169 => 45 | 263 => 74 | 264 => 75 | 206 => 76 | 240 => 57 | 241 => 58 | 276 => 77 | 277 => 78 | n => n, fun | 9 => 9 | 3 => 3 | 4 => 4 | 20 => 20 | 0 => 0 | 46 => 47 | 109 => 79 | 5 => 5 | 72 => 68 | 76 => 70 | 51 => 87 | 146 => 99 | 53 => 34 | 148 => 101 | 70 => 66 | 37 => 44 | 75 => 58 | 127 => 83 | 164 => 103 | 80 => 72 | n => n, fun | n => n⟩
theorem sh_lays105 : Go.Proofs.Lays.n105 Tryd.prog sh_lays105_ren := {
  mixed := by kernel_rfl
  f99 := Tryd.func55.trans (congrArg some (by kernel_rfl))
  f105 := Tryd.func41.trans (congrArg some (by kernel_rfl))
  f165 := Tryd.func43.trans (congrArg some (by kernel_rfl))
  f166 := Tryd.func44.trans (congrArg some (by kernel_rfl))
  f169 := Tryd.func45.trans (congrArg some (by kernel_rfl))
  f170 := Tryd.func56.trans (congrArg some (by kernel_rfl))
  f206 := Tryd.func76.trans (congrArg some (by kernel_rfl))
  f212 := Tryd.func54.trans (congrArg some (by kernel_rfl))
  f240 := Tryd.func57.trans (congrArg some (by kernel_rfl))
  f241 := Tryd.func58.trans (congrArg some (by kernel_rfl))
  f263 := Tryd.func74.trans (congrArg some (by kernel_rfl))
  f264 := Tryd.func75.trans (congrArg some (by kernel_rfl))
  f276 := Tryd.func77.trans (congrArg some (by kernel_rfl))
  f277 := Tryd.func78.trans (congrArg some (by kernel_rfl))
  t0 := Tryd.underlying0
  a0 := Tryd.isAgg0
  z0 := Tryd.sizeOf0
  v0 := Tryd.zeroValue0
  t3 := Tryd.underlying3
  a3 := Tryd.isAgg3
  z3 := Tryd.sizeOf3
  v3 := Tryd.zeroValue3
  t4 := Tryd.underlying4
  a4 := Tryd.isAgg4
  z4 := Tryd.sizeOf4
  v4 := Tryd.zeroValue4
  t5 := Tryd.underlying5
  a5 := Tryd.isAgg5
  z5 := Tryd.sizeOf5
  v5 := Tryd.zeroValue5
  t9 := Tryd.underlying9
  a9 := Tryd.isAgg9
  z9 := Tryd.sizeOf9
  v9 := Tryd.zeroValue9
  t20 := Tryd.underlying20
  a20 := Tryd.isAgg20
  z20 := Tryd.sizeOf20
  v20 := Tryd.zeroValue20
  t37 := Tryd.underlying44
  a37 := Tryd.isAgg44
  z37 := Tryd.sizeOf44
  v37 := Tryd.zeroValue44
  t46 := Tryd.underlying47
  a46 := Tryd.isAgg47
  z46 := Tryd.sizeOf47
  v46 := Tryd.zeroValue47
  t51 := Tryd.underlying87
  a51 := Tryd.isAgg87
  z51 := Tryd.sizeOf87
  v51 := Tryd.zeroValue87
  t53 := Tryd.underlying34
  a53 := Tryd.isAgg34
  z53 := Tryd.sizeOf34
  v53 := Tryd.zeroValue34
  t70 := Tryd.underlying66
  a70 := Tryd.isAgg66
  z70 := Tryd.sizeOf66
  v70 := Tryd.zeroValue66
  t72 := Tryd.underlying68
  a72 := Tryd.isAgg68
  z72 := Tryd.sizeOf68
  v72 := Tryd.zeroValue68
  t75 := Tryd.underlying58
  a75 := Tryd.isAgg58
  z75 := Tryd.sizeOf58
  v75 := Tryd.zeroValue58
  t76 := Tryd.underlying70
  a76 := Tryd.isAgg70
  z76 := Tryd.sizeOf70
  v76 := Tryd.zeroValue70
  t109 := Tryd.underlying79
  a109 := Tryd.isAgg79
  z109 := Tryd.sizeOf79
  v109 := Tryd.zeroValue79
  t127 := Tryd.underlying83
  a127 := Tryd.isAgg83
  z127 := Tryd.sizeOf83
  v127 := Tryd.zeroValue83
  t146 := Tryd.underlying99
  a146 := Tryd.isAgg99
  z146 := Tryd.sizeOf99
  v146 := Tryd.zeroValue99
  t148 := Tryd.underlying101
  a148 := Tryd.isAgg101
  z148 := Tryd.sizeOf101
  v148 := Tryd.zeroValue101
  t164 := Tryd.underlying103
  a164 := Tryd.isAgg103
  z164 := Tryd.sizeOf103
  v164 := Tryd.zeroValue103 }
theorem sh_Builder_Extra_105 : Builder.Extra Tryd.prog sh_lays105_ren := {
  sizeBuilder := by kernel_rfl
  liesBuilder := by kernel_rfl
  t5 := Tryd.underlying5
  a5 := Tryd.isAgg5
  z5 := Tryd.sizeOf5
  v5 := Tryd.zeroValue5
  infoByte := by kernel_rfl
  cellsByte := by kernel_rfl
  sizeByte := by kernel_rfl
  neB5 := by decide }
open Go.RowKit Go.Lib in
theorem sh_strings_Repeat (s : ByteArray) (c : Nat) (w : World) (hc : c ≤ 9223372036854775807) (hlen : s.size * c ≤ 140737488355328) :
    Calls Tryd.prog 41 #[.string s, .int .i64 c] w fun e w' => e = .returned (.string ⟨(Lib.repeatL s.data.toList c).toArray⟩) ∧ Below w.heap.size w w' := Any.strings_Repeat sh_lays105 sh_Builder_Extra_105 s c w hc hlen
def sh_laysPu14_ren : Go.Shelf.Ren := ⟨fun | 14 => 37 | 16 => 51 | 17 => 52 | 19 => 67 | 20 => 68 | 21 => 69 | 22 => 70 | 23 => 71 | 24 => 72 | 25 => 84 | 27 => 23 | 26 => 85 | 28 => 34 | 29 => 35 | 30 => 46 | 31 => 47 | 32 => 48 | 33 => 49 | 35 => 60 | 34 => 59 | 36 => 61 | 37 => 62 | 38 => 63 | 39 => 79 | 40 => 80 | n => n, fun | 9 => 9 | 3 => 3 | 22 => 34 | 24 => 58 | 25 => 59 | 4 => 4 | 34 => 93 | 5 => 5 | 36 => 47 | 37 => 44 | 0 => 0 | 39 => 96 | 21 => 21 | 44 => 113 | 47 => 83 | 50 => 119 | 48 => 117 | 2 => 2 | 52 => 73 | 55 => 75 | 59 => 86 | 60 => 87 | 20 => 20 | 61 => 88 | 65 => 115 | 66 => 116 | 67 => 72 | n => n, fun | 0 => 1 | 1 => 2 | 2 => 0 | 3 => 4 | 4 => 5 | n => n⟩
theorem sh_laysPu14 : Go.Proofs.LaysPu.n14 Tryd.prog sh_laysPu14_ren := {
  mixed := by kernel_rfl
  f14 := Tryd.func37.trans (congrArg some (by kernel_rfl))
  f16 := Tryd.func51.trans (congrArg some (by kernel_rfl))
  f17 := Tryd.func52.trans (congrArg some (by kernel_rfl))
  f19 := Tryd.func67.trans (congrArg some (by kernel_rfl))
  f20 := Tryd.func68.trans (congrArg some (by kernel_rfl))
  f21 := Tryd.func69.trans (congrArg some (by kernel_rfl))
  f22 := Tryd.func70.trans (congrArg some (by kernel_rfl))
  f23 := Tryd.func71.trans (congrArg some (by kernel_rfl))
  f24 := Tryd.func72.trans (congrArg some (by kernel_rfl))
  f25 := Tryd.func84.trans (congrArg some (by kernel_rfl))
  f26 := Tryd.func85.trans (congrArg some (by kernel_rfl))
  f27 := Tryd.func23.trans (congrArg some (by kernel_rfl))
  f28 := Tryd.func34.trans (congrArg some (by kernel_rfl))
  f29 := Tryd.func35.trans (congrArg some (by kernel_rfl))
  f30 := Tryd.func46.trans (congrArg some (by kernel_rfl))
  f31 := Tryd.func47.trans (congrArg some (by kernel_rfl))
  f32 := Tryd.func48.trans (congrArg some (by kernel_rfl))
  f33 := Tryd.func49.trans (congrArg some (by kernel_rfl))
  f34 := Tryd.func59.trans (congrArg some (by kernel_rfl))
  f35 := Tryd.func60.trans (congrArg some (by kernel_rfl))
  f36 := Tryd.func61.trans (congrArg some (by kernel_rfl))
  f37 := Tryd.func62.trans (congrArg some (by kernel_rfl))
  f38 := Tryd.func63.trans (congrArg some (by kernel_rfl))
  f39 := Tryd.func79.trans (congrArg some (by kernel_rfl))
  f40 := Tryd.func80.trans (congrArg some (by kernel_rfl))
  t0 := Tryd.underlying0
  a0 := Tryd.isAgg0
  z0 := Tryd.sizeOf0
  v0 := Tryd.zeroValue0
  i0 := by kernel_rfl
  t2 := Tryd.underlying2
  a2 := Tryd.isAgg2
  z2 := Tryd.sizeOf2
  v2 := Tryd.zeroValue2
  i2 := by kernel_rfl
  t3 := Tryd.underlying3
  a3 := Tryd.isAgg3
  z3 := Tryd.sizeOf3
  v3 := Tryd.zeroValue3
  i3 := by kernel_rfl
  t4 := Tryd.underlying4
  a4 := Tryd.isAgg4
  z4 := Tryd.sizeOf4
  v4 := Tryd.zeroValue4
  i4 := by kernel_rfl
  t5 := Tryd.underlying5
  a5 := Tryd.isAgg5
  z5 := Tryd.sizeOf5
  v5 := Tryd.zeroValue5
  i5 := by kernel_rfl
  t9 := Tryd.underlying9
  a9 := Tryd.isAgg9
  z9 := Tryd.sizeOf9
  v9 := Tryd.zeroValue9
  i9 := by kernel_rfl
  t20 := Tryd.underlying20
  a20 := Tryd.isAgg20
  z20 := Tryd.sizeOf20
  v20 := Tryd.zeroValue20
  i20 := by kernel_rfl
  t21 := Tryd.underlying21
  a21 := Tryd.isAgg21
  z21 := Tryd.sizeOf21
  v21 := Tryd.zeroValue21
  i21 := by kernel_rfl
  t22 := Tryd.underlying34
  a22 := Tryd.isAgg34
  z22 := Tryd.sizeOf34
  v22 := Tryd.zeroValue34
  i22 := by kernel_rfl
  t24 := Tryd.underlying58
  a24 := Tryd.isAgg58
  z24 := Tryd.sizeOf58
  v24 := Tryd.zeroValue58
  i24 := by kernel_rfl
  t25 := Tryd.underlying59
  a25 := Tryd.isAgg59
  z25 := Tryd.sizeOf59
  v25 := Tryd.zeroValue59
  i25 := by kernel_rfl
  t34 := Tryd.underlying93
  a34 := Tryd.isAgg93
  z34 := Tryd.sizeOf93
  v34 := Tryd.zeroValue93
  i34 := by kernel_rfl
  c34 := by kernel_rfl
  t36 := Tryd.underlying47
  a36 := Tryd.isAgg47
  z36 := Tryd.sizeOf47
  v36 := Tryd.zeroValue47
  i36 := by kernel_rfl
  t37 := Tryd.underlying44
  a37 := Tryd.isAgg44
  z37 := Tryd.sizeOf44
  v37 := Tryd.zeroValue44
  i37 := by kernel_rfl
  t39 := Tryd.underlying96
  a39 := Tryd.isAgg96
  z39 := Tryd.sizeOf96
  v39 := Tryd.zeroValue96
  i39 := by kernel_rfl
  t44 := Tryd.underlying113
  a44 := Tryd.isAgg113
  z44 := Tryd.sizeOf113
  v44 := Tryd.zeroValue113
  i44 := by kernel_rfl
  t47 := Tryd.underlying83
  a47 := Tryd.isAgg83
  z47 := Tryd.sizeOf83
  v47 := Tryd.zeroValue83
  i47 := by kernel_rfl
  t48 := Tryd.underlying117
  a48 := Tryd.isAgg117
  z48 := Tryd.sizeOf117
  v48 := Tryd.zeroValue117
  i48 := by kernel_rfl
  t50 := Tryd.underlying119
  a50 := Tryd.isAgg119
  z50 := Tryd.sizeOf119
  v50 := Tryd.zeroValue119
  i50 := by kernel_rfl
  t52 := Tryd.underlying73
  a52 := Tryd.isAgg73
  z52 := Tryd.sizeOf73
  v52 := Tryd.zeroValue73
  i52 := by kernel_rfl
  t55 := Tryd.underlying75
  a55 := Tryd.isAgg75
  z55 := Tryd.sizeOf75
  v55 := Tryd.zeroValue75
  i55 := by kernel_rfl
  t59 := Tryd.underlying86
  a59 := Tryd.isAgg86
  z59 := Tryd.sizeOf86
  v59 := Tryd.zeroValue86
  i59 := by kernel_rfl
  t60 := Tryd.underlying87
  a60 := Tryd.isAgg87
  z60 := Tryd.sizeOf87
  v60 := Tryd.zeroValue87
  i60 := by kernel_rfl
  t61 := Tryd.underlying88
  a61 := Tryd.isAgg88
  z61 := Tryd.sizeOf88
  t65 := Tryd.underlying115
  a65 := Tryd.isAgg115
  z65 := Tryd.sizeOf115
  v65 := Tryd.zeroValue115
  i65 := by kernel_rfl
  t66 := Tryd.underlying116
  a66 := Tryd.isAgg116
  z66 := Tryd.sizeOf116
  v66 := Tryd.zeroValue116
  i66 := by kernel_rfl
  t67 := Tryd.underlying72
  a67 := Tryd.isAgg72
  z67 := Tryd.sizeOf72
  v67 := Tryd.zeroValue72
  i67 := by kernel_rfl
  g0 := by kernel_rfl
  m0 := by kernel_rfl
  g1 := by kernel_rfl
  m1 := by kernel_rfl
  g2 := by kernel_rfl
  m2 := by kernel_rfl
  g3 := by kernel_rfl
  m3 := by kernel_rfl
  g4 := by kernel_rfl
  m4 := by kernel_rfl }
open Go.RowKit in
theorem sh_strconv_ParseUint_10_at8_ok (s : ByteArray) (hmax : s.size ≤ 9223372036854775806) (u : Nat) (h : Lib.parseUintB 8 s.data.toList = .ok u) (w : World) :
    Calls Tryd.prog 37 #[.string s, .int .i64 10, .int .i64 8] w fun e w' => e = .returned (.tuple #[.int .u64 u, .nilIface]) ∧ (w' = w ∨ w' = Lib.bytesWorld w 5 s) := Any.strconv_ParseUint_10_at8_ok sh_laysPu14 s hmax u h w
open Go.RowKit in
theorem sh_strconv_ParseUint_10_at8_syntax (s : ByteArray) (hlim : s.size ≤ 281474976710656) (h : Lib.parseUintB 8 s.data.toList = .«syntax») (ev : Value) (w : World) (hv : w.cell? ⟨1, 0, none⟩ = some ev) (hev : ev = .nilIface ∨ ∃ te pe, ev = .iface te pe) :
    Calls Tryd.prog 37 #[.string s, .int .i64 10, .int .i64 8] w fun e w' => ∃ N, e = .returned (.tuple #[.int .u64 0, .iface 96 (.pointer (some ⟨N, 0, none⟩))]) ∧ w.heap.size ≤ N ∧ w'.heap[N]? = some (.cells #[.string ⟨#[80, 97, 114, 115, 101, 85, 105, 110, 116]⟩, .string s, ev] 113 (0, 0)) ∧ Below w.heap.size w w' := Any.strconv_ParseUint_10_at8_syntax sh_laysPu14 s hlim h ev w hv hev
open Go.RowKit in
theorem sh_strconv_ParseUint_10_at8_range (s : ByteArray) (hlim : s.size ≤ 281474976710656) (h : Lib.parseUintB 8 s.data.toList = .range) (ev : Value) (w : World) (hv : w.cell? ⟨2, 0, none⟩ = some ev) (hev : ev = .nilIface ∨ ∃ te pe, ev = .iface te pe) :
    Calls Tryd.prog 37 #[.string s, .int .i64 10, .int .i64 8] w fun e w' => ∃ N, e = .returned (.tuple #[.int .u64 255, .iface 96 (.pointer (some ⟨N, 0, none⟩))]) ∧ w.heap.size ≤ N ∧ w'.heap[N]? = some (.cells #[.string ⟨#[80, 97, 114, 115, 101, 85, 105, 110, 116]⟩, .string s, ev] 113 (0, 0)) ∧ Below w.heap.size w w' := Any.strconv_ParseUint_10_at8_range sh_laysPu14 s hlim h ev w hv hev
end Go.Proofs.YtdlepeogmjmleaaDoor
/-
  Own text. strconv.FormatUint and FormatInt of base 16 for numbers below 65536.
-/
namespace Go.Proofs.YtdlepeogmjmleaaDoor
open Go.RowKit Go.Proofs
set_option maxRecDepth 100000
/-- What the library's own variables hold. -/
def Env (w : World) : Prop := Pow w ∧ (∃ m, w.cell? ⟨3, 0, none⟩ = some (.int .i64 m)) ∧ (∃ t p, w.cell? ⟨1, 0, none⟩ = some (.iface t p)) ∧ (∃ t p, w.cell? ⟨2, 0, none⟩ = some (.iface t p)) ∧ w.cell? ⟨5, 15, none⟩ = some (.int .u8 4)
theorem Env.kept {w w' : World} (h : Env w) (hb : Below w.heap.size w w') : Env w' := by
  obtain ⟨h1, ⟨m, h2⟩, ⟨t, p, h3⟩, ⟨t', p', h4⟩, h5⟩ := h
  exact ⟨h1.kept hb, ⟨m, (hb.cell (World.block_lt_of_cell? _ _ h2)).trans h2⟩, ⟨t, p, (hb.cell (World.block_lt_of_cell? _ _ h3)).trans h3⟩, ⟨t', p', (hb.cell (World.block_lt_of_cell? _ _ h4)).trans h4⟩, (hb.cell (World.block_lt_of_cell? _ _ h5)).trans h5⟩
def hexS (n : Nat) : ByteArray := ⟨(hexT n).toArray⟩
theorem hexS_ls (n : Nat) : lsT (hexS n) = hexT n := by unfold lsT hexS; rfl
theorem len65 : Tryd.prog.arrayLen 88 = 65 := by kernel_rfl
theorem sizeB65 (w : World) : (sizeOf (Tryd.prog.elem 88)).run Tryd.prog w = .ok 1 w := by kernel_rfl
theorem zero65 (w : World) : (zeroValue 88).run Tryd.prog w = .ok (.agg (SC 65 fun _ => Value.int .u8 0)) w := by kernel_rfl
def digS : ByteArray := ⟨#[48, 49, 50, 51, 52, 53, 54, 55, 56, 57, 97, 98, 99, 100, 101, 102, 103, 104, 105, 106, 107, 108, 109, 110, 111, 112, 113, 114, 115, 116, 117, 118, 119, 120, 121, 122]⟩
theorem dig_tab : ((List.range 16).all fun d => txt digS d == ((hexC d).toNat : Int)) = true := by decide +kernel
theorem dig_at {d : Nat} (h : d < 16) : txt digS d = ((hexC d).toNat : Int) := beq_iff_eq.1 (List.all_eq_true.1 dig_tab d (List.mem_range.2 h))
section
variable {a : Act} {o : Oper} {w : World} {x y : Operand} {t : TypeId}
theorem exec_ixsU (ho : o.op = .index 9 x y) {s : ByteArray} {j : Nat} (hx : a.eval x = .string s) (hy : a.eval y = .int .u64 (j : Int)) (hj : j < s.size) : (execOp a.eval o).run Tryd.prog w = .ok (.value (.int .u8 (txt s j))) w := by
  unfold execOp
  simp only [ho, hx, hy, Sem.run_bind]
  rw [run_index_string w 9 s .u64 (j : Int) Tryd.underlying9, dif_pos ⟨by omega, by omega⟩]
  simp only [Result.andThen_ok, Sem.run_pure, Int.toNat_natCast]
  rw [txt_get hj]
theorem exec_and15 (ho : o.op = .binOp .and 47 x y 47) {i q : Nat} (hx : a.eval x = .int .u64 (i : Int)) (hy : a.eval y = .int .u64 15) (hl : i < 18446744073709551616) (hq : i % 16 = q) : (execOp a.eval o).run Tryd.prog w = .ok (.value (.int .u64 (q : Int))) w := by
  subst hq
  refine exec_bin2 ho hx hy rfl ?_
  have e := bits_and_u64_nat i 15 hl (by decide)
  have e2 : i &&& 15 = i % 16 := Nat.and_two_pow_sub_one_eq_mod i 4
  rw [e2] at e
  have e3 : bits .and .u64 (i : Int) 15 = ((i % 16 : Nat) : Int) := e
  simp [go_sem, e3]
theorem exec_shrU4 (ho : o.op = .binOp .shr 34 x y t) {i q : Nat} (hx : a.eval x = .int .u64 (i : Int)) (hy : a.eval y = .int .u64 4) (hq : i / 16 = q) : (execOp a.eval o).run Tryd.prog w = .ok (.value (.int .u64 (q : Int))) w := by
  subst hq
  refine exec_bin2 ho hx hy rfl ?_
  simp [go_sem]
end
set_option maxHeartbeats 4000000 in
theorem tz64_run (w : World) (hc : w.cell? ⟨5, 15, none⟩ = some (.int .u8 4)) : Calls Tryd.prog 80 #[.int .u64 16] w fun e w' => e = .returned (.int .i64 4) ∧ w' = w := by
  have e1 : IntKind.u64.wrap (-16) = 18446744073709551600 := by rw [IntKind.wrap_u64]; decide
  have e2 : bits .and .u64 16 18446744073709551600 = 16 := by decide
  have e3 : IntKind.u64.wrap (16 * 285870213051353865) = 4573923408821661840 := by rw [IntKind.wrap_u64]; decide
  go_enter Tryd.func80, Tryd.ntmps80
  go_wp2_with fail
  go_ret
  exact ⟨rfl, rfl⟩
set_option maxHeartbeats 4000000 in
theorem tz_run (w : World) (hc : w.cell? ⟨5, 15, none⟩ = some (.int .u8 4)) : Calls Tryd.prog 63 #[.int .u64 16] w fun e w' => e = .returned (.int .i64 4) ∧ w' = w := by
  go_enter Tryd.func63, Tryd.ntmps63
  go_wp2_with (go_at_call 80; refine (tz64_run _ hc).mono ?_; rintro e w2 ⟨rfl, rfl⟩)
  go_ret
  exact ⟨rfl, rfl⟩
set_option maxHeartbeats 4000000 in
theorem pow2_run (w : World) : Calls Tryd.prog 62 #[.int .i64 16] w fun e w' => e = .returned (.bool true) ∧ w' = w := by
  have e2 : bits .and .i64 16 15 = 0 := by decide
  go_enter Tryd.func62, Tryd.ntmps62
  go_wp2_with fail
  go_ret
  exact ⟨rfl, rfl⟩
/-- The digits of a number, of 65 places: the last k of them. -/
def digF (n k j : Nat) : Int := if 65 - k ≤ j then ((hexC (n / 16 ^ (64 - j) % 16)).toNat : Int) else 0
theorem hexC_b (d : Nat) : 0 ≤ ((hexC d).toNat : Int) ∧ ((hexC d).toNat : Int) < 256 := by
  have := (hexC d).toNat_lt
  omega
theorem mkS_hex {n k : Nat} (hk : k ≤ 3) (h1 : n / 16 ^ k < 16) (h2 : k = 0 ∨ 16 ≤ n / 16 ^ (k - 1)) : mkS (k + 1) (fun j => ((hexC (n / 16 ^ (k - j) % 16)).toNat : Int)) = hexS n := by
  apply lsT_inj
  rw [hexS_ls]
  unfold hexT
  match k, hk with
  | 0, _ =>
    rw [if_pos (by simpa using h1)]
    have e : n % 16 = n := Nat.mod_eq_of_lt (by simpa using h1)
    simp [lsT, mkS, bytesL, e]
  | 1, _ =>
    have h3 : 16 ≤ n := by rcases h2 with e | e; cases e; simpa using e
    have h4 : n / 16 < 16 := by simpa using h1
    rw [if_neg (by omega), if_pos (by omega)]
    have e : n / 16 % 16 = n / 16 := Nat.mod_eq_of_lt h4
    simp [lsT, mkS, bytesL, e, List.range_succ]
  | 2, _ =>
    have h3 : 16 ≤ n / 16 := by rcases h2 with e | e; cases e; simpa using e
    have h4 : n / 256 < 16 := by simpa using h1
    rw [if_neg (by omega), if_neg (by omega), if_pos (by omega)]
    have e : n / 256 % 16 = n / 256 := Nat.mod_eq_of_lt h4
    simp [lsT, mkS, bytesL, e, List.range_succ]
  | 3, _ =>
    have h3 : 16 ≤ n / 256 := by rcases h2 with e | e; cases e; simpa using e
    have h4 : n / 4096 < 16 := by simpa using h1
    rw [if_neg (by omega), if_neg (by omega), if_neg (by omega)]
    have e : n / 4096 % 16 = n / 4096 := Nat.mod_eq_of_lt h4
    simp [lsT, mkS, bytesL, e, List.range_succ]
set_option maxHeartbeats 8000000 in
theorem fbits_run (n : Nat) (w : World) (hn : n < 65536) (hc : w.cell? ⟨5, 15, none⟩ = some (.int .u8 4)) : Calls Tryd.prog 49 #[.slice none 0 0, .int .u64 (n : Int), .int .i64 16, .bool false, .bool false] w fun e w' => e = .returned (.tuple #[.slice none 0 0, .string (hexS n)]) ∧ Below w.heap.size w w' := by
  go_enter Tryd.func49, Tryd.ntmps49
  go_wp2_with (refine wl_alO rfl rfl zero65 ?_; intro g w1 hg q1 hB1; refine Hid.out ?_)
  refine Hid.mk ?_
  have q1 : Hid (ArrAt w1 g .u8 88 65 (fun _ => 0)) := Hid.mk q1
  have hc1 := (hB1.cell (World.block_lt_of_cell? _ _ hc)).trans hc
  go_wp2_with (first | (go_at_call 62; refine (pow2_run _).mono ?_; rintro e w2 ⟨rfl, rfl⟩) | (go_at_call 63; refine (tz_run _ hc1).mono ?_; rintro e w2 ⟨rfl, rfl⟩))
  go_loopg [1, 13] 4 (fun gm s1 s13 z => ∃ k u : Nat, Hid (gm + k = 4) ∧ k ≤ 3 ∧ s1 = .int .u64 (u : Int) ∧ s13 = .int .i64 ((65 - k : Nat) : Int) ∧ Hid (u = n / 16 ^ k ∧ (k = 0 ∨ 16 ≤ n / 16 ^ (k - 1))) ∧ Hid (ArrAt z g .u8 88 65 (digF n k)) ∧ Below w.heap.size w z)
  case atStart => exact ⟨0, n, Hid.mk rfl, by omega, rfl, rfl, Hid.mk ⟨by simp, .inl rfl⟩, Hid.mk (q1.out.congr (fun i hi => by unfold digF; rw [if_neg (by omega)])), hB1⟩
  case round =>
    obtain ⟨k, u, HK, hk3, rfl, rfl, HU, HR, hB⟩ := hrel
    have hul : u < 65536 := by rw [HU.out.1]; exact Nat.lt_of_le_of_lt (Nat.div_le_self _ _) hn
    obtain ⟨p, hp⟩ : ∃ p, 65 - k = p := ⟨_, rfl⟩
    obtain ⟨p1, hp1⟩ : ∃ p1, p = 1 + p1 := ⟨p - 1, by omega⟩
    have hp65 : p1 < 65 := by omega
    have hpi : ((1 + p1 : Nat) : Int) = 1 + (p1 : Int) := by omega
    rw [hp, hp1]
    have hq := HR.out
    by_cases h16 : 16 ≤ u
    · have h16i : (16 : Int) ≤ (u : Int) := by omega
      obtain ⟨d, hd⟩ : ∃ d, u % 16 = d := ⟨_, rfl⟩
      obtain ⟨u2, hu2⟩ : ∃ u2, u / 16 = u2 := ⟨_, rfl⟩
      have hd16 : d < 16 := by omega
      have HD := Hid.mk (And.intro hd hu2)
      have hk2 : k < 3 := by
        rcases Nat.lt_or_ge k 3 with h | h
        · exact h
        · have e : k = 3 := by omega
          have := HU.out.1
          rw [e] at this
          have e2 : (16 : Nat) ^ 3 = 4096 := rfl
          omega
      have HX : Hid (∀ i, i < 65 → upd (digF n k) p1 ((hexC d).toNat : Int) i = digF n (k + 1) i) := Hid.mk (fun i hi => by
        unfold upd digF
        by_cases e : i = p1
        · rw [if_pos e, if_pos (by omega), ← hd, HU.out.1, show 64 - i = k by omega]
        · rw [if_neg e]
          by_cases e2 : 65 - k ≤ i
          · rw [if_pos e2, if_pos (by omega)]
          · rw [if_neg e2, if_neg (by omega)])
      have HU2 : Hid (u2 = n / 16 ^ (k + 1) ∧ (k + 1 = 0 ∨ 16 ≤ n / 16 ^ (k + 1 - 1))) := Hid.mk ⟨by
        rw [← hu2, HU.out.1, Nat.div_div_eq_div_mul, ← Nat.pow_succ], .inr (by rw [Nat.add_sub_cancel, ← HU.out.1]; exact h16)⟩
      clear hd hu2
      have HDS : Hid (d < digS.size) := Hid.mk (by show d < 36; omega)
      go_wp2_with (first | (refine wl_value rfl (exec_subW (i := 1 + p1) (m := 1) (q := p1) rfl (by rfl) (by rfl) rfl (by omega)) ?_) | (refine wl_value rfl (exec_and15 (i := u) rfl (by rfl) (by rfl) (by omega) HD.out.1) ?_) | (refine wl_value rfl (exec_ixsU (s := digS) (j := d) rfl (by rfl) (by rfl) HDS.out) ?_; simp only [dig_at hd16]) | (refine wl_value rfl (exec_idxA (i := p1) rfl Tryd.underlying88 len65 sizeB65 (by rfl) (by rfl) hp65) ?_) | (refine wl_st8A rfl rfl hq (by rfl) (by rfl) hp65 ?_; intro w2 q2 o2; refine Hid.out ?_))
      refine Hid.mk ?_
      have HY : Hid (ArrAt w2 g .u8 88 65 (digF n (k + 1))) := Hid.mk (q2.congr HX.out)
      have hB2 : Below w.heap.size w w2 := hB.trans (o2.below hg)
      clear q2 o2 hq HR hB
      go_wp2_with (refine wl_value rfl (exec_shrU4 (i := u) rfl (by rfl) (by rfl) HD.out.2) ?_)
      go_roundg (4 - (k + 1))
      case rel => exact ⟨k + 1, u2, Hid.mk (by omega), by omega, rfl, by congr 1; omega, HU2, HY, hB2⟩
      case measure => have := HK.out; omega
    · have h16i : ¬ (16 : Int) ≤ (u : Int) := by omega
      have hu16 : u < 16 := by omega
      have HX : Hid (∀ i, i < 65 → upd (digF n k) p1 ((hexC u).toNat : Int) i = digF n (k + 1) i) := Hid.mk (fun i hi => by
        unfold upd digF
        by_cases e : i = p1
        · rw [if_pos e, if_pos (by omega), show 64 - i = k by omega, ← HU.out.1, Nat.mod_eq_of_lt hu16]
        · rw [if_neg e]
          by_cases e2 : 65 - k ≤ i
          · rw [if_pos e2, if_pos (by omega)]
          · rw [if_neg e2, if_neg (by omega)])
      have HDS : Hid (u < digS.size) := Hid.mk (by show u < 36; omega)
      go_wp2_with (first | (refine wl_value rfl (exec_subW (i := 1 + p1) (m := 1) (q := p1) rfl (by rfl) (by rfl) rfl (by omega)) ?_) | (refine wl_value rfl (exec_ixsU (s := digS) (j := u) rfl (by rfl) (by rfl) HDS.out) ?_; simp only [dig_at hu16]) | (refine wl_value rfl (exec_idxA (i := p1) rfl Tryd.underlying88 len65 sizeB65 (by rfl) (by rfl) hp65) ?_) | (refine wl_st8A rfl rfl hq (by rfl) (by rfl) hp65 ?_; intro w2 q2 o2; refine Hid.out ?_))
      refine Hid.mk ?_
      have hB2 : Below w.heap.size w w2 := hB.trans (o2.below hg)
      have hY := q2.congr HX.out
      have hcv := str_cells g p1 (65 - p1) w2 (k + 1) (fun j => ((hexC (n / 16 ^ (k - j) % 16)).toNat : Int)) (fun j hj => by
        rw [hY.cell (p1 + j) (by omega)]
        unfold digF
        rw [if_pos (by omega), show 64 - (p1 + j) = k - j by omega]) (fun j _ => hexC_b _)
      rw [mkS_hex hk3 (by rw [← HU.out.1]; exact hu16) HU.out.2] at hcv
      have hsl := slArrL Tryd.underlying88 len65 sizeB65 g p1 w2 hp65
      have e8 : 65 - p1 = k + 1 := by omega
      rw [e8] at hsl hcv
      clear q2 o2 hq HR hB hY
      go_wp2_with (first | (refine wl_value rfl (exec_slL rfl (by rfl) (by rfl) hsl) ?_) | (refine wl_value rfl (exec_conv rfl (by rfl) hcv) ?_))
      exact bodyPost_ret (results_two rfl (by rfl) (by rfl)) rfl ⟨rfl, hB2⟩
theorem iFormatUint_run (n : Nat) (w : World) (hn : n < 65536) (hc : w.cell? ⟨5, 15, none⟩ = some (.int .u8 4)) : Calls Tryd.prog 42 #[.int .u64 (n : Int), .int .i64 16] w fun e w' => e = .returned (.string (hexS n)) ∧ Below w.heap.size w w' := by
  go_enter Tryd.func42, Tryd.ntmps42
  go_wp2_with (go_at_call 49; refine (fbits_run n _ hn hc).mono ?_; rintro e w2 ⟨rfl, hB⟩)
  go_ret
  exact ⟨rfl, hB⟩
theorem FormatUint_run (n : Nat) (w : World) (hn : n < 65536) (hE : Env w) : Calls Tryd.prog 31 #[.int .u64 (n : Int), .int .i64 16] w fun e w' => e = .returned (.string (hexS n)) ∧ Below w.heap.size w w' := by
  have hc := hE.2.2.2.2
  go_enter Tryd.func31, Tryd.ntmps31
  go_wp2_with (go_at_call 42; refine (iFormatUint_run n _ hn hc).mono ?_; rintro e w2 ⟨rfl, hB⟩)
  go_ret
  exact ⟨rfl, hB⟩
theorem iFormatInt_run (n : Nat) (w : World) (hn : n < 65536) (hc : w.cell? ⟨5, 15, none⟩ = some (.int .u8 4)) : Calls Tryd.prog 35 #[.int .i64 (n : Int), .int .i64 16] w fun e w' => e = .returned (.string (hexS n)) ∧ Below w.heap.size w w' := by
  have h0 : ¬ (n : Int) < 0 := by omega
  have e1 : IntKind.u64.wrap (n : Int) = (n : Int) := by rw [IntKind.wrap_u64]; omega
  go_enter Tryd.func35, Tryd.ntmps35
  go_wp2_with (go_at_call 49; refine (fbits_run n _ hn hc).mono ?_; rintro e w2 ⟨rfl, hB⟩)
  go_ret
  exact ⟨rfl, hB⟩
theorem FormatInt_run (n : Nat) (w : World) (hn : n < 65536) (hE : Env w) : Calls Tryd.prog 25 #[.int .i64 (n : Int), .int .i64 16] w fun e w' => e = .returned (.string (hexS n)) ∧ Below w.heap.size w w' := by
  have hc := hE.2.2.2.2
  go_enter Tryd.func25, Tryd.ntmps25
  go_wp2_with (go_at_call 35; refine (iFormatInt_run n _ hn hc).mono ?_; rintro e w2 ⟨rfl, hB⟩)
  go_ret
  exact ⟨rfl, hB⟩
end Go.Proofs.YtdlepeogmjmleaaDoor
/-
  Own text. The longest row of pairs that are 0: as the document finds it, and as the program does.
-/
namespace Go.Proofs.YtdlepeogmjmleaaDoor
open Go.RowKit Go.Proofs
set_option maxRecDepth 100000
/-- As the program goes: where the longest row begins, how long it is, how long the present one is. -/
def rowC (z : Nat → Bool) : Nat → Nat × Nat × Nat
  | 0 => (0, 0, 0)
  | k + 1 => if z k = true then (if (rowC z k).2.1 < (rowC z k).2.2 + 1 then (k - (rowC z k).2.2, (rowC z k).2.2 + 1, (rowC z k).2.2 + 1) else ((rowC z k).1, (rowC z k).2.1, (rowC z k).2.2 + 1)) else ((rowC z k).1, (rowC z k).2.1, 0)
/-- How many are 0 from i on, of n. -/
def runZ (z : Nat → Bool) : Nat → Nat → Nat
  | _, 0 => 0
  | i, n + 1 => if z i = true then runZ z (i + 1) n + 1 else 0
/-- As the document goes. -/
def rowD (z : Nat → Bool) : Nat → Nat × Nat
  | 0 => (0, 0)
  | k + 1 => if (rowD z k).2 < runZ z k (8 - k) ∧ 2 ≤ runZ z k (8 - k) then (k, runZ z k (8 - k)) else rowD z k
theorem rowC_congr {z z' : Nat → Bool} : ∀ k, (∀ i, i < k → z i = z' i) → rowC z k = rowC z' k
  | 0, _ => rfl
  | k + 1, h => by rw [rowC, rowC, rowC_congr k (fun i hi => h i (by omega)), h k (by omega)]
theorem runZ_congr {z z' : Nat → Bool} : ∀ n i, (∀ j, i ≤ j → j < i + n → z j = z' j) → runZ z i n = runZ z' i n
  | 0, _, _ => rfl
  | n + 1, i, h => by rw [runZ, runZ, runZ_congr n (i + 1) (fun j h1 h2 => h j (by omega) (by omega)), h i (by omega) (by omega)]
theorem rowD_congr {z z' : Nat → Bool} (h : ∀ i, i < 8 → z i = z' i) : ∀ k, k ≤ 8 → rowD z k = rowD z' k
  | 0, _ => rfl
  | k + 1, hk => by rw [rowD, rowD, rowD_congr h k (by omega), runZ_congr (8 - k) k (fun j h1 h2 => h j (by omega))]
def zOf (b0 b1 b2 b3 b4 b5 b6 b7 : Bool) (i : Nat) : Bool := [b0, b1, b2, b3, b4, b5, b6, b7].getD i false
def rowGood (z : Nat → Bool) : Bool := (if (rowC z 8).2.1 < 2 then decide ((rowD z 8).2 = 0) else decide ((rowD z 8).1 = (rowC z 8).1 ∧ (rowD z 8).2 = (rowC z 8).2.1)) && (decide ((rowD z 8).2 = 0) || (decide (2 ≤ (rowD z 8).2) && decide ((rowD z 8).1 + (rowD z 8).2 ≤ 8) && (List.range 8).all fun i => decide (i < (rowD z 8).1) || decide ((rowD z 8).1 + (rowD z 8).2 ≤ i) || z i)) && decide ((rowC z 8).1 + (rowC z 8).2.1 ≤ 8)
theorem row_tab : ∀ b0 b1 b2 b3 b4 b5 b6 b7 : Bool, rowGood (zOf b0 b1 b2 b3 b4 b5 b6 b7) = true := by decide +kernel
theorem zOf_at (z : Nat → Bool) : ∀ i, i < 8 → z i = zOf (z 0) (z 1) (z 2) (z 3) (z 4) (z 5) (z 6) (z 7) i
  | 0, _ => rfl
  | 1, _ => rfl
  | 2, _ => rfl
  | 3, _ => rfl
  | 4, _ => rfl
  | 5, _ => rfl
  | 6, _ => rfl
  | 7, _ => rfl
  | n + 8, h => by omega
theorem row_good (z : Nat → Bool) : rowGood z = true := by
  have h := row_tab (z 0) (z 1) (z 2) (z 3) (z 4) (z 5) (z 6) (z 7)
  have hz := zOf_at z
  generalize zOf (z 0) (z 1) (z 2) (z 3) (z 4) (z 5) (z 6) (z 7) = z' at h hz
  unfold rowGood at h ⊢
  rw [rowC_congr 8 hz, rowD_congr hz 8 (Nat.le_refl _)]
  have e : ((List.range 8).all fun i => decide (i < (rowD z' 8).1) || decide ((rowD z' 8).1 + (rowD z' 8).2 ≤ i) || z i) = ((List.range 8).all fun i => decide (i < (rowD z' 8).1) || decide ((rowD z' 8).1 + (rowD z' 8).2 ≤ i) || z' i) := by
    rw [Bool.eq_iff_iff, List.all_eq_true, List.all_eq_true]
    constructor
    · intro g i hi
      rw [← hz i (List.mem_range.1 hi)]
      exact g i hi
    · intro g i hi
      rw [hz i (List.mem_range.1 hi)]
      exact g i hi
  rw [e]
  exact h
/-- The row that a text leaves out: where it begins, how long it is (0: none). -/
def zP (pr : Nat → Nat) (i : Nat) : Bool := decide (pr i = 0)
def rowP (pr : Nat → Nat) : Nat × Nat := rowD (zP pr) 8
def textSix (pr : Nat → Nat) : List UInt8 := sixT pr (rowP pr).1 (rowP pr).2
theorem rowP_ok (pr : Nat → Nat) : (rowP pr).2 = 0 ∨ (2 ≤ (rowP pr).2 ∧ (rowP pr).1 + (rowP pr).2 ≤ 8 ∧ ∀ i, (rowP pr).1 ≤ i → i < (rowP pr).1 + (rowP pr).2 → pr i = 0) := by
  have h := row_good (zP pr)
  unfold rowGood at h
  rw [Bool.and_eq_true, Bool.and_eq_true, Bool.or_eq_true] at h
  rcases h.1.2 with e | e
  · exact .inl (of_decide_eq_true e)
  · rw [Bool.and_eq_true, Bool.and_eq_true] at e
    refine .inr ⟨of_decide_eq_true e.1.1, of_decide_eq_true e.1.2, fun i h1 h2 => ?_⟩
    have h8 : (rowP pr).1 + (rowP pr).2 ≤ 8 := of_decide_eq_true e.1.2
    have := List.all_eq_true.1 e.2 i (List.mem_range.2 (by omega))
    rw [Bool.or_eq_true, Bool.or_eq_true] at this
    rcases this with (q | q) | q
    · have : i < (rowP pr).1 := of_decide_eq_true q
      omega
    · have : (rowP pr).1 + (rowP pr).2 ≤ i := of_decide_eq_true q
      omega
    · exact of_decide_eq_true q
theorem rowC_few {pr : Nat → Nat} (h : (rowC (zP pr) 8).2.1 < 2) : textSix pr = joinC 58 ((prL pr 0 8).map hexT) := by
  have g := row_good (zP pr)
  unfold rowGood at g
  rw [Bool.and_eq_true, Bool.and_eq_true, if_pos h] at g
  have e : (rowP pr).2 = 0 := of_decide_eq_true g.1.1
  unfold textSix sixT
  rw [if_pos e]
theorem rowC_many {pr : Nat → Nat} (h : ¬ (rowC (zP pr) 8).2.1 < 2) : textSix pr = joinC 58 ((prL pr 0 (rowC (zP pr) 8).1).map hexT) ++ 58 :: 58 :: joinC 58 ((prL pr ((rowC (zP pr) 8).1 + (rowC (zP pr) 8).2.1) (8 - ((rowC (zP pr) 8).1 + (rowC (zP pr) 8).2.1))).map hexT) := by
  have g := row_good (zP pr)
  unfold rowGood at g
  rw [Bool.and_eq_true, Bool.and_eq_true, if_neg h] at g
  have e : (rowP pr).1 = (rowC (zP pr) 8).1 ∧ (rowP pr).2 = (rowC (zP pr) 8).2.1 := of_decide_eq_true g.1.1
  unfold textSix sixT
  rw [if_neg (by rw [e.2]; omega), e.1, e.2]
theorem rowC_le (z : Nat → Bool) : (rowC z 8).1 + (rowC z 8).2.1 ≤ 8 := by
  have g := row_good z
  unfold rowGood at g
  rw [Bool.and_eq_true] at g
  exact of_decide_eq_true g.2
theorem rowC_b (z : Nat → Bool) : ∀ k, (rowC z k).1 ≤ k ∧ (rowC z k).2.1 ≤ k ∧ (rowC z k).2.2 ≤ k
  | 0 => by simp [rowC]
  | k + 1 => by
    have ih := rowC_b z k
    rw [rowC]
    split
    · split
      · exact ⟨by show k - (rowC z k).2.2 ≤ k + 1; omega, by show (rowC z k).2.2 + 1 ≤ k + 1; omega, by show (rowC z k).2.2 + 1 ≤ k + 1; omega⟩
      · exact ⟨by show (rowC z k).1 ≤ k + 1; omega, by show (rowC z k).2.1 ≤ k + 1; omega, by show (rowC z k).2.2 + 1 ≤ k + 1; omega⟩
    · exact ⟨by show (rowC z k).1 ≤ k + 1; omega, by show (rowC z k).2.1 ≤ k + 1; omega, by show 0 ≤ k + 1; omega⟩
end Go.Proofs.YtdlepeogmjmleaaDoor
