/-
  Own text. Small functions of the program and of the document: numbers within bounds, kinds of headers.
-/
import Derived.Test.YtojekoakgpkkdaaDoorJ3
namespace Go.Proofs.YtojekoakgpkkdaaDoor
open Go.RowKit Go.Proofs
set_option maxRecDepth 100000
theorem isEx_d (k : Int) : isEx k = (decide (k = 0) || decide (k = 43) || decide (k = 60)) := rfl
theorem isHd_d (k : Int) : isHd k = (isEx k || decide (k = 44)) := rfl
theorem isHd_e (k : Int) : isHd k = (decide (k = 0) || decide (k = 43) || decide (k = 44) || decide (k = 60)) := by
  unfold isHd isEx
  by_cases h : k = 60
  · subst h; decide
  · by_cases h2 : k = 44
    · subst h2; decide
    · have e1 : (k == 60) = false := by simpa using h
      have e2 : (k == 44) = false := by simpa using h2
      rw [e1, e2, decide_eq_false h, decide_eq_false h2, Bool.or_false, Bool.or_false, Bool.or_false, Bool.or_false]
      rfl
theorem mayB_d (k : Int) (i : Nat) : mayB k i = (decide ((i : Int) < 4) && (!decide (k = 0) || decide ((i : Int) = 0))) := by
  unfold mayB
  have e1 : decide (i < 4) = decide ((i : Int) < 4) := by congr 1; exact propext ⟨fun h => by omega, fun h => by omega⟩
  have e2 : decide (i = 0) = decide ((i : Int) = 0) := by congr 1; exact propext ⟨fun h => by omega, fun h => by omega⟩
  rw [e1, e2]
  rfl
set_option maxHeartbeats 4000000 in
theorem upTo_run (n m : Int) (w : World) : Calls Tryd.prog 48 #[.int .i64 n, .int .i64 m] w fun e w' => e = .returned (.bool (upB n m)) ∧ Below w.heap.size w w' := by
  go_enter Tryd.func48, Tryd.ntmps48
  go_upto_region 1 with fail
  refine wp_plain_steps (Below w.heap.size w) (fun v v' => Below v.heap.size v v') (fun j vv _ => vv = ([.int .i64 n, .bool (decide (0 ≤ n)), .bool (decide (0 ≤ n)), gv (decide (0 ≤ n)) (.int .i64 n), gv (decide (0 ≤ n)) (.int .i64 m), gv (decide (0 ≤ n)) (.bool (decide (n ≤ m))), .bool ((decide (0 ≤ n)) && (decide (n ≤ m))), .bool ((decide (0 ≤ n)) && (decide (n ≤ m)))] : List Value).getD j undef)
      [5, 6, 7, 8, 9, 10, 11, 4]
      [(0, .int .i64 n), (1, .int .i64 m)] [] 0
      [[], [0], [1], [2], [2], [2, 3, 4], [2, 5], [6]]
      (by kernel_rfl) ⟨rfl, rfl, trivial⟩ trivial (Below.refl _ _) (fun v v' h hb => h.trans (hb.mono h.size)) (fun _ _ _ _ h _ => h)
      ⟨
      (fun QQ aa ww hS fr kn => sg0 rfl (fun K hK => wp_value (exec_move rfl fr.1) (hK _ _ rfl (Below.refl _ _)))),
      (fun QQ aa ww hS fr kn => sg0 rfl (fun K hK => wp_value (cmp_ge (m := n) (n := 0) rfl kn.1 rfl) (hK _ _ rfl (Below.refl _ _)))),
      (fun QQ aa ww hS fr kn => sg0 rfl (fun K hK => wp_value (exec_move rfl kn.1) (hK _ _ rfl (Below.refl _ _)))),
      (fun QQ aa ww hS fr kn => sgT rfl kn.1 (fun hc K hK => wp_value (exec_move rfl fr.1) (hK _ _ (gv_t hc).symm (Below.refl _ _))) (fun h0 => (gv_f h0).symm)),
      (fun QQ aa ww hS fr kn => sgT rfl kn.1 (fun hc K hK => wp_value (exec_move rfl fr.2.1) (hK _ _ (gv_t hc).symm (Below.refl _ _))) (fun h0 => (gv_f h0).symm)),
      (fun QQ aa ww hS fr kn => sgT rfl kn.1 (fun hc K hK => wp_value (cmp_le (m := n) (n := m) rfl (kn.2.1.trans (gv_t hc)) (kn.2.2.1.trans (gv_t hc))) (hK _ _ (gv_t hc).symm (Below.refl _ _))) (fun h0 => (gv_f h0).symm)),
      (fun QQ aa ww hS fr kn => sg0 rfl (fun K hK => wp_value (exec_pickAnd rfl kn.1 (fun hx => kn.2.1.trans (gv_t hx)) rfl) (hK _ _ rfl (Below.refl _ _)))),
      (fun QQ aa ww hS fr kn => sg0 rfl (fun K hK => wp_value (exec_assign rfl kn.1) (hK _ _ rfl (Below.refl _ _)))),
      trivial⟩ ?_
  intro vs u2 hB2 kn
  have e4 : vs 4 = .bool ((decide (0 ≤ n)) && (decide (n ≤ m))) := kn 7 (by decide)
  clear kn
  simp only [putAll, Act.put, List.setIfInBounds_toArray, List.set_cons_zero, List.set_cons_succ, e4]
  clear e4
  go_wp2_with fail
  go_ret
  exact ⟨rfl, hB2⟩
set_option maxHeartbeats 4000000 in
theorem within_run (n m : Int) (w : World) : Calls Tryd.prog 91 #[.int .i64 n, .int .i64 m] w fun e w' => e = .returned (.bool (upB n m)) ∧ Below w.heap.size w w' := by
  go_enter Tryd.func91, Tryd.ntmps91
  go_upto_region 1 with fail
  refine wp_plain_steps (Below w.heap.size w) (fun v v' => Below v.heap.size v v') (fun j vv _ => vv = ([.int .i64 n, .bool (decide (0 ≤ n)), .bool (decide (0 ≤ n)), gv (decide (0 ≤ n)) (.int .i64 n), gv (decide (0 ≤ n)) (.int .i64 m), gv (decide (0 ≤ n)) (.bool (decide (n ≤ m))), .bool ((decide (0 ≤ n)) && (decide (n ≤ m))), .bool ((decide (0 ≤ n)) && (decide (n ≤ m)))] : List Value).getD j undef)
      [5, 6, 7, 8, 9, 10, 11, 4]
      [(0, .int .i64 n), (1, .int .i64 m)] [] 0
      [[], [0], [1], [2], [2], [2, 3, 4], [2, 5], [6]]
      (by kernel_rfl) ⟨rfl, rfl, trivial⟩ trivial (Below.refl _ _) (fun v v' h hb => h.trans (hb.mono h.size)) (fun _ _ _ _ h _ => h)
      ⟨
      (fun QQ aa ww hS fr kn => sg0 rfl (fun K hK => wp_value (exec_move rfl fr.1) (hK _ _ rfl (Below.refl _ _)))),
      (fun QQ aa ww hS fr kn => sg0 rfl (fun K hK => wp_value (cmp_ge (m := n) (n := 0) rfl kn.1 rfl) (hK _ _ rfl (Below.refl _ _)))),
      (fun QQ aa ww hS fr kn => sg0 rfl (fun K hK => wp_value (exec_move rfl kn.1) (hK _ _ rfl (Below.refl _ _)))),
      (fun QQ aa ww hS fr kn => sgT rfl kn.1 (fun hc K hK => wp_value (exec_move rfl fr.1) (hK _ _ (gv_t hc).symm (Below.refl _ _))) (fun h0 => (gv_f h0).symm)),
      (fun QQ aa ww hS fr kn => sgT rfl kn.1 (fun hc K hK => wp_value (exec_move rfl fr.2.1) (hK _ _ (gv_t hc).symm (Below.refl _ _))) (fun h0 => (gv_f h0).symm)),
      (fun QQ aa ww hS fr kn => sgT rfl kn.1 (fun hc K hK => wp_value (cmp_le (m := n) (n := m) rfl (kn.2.1.trans (gv_t hc)) (kn.2.2.1.trans (gv_t hc))) (hK _ _ (gv_t hc).symm (Below.refl _ _))) (fun h0 => (gv_f h0).symm)),
      (fun QQ aa ww hS fr kn => sg0 rfl (fun K hK => wp_value (exec_pickAnd rfl kn.1 (fun hx => kn.2.1.trans (gv_t hx)) rfl) (hK _ _ rfl (Below.refl _ _)))),
      (fun QQ aa ww hS fr kn => sg0 rfl (fun K hK => wp_value (exec_assign rfl kn.1) (hK _ _ rfl (Below.refl _ _)))),
      trivial⟩ ?_
  intro vs u2 hB2 kn
  have e4 : vs 4 = .bool ((decide (0 ≤ n)) && (decide (n ≤ m))) := kn 7 (by decide)
  clear kn
  simp only [putAll, Act.put, List.setIfInBounds_toArray, List.set_cons_zero, List.set_cons_succ, e4]
  clear e4
  go_wp2_with fail
  go_ret
  exact ⟨rfl, hB2⟩
set_option maxHeartbeats 4000000 in
theorem isExt_run (k : Int) (w : World) : Calls Tryd.prog 94 #[.int .i64 k] w fun e w' => e = .returned (.bool (isEx k)) ∧ Below w.heap.size w w' := by
  go_enter Tryd.func94, Tryd.ntmps94
  go_upto_region 1 with fail
  refine wp_plain_steps (Below w.heap.size w) (fun v v' => Below v.heap.size v v') (fun j vv _ => vv = ([.int .i64 k, .bool (decide (k = 0)), .bool (decide (k = 0)), gv (!(decide (k = 0))) (.int .i64 k), gv (!(decide (k = 0))) (.bool (decide (k = 43))), .bool ((decide (k = 0)) || (decide (k = 43))), .bool ((decide (k = 0)) || (decide (k = 43))), gv (!((decide (k = 0)) || (decide (k = 43)))) (.int .i64 k), gv (!((decide (k = 0)) || (decide (k = 43)))) (.bool (decide (k = 60))), .bool (((decide (k = 0)) || (decide (k = 43))) || (decide (k = 60))), .bool (((decide (k = 0)) || (decide (k = 43))) || (decide (k = 60)))] : List Value).getD j undef)
      [3, 4, 5, 6, 7, 8, 9, 10, 11, 12, 2]
      [(0, .int .i64 k)] [] 0
      [[], [0], [1], [2], [2, 3], [2, 4], [5], [6], [6, 7], [6, 8], [9]]
      (by kernel_rfl) ⟨rfl, trivial⟩ trivial (Below.refl _ _) (fun v v' h hb => h.trans (hb.mono h.size)) (fun _ _ _ _ h _ => h)
      ⟨
      (fun QQ aa ww hS fr kn => sg0 rfl (fun K hK => wp_value (exec_move rfl fr.1) (hK _ _ rfl (Below.refl _ _)))),
      (fun QQ aa ww hS fr kn => sg0 rfl (fun K hK => wp_value (cmp_eq (m := k) (n := 0) rfl kn.1 rfl) (hK _ _ rfl (Below.refl _ _)))),
      (fun QQ aa ww hS fr kn => sg0 rfl (fun K hK => wp_value (exec_move rfl kn.1) (hK _ _ rfl (Below.refl _ _)))),
      (fun QQ aa ww hS fr kn => sgF rfl kn.1 (fun hng K hK => have hc := nt_t hng; wp_value (exec_move rfl fr.1) (hK _ _ (gv_t hc).symm (Below.refl _ _))) (fun h0 => (gv_f (nt_f h0)).symm)),
      (fun QQ aa ww hS fr kn => sgF rfl kn.1 (fun hng K hK => have hc := nt_t hng; wp_value (cmp_eq (m := k) (n := 43) rfl (kn.2.1.trans (gv_t hc)) rfl) (hK _ _ (gv_t hc).symm (Below.refl _ _))) (fun h0 => (gv_f (nt_f h0)).symm)),
      (fun QQ aa ww hS fr kn => sg0 rfl (fun K hK => wp_value (exec_pickOr rfl kn.1 rfl (fun hx => kn.2.1.trans (gv_t (nt_t hx)))) (hK _ _ rfl (Below.refl _ _)))),
      (fun QQ aa ww hS fr kn => sg0 rfl (fun K hK => wp_value (exec_move rfl kn.1) (hK _ _ rfl (Below.refl _ _)))),
      (fun QQ aa ww hS fr kn => sgF rfl kn.1 (fun hng K hK => have hc := nt_t hng; wp_value (exec_move rfl fr.1) (hK _ _ (gv_t hc).symm (Below.refl _ _))) (fun h0 => (gv_f (nt_f h0)).symm)),
      (fun QQ aa ww hS fr kn => sgF rfl kn.1 (fun hng K hK => have hc := nt_t hng; wp_value (cmp_eq (m := k) (n := 60) rfl (kn.2.1.trans (gv_t hc)) rfl) (hK _ _ (gv_t hc).symm (Below.refl _ _))) (fun h0 => (gv_f (nt_f h0)).symm)),
      (fun QQ aa ww hS fr kn => sg0 rfl (fun K hK => wp_value (exec_pickOr rfl kn.1 rfl (fun hx => kn.2.1.trans (gv_t (nt_t hx)))) (hK _ _ rfl (Below.refl _ _)))),
      (fun QQ aa ww hS fr kn => sg0 rfl (fun K hK => wp_value (exec_assign rfl kn.1) (hK _ _ rfl (Below.refl _ _)))),
      trivial⟩ ?_
  intro vs u2 hB2 kn
  have e2 : vs 2 = .bool (((decide (k = 0)) || (decide (k = 43))) || (decide (k = 60))) := kn 10 (by decide)
  clear kn
  simp only [putAll, Act.put, List.setIfInBounds_toArray, List.set_cons_zero, List.set_cons_succ, e2]
  clear e2
  go_wp2_with fail
  go_ret
  exact ⟨by rw [isEx_d]; rfl, hB2⟩
theorem en_upTo (args : Array Value) (w : World) : (callFunc 48 args).run Tryd.prog w = .ok (.enter 48 args) w := by kernel_rfl
theorem en_within (args : Array Value) (w : World) : (callFunc 91 args).run Tryd.prog w = .ok (.enter 91 args) w := by kernel_rfl
theorem en_isExt (args : Array Value) (w : World) : (callFunc 94 args).run Tryd.prog w = .ok (.enter 94 args) w := by kernel_rfl
set_option maxHeartbeats 4000000 in
theorem isHeader_run (k : Int) (w : World) : Calls Tryd.prog 76 #[.int .i64 k] w fun e w' => e = .returned (.bool (isHd k)) ∧ Below w.heap.size w w' := by
  go_enter Tryd.func76, Tryd.ntmps76
  go_upto_region 1 with fail
  refine wp_plain_steps (Below w.heap.size w) (fun v v' => Below v.heap.size v v') (fun j vv _ => vv = ([.int .i64 k, .bool (isEx k), .bool (isEx k), gv (!(isEx k)) (.int .i64 k), gv (!(isEx k)) (.bool (decide (k = 44))), .bool ((isEx k) || (decide (k = 44))), .bool ((isEx k) || (decide (k = 44)))] : List Value).getD j undef)
      [3, 4, 5, 6, 7, 8, 2]
      [(0, .int .i64 k)] [] 0
      [[], [0], [1], [2], [2, 3], [2, 4], [5]]
      (by kernel_rfl) ⟨rfl, trivial⟩ trivial (Below.refl _ _) (fun v v' h hb => h.trans (hb.mono h.size)) (fun _ _ _ _ h _ => h)
      ⟨
      (fun QQ aa ww hS fr kn => sg0 rfl (fun K hK => wp_value (exec_move rfl fr.1) (hK _ _ rfl (Below.refl _ _)))),
      (fun QQ aa ww hS fr kn => sg0 rfl (fun K hK => stepc en_isExt rfl (args1 kn.1) (isExt_run k ww) (fun w' hb => hK _ _ rfl hb))),
      (fun QQ aa ww hS fr kn => sg0 rfl (fun K hK => wp_value (exec_move rfl kn.1) (hK _ _ rfl (Below.refl _ _)))),
      (fun QQ aa ww hS fr kn => sgF rfl kn.1 (fun hng K hK => have hc := nt_t hng; wp_value (exec_move rfl fr.1) (hK _ _ (gv_t hc).symm (Below.refl _ _))) (fun h0 => (gv_f (nt_f h0)).symm)),
      (fun QQ aa ww hS fr kn => sgF rfl kn.1 (fun hng K hK => have hc := nt_t hng; wp_value (cmp_eq (m := k) (n := 44) rfl (kn.2.1.trans (gv_t hc)) rfl) (hK _ _ (gv_t hc).symm (Below.refl _ _))) (fun h0 => (gv_f (nt_f h0)).symm)),
      (fun QQ aa ww hS fr kn => sg0 rfl (fun K hK => wp_value (exec_pickOr rfl kn.1 rfl (fun hx => kn.2.1.trans (gv_t (nt_t hx)))) (hK _ _ rfl (Below.refl _ _)))),
      (fun QQ aa ww hS fr kn => sg0 rfl (fun K hK => wp_value (exec_assign rfl kn.1) (hK _ _ rfl (Below.refl _ _)))),
      trivial⟩ ?_
  intro vs u2 hB2 kn
  have e2 : vs 2 = .bool ((isEx k) || (decide (k = 44))) := kn 6 (by decide)
  clear kn
  simp only [putAll, Act.put, List.setIfInBounds_toArray, List.set_cons_zero, List.set_cons_succ, e2]
  clear e2
  go_wp2_with fail
  go_ret
  exact ⟨by rw [isHd_d]; rfl, hB2⟩
set_option maxHeartbeats 4000000 in
theorem rIsExt_run (k : Int) (w : World) : Calls Tryd.prog 93 #[.int .i64 k] w fun e w' => e = .returned (.bool (isHd k)) ∧ Below w.heap.size w w' := by
  go_enter Tryd.func93, Tryd.ntmps93
  go_upto_region 1 with fail
  refine wp_plain_steps (Below w.heap.size w) (fun v v' => Below v.heap.size v v') (fun j vv _ => vv = ([.int .i64 k, .bool (decide (k = 0)), .bool (decide (k = 0)), gv (!(decide (k = 0))) (.int .i64 k), gv (!(decide (k = 0))) (.bool (decide (k = 43))), .bool ((decide (k = 0)) || (decide (k = 43))), .bool ((decide (k = 0)) || (decide (k = 43))), gv (!((decide (k = 0)) || (decide (k = 43)))) (.int .i64 k), gv (!((decide (k = 0)) || (decide (k = 43)))) (.bool (decide (k = 44))), .bool (((decide (k = 0)) || (decide (k = 43))) || (decide (k = 44))), .bool (((decide (k = 0)) || (decide (k = 43))) || (decide (k = 44))), gv (!(((decide (k = 0)) || (decide (k = 43))) || (decide (k = 44)))) (.int .i64 k), gv (!(((decide (k = 0)) || (decide (k = 43))) || (decide (k = 44)))) (.bool (decide (k = 60))), .bool ((((decide (k = 0)) || (decide (k = 43))) || (decide (k = 44))) || (decide (k = 60))), .bool ((((decide (k = 0)) || (decide (k = 43))) || (decide (k = 44))) || (decide (k = 60)))] : List Value).getD j undef)
      [3, 4, 5, 6, 7, 8, 9, 10, 11, 12, 13, 14, 15, 16, 2]
      [(0, .int .i64 k)] [] 0
      [[], [0], [1], [2], [2, 3], [2, 4], [5], [6], [6, 7], [6, 8], [9], [10], [10, 11], [10, 12], [13]]
      (by kernel_rfl) ⟨rfl, trivial⟩ trivial (Below.refl _ _) (fun v v' h hb => h.trans (hb.mono h.size)) (fun _ _ _ _ h _ => h)
      ⟨
      (fun QQ aa ww hS fr kn => sg0 rfl (fun K hK => wp_value (exec_move rfl fr.1) (hK _ _ rfl (Below.refl _ _)))),
      (fun QQ aa ww hS fr kn => sg0 rfl (fun K hK => wp_value (cmp_eq (m := k) (n := 0) rfl kn.1 rfl) (hK _ _ rfl (Below.refl _ _)))),
      (fun QQ aa ww hS fr kn => sg0 rfl (fun K hK => wp_value (exec_move rfl kn.1) (hK _ _ rfl (Below.refl _ _)))),
      (fun QQ aa ww hS fr kn => sgF rfl kn.1 (fun hng K hK => have hc := nt_t hng; wp_value (exec_move rfl fr.1) (hK _ _ (gv_t hc).symm (Below.refl _ _))) (fun h0 => (gv_f (nt_f h0)).symm)),
      (fun QQ aa ww hS fr kn => sgF rfl kn.1 (fun hng K hK => have hc := nt_t hng; wp_value (cmp_eq (m := k) (n := 43) rfl (kn.2.1.trans (gv_t hc)) rfl) (hK _ _ (gv_t hc).symm (Below.refl _ _))) (fun h0 => (gv_f (nt_f h0)).symm)),
      (fun QQ aa ww hS fr kn => sg0 rfl (fun K hK => wp_value (exec_pickOr rfl kn.1 rfl (fun hx => kn.2.1.trans (gv_t (nt_t hx)))) (hK _ _ rfl (Below.refl _ _)))),
      (fun QQ aa ww hS fr kn => sg0 rfl (fun K hK => wp_value (exec_move rfl kn.1) (hK _ _ rfl (Below.refl _ _)))),
      (fun QQ aa ww hS fr kn => sgF rfl kn.1 (fun hng K hK => have hc := nt_t hng; wp_value (exec_move rfl fr.1) (hK _ _ (gv_t hc).symm (Below.refl _ _))) (fun h0 => (gv_f (nt_f h0)).symm)),
      (fun QQ aa ww hS fr kn => sgF rfl kn.1 (fun hng K hK => have hc := nt_t hng; wp_value (cmp_eq (m := k) (n := 44) rfl (kn.2.1.trans (gv_t hc)) rfl) (hK _ _ (gv_t hc).symm (Below.refl _ _))) (fun h0 => (gv_f (nt_f h0)).symm)),
      (fun QQ aa ww hS fr kn => sg0 rfl (fun K hK => wp_value (exec_pickOr rfl kn.1 rfl (fun hx => kn.2.1.trans (gv_t (nt_t hx)))) (hK _ _ rfl (Below.refl _ _)))),
      (fun QQ aa ww hS fr kn => sg0 rfl (fun K hK => wp_value (exec_move rfl kn.1) (hK _ _ rfl (Below.refl _ _)))),
      (fun QQ aa ww hS fr kn => sgF rfl kn.1 (fun hng K hK => have hc := nt_t hng; wp_value (exec_move rfl fr.1) (hK _ _ (gv_t hc).symm (Below.refl _ _))) (fun h0 => (gv_f (nt_f h0)).symm)),
      (fun QQ aa ww hS fr kn => sgF rfl kn.1 (fun hng K hK => have hc := nt_t hng; wp_value (cmp_eq (m := k) (n := 60) rfl (kn.2.1.trans (gv_t hc)) rfl) (hK _ _ (gv_t hc).symm (Below.refl _ _))) (fun h0 => (gv_f (nt_f h0)).symm)),
      (fun QQ aa ww hS fr kn => sg0 rfl (fun K hK => wp_value (exec_pickOr rfl kn.1 rfl (fun hx => kn.2.1.trans (gv_t (nt_t hx)))) (hK _ _ rfl (Below.refl _ _)))),
      (fun QQ aa ww hS fr kn => sg0 rfl (fun K hK => wp_value (exec_assign rfl kn.1) (hK _ _ rfl (Below.refl _ _)))),
      trivial⟩ ?_
  intro vs u2 hB2 kn
  have e2 : vs 2 = .bool ((((decide (k = 0)) || (decide (k = 43))) || (decide (k = 44))) || (decide (k = 60))) := kn 14 (by decide)
  clear kn
  simp only [putAll, Act.put, List.setIfInBounds_toArray, List.set_cons_zero, List.set_cons_succ, e2]
  clear e2
  go_wp2_with fail
  go_ret
  exact ⟨by rw [isHd_e]; rfl, hB2⟩
set_option maxHeartbeats 4000000 in
theorem mayStand_run (k : Int) (i : Nat) (w : World) : Calls Tryd.prog 95 #[.int .i64 k, .int .i64 (i : Int)] w fun e w' => e = .returned (.bool (mayB k i)) ∧ Below w.heap.size w w' := by
  go_enter Tryd.func95, Tryd.ntmps95
  go_upto_region 1 with fail
  refine wp_plain_steps (Below w.heap.size w) (fun v v' => Below v.heap.size v v') (fun j vv _ => vv = ([.int .i64 (i : Int), .bool (decide ((i : Int) < 4)), .bool (decide ((i : Int) < 4)), gv (decide ((i : Int) < 4)) (.int .i64 k), gv (decide ((i : Int) < 4)) (.bool (!decide (k = 0))), gv (decide ((i : Int) < 4)) (.bool (!decide (k = 0))), gv ((decide ((i : Int) < 4)) && (!(!decide (k = 0)))) (.int .i64 (i : Int)), gv ((decide ((i : Int) < 4)) && (!(!decide (k = 0)))) (.bool (decide ((i : Int) = 0))), gv (decide ((i : Int) < 4)) (.bool ((!decide (k = 0)) || (decide ((i : Int) = 0)))), .bool ((decide ((i : Int) < 4)) && ((!decide (k = 0)) || (decide ((i : Int) = 0)))), .bool ((decide ((i : Int) < 4)) && ((!decide (k = 0)) || (decide ((i : Int) = 0))))] : List Value).getD j undef)
      [5, 6, 7, 8, 9, 10, 11, 12, 13, 14, 4]
      [(0, .int .i64 k), (1, .int .i64 (i : Int))] [] 0
      [[], [0], [1], [2], [2, 3], [2, 4], [5], [5, 6], [2, 5, 7], [2, 8], [9]]
      (by kernel_rfl) ⟨rfl, rfl, trivial⟩ trivial (Below.refl _ _) (fun v v' h hb => h.trans (hb.mono h.size)) (fun _ _ _ _ h _ => h)
      ⟨
      (fun QQ aa ww hS fr kn => sg0 rfl (fun K hK => wp_value (exec_move rfl fr.2.1) (hK _ _ rfl (Below.refl _ _)))),
      (fun QQ aa ww hS fr kn => sg0 rfl (fun K hK => wp_value (cmp_lt (m := (i : Int)) (n := 4) rfl kn.1 rfl) (hK _ _ rfl (Below.refl _ _)))),
      (fun QQ aa ww hS fr kn => sg0 rfl (fun K hK => wp_value (exec_move rfl kn.1) (hK _ _ rfl (Below.refl _ _)))),
      (fun QQ aa ww hS fr kn => sgT rfl kn.1 (fun hc K hK => wp_value (exec_move rfl fr.1) (hK _ _ (gv_t hc).symm (Below.refl _ _))) (fun h0 => (gv_f h0).symm)),
      (fun QQ aa ww hS fr kn => sgT rfl kn.1 (fun hc K hK => wp_value (cmp_ne (m := k) (n := 0) rfl (kn.2.1.trans (gv_t hc)) rfl) (hK _ _ (gv_t hc).symm (Below.refl _ _))) (fun h0 => (gv_f h0).symm)),
      (fun QQ aa ww hS fr kn => sgT rfl kn.1 (fun hc K hK => wp_value (exec_move rfl (kn.2.1.trans (gv_t hc))) (hK _ _ (gv_t hc).symm (Below.refl _ _))) (fun h0 => (gv_f h0).symm)),
      (fun QQ aa ww hS fr kn => sgTF rfl kn.1 (fun hc K hK => wp_value (exec_move rfl fr.2.1) (hK _ _ (gv_t hc).symm (Below.refl _ _))) (fun h0 => (gv_f h0).symm)),
      (fun QQ aa ww hS fr kn => sgTF rfl kn.1 (fun hc K hK => wp_value (cmp_eq (m := (i : Int)) (n := 0) rfl (kn.2.1.trans (gv_t hc)) rfl) (hK _ _ (gv_t hc).symm (Below.refl _ _))) (fun h0 => (gv_f h0).symm)),
      (fun QQ aa ww hS fr kn => sgT rfl kn.1 (fun hc K hK => wp_value (exec_pickOr rfl (kn.2.1.trans (gv_t hc)) rfl (fun hx => kn.2.2.1.trans (gv_t (an_t hc (nt_t hx))))) (hK _ _ (gv_t hc).symm (Below.refl _ _))) (fun h0 => (gv_f h0).symm)),
      (fun QQ aa ww hS fr kn => sg0 rfl (fun K hK => wp_value (exec_pickAnd rfl kn.1 (fun hx => kn.2.1.trans (gv_t hx)) rfl) (hK _ _ rfl (Below.refl _ _)))),
      (fun QQ aa ww hS fr kn => sg0 rfl (fun K hK => wp_value (exec_assign rfl kn.1) (hK _ _ rfl (Below.refl _ _)))),
      trivial⟩ ?_
  intro vs u2 hB2 kn
  have e4 : vs 4 = .bool ((decide ((i : Int) < 4)) && ((!decide (k = 0)) || (decide ((i : Int) = 0)))) := kn 10 (by decide)
  clear kn
  simp only [putAll, Act.put, List.setIfInBounds_toArray, List.set_cons_zero, List.set_cons_succ, e4]
  clear e4
  go_wp2_with fail
  go_ret
  exact ⟨by rw [mayB_d]; rfl, hB2⟩
theorem en_isHeader (args : Array Value) (w : World) : (callFunc 76 args).run Tryd.prog w = .ok (.enter 76 args) w := by kernel_rfl
theorem en_rIsExt (args : Array Value) (w : World) : (callFunc 93 args).run Tryd.prog w = .ok (.enter 93 args) w := by kernel_rfl
theorem en_mayStand (args : Array Value) (w : World) : (callFunc 95 args).run Tryd.prog w = .ok (.enter 95 args) w := by kernel_rfl
end Go.Proofs.YtojekoakgpkkdaaDoor
/-
  Own text. Extension headers are compared; slices.Equal of them.
-/
namespace Go.Proofs.YtojekoakgpkkdaaDoor
open Go.RowKit Go.Proofs
set_option maxRecDepth 100000
def eqEx (x y : Ex) : Bool := decide (x.kind = y.kind) && decide (x.body = y.body)
theorem eqEx_iff {x y : Ex} : eqEx x y = true ↔ x = y := by
  obtain ⟨k, b⟩ := x
  obtain ⟨k', b'⟩ := y
  simp [eqEx]
theorem fieldsE : (Tryd.prog.fieldsOf 88).toList.map (fun f => (f.name, f.type, f.offset)) = [("Kind", 3, 0), ("Body", 9, 1)] := by kernel_rfl
theorem stoodE : Tryd.prog.stoodInHeld 88 = false := by kernel_rfl
theorem eqgE : Tryd.prog.eqGuardType Tryd.prog.depth 88 = false := by kernel_rfl
theorem partE0 (x : Ex) (w : World) : (part 3 (SC 2 (exV x)) 0).run Tryd.prog w = .ok (.int .i64 x.kind) w := by kernel_rfl
theorem partE1 (x : Ex) (w : World) : (part 9 (SC 2 (exV x)) 1).run Tryd.prog w = .ok (.string x.body) w := by kernel_rfl
theorem equal_ex (x y : Ex) (w : World) : (Op.equalIn 10000 88 (.agg (SC 2 (exV x))) (.agg (SC 2 (exV y)))).run Tryd.prog w = .ok (eqEx x y) w := by
  rw [run_equalIn_struct w 9999 88 _ _ Tryd.underlying88 stoodE]
  have hf := fieldsE
  generalize (Tryd.prog.fieldsOf 88).toList = fs at hf
  obtain ⟨f0, f1, rfl⟩ : ∃ f0 f1, fs = [f0, f1] := by
    have hl : fs.length = 2 := by have := congrArg List.length hf; simpa using this
    cases fs with
    | nil => simp at hl
    | cons f0 fs =>
      cases fs with
      | nil => simp at hl
      | cons f1 fs =>
        cases fs with
        | nil => exact ⟨f0, f1, rfl⟩
        | cons f2 fs => simp at hl
  simp only [List.map_cons, List.map_nil, List.cons.injEq, Prod.mk.injEq, and_true] at hf
  obtain ⟨⟨n0, t0, o0⟩, n1, t1, o1⟩ := hf
  have e1 : (Op.equalIn 9999 3 (.int .i64 x.kind) (.int .i64 y.kind)).run Tryd.prog w = .ok (x.kind == y.kind) w := run_equalIn_int w 9998 3 .i64 .i64 x.kind y.kind Tryd.underlying3
  have e2 : (Op.equalIn 9999 9 (.string x.body) (.string y.body)).run Tryd.prog w = .ok (x.body.toList == y.body.toList) w := run_equalIn_string w 9998 9 x.body y.body Tryd.underlying9
  simp only [Op.eqFields, n0, t0, o0, n1, t1, o1, ne_eq, String.reduceEq, not_false_eq_true, if_true, Sem.run_bind, partE0, Result.andThen_ok, e1]
  have e3 : (x.body.toList == y.body.toList) = decide (x.body = y.body) := by
    by_cases hb : x.body = y.body
    · rw [hb]; simp
    · rw [decide_eq_false hb, beq_eq_false_iff_ne]
      intro h
      rw [ByteArray.toList_eq, ByteArray.toList_eq] at h
      exact hb (ByteArray.ext (Array.toList_inj.1 h))
  unfold eqEx
  by_cases hv : x.kind = y.kind
  · simp only [hv, beq_self_eq_true, Bool.not_true, Bool.false_eq_true, if_false, Sem.run_bind, partE1, Result.andThen_ok, e2, e3]
    by_cases hb : x.body = y.body
    · simp [hb]
    · simp [hb]
  · have e4 : (x.kind == y.kind) = false := by simpa using hv
    simp [hv, e4]
section
variable {a : Act} {o : Oper} {w : World} {x y : Operand} {t : TypeId}
theorem exec_neEx (ho : o.op = .binOp .neq 88 x y t) {p q : Ex} (hx : a.eval x = .agg (SC 2 (exV p))) (hy : a.eval y = .agg (SC 2 (exV q))) : (execOp a.eval o).run Tryd.prog w = .ok (.value (.bool (!eqEx p q))) w := by
  unfold execOp
  simp only [ho, hx, hy, Sem.run_bind, run_eqGuard_agg w .neq 88 x y _ _ eqgE, Result.andThen_ok, run_neq_struct, equal_ex p q w, Sem.run_pure]
end
theorem ExAt.at {w w' : World} {v : Value} {l : List Ex} (h : ExAt w v l) (hB : Below w.heap.size w w') {j : Nat} {x : Ex} (hj : l[j]? = some x) : ∃ ad cap, v = .slice (some ad) l.length cap ∧ w'.cell? (ad.add (2 * j)) = some (.int .i64 x.kind) ∧ w'.cell? ((ad.add (2 * j)).add 1) = some (.string x.body) := by
  obtain ⟨a, cap, rfl, hc⟩ := h.kept hB
  obtain ⟨ad, rfl, _, h1, h2⟩ := hc j x hj
  exact ⟨ad, cap, rfl, h1, by rw [Addr.add_add]; exact h2⟩
theorem ExAt.sl {w w' : World} {a : Option Addr} {n c : Nat} {l : List Ex} (h : ExAt w (.slice a n c) l) (hB : Below w.heap.size w w') {j : Nat} {x : Ex} (hj : l[j]? = some x) : ∃ ad, a = some ad ∧ w'.cell? (ad.add (2 * j)) = some (.int .i64 x.kind) ∧ w'.cell? ((ad.add (2 * j)).add 1) = some (.string x.body) := by
  obtain ⟨a', cap, e, hc⟩ := h.kept hB
  obtain ⟨ad, e2, _, h1, h2⟩ := hc j x hj
  injection e with e
  exact ⟨ad, e.trans e2, h1, by rw [Addr.add_add]; exact h2⟩
/-- Two lists are the same from a place on. -/
theorem exEq_step {l m : List Ex} {x y : Ex} {i : Nat} (hx : l[i]? = some x) (hy : m[i]? = some y) : exEq (l.drop i) (m.drop i) = (eqEx x y && exEq (l.drop (i + 1)) (m.drop (i + 1))) := by
  have h1 := (List.getElem?_eq_some_iff.1 hx)
  have h2 := (List.getElem?_eq_some_iff.1 hy)
  rw [List.drop_eq_getElem_cons h1.1, List.drop_eq_getElem_cons h2.1, h1.2, h2.2]
  rfl
theorem exEq_len {l m : List Ex} (h : l.length ≠ m.length) : exEq l m = false := by
  cases e : exEq l m
  · rfl
  · rw [exEq_iff] at e
    subst e
    exact absurd rfl h
end Go.Proofs.YtojekoakgpkkdaaDoor
/-
  Own text. slices.Equal of extension headers; Same of the program and of the document.
-/
namespace Go.Proofs.YtojekoakgpkkdaaDoor
open Go.RowKit Go.Proofs
set_option maxRecDepth 100000
theorem list_at {l : List Ex} {i : Nat} (h : i < l.length) : ∃ x, l[i]? = some x := ⟨_, List.getElem?_eq_getElem h⟩
theorem samP_two (P Q : Pk) : samP P Q = (exEq P.exts Q.exts && (((eqAF P.sv P.sb Q.sv Q.sb && eqAF P.dv P.db Q.dv Q.db && decide (P.proto = Q.proto) && decide (P.hop = Q.hop) && decide (P.cls = Q.cls) && decide (P.id = Q.id)) && (decide (P.off = Q.off) && (P.more == Q.more) && (P.still == Q.still) && decide (P.opts = Q.opts) && decide (P.flow = Q.flow))) && (P.cut == Q.cut) && decide (P.pay = Q.pay))) := by
  unfold samP
  cases exEq P.exts Q.exts
  · simp only [Bool.and_false, Bool.false_and]
  · simp only [Bool.and_true, Bool.true_and, Bool.and_assoc]
set_option maxHeartbeats 16000000 in
theorem rSame_run (P Q : Pk) (v1 v2 : Value) (w : World) (h1 : ExAt w v1 P.exts) (h2 : ExAt w v2 Q.exts) (hn1 : P.exts.length < 4611686018427387904) (_hn2 : Q.exts.length < 4611686018427387904) : Calls Tryd.prog 15 #[.agg (SC 46 (pkV P v1)), .agg (SC 46 (pkV Q v2))] w fun e w' => e = .returned (.bool (samP P Q)) ∧ Below w.heap.size w w' := by
  obtain ⟨a1, c1, rfl, _⟩ := id h1
  obtain ⟨a2, c2, rfl, _⟩ := id h2
  have HT := Hid.mk (samP_two P Q)
  generalize samP P Q = r at *
  go_enter Tryd.func15, Tryd.ntmps15
  go_wp2_with (refine wl_boxWW rfl rfl rfl rfl isPk isPk (by rfl) (fun u => by rfl) ?_; intro g1 g2 u2 hg1 hg2 q1 q2 hB2; refine Hid.out ?_)
  refine Hid.mk ?_
  have hx1 := h1.kept hB2
  have hx2 := h2.kept hB2
  have s1 := pk_exts q1
  have s2 := pk_exts q2
  by_cases he : P.exts.length = Q.exts.length
  · have HR : Hid (exEq P.exts Q.exts = exEq (P.exts.drop 0) (Q.exts.drop 0)) := Hid.mk (by rw [List.drop_zero, List.drop_zero])
    have HE : Hid (exEq (P.exts.drop P.exts.length) (Q.exts.drop P.exts.length) = true) := Hid.mk (by rw [List.drop_length, he, List.drop_length]; rfl)
    rw [← he] at h2 hx2 q2 s2 ⊢
    obtain ⟨n, hnn⟩ : ∃ n, P.exts.length = n := ⟨_, rfl⟩
    have HN := Hid.mk hnn
    have HN2 := Hid.mk (he.symm.trans hnn)
    rw [hnn] at h1 h2 hx1 hx2 q1 q2 s1 s2 hn1 HE ⊢
    clear hnn he _hn2
    go_wp2_with (first | (refine wl_value rfl (exec_fpk 11 (by decide) rfl (by rfl)) ?_) | (refine wl_value rfl (exec_ld rfl (by rfl) (ldPx s1)) ?_) | (refine wl_value rfl (exec_ld rfl (by rfl) (ldPx s2)) ?_))
    go_loopg [5] n (fun gm s5 z => ∃ i : Nat, Hid (gm + i = n) ∧ s5 = .int .i64 (i : Int) ∧ Hid (exEq P.exts Q.exts = exEq (P.exts.drop i) (Q.exts.drop i)) ∧ Below u2.heap.size u2 z)
    case atStart => exact ⟨0, Hid.mk rfl, rfl, HR, Below.refl _ _⟩
    case round =>
      obtain ⟨i, HI, rfl, HRi, hBz⟩ := hrel
      have r1 := SAt.kept q1 hBz
      have r2 := SAt.kept q2 hBz
      have t1 := pk_exts r1
      have t2 := pk_exts r2
      by_cases hil : i < n
      · have hili : (i : Int) < (n : Int) := by omega
        obtain ⟨x1, hx1'⟩ := list_at (l := P.exts) (i := i) (by rw [HN.out]; exact hil)
        obtain ⟨x2, hx2'⟩ := list_at (l := Q.exts) (i := i) (by rw [HN2.out]; exact hil)
        have HS := Hid.mk (exEq_step hx1' hx2')
        obtain ⟨p1, rfl, k1, k1b⟩ := hx1.sl hBz hx1'
        obtain ⟨p2, rfl, k2, k2b⟩ := hx2.sl hBz hx2'
        have L1 := Hid.mk (World.block_lt_of_cell? _ _ k1)
        have M1 := Hid.mk (World.block_lt_of_cell? _ _ k1b)
        have L2 := Hid.mk (World.block_lt_of_cell? _ _ k2)
        have M2 := Hid.mk (World.block_lt_of_cell? _ _ k2b)
        have H1 := Hid.mk hil
        have H2 := Hid.mk hil
        go_upto_region 6 with (first | (refine wl_value rfl (exec_fpk 11 (by decide) rfl (by rfl)) ?_) | (refine wl_value rfl (exec_ld rfl (by rfl) (ldPx t1)) ?_))
        refine wp_region3 (Below wr.heap.size wr) wr.heap.size
            ([] : List (Nat × Cont))
            [kv (.pointer (some ⟨g1, 43, none⟩)), kv (.slice (some p1) n c1), kv (.int .i64 (i : Int)), kv (.pointer (some (p1.add (2 * i)))), kv (.agg (SC 2 (exV x1))), kv (.pointer (some ⟨g2, 43, none⟩)), kv (.slice (some p2) n c2), kv (.int .i64 (i : Int)), kv (.pointer (some (p2.add (2 * i)))), kv (.agg (SC 2 (exV x2))), kv (.bool (!eqEx x1 x2))]
            [.none, .none, .none, .none, .none, .none, .none, .none, .none, .none, .none]
            [some 22, some 23, some 24, some 25, some 26, some 27, some 28, some 29, some 30, some 31, some 32]
            [(2, .pointer (some ⟨g1, 0, none⟩)), (3, .pointer (some ⟨g2, 0, none⟩)), (5, .int .i64 (i : Int))]
            [[], [.slot 0], [], [.slot 1, .slot 2], [.slot 3], [], [.slot 5], [], [.slot 6, .slot 7], [.slot 8], [.slot 4, .slot 9]]
            [.slot 10] [22, 23, 24, 25, 26, 27, 28, 29, 30, 31, 32]
            rfl (by kernel_rfl) ⟨rfl, rfl, rfl, trivial⟩ ((Below.refl _ wr).drew) (Nat.le_refl _) trivial trivial (below_GcW (Nat.le_refl _))
            ⟨
            (fun QQ aa ww own hS hBg fr kn => .inl ⟨trivial, fun K hK => wp_value (exec_fpk 11 (by decide) rfl fr.1) (hK _ _ ⟨Touch.refl _ _, rfl⟩)⟩),
            (fun QQ aa ww own hS hBg fr kn => .inl ⟨trivial, fun K hK => wp_value (exec_ld rfl kn.1 (ldPx (pk_exts (SAt.kept r1 hS)))) (hK _ _ ⟨Touch.refl _ _, rfl⟩)⟩),
            (fun QQ aa ww own hS hBg fr kn => .inl ⟨trivial, fun K hK => wp_value (exec_move rfl fr.2.2.1) (hK _ _ ⟨Touch.refl _ _, rfl⟩)⟩),
            (fun QQ aa ww own hS hBg fr kn => .inl ⟨trivial, fun K hK => wp_value (exec_ixE (i := i) rfl kn.1 kn.2.1 H1.out) (hK _ _ ⟨Touch.refl _ _, rfl⟩)⟩),
            (fun QQ aa ww own hS hBg fr kn => .inl ⟨trivial, fun K hK => wp_value (exec_ld rfl kn.1 (ldEx ((hS.cell L1.out).trans k1) ((hS.cell M1.out).trans k1b))) (hK _ _ ⟨Touch.refl _ _, rfl⟩)⟩),
            (fun QQ aa ww own hS hBg fr kn => .inl ⟨trivial, fun K hK => wp_value (exec_fpk 11 (by decide) rfl fr.2.1) (hK _ _ ⟨Touch.refl _ _, rfl⟩)⟩),
            (fun QQ aa ww own hS hBg fr kn => .inl ⟨trivial, fun K hK => wp_value (exec_ld rfl kn.1 (ldPx (pk_exts (SAt.kept r2 hS)))) (hK _ _ ⟨Touch.refl _ _, rfl⟩)⟩),
            (fun QQ aa ww own hS hBg fr kn => .inl ⟨trivial, fun K hK => wp_value (exec_move rfl fr.2.2.1) (hK _ _ ⟨Touch.refl _ _, rfl⟩)⟩),
            (fun QQ aa ww own hS hBg fr kn => .inl ⟨trivial, fun K hK => wp_value (exec_ixE (i := i) rfl kn.1 kn.2.1 H2.out) (hK _ _ ⟨Touch.refl _ _, rfl⟩)⟩),
            (fun QQ aa ww own hS hBg fr kn => .inl ⟨trivial, fun K hK => wp_value (exec_ld rfl kn.1 (ldEx ((hS.cell L2.out).trans k2) ((hS.cell M2.out).trans k2b))) (hK _ _ ⟨Touch.refl _ _, rfl⟩)⟩),
            (fun QQ aa ww own hS hBg fr kn => .inl ⟨trivial, fun K hK => wp_value (exec_neEx rfl kn.1 kn.2.1) (hK _ _ ⟨Touch.refl _ _, rfl⟩)⟩),
            trivial⟩ ?_
        intro vs own z2 hB3 hsz kn inj
        have e32 : vs 32 = .bool (!eqEx x1 x2) := kn.1
        clear kn inj hsz
        simp only [putAll, Act.put, List.setIfInBounds_toArray, List.set_cons_zero, List.set_cons_succ, e32]
        clear e32
        have hBy := hBz.trans (hB3.mono hBz.size)
        cases hq : eqEx x1 x2
        · have hr : r = false := by rw [HT.out, HRi.out, HS.out, hq]; rfl
          go_wp2_with fail
          go_ret
          exact ⟨by rw [hr]; rfl, hB2.trans (hBy.mono hB2.size)⟩
        · have HR2 : Hid (exEq P.exts Q.exts = exEq (P.exts.drop (i + 1)) (Q.exts.drop (i + 1))) := Hid.mk (by rw [HRi.out, HS.out, hq]; rfl)
          go_wp2_with fail
          go_roundg (n - (i + 1))
          case rel => exact ⟨i + 1, Hid.mk (by omega), by go_num, HR2, hBy⟩
          case measure => have := HI.out; omega
      · have hi2 : i = n := by have := HI.out; omega
        subst hi2
        have HQ : Hid (r = ((((eqAF P.sv P.sb Q.sv Q.sb && eqAF P.dv P.db Q.dv Q.db && decide (P.proto = Q.proto) && decide (P.hop = Q.hop) && decide (P.cls = Q.cls) && decide (P.id = Q.id)) && (decide (P.off = Q.off) && (P.more == Q.more) && (P.still == Q.still) && decide (P.opts = Q.opts) && decide (P.flow = Q.flow))) && (P.cut == Q.cut) && decide (P.pay = Q.pay)))) := Hid.mk (by rw [HT.out, HRi.out, HE.out, Bool.true_and])
        go_upto_region 8 with (first | (refine wl_value rfl (exec_fpk 11 (by decide) rfl (by rfl)) ?_) | (refine wl_value rfl (exec_ld rfl (by rfl) (ldPx t1)) ?_))
        obtain ⟨v1, hv1⟩ : ∃ v1 : Value, .slice a1 i c1 = v1 := ⟨_, rfl⟩
        obtain ⟨v2, hv2⟩ : ∃ v2 : Value, .slice a2 i c2 = v2 := ⟨_, rfl⟩
        rw [hv1] at r1
        rw [hv2] at r2
        clear hv1 hv2
        have rr1 := r1
        have rr2 := r2
        refine wp_plain_steps (Below wr.heap.size wr) (fun v v' => Below v.heap.size v v') (fun j vv _ => vv = ((.pointer (some ⟨g1, 0, none⟩) :: .agg (SC 17 (adV P.sv P.sb)) :: .pointer (some ⟨g2, 0, none⟩) :: .agg (SC 17 (adV Q.sv Q.sb)) :: .bool (eqAF P.sv P.sb Q.sv Q.sb) :: .bool (eqAF P.sv P.sb Q.sv Q.sb) :: gv (eqAF P.sv P.sb Q.sv Q.sb) (.pointer (some ⟨g1, 17, none⟩)) :: gv (eqAF P.sv P.sb Q.sv Q.sb) (.agg (SC 17 (adV P.dv P.db))) :: gv (eqAF P.sv P.sb Q.sv Q.sb) (.pointer (some ⟨g2, 17, none⟩)) :: gv (eqAF P.sv P.sb Q.sv Q.sb) (.agg (SC 17 (adV Q.dv Q.db))) :: gv (eqAF P.sv P.sb Q.sv Q.sb) (.bool (eqAF P.dv P.db Q.dv Q.db)) :: .bool ((eqAF P.sv P.sb Q.sv Q.sb) && (eqAF P.dv P.db Q.dv Q.db)) :: .bool ((eqAF P.sv P.sb Q.sv Q.sb) && (eqAF P.dv P.db Q.dv Q.db)) :: gv ((eqAF P.sv P.sb Q.sv Q.sb) && (eqAF P.dv P.db Q.dv Q.db)) (.pointer (some ⟨g1, 34, none⟩)) :: gv ((eqAF P.sv P.sb Q.sv Q.sb) && (eqAF P.dv P.db Q.dv Q.db)) (.int .i64 P.proto) :: gv ((eqAF P.sv P.sb Q.sv Q.sb) && (eqAF P.dv P.db Q.dv Q.db)) (.pointer (some ⟨g2, 34, none⟩)) :: gv ((eqAF P.sv P.sb Q.sv Q.sb) && (eqAF P.dv P.db Q.dv Q.db)) (.int .i64 Q.proto) :: gv ((eqAF P.sv P.sb Q.sv Q.sb) && (eqAF P.dv P.db Q.dv Q.db)) (.bool (decide (P.proto = Q.proto))) :: .bool (((eqAF P.sv P.sb Q.sv Q.sb) && (eqAF P.dv P.db Q.dv Q.db)) && (decide (P.proto = Q.proto))) :: .bool (((eqAF P.sv P.sb Q.sv Q.sb) && (eqAF P.dv P.db Q.dv Q.db)) && (decide (P.proto = Q.proto))) :: gv (((eqAF P.sv P.sb Q.sv Q.sb) && (eqAF P.dv P.db Q.dv Q.db)) && (decide (P.proto = Q.proto))) (.pointer (some ⟨g1, 35, none⟩)) :: gv (((eqAF P.sv P.sb Q.sv Q.sb) && (eqAF P.dv P.db Q.dv Q.db)) && (decide (P.proto = Q.proto))) (.int .i64 P.hop) :: gv (((eqAF P.sv P.sb Q.sv Q.sb) && (eqAF P.dv P.db Q.dv Q.db)) && (decide (P.proto = Q.proto))) (.pointer (some ⟨g2, 35, none⟩)) :: gv (((eqAF P.sv P.sb Q.sv Q.sb) && (eqAF P.dv P.db Q.dv Q.db)) && (decide (P.proto = Q.proto))) (.int .i64 Q.hop) :: gv (((eqAF P.sv P.sb Q.sv Q.sb) && (eqAF P.dv P.db Q.dv Q.db)) && (decide (P.proto = Q.proto))) (.bool (decide (P.hop = Q.hop))) :: .bool ((((eqAF P.sv P.sb Q.sv Q.sb) && (eqAF P.dv P.db Q.dv Q.db)) && (decide (P.proto = Q.proto))) && (decide (P.hop = Q.hop))) :: .bool ((((eqAF P.sv P.sb Q.sv Q.sb) && (eqAF P.dv P.db Q.dv Q.db)) && (decide (P.proto = Q.proto))) && (decide (P.hop = Q.hop))) :: gv ((((eqAF P.sv P.sb Q.sv Q.sb) && (eqAF P.dv P.db Q.dv Q.db)) && (decide (P.proto = Q.proto))) && (decide (P.hop = Q.hop))) (.pointer (some ⟨g1, 36, none⟩)) :: gv ((((eqAF P.sv P.sb Q.sv Q.sb) && (eqAF P.dv P.db Q.dv Q.db)) && (decide (P.proto = Q.proto))) && (decide (P.hop = Q.hop))) (.int .i64 P.cls) :: gv ((((eqAF P.sv P.sb Q.sv Q.sb) && (eqAF P.dv P.db Q.dv Q.db)) && (decide (P.proto = Q.proto))) && (decide (P.hop = Q.hop))) (.pointer (some ⟨g2, 36, none⟩)) :: gv ((((eqAF P.sv P.sb Q.sv Q.sb) && (eqAF P.dv P.db Q.dv Q.db)) && (decide (P.proto = Q.proto))) && (decide (P.hop = Q.hop))) (.int .i64 Q.cls) :: gv ((((eqAF P.sv P.sb Q.sv Q.sb) && (eqAF P.dv P.db Q.dv Q.db)) && (decide (P.proto = Q.proto))) && (decide (P.hop = Q.hop))) (.bool (decide (P.cls = Q.cls))) :: .bool (((((eqAF P.sv P.sb Q.sv Q.sb) && (eqAF P.dv P.db Q.dv Q.db)) && (decide (P.proto = Q.proto))) && (decide (P.hop = Q.hop))) && (decide (P.cls = Q.cls))) :: .bool (((((eqAF P.sv P.sb Q.sv Q.sb) && (eqAF P.dv P.db Q.dv Q.db)) && (decide (P.proto = Q.proto))) && (decide (P.hop = Q.hop))) && (decide (P.cls = Q.cls))) :: gv (((((eqAF P.sv P.sb Q.sv Q.sb) && (eqAF P.dv P.db Q.dv Q.db)) && (decide (P.proto = Q.proto))) && (decide (P.hop = Q.hop))) && (decide (P.cls = Q.cls))) (.pointer (some ⟨g1, 37, none⟩)) :: gv (((((eqAF P.sv P.sb Q.sv Q.sb) && (eqAF P.dv P.db Q.dv Q.db)) && (decide (P.proto = Q.proto))) && (decide (P.hop = Q.hop))) && (decide (P.cls = Q.cls))) (.int .i64 P.id) :: gv (((((eqAF P.sv P.sb Q.sv Q.sb) && (eqAF P.dv P.db Q.dv Q.db)) && (decide (P.proto = Q.proto))) && (decide (P.hop = Q.hop))) && (decide (P.cls = Q.cls))) (.pointer (some ⟨g2, 37, none⟩)) :: gv (((((eqAF P.sv P.sb Q.sv Q.sb) && (eqAF P.dv P.db Q.dv Q.db)) && (decide (P.proto = Q.proto))) && (decide (P.hop = Q.hop))) && (decide (P.cls = Q.cls))) (.int .i64 Q.id) :: gv (((((eqAF P.sv P.sb Q.sv Q.sb) && (eqAF P.dv P.db Q.dv Q.db)) && (decide (P.proto = Q.proto))) && (decide (P.hop = Q.hop))) && (decide (P.cls = Q.cls))) (.bool (decide (P.id = Q.id))) :: .bool ((((((eqAF P.sv P.sb Q.sv Q.sb) && (eqAF P.dv P.db Q.dv Q.db)) && (decide (P.proto = Q.proto))) && (decide (P.hop = Q.hop))) && (decide (P.cls = Q.cls))) && (decide (P.id = Q.id))) :: .bool ((((((eqAF P.sv P.sb Q.sv Q.sb) && (eqAF P.dv P.db Q.dv Q.db)) && (decide (P.proto = Q.proto))) && (decide (P.hop = Q.hop))) && (decide (P.cls = Q.cls))) && (decide (P.id = Q.id))) :: []) : List Value).getD j undef)
            (33 :: 34 :: 35 :: 36 :: 37 :: 38 :: 39 :: 40 :: 41 :: 42 :: 43 :: 44 :: 45 :: 46 :: 47 :: 48 :: 49 :: 50 :: 51 :: 52 :: 53 :: 54 :: 55 :: 56 :: 57 :: 58 :: 59 :: 60 :: 61 :: 62 :: 63 :: 64 :: 65 :: 66 :: 67 :: 68 :: 69 :: 70 :: 71 :: 72 :: 6 :: [])
            [(2, .pointer (some ⟨g1, 0, none⟩)), (3, .pointer (some ⟨g2, 0, none⟩))] [] 0
            ([] :: [0] :: [] :: [2] :: [1, 3] :: [4] :: [5] :: [5, 6] :: [5] :: [5, 8] :: [5, 7, 9] :: [5, 10] :: [11] :: [12] :: [12, 13] :: [12] :: [12, 15] :: [12, 14, 16] :: [12, 17] :: [18] :: [19] :: [19, 20] :: [19] :: [19, 22] :: [19, 21, 23] :: [19, 24] :: [25] :: [26] :: [26, 27] :: [26] :: [26, 29] :: [26, 28, 30] :: [26, 31] :: [32] :: [33] :: [33, 34] :: [33] :: [33, 36] :: [33, 35, 37] :: [33, 38] :: [39] :: [])
            (by kernel_rfl) ⟨rfl, rfl, trivial⟩ trivial (Below.refl _ _) (fun v v' h hb => h.trans (hb.mono h.size)) (fun _ _ _ _ h _ => h)
            ⟨
            (fun QQ aa ww hS fr kn => sg0 rfl (fun K hK => wp_value (exec_fpk 0 (by decide) rfl fr.1) (hK _ _ rfl (Below.refl _ _)))),
            (fun QQ aa ww hS fr kn => sg0 rfl (fun K hK => wp_value (exec_ld rfl kn.1 (ld_src (SAt.kept r1 hS))) (hK _ _ rfl (Below.refl _ _)))),
            (fun QQ aa ww hS fr kn => sg0 rfl (fun K hK => wp_value (exec_fpk 0 (by decide) rfl fr.2.1) (hK _ _ rfl (Below.refl _ _)))),
            (fun QQ aa ww hS fr kn => sg0 rfl (fun K hK => wp_value (exec_ld rfl kn.1 (ld_src (SAt.kept r2 hS))) (hK _ _ rfl (Below.refl _ _)))),
            (fun QQ aa ww hS fr kn => sg0 rfl (fun K hK => wp_value (exec_eqA rfl kn.1 kn.2.1) (hK _ _ rfl (Below.refl _ _)))),
            (fun QQ aa ww hS fr kn => sg0 rfl (fun K hK => wp_value (exec_move rfl kn.1) (hK _ _ rfl (Below.refl _ _)))),
            (fun QQ aa ww hS fr kn => sgT rfl kn.1 (fun hc K hK => wp_value (exec_fpk 1 (by decide) rfl fr.1) (hK _ _ (gv_t hc).symm (Below.refl _ _))) (fun h0 => (gv_f h0).symm)),
            (fun QQ aa ww hS fr kn => sgT rfl kn.1 (fun hc K hK => wp_value (exec_ld rfl (kn.2.1.trans (gv_t hc)) (ld_dst (SAt.kept r1 hS))) (hK _ _ (gv_t hc).symm (Below.refl _ _))) (fun h0 => (gv_f h0).symm)),
            (fun QQ aa ww hS fr kn => sgT rfl kn.1 (fun hc K hK => wp_value (exec_fpk 1 (by decide) rfl fr.2.1) (hK _ _ (gv_t hc).symm (Below.refl _ _))) (fun h0 => (gv_f h0).symm)),
            (fun QQ aa ww hS fr kn => sgT rfl kn.1 (fun hc K hK => wp_value (exec_ld rfl (kn.2.1.trans (gv_t hc)) (ld_dst (SAt.kept r2 hS))) (hK _ _ (gv_t hc).symm (Below.refl _ _))) (fun h0 => (gv_f h0).symm)),
            (fun QQ aa ww hS fr kn => sgT rfl kn.1 (fun hc K hK => wp_value (exec_eqA rfl (kn.2.1.trans (gv_t hc)) (kn.2.2.1.trans (gv_t hc))) (hK _ _ (gv_t hc).symm (Below.refl _ _))) (fun h0 => (gv_f h0).symm)),
            (fun QQ aa ww hS fr kn => sg0 rfl (fun K hK => wp_value (exec_pickAnd rfl kn.1 (fun hx => kn.2.1.trans (gv_t hx)) rfl) (hK _ _ rfl (Below.refl _ _)))),
            (fun QQ aa ww hS fr kn => sg0 rfl (fun K hK => wp_value (exec_move rfl kn.1) (hK _ _ rfl (Below.refl _ _)))),
            (fun QQ aa ww hS fr kn => sgT rfl kn.1 (fun hc K hK => wp_value (exec_fpk 2 (by decide) rfl fr.1) (hK _ _ (gv_t hc).symm (Below.refl _ _))) (fun h0 => (gv_f h0).symm)),
            (fun QQ aa ww hS fr kn => sgT rfl kn.1 (fun hc K hK => wp_value (exec_ld rfl (kn.2.1.trans (gv_t hc)) (ldP (pk_proto (SAt.kept r1 hS)))) (hK _ _ (gv_t hc).symm (Below.refl _ _))) (fun h0 => (gv_f h0).symm)),
            (fun QQ aa ww hS fr kn => sgT rfl kn.1 (fun hc K hK => wp_value (exec_fpk 2 (by decide) rfl fr.2.1) (hK _ _ (gv_t hc).symm (Below.refl _ _))) (fun h0 => (gv_f h0).symm)),
            (fun QQ aa ww hS fr kn => sgT rfl kn.1 (fun hc K hK => wp_value (exec_ld rfl (kn.2.1.trans (gv_t hc)) (ldP (pk_proto (SAt.kept r2 hS)))) (hK _ _ (gv_t hc).symm (Below.refl _ _))) (fun h0 => (gv_f h0).symm)),
            (fun QQ aa ww hS fr kn => sgT rfl kn.1 (fun hc K hK => wp_value (cmp_eq (m := P.proto) (n := Q.proto) rfl (kn.2.1.trans (gv_t hc)) (kn.2.2.1.trans (gv_t hc))) (hK _ _ (gv_t hc).symm (Below.refl _ _))) (fun h0 => (gv_f h0).symm)),
            (fun QQ aa ww hS fr kn => sg0 rfl (fun K hK => wp_value (exec_pickAnd rfl kn.1 (fun hx => kn.2.1.trans (gv_t hx)) rfl) (hK _ _ rfl (Below.refl _ _)))),
            (fun QQ aa ww hS fr kn => sg0 rfl (fun K hK => wp_value (exec_move rfl kn.1) (hK _ _ rfl (Below.refl _ _)))),
            (fun QQ aa ww hS fr kn => sgT rfl kn.1 (fun hc K hK => wp_value (exec_fpk 3 (by decide) rfl fr.1) (hK _ _ (gv_t hc).symm (Below.refl _ _))) (fun h0 => (gv_f h0).symm)),
            (fun QQ aa ww hS fr kn => sgT rfl kn.1 (fun hc K hK => wp_value (exec_ld rfl (kn.2.1.trans (gv_t hc)) (ldP (pk_hop (SAt.kept r1 hS)))) (hK _ _ (gv_t hc).symm (Below.refl _ _))) (fun h0 => (gv_f h0).symm)),
            (fun QQ aa ww hS fr kn => sgT rfl kn.1 (fun hc K hK => wp_value (exec_fpk 3 (by decide) rfl fr.2.1) (hK _ _ (gv_t hc).symm (Below.refl _ _))) (fun h0 => (gv_f h0).symm)),
            (fun QQ aa ww hS fr kn => sgT rfl kn.1 (fun hc K hK => wp_value (exec_ld rfl (kn.2.1.trans (gv_t hc)) (ldP (pk_hop (SAt.kept r2 hS)))) (hK _ _ (gv_t hc).symm (Below.refl _ _))) (fun h0 => (gv_f h0).symm)),
            (fun QQ aa ww hS fr kn => sgT rfl kn.1 (fun hc K hK => wp_value (cmp_eq (m := P.hop) (n := Q.hop) rfl (kn.2.1.trans (gv_t hc)) (kn.2.2.1.trans (gv_t hc))) (hK _ _ (gv_t hc).symm (Below.refl _ _))) (fun h0 => (gv_f h0).symm)),
            (fun QQ aa ww hS fr kn => sg0 rfl (fun K hK => wp_value (exec_pickAnd rfl kn.1 (fun hx => kn.2.1.trans (gv_t hx)) rfl) (hK _ _ rfl (Below.refl _ _)))),
            (fun QQ aa ww hS fr kn => sg0 rfl (fun K hK => wp_value (exec_move rfl kn.1) (hK _ _ rfl (Below.refl _ _)))),
            (fun QQ aa ww hS fr kn => sgT rfl kn.1 (fun hc K hK => wp_value (exec_fpk 4 (by decide) rfl fr.1) (hK _ _ (gv_t hc).symm (Below.refl _ _))) (fun h0 => (gv_f h0).symm)),
            (fun QQ aa ww hS fr kn => sgT rfl kn.1 (fun hc K hK => wp_value (exec_ld rfl (kn.2.1.trans (gv_t hc)) (ldP (pk_cls (SAt.kept r1 hS)))) (hK _ _ (gv_t hc).symm (Below.refl _ _))) (fun h0 => (gv_f h0).symm)),
            (fun QQ aa ww hS fr kn => sgT rfl kn.1 (fun hc K hK => wp_value (exec_fpk 4 (by decide) rfl fr.2.1) (hK _ _ (gv_t hc).symm (Below.refl _ _))) (fun h0 => (gv_f h0).symm)),
            (fun QQ aa ww hS fr kn => sgT rfl kn.1 (fun hc K hK => wp_value (exec_ld rfl (kn.2.1.trans (gv_t hc)) (ldP (pk_cls (SAt.kept r2 hS)))) (hK _ _ (gv_t hc).symm (Below.refl _ _))) (fun h0 => (gv_f h0).symm)),
            (fun QQ aa ww hS fr kn => sgT rfl kn.1 (fun hc K hK => wp_value (cmp_eq (m := P.cls) (n := Q.cls) rfl (kn.2.1.trans (gv_t hc)) (kn.2.2.1.trans (gv_t hc))) (hK _ _ (gv_t hc).symm (Below.refl _ _))) (fun h0 => (gv_f h0).symm)),
            (fun QQ aa ww hS fr kn => sg0 rfl (fun K hK => wp_value (exec_pickAnd rfl kn.1 (fun hx => kn.2.1.trans (gv_t hx)) rfl) (hK _ _ rfl (Below.refl _ _)))),
            (fun QQ aa ww hS fr kn => sg0 rfl (fun K hK => wp_value (exec_move rfl kn.1) (hK _ _ rfl (Below.refl _ _)))),
            (fun QQ aa ww hS fr kn => sgT rfl kn.1 (fun hc K hK => wp_value (exec_fpk 5 (by decide) rfl fr.1) (hK _ _ (gv_t hc).symm (Below.refl _ _))) (fun h0 => (gv_f h0).symm)),
            (fun QQ aa ww hS fr kn => sgT rfl kn.1 (fun hc K hK => wp_value (exec_ld rfl (kn.2.1.trans (gv_t hc)) (ldP (pk_id (SAt.kept r1 hS)))) (hK _ _ (gv_t hc).symm (Below.refl _ _))) (fun h0 => (gv_f h0).symm)),
            (fun QQ aa ww hS fr kn => sgT rfl kn.1 (fun hc K hK => wp_value (exec_fpk 5 (by decide) rfl fr.2.1) (hK _ _ (gv_t hc).symm (Below.refl _ _))) (fun h0 => (gv_f h0).symm)),
            (fun QQ aa ww hS fr kn => sgT rfl kn.1 (fun hc K hK => wp_value (exec_ld rfl (kn.2.1.trans (gv_t hc)) (ldP (pk_id (SAt.kept r2 hS)))) (hK _ _ (gv_t hc).symm (Below.refl _ _))) (fun h0 => (gv_f h0).symm)),
            (fun QQ aa ww hS fr kn => sgT rfl kn.1 (fun hc K hK => wp_value (cmp_eq (m := P.id) (n := Q.id) rfl (kn.2.1.trans (gv_t hc)) (kn.2.2.1.trans (gv_t hc))) (hK _ _ (gv_t hc).symm (Below.refl _ _))) (fun h0 => (gv_f h0).symm)),
            (fun QQ aa ww hS fr kn => sg0 rfl (fun K hK => wp_value (exec_pickAnd rfl kn.1 (fun hx => kn.2.1.trans (gv_t hx)) rfl) (hK _ _ rfl (Below.refl _ _)))),
            (fun QQ aa ww hS fr kn => sg0 rfl (fun K hK => wp_value (exec_assign rfl kn.1) (hK _ _ rfl (Below.refl _ _)))),
            trivial⟩ ?_
        intro vs z2 hB3 kn
        have e6 : vs 6 = .bool ((((((eqAF P.sv P.sb Q.sv Q.sb) && (eqAF P.dv P.db Q.dv Q.db)) && (decide (P.proto = Q.proto))) && (decide (P.hop = Q.hop))) && (decide (P.cls = Q.cls))) && (decide (P.id = Q.id))) := kn 40 (by decide)
        clear kn
        simp only [putAll, Act.put, List.setIfInBounds_toArray, List.set_cons_zero, List.set_cons_succ, e6]
        clear e6
        replace r1 := SAt.kept rr1 hB3
        replace r2 := SAt.kept rr2 hB3
        obtain ⟨X, hX⟩ : ∃ X, (eqAF P.sv P.sb Q.sv Q.sb && eqAF P.dv P.db Q.dv Q.db && decide (P.proto = Q.proto) && decide (P.hop = Q.hop) && decide (P.cls = Q.cls) && decide (P.id = Q.id)) = X := ⟨_, rfl⟩
        rw [hX] at HQ ⊢
        go_upto_region 9 with fail
        refine wp_plain_steps (Below z2.heap.size z2) (fun v v' => Below v.heap.size v v') (fun j vv _ => vv = ((.pointer (some ⟨g1, 38, none⟩) :: .int .i64 P.off :: .pointer (some ⟨g2, 38, none⟩) :: .int .i64 Q.off :: .bool (decide (P.off = Q.off)) :: .bool (decide (P.off = Q.off)) :: gv (decide (P.off = Q.off)) (.pointer (some ⟨g1, 39, none⟩)) :: gv (decide (P.off = Q.off)) (.bool P.more) :: gv (decide (P.off = Q.off)) (.pointer (some ⟨g2, 39, none⟩)) :: gv (decide (P.off = Q.off)) (.bool Q.more) :: gv (decide (P.off = Q.off)) (.bool (P.more == Q.more)) :: .bool ((decide (P.off = Q.off)) && (P.more == Q.more)) :: .bool ((decide (P.off = Q.off)) && (P.more == Q.more)) :: gv ((decide (P.off = Q.off)) && (P.more == Q.more)) (.pointer (some ⟨g1, 40, none⟩)) :: gv ((decide (P.off = Q.off)) && (P.more == Q.more)) (.bool P.still) :: gv ((decide (P.off = Q.off)) && (P.more == Q.more)) (.pointer (some ⟨g2, 40, none⟩)) :: gv ((decide (P.off = Q.off)) && (P.more == Q.more)) (.bool Q.still) :: gv ((decide (P.off = Q.off)) && (P.more == Q.more)) (.bool (P.still == Q.still)) :: .bool (((decide (P.off = Q.off)) && (P.more == Q.more)) && (P.still == Q.still)) :: .bool (((decide (P.off = Q.off)) && (P.more == Q.more)) && (P.still == Q.still)) :: gv (((decide (P.off = Q.off)) && (P.more == Q.more)) && (P.still == Q.still)) (.pointer (some ⟨g1, 41, none⟩)) :: gv (((decide (P.off = Q.off)) && (P.more == Q.more)) && (P.still == Q.still)) (.string P.opts) :: gv (((decide (P.off = Q.off)) && (P.more == Q.more)) && (P.still == Q.still)) (.pointer (some ⟨g2, 41, none⟩)) :: gv (((decide (P.off = Q.off)) && (P.more == Q.more)) && (P.still == Q.still)) (.string Q.opts) :: gv (((decide (P.off = Q.off)) && (P.more == Q.more)) && (P.still == Q.still)) (.bool (decide (P.opts = Q.opts))) :: .bool ((((decide (P.off = Q.off)) && (P.more == Q.more)) && (P.still == Q.still)) && (decide (P.opts = Q.opts))) :: .bool ((((decide (P.off = Q.off)) && (P.more == Q.more)) && (P.still == Q.still)) && (decide (P.opts = Q.opts))) :: gv ((((decide (P.off = Q.off)) && (P.more == Q.more)) && (P.still == Q.still)) && (decide (P.opts = Q.opts))) (.pointer (some ⟨g1, 42, none⟩)) :: gv ((((decide (P.off = Q.off)) && (P.more == Q.more)) && (P.still == Q.still)) && (decide (P.opts = Q.opts))) (.int .i64 P.flow) :: gv ((((decide (P.off = Q.off)) && (P.more == Q.more)) && (P.still == Q.still)) && (decide (P.opts = Q.opts))) (.pointer (some ⟨g2, 42, none⟩)) :: gv ((((decide (P.off = Q.off)) && (P.more == Q.more)) && (P.still == Q.still)) && (decide (P.opts = Q.opts))) (.int .i64 Q.flow) :: gv ((((decide (P.off = Q.off)) && (P.more == Q.more)) && (P.still == Q.still)) && (decide (P.opts = Q.opts))) (.bool (decide (P.flow = Q.flow))) :: .bool (((((decide (P.off = Q.off)) && (P.more == Q.more)) && (P.still == Q.still)) && (decide (P.opts = Q.opts))) && (decide (P.flow = Q.flow))) :: .bool (((((decide (P.off = Q.off)) && (P.more == Q.more)) && (P.still == Q.still)) && (decide (P.opts = Q.opts))) && (decide (P.flow = Q.flow))) :: []) : List Value).getD j undef)
            (73 :: 74 :: 75 :: 76 :: 77 :: 78 :: 79 :: 80 :: 81 :: 82 :: 83 :: 84 :: 85 :: 86 :: 87 :: 88 :: 89 :: 90 :: 91 :: 92 :: 93 :: 94 :: 95 :: 96 :: 97 :: 98 :: 99 :: 100 :: 101 :: 102 :: 103 :: 104 :: 105 :: 7 :: [])
            [(2, .pointer (some ⟨g1, 0, none⟩)), (3, .pointer (some ⟨g2, 0, none⟩))] [] 0
            ([] :: [0] :: [] :: [2] :: [1, 3] :: [4] :: [5] :: [5, 6] :: [5] :: [5, 8] :: [5, 7, 9] :: [5, 10] :: [11] :: [12] :: [12, 13] :: [12] :: [12, 15] :: [12, 14, 16] :: [12, 17] :: [18] :: [19] :: [19, 20] :: [19] :: [19, 22] :: [19, 21, 23] :: [19, 24] :: [25] :: [26] :: [26, 27] :: [26] :: [26, 29] :: [26, 28, 30] :: [26, 31] :: [32] :: [])
            (by kernel_rfl) ⟨rfl, rfl, trivial⟩ trivial (Below.refl _ _) (fun v v' h hb => h.trans (hb.mono h.size)) (fun _ _ _ _ h _ => h)
            ⟨
            (fun QQ aa ww hS fr kn => sg0 rfl (fun K hK => wp_value (exec_fpk 6 (by decide) rfl fr.1) (hK _ _ rfl (Below.refl _ _)))),
            (fun QQ aa ww hS fr kn => sg0 rfl (fun K hK => wp_value (exec_ld rfl kn.1 (ldP (pk_off (SAt.kept r1 hS)))) (hK _ _ rfl (Below.refl _ _)))),
            (fun QQ aa ww hS fr kn => sg0 rfl (fun K hK => wp_value (exec_fpk 6 (by decide) rfl fr.2.1) (hK _ _ rfl (Below.refl _ _)))),
            (fun QQ aa ww hS fr kn => sg0 rfl (fun K hK => wp_value (exec_ld rfl kn.1 (ldP (pk_off (SAt.kept r2 hS)))) (hK _ _ rfl (Below.refl _ _)))),
            (fun QQ aa ww hS fr kn => sg0 rfl (fun K hK => wp_value (cmp_eq (m := P.off) (n := Q.off) rfl kn.1 kn.2.1) (hK _ _ rfl (Below.refl _ _)))),
            (fun QQ aa ww hS fr kn => sg0 rfl (fun K hK => wp_value (exec_move rfl kn.1) (hK _ _ rfl (Below.refl _ _)))),
            (fun QQ aa ww hS fr kn => sgT rfl kn.1 (fun hc K hK => wp_value (exec_fpk 7 (by decide) rfl fr.1) (hK _ _ (gv_t hc).symm (Below.refl _ _))) (fun h0 => (gv_f h0).symm)),
            (fun QQ aa ww hS fr kn => sgT rfl kn.1 (fun hc K hK => wp_value (exec_ld rfl (kn.2.1.trans (gv_t hc)) (ldPb (pk_more (SAt.kept r1 hS)))) (hK _ _ (gv_t hc).symm (Below.refl _ _))) (fun h0 => (gv_f h0).symm)),
            (fun QQ aa ww hS fr kn => sgT rfl kn.1 (fun hc K hK => wp_value (exec_fpk 7 (by decide) rfl fr.2.1) (hK _ _ (gv_t hc).symm (Below.refl _ _))) (fun h0 => (gv_f h0).symm)),
            (fun QQ aa ww hS fr kn => sgT rfl kn.1 (fun hc K hK => wp_value (exec_ld rfl (kn.2.1.trans (gv_t hc)) (ldPb (pk_more (SAt.kept r2 hS)))) (hK _ _ (gv_t hc).symm (Below.refl _ _))) (fun h0 => (gv_f h0).symm)),
            (fun QQ aa ww hS fr kn => sgT rfl kn.1 (fun hc K hK => wp_value (cmp_eqB rfl (kn.2.1.trans (gv_t hc)) (kn.2.2.1.trans (gv_t hc))) (hK _ _ (gv_t hc).symm (Below.refl _ _))) (fun h0 => (gv_f h0).symm)),
            (fun QQ aa ww hS fr kn => sg0 rfl (fun K hK => wp_value (exec_pickAnd rfl kn.1 (fun hx => kn.2.1.trans (gv_t hx)) rfl) (hK _ _ rfl (Below.refl _ _)))),
            (fun QQ aa ww hS fr kn => sg0 rfl (fun K hK => wp_value (exec_move rfl kn.1) (hK _ _ rfl (Below.refl _ _)))),
            (fun QQ aa ww hS fr kn => sgT rfl kn.1 (fun hc K hK => wp_value (exec_fpk 8 (by decide) rfl fr.1) (hK _ _ (gv_t hc).symm (Below.refl _ _))) (fun h0 => (gv_f h0).symm)),
            (fun QQ aa ww hS fr kn => sgT rfl kn.1 (fun hc K hK => wp_value (exec_ld rfl (kn.2.1.trans (gv_t hc)) (ldPb (pk_still (SAt.kept r1 hS)))) (hK _ _ (gv_t hc).symm (Below.refl _ _))) (fun h0 => (gv_f h0).symm)),
            (fun QQ aa ww hS fr kn => sgT rfl kn.1 (fun hc K hK => wp_value (exec_fpk 8 (by decide) rfl fr.2.1) (hK _ _ (gv_t hc).symm (Below.refl _ _))) (fun h0 => (gv_f h0).symm)),
            (fun QQ aa ww hS fr kn => sgT rfl kn.1 (fun hc K hK => wp_value (exec_ld rfl (kn.2.1.trans (gv_t hc)) (ldPb (pk_still (SAt.kept r2 hS)))) (hK _ _ (gv_t hc).symm (Below.refl _ _))) (fun h0 => (gv_f h0).symm)),
            (fun QQ aa ww hS fr kn => sgT rfl kn.1 (fun hc K hK => wp_value (cmp_eqB rfl (kn.2.1.trans (gv_t hc)) (kn.2.2.1.trans (gv_t hc))) (hK _ _ (gv_t hc).symm (Below.refl _ _))) (fun h0 => (gv_f h0).symm)),
            (fun QQ aa ww hS fr kn => sg0 rfl (fun K hK => wp_value (exec_pickAnd rfl kn.1 (fun hx => kn.2.1.trans (gv_t hx)) rfl) (hK _ _ rfl (Below.refl _ _)))),
            (fun QQ aa ww hS fr kn => sg0 rfl (fun K hK => wp_value (exec_move rfl kn.1) (hK _ _ rfl (Below.refl _ _)))),
            (fun QQ aa ww hS fr kn => sgT rfl kn.1 (fun hc K hK => wp_value (exec_fpk 9 (by decide) rfl fr.1) (hK _ _ (gv_t hc).symm (Below.refl _ _))) (fun h0 => (gv_f h0).symm)),
            (fun QQ aa ww hS fr kn => sgT rfl kn.1 (fun hc K hK => wp_value (exec_ld rfl (kn.2.1.trans (gv_t hc)) (ldPs (pk_opts (SAt.kept r1 hS)))) (hK _ _ (gv_t hc).symm (Below.refl _ _))) (fun h0 => (gv_f h0).symm)),
            (fun QQ aa ww hS fr kn => sgT rfl kn.1 (fun hc K hK => wp_value (exec_fpk 9 (by decide) rfl fr.2.1) (hK _ _ (gv_t hc).symm (Below.refl _ _))) (fun h0 => (gv_f h0).symm)),
            (fun QQ aa ww hS fr kn => sgT rfl kn.1 (fun hc K hK => wp_value (exec_ld rfl (kn.2.1.trans (gv_t hc)) (ldPs (pk_opts (SAt.kept r2 hS)))) (hK _ _ (gv_t hc).symm (Below.refl _ _))) (fun h0 => (gv_f h0).symm)),
            (fun QQ aa ww hS fr kn => sgT rfl kn.1 (fun hc K hK => wp_value (exec_eqSd (s := P.opts) (t := Q.opts) rfl (kn.2.1.trans (gv_t hc)) (kn.2.2.1.trans (gv_t hc))) (hK _ _ (gv_t hc).symm (Below.refl _ _))) (fun h0 => (gv_f h0).symm)),
            (fun QQ aa ww hS fr kn => sg0 rfl (fun K hK => wp_value (exec_pickAnd rfl kn.1 (fun hx => kn.2.1.trans (gv_t hx)) rfl) (hK _ _ rfl (Below.refl _ _)))),
            (fun QQ aa ww hS fr kn => sg0 rfl (fun K hK => wp_value (exec_move rfl kn.1) (hK _ _ rfl (Below.refl _ _)))),
            (fun QQ aa ww hS fr kn => sgT rfl kn.1 (fun hc K hK => wp_value (exec_fpk 10 (by decide) rfl fr.1) (hK _ _ (gv_t hc).symm (Below.refl _ _))) (fun h0 => (gv_f h0).symm)),
            (fun QQ aa ww hS fr kn => sgT rfl kn.1 (fun hc K hK => wp_value (exec_ld rfl (kn.2.1.trans (gv_t hc)) (ldP (pk_flow (SAt.kept r1 hS)))) (hK _ _ (gv_t hc).symm (Below.refl _ _))) (fun h0 => (gv_f h0).symm)),
            (fun QQ aa ww hS fr kn => sgT rfl kn.1 (fun hc K hK => wp_value (exec_fpk 10 (by decide) rfl fr.2.1) (hK _ _ (gv_t hc).symm (Below.refl _ _))) (fun h0 => (gv_f h0).symm)),
            (fun QQ aa ww hS fr kn => sgT rfl kn.1 (fun hc K hK => wp_value (exec_ld rfl (kn.2.1.trans (gv_t hc)) (ldP (pk_flow (SAt.kept r2 hS)))) (hK _ _ (gv_t hc).symm (Below.refl _ _))) (fun h0 => (gv_f h0).symm)),
            (fun QQ aa ww hS fr kn => sgT rfl kn.1 (fun hc K hK => wp_value (cmp_eq (m := P.flow) (n := Q.flow) rfl (kn.2.1.trans (gv_t hc)) (kn.2.2.1.trans (gv_t hc))) (hK _ _ (gv_t hc).symm (Below.refl _ _))) (fun h0 => (gv_f h0).symm)),
            (fun QQ aa ww hS fr kn => sg0 rfl (fun K hK => wp_value (exec_pickAnd rfl kn.1 (fun hx => kn.2.1.trans (gv_t hx)) rfl) (hK _ _ rfl (Below.refl _ _)))),
            (fun QQ aa ww hS fr kn => sg0 rfl (fun K hK => wp_value (exec_assign rfl kn.1) (hK _ _ rfl (Below.refl _ _)))),
            trivial⟩ ?_
        intro vs z3 hB4 kn
        have e7 : vs 7 = .bool (((((decide (P.off = Q.off)) && (P.more == Q.more)) && (P.still == Q.still)) && (decide (P.opts = Q.opts))) && (decide (P.flow = Q.flow))) := kn 33 (by decide)
        clear kn
        simp only [putAll, Act.put, List.setIfInBounds_toArray, List.set_cons_zero, List.set_cons_succ, e7]
        clear e7
        replace r1 := SAt.kept r1 hB4
        replace r2 := SAt.kept r2 hB4
        obtain ⟨Y, hY⟩ : ∃ Y, (decide (P.off = Q.off) && (P.more == Q.more) && (P.still == Q.still) && decide (P.opts = Q.opts) && decide (P.flow = Q.flow)) = Y := ⟨_, rfl⟩
        rw [hY] at HQ ⊢
        go_upto_region 10 with fail
        refine wp_plain_steps (Below z3.heap.size z3) (fun v v' => Below v.heap.size v v') (fun j vv _ => vv = ([.bool X, .bool X, gv X (.bool Y), .bool (X && Y), .bool (X && Y), gv (X && Y) (.pointer (some ⟨g1, 44, none⟩)), gv (X && Y) (.bool P.cut), gv (X && Y) (.pointer (some ⟨g2, 44, none⟩)), gv (X && Y) (.bool Q.cut), gv (X && Y) (.bool (P.cut == Q.cut)), .bool ((X && Y) && (P.cut == Q.cut)), .bool ((X && Y) && (P.cut == Q.cut)), gv ((X && Y) && (P.cut == Q.cut)) (.pointer (some ⟨g1, 45, none⟩)), gv ((X && Y) && (P.cut == Q.cut)) (.string P.pay), gv ((X && Y) && (P.cut == Q.cut)) (.pointer (some ⟨g2, 45, none⟩)), gv ((X && Y) && (P.cut == Q.cut)) (.string Q.pay), gv ((X && Y) && (P.cut == Q.cut)) (.bool (decide (P.pay = Q.pay))), .bool (((X && Y) && (P.cut == Q.cut)) && (decide (P.pay = Q.pay))), .bool (((X && Y) && (P.cut == Q.cut)) && (decide (P.pay = Q.pay)))] : List Value).getD j undef)
            [106, 107, 108, 109, 110, 111, 112, 113, 114, 115, 116, 117, 118, 119, 120, 121, 122, 123, 4]
            [(6, .bool X), (7, .bool Y), (2, .pointer (some ⟨g1, 0, none⟩)), (3, .pointer (some ⟨g2, 0, none⟩))] [] 0
            [[], [0], [1], [1, 2], [3], [4], [4, 5], [4], [4, 7], [4, 6, 8], [4, 9], [10], [11], [11, 12], [11], [11, 14], [11, 13, 15], [11, 16], [17]]
            (by kernel_rfl) ⟨rfl, rfl, rfl, rfl, trivial⟩ trivial (Below.refl _ _) (fun v v' h hb => h.trans (hb.mono h.size)) (fun _ _ _ _ h _ => h)
            ⟨
            (fun QQ aa ww hS fr kn => sg0 rfl (fun K hK => wp_value (exec_move rfl fr.1) (hK _ _ rfl (Below.refl _ _)))),
            (fun QQ aa ww hS fr kn => sg0 rfl (fun K hK => wp_value (exec_move rfl kn.1) (hK _ _ rfl (Below.refl _ _)))),
            (fun QQ aa ww hS fr kn => sgT rfl kn.1 (fun hc K hK => wp_value (exec_move rfl fr.2.1) (hK _ _ (gv_t hc).symm (Below.refl _ _))) (fun h0 => (gv_f h0).symm)),
            (fun QQ aa ww hS fr kn => sg0 rfl (fun K hK => wp_value (exec_pickAnd rfl kn.1 (fun hx => kn.2.1.trans (gv_t hx)) rfl) (hK _ _ rfl (Below.refl _ _)))),
            (fun QQ aa ww hS fr kn => sg0 rfl (fun K hK => wp_value (exec_move rfl kn.1) (hK _ _ rfl (Below.refl _ _)))),
            (fun QQ aa ww hS fr kn => sgT rfl kn.1 (fun hc K hK => wp_value (exec_fpk 12 (by decide) rfl fr.2.2.1) (hK _ _ (gv_t hc).symm (Below.refl _ _))) (fun h0 => (gv_f h0).symm)),
            (fun QQ aa ww hS fr kn => sgT rfl kn.1 (fun hc K hK => wp_value (exec_ld rfl (kn.2.1.trans (gv_t hc)) (ldPb (pk_cut (SAt.kept r1 hS)))) (hK _ _ (gv_t hc).symm (Below.refl _ _))) (fun h0 => (gv_f h0).symm)),
            (fun QQ aa ww hS fr kn => sgT rfl kn.1 (fun hc K hK => wp_value (exec_fpk 12 (by decide) rfl fr.2.2.2.1) (hK _ _ (gv_t hc).symm (Below.refl _ _))) (fun h0 => (gv_f h0).symm)),
            (fun QQ aa ww hS fr kn => sgT rfl kn.1 (fun hc K hK => wp_value (exec_ld rfl (kn.2.1.trans (gv_t hc)) (ldPb (pk_cut (SAt.kept r2 hS)))) (hK _ _ (gv_t hc).symm (Below.refl _ _))) (fun h0 => (gv_f h0).symm)),
            (fun QQ aa ww hS fr kn => sgT rfl kn.1 (fun hc K hK => wp_value (cmp_eqB rfl (kn.2.1.trans (gv_t hc)) (kn.2.2.1.trans (gv_t hc))) (hK _ _ (gv_t hc).symm (Below.refl _ _))) (fun h0 => (gv_f h0).symm)),
            (fun QQ aa ww hS fr kn => sg0 rfl (fun K hK => wp_value (exec_pickAnd rfl kn.1 (fun hx => kn.2.1.trans (gv_t hx)) rfl) (hK _ _ rfl (Below.refl _ _)))),
            (fun QQ aa ww hS fr kn => sg0 rfl (fun K hK => wp_value (exec_move rfl kn.1) (hK _ _ rfl (Below.refl _ _)))),
            (fun QQ aa ww hS fr kn => sgT rfl kn.1 (fun hc K hK => wp_value (exec_fpk 13 (by decide) rfl fr.2.2.1) (hK _ _ (gv_t hc).symm (Below.refl _ _))) (fun h0 => (gv_f h0).symm)),
            (fun QQ aa ww hS fr kn => sgT rfl kn.1 (fun hc K hK => wp_value (exec_ld rfl (kn.2.1.trans (gv_t hc)) (ldPs (pk_pay (SAt.kept r1 hS)))) (hK _ _ (gv_t hc).symm (Below.refl _ _))) (fun h0 => (gv_f h0).symm)),
            (fun QQ aa ww hS fr kn => sgT rfl kn.1 (fun hc K hK => wp_value (exec_fpk 13 (by decide) rfl fr.2.2.2.1) (hK _ _ (gv_t hc).symm (Below.refl _ _))) (fun h0 => (gv_f h0).symm)),
            (fun QQ aa ww hS fr kn => sgT rfl kn.1 (fun hc K hK => wp_value (exec_ld rfl (kn.2.1.trans (gv_t hc)) (ldPs (pk_pay (SAt.kept r2 hS)))) (hK _ _ (gv_t hc).symm (Below.refl _ _))) (fun h0 => (gv_f h0).symm)),
            (fun QQ aa ww hS fr kn => sgT rfl kn.1 (fun hc K hK => wp_value (exec_eqSd (s := P.pay) (t := Q.pay) rfl (kn.2.1.trans (gv_t hc)) (kn.2.2.1.trans (gv_t hc))) (hK _ _ (gv_t hc).symm (Below.refl _ _))) (fun h0 => (gv_f h0).symm)),
            (fun QQ aa ww hS fr kn => sg0 rfl (fun K hK => wp_value (exec_pickAnd rfl kn.1 (fun hx => kn.2.1.trans (gv_t hx)) rfl) (hK _ _ rfl (Below.refl _ _)))),
            (fun QQ aa ww hS fr kn => sg0 rfl (fun K hK => wp_value (exec_assign rfl kn.1) (hK _ _ rfl (Below.refl _ _)))),
            trivial⟩ ?_
        intro vs z4 hB5 kn
        have e4 : vs 4 = .bool (((X && Y) && (P.cut == Q.cut)) && (decide (P.pay = Q.pay))) := kn 18 (by decide)
        clear kn
        simp only [putAll, Act.put, List.setIfInBounds_toArray, List.set_cons_zero, List.set_cons_succ, e4]
        clear e4
        go_wp2_with fail
        go_ret
        have hBy := hBz.trans (hB3.mono hBz.size)
        have hBx := hBy.trans (hB4.mono hBy.size)
        have hBw := hBx.trans (hB5.mono hBx.size)
        exact ⟨by rw [HQ.out]; rfl, hB2.trans (hBw.mono hB2.size)⟩
  · have hr : r = false := by rw [HT.out, exEq_len he]; rfl
    have hei : ¬ (P.exts.length : Int) = (Q.exts.length : Int) := by omega
    go_wp2_with (first | (refine wl_value rfl (exec_fpk 11 (by decide) rfl (by rfl)) ?_) | (refine wl_value rfl (exec_ld rfl (by rfl) (ldPx s1)) ?_) | (refine wl_value rfl (exec_ld rfl (by rfl) (ldPx s2)) ?_))
    go_ret
    exact ⟨by rw [hr]; rfl, hB2⟩
end Go.Proofs.YtojekoakgpkkdaaDoor
/-
  Own text. What was built is read again as the packet that it was.
-/
namespace Go.Proofs.YtojekoakgpkkdaaDoor
open Go.RowKit Go.Proofs
set_option maxRecDepth 100000
/-- The numbers of a packet that may be. -/
structure PkOk (P : Pk) : Prop where
  sb : Byts 16 P.sb
  db : Byts 16 P.db
theorem bN_lt (b : Bool) (n : Nat) : bN b n ≤ n := by unfold bN; split <;> omega
theorem exB_size {P : Pk} : ∀ {l : List Ex} {i : Nat}, exsOk l i = true → (exB P l).size = exLen l + (if P.cut = true then 8 else 0)
  | [], _, _ => by
    unfold exB exLen cuB
    split
    · simp only [ByteArray.size_append, putT_size]
    · rw [ByteArray.size_empty]
  | x :: l, i, h => by
    unfold exsOk at h
    rw [Bool.and_eq_true] at h
    have := exB_size (P := P) h.2
    unfold exB exLen
    simp only [ByteArray.size_append, putT_size, this]
    omega
theorem exsOk_kind {P : Pk} (hp : isHd P.proto = false) : ∀ {l : List Ex} {i : Nat}, exsOk l i = true → (0 ≤ P.proto ∧ P.proto ≤ 255) → 0 ≤ nextK P l ∧ nextK P l ≤ 255 ∧ (l = [] → isHd (nextK P l) = P.cut)
  | [], _, _, hb => by
    unfold nextK tailK
    cases hc : P.cut
    · simp [hp, hb]
    · simp; decide
  | x :: l, i, h, _ => by
    unfold exsOk at h
    rw [Bool.and_eq_true, exOk_iff] at h
    have e : nextK P (x :: l) = x.kind := rfl
    rw [e]
    exact ⟨by omega, by omega, fun h => by cases h⟩
theorem exsOk_len : ∀ {l : List Ex} {i : Nat}, exsOk l i = true → l = [] ∨ i + l.length ≤ 4
  | [], _, _ => .inl rfl
  | x :: l, i, h => by
    unfold exsOk at h
    rw [Bool.and_eq_true, exOk_iff] at h
    rcases exsOk_len h.2 with e | e
    · subst e
      right
      simp
      omega
    · right
      simp
      omega
/-- The headers behind the first one are read again. -/
theorem rdEx_exB {P p : Pk} (hp : isHd P.proto = false) (hb : 0 ≤ P.proto ∧ P.proto ≤ 255) (ho : 0 ≤ P.off ∧ P.off ≤ 65528) (ho8 : P.off % 8 = 0) (hid : 0 ≤ P.id ∧ P.id ≤ 4294967295) (hpc : p.cut = false) (hpo : p.off = 0) (hpm : p.more = false) (hpi : p.id = 0) (hcut : P.cut = true ∨ (P.id = 0 ∧ P.off = 0 ∧ P.more = false)) :
    ∀ (l acc : List Ex) (n : Nat), exsOk l acc.length = true → l.length < n → rdEx p n acc (nextK P l) (exB P l ++ P.pay) = .ok { p with exts := acc ++ l, cut := P.cut, off := P.off, more := P.more, id := P.id, proto := P.proto, pay := P.pay }
  | [], acc, n + 1, _, _ => by
    unfold rdEx nextK tailK exB
    rw [List.append_nil]
    cases hc : P.cut
    · simp only [Bool.false_eq_true, if_false, hp, if_true]
      rcases hcut with h | ⟨h1, h2, h3⟩
      · rw [hc] at h; cases h
      · rw [empty_app, h1, h2, h3]
        cases p
        simp only at hpc hpo hpm hpi
        subst hpc hpo hpm hpi
        rfl
    · simp only [if_true]
      have e44 : isHd 44 = true := by decide
      have zc : (cuB P).size = 8 := by unfold cuB; simp only [ByteArray.size_append, putT_size]
      have hm1 := bN_lt P.more 1
      have t0 : txt (cuB P ++ P.pay) 0 = P.proto := by
        rw [txt_left _ _ (by omega)]
        unfold cuB
        rw [app_assoc, app_assoc, txt_left _ _ (by rw [putT_size]; decide), put_one (by omega)]
        omega
      have t1 : txt (cuB P ++ P.pay) 1 = 0 := by
        rw [txt_left _ _ (by omega)]
        unfold cuB
        rw [app_assoc, app_assoc]
        have := txt_right (putT P.proto.toNat 1) (putT 0 1 ++ (putT (P.off.toNat + bN P.more 1) 2 ++ putT P.id.toNat 4)) (putT_size _ _) (j := 0)
        rw [this, txt_left _ _ (by rw [putT_size]; decide), put_one (by omega)]
        rfl
      have g2 : getN (txt (cuB P ++ P.pay)) 2 2 = P.off.toNat + bN P.more 1 := by
        rw [getN_left _ _ (by omega)]
        unfold cuB
        rw [app_assoc]
        have := getN_right (putT P.proto.toNat 1 ++ putT 0 1) (putT (P.off.toNat + bN P.more 1) 2 ++ putT P.id.toNat 4) (n := 2) (a := 0) (z := 2) (by simp only [ByteArray.size_append, putT_size])
        rw [this, get_putP (by decide) (by omega)]
      have g4 : getN (txt (cuB P ++ P.pay)) 4 4 = P.id.toNat := by
        rw [getN_left _ _ (by omega)]
        unfold cuB
        have := getN_right (putT P.proto.toNat 1 ++ putT 0 1 ++ putT (P.off.toNat + bN P.more 1) 2) (putT P.id.toNat 4) (n := 4) (a := 0) (z := 4) (by simp only [ByteArray.size_append, putT_size])
        rw [this, get_putA (by decide) (by omega)]
      have ep : (cuB P ++ P.pay).extract 8 (cuB P ++ P.pay).size = P.pay := by
        rw [ByteArray.size_append, zc]
        have := cutP_right (cuB P) P.pay (n := 8) (a := 0) (e := P.pay.size) zc (Nat.le_refl _)
        rw [this, cutP_all]
      have zs : ¬ (cuB P ++ P.pay).size < 8 := by rw [ByteArray.size_append]; omega
      have hmo : decide ((P.off.toNat + bN P.more 1) % 2 = 1) = P.more := by
        cases hm : P.more
        · unfold bN; simp; omega
        · unfold bN; simp; omega
      have hof : (((P.off.toNat + bN P.more 1) / 8 * 8 : Nat) : Int) = P.off := by omega
      have hbt : ¬ ((0 : Int) ≠ 0 ∨ (P.off.toNat + bN P.more 1) % 8 / 2 ≠ 0 ∨ isHd P.proto = true) := by
        rw [hp]
        simp
        omega
      rw [e44, t0, t1, g2, g4, ep]
      rw [if_neg (by decide), if_neg (by simp), if_neg zs, if_neg hbt, hmo, hof]
      congr 2
      omega
  | x :: l, acc, n + 1, h, hn => by
    have hl : l.length < n := by simpa using hn
    unfold exsOk at h
    rw [Bool.and_eq_true, exOk_iff] at h
    obtain ⟨⟨hk, hm, hz6, hz⟩, h2⟩ := h
    obtain ⟨k0, k1, _⟩ := exsOk_kind hp h2 hb
    have ih := rdEx_exB hp hb ho ho8 hid hpc hpo hpm hpi hcut l (acc ++ [x]) n (by rw [List.length_append]; exact h2) hl
    unfold rdEx
    have e1 : isHd x.kind = true := isHd_iff.2 (by omega)
    have e2 : mayB x.kind acc.length = true := mayB_iff.2 hm
    have ek : ¬ x.kind = 44 := by omega
    have eN : nextK P (x :: l) = x.kind := rfl
    rw [eN]
    have eB : exB P (x :: l) ++ P.pay = putT (nextK P l).toNat 1 ++ (putT ((2 + x.body.size) / 8 - 1) 1 ++ (x.body ++ (exB P l ++ P.pay))) := by
      show putT (nextK P l).toNat 1 ++ putT ((2 + x.body.size) / 8 - 1) 1 ++ x.body ++ exB P l ++ P.pay = _
      simp only [app_assoc]
    generalize hR : exB P l ++ P.pay = R at *
    rw [eB]
    have t0 : txt (putT (nextK P l).toNat 1 ++ (putT ((2 + x.body.size) / 8 - 1) 1 ++ (x.body ++ R))) 0 = nextK P l := by
      rw [txt_left _ _ (by rw [putT_size]; decide), put_one (by omega)]
      omega
    have t1 : txt (putT (nextK P l).toNat 1 ++ (putT ((2 + x.body.size) / 8 - 1) 1 ++ (x.body ++ R))) 1 = (((2 + x.body.size) / 8 - 1 : Nat) : Int) := by
      have := txt_right (putT (nextK P l).toNat 1) (putT ((2 + x.body.size) / 8 - 1) 1 ++ (x.body ++ R)) (putT_size _ _) (j := 0)
      rw [this, txt_left _ _ (by rw [putT_size]; decide), put_one (by omega)]
    have hsz : (putT (nextK P l).toNat 1 ++ (putT ((2 + x.body.size) / 8 - 1) 1 ++ (x.body ++ R))).size = 2 + x.body.size + R.size := by simp only [ByteArray.size_append, putT_size]; omega
    rw [t0, t1, Int.toNat_natCast, hsz]
    have eM : ((2 + x.body.size) / 8 - 1 + 1) * 8 = 2 + x.body.size := by omega
    rw [eM]
    have hA : (putT (nextK P l).toNat 1 ++ putT ((2 + x.body.size) / 8 - 1) 1).size = 2 := by simp only [ByteArray.size_append, putT_size]
    have eb : (putT (nextK P l).toNat 1 ++ (putT ((2 + x.body.size) / 8 - 1) 1 ++ (x.body ++ R))).extract 2 (2 + x.body.size) = x.body := by
      rw [← app_assoc]
      have := cutP_right (putT (nextK P l).toNat 1 ++ putT ((2 + x.body.size) / 8 - 1) 1) (x.body ++ R) (a := 0) (e := x.body.size) hA (by rw [ByteArray.size_append]; omega)
      rw [this, cutP_left _ _ (Nat.le_refl _), cutP_all]
    have er : (putT (nextK P l).toNat 1 ++ (putT ((2 + x.body.size) / 8 - 1) 1 ++ (x.body ++ R))).extract (2 + x.body.size) (2 + x.body.size + R.size) = R := by
      rw [← app_assoc, ← app_assoc]
      have hA2 : (putT (nextK P l).toNat 1 ++ putT ((2 + x.body.size) / 8 - 1) 1 ++ x.body).size = 2 + x.body.size := by rw [ByteArray.size_append, hA]
      have := cutP_right (putT (nextK P l).toNat 1 ++ putT ((2 + x.body.size) / 8 - 1) 1 ++ x.body) R (a := 0) (e := R.size) hA2 (Nat.le_refl _)
      rw [Nat.add_zero] at this
      rw [this, cutP_all]
    rw [eb, er, e1, e2, if_neg (by decide), if_neg (by simp), if_neg (by omega), if_neg ek, if_neg (by omega), ih, List.append_assoc, List.singleton_append]
theorem hd6_size {P : Pk} (h : rgtP P = true) (h6 : P.sv = true) : (hd6 P).size = 40 := by
  obtain ⟨h1, h2, h3, _⟩ := rgtP_iff.1 h
  have hd : P.dv = true := by rw [← h3]; exact h6
  have z1 := bytT_len h1
  have z2 := bytT_len h2
  rw [if_pos h6] at z1
  rw [if_pos hd] at z2
  unfold hd6
  simp only [ByteArray.size_append, putT_size, z1, z2]
theorem six_size {P : Pk} (h : rgtP P = true) (h6 : P.sv = true) : (sixB P).size = headP P + P.pay.size := by
  have h40 := hd6_size h h6
  obtain ⟨h1, h2, h3, _, _, _, _, _, hr⟩ := rgtP_iff.1 h
  rw [if_pos h6] at hr
  obtain ⟨_, _, _, hx, _⟩ := rgt6_iff.1 hr
  unfold sixB headP
  rw [if_pos h6]
  simp only [ByteArray.size_append, h40, exB_size hx]
  omega
theorem a4_size (P : Pk) : (a4 P).size = 10 := by unfold a4; simp only [ByteArray.size_append, putT_size]
theorem b4_size {P : Pk} (h : rgtP P = true) (h4 : P.sv = false) : (b4 P).size = 8 + P.opts.size := by
  obtain ⟨h1, h2, h3, _⟩ := rgtP_iff.1 h
  have hd : P.dv = false := by rw [← h3]; exact h4
  have z1 := bytT_len h1
  have z2 := bytT_len h2
  rw [if_neg (by rw [h4]; decide)] at z1
  rw [if_neg (by rw [hd]; decide)] at z2
  unfold b4
  simp only [ByteArray.size_append, z1, z2]
theorem four_size {P : Pk} (h : rgtP P = true) (h4 : P.sv = false) : (fourB P).size = headP P + P.pay.size := by
  unfold fourB headP
  rw [if_neg (by rw [h4]; decide)]
  simp only [ByteArray.size_append, a4_size, b4_size h h4, putT_size]
  omega
theorem bld_size {P : Pk} (h : rgtP P = true) (hf : fitP P = true) : (bldT P).size = sizeP P := by
  unfold bldT sizeP
  rw [h, hf, if_pos (by decide), if_pos rfl]
  cases h6 : P.sv
  · rw [if_neg (by decide)]; exact four_size h h6
  · rw [if_pos rfl]; exact six_size h h6
/-- What the first forty bytes say. -/
theorem hd6_says {P : Pk} (h : rgtP P = true) (hf : fitP P = true) (h6 : P.sv = true) (R : ByteArray) :
    (txt (hd6 P ++ R) 0).toNat / 16 = 6 ∧ getN (txt (hd6 P ++ R)) 0 4 = 1610612736 + P.cls.toNat * 1048576 + P.flow.toNat ∧ getN (txt (hd6 P ++ R)) 4 2 = headP P + P.pay.size - 40 ∧ txt (hd6 P ++ R) 6 = nextK P P.exts ∧ txt (hd6 P ++ R) 7 = P.hop ∧ (hd6 P ++ R).extract 8 24 = bytT P.sv P.sb ∧ (hd6 P ++ R).extract 24 40 = bytT P.dv P.db := by
  have h40 := hd6_size h h6
  obtain ⟨h1, h2, h3, hpr, hho, hcl, hof, ho8, hr⟩ := rgtP_iff.1 h
  rw [if_pos h6] at hr
  obtain ⟨hfl, _, _, hx, hp, _⟩ := rgt6_iff.1 hr
  obtain ⟨k0, k1, _⟩ := exsOk_kind hp hx hpr
  have hd : P.dv = true := by rw [← h3]; exact h6
  have z1 := bytT_len h1
  have z2 := bytT_len h2
  rw [if_pos h6] at z1
  rw [if_pos hd] at z2
  have hfi : headP P + P.pay.size ≤ 65575 := by
    unfold fitP at hf
    rw [if_pos h6] at hf
    simpa using hf
  have hN : 1610612736 + P.cls.toNat * 1048576 + P.flow.toNat < 256 ^ 4 := by
    have : (256 : Nat) ^ 4 = 4294967296 := rfl
    omega
  have e0 : getN (txt (hd6 P ++ R)) 0 4 = 1610612736 + P.cls.toNat * 1048576 + P.flow.toNat := by
    rw [getN_left _ _ (by omega)]
    unfold hd6
    rw [app_assoc, app_assoc, app_assoc, app_assoc, get_putP (by decide) hN]
  have e4 : getN (txt (hd6 P ++ R)) 4 2 = headP P + P.pay.size - 40 := by
    rw [getN_left _ _ (by omega)]
    unfold hd6
    rw [app_assoc, app_assoc, app_assoc, app_assoc]
    have := getN_right (putT (1610612736 + P.cls.toNat * 1048576 + P.flow.toNat) 4) (putT (headP P + P.pay.size - 40) 2 ++ (putT (nextK P P.exts).toNat 1 ++ (putT P.hop.toNat 1 ++ (bytT P.sv P.sb ++ bytT P.dv P.db)))) (n := 4) (a := 0) (z := 2) (putT_size _ _)
    rw [this, get_putP (by decide) (by omega)]
  have e6 : txt (hd6 P ++ R) 6 = nextK P P.exts := by
    rw [txt_left _ _ (by omega)]
    unfold hd6
    rw [app_assoc, app_assoc, app_assoc]
    have := txt_right (putT (1610612736 + P.cls.toNat * 1048576 + P.flow.toNat) 4 ++ putT (headP P + P.pay.size - 40) 2) (putT (nextK P P.exts).toNat 1 ++ (putT P.hop.toNat 1 ++ (bytT P.sv P.sb ++ bytT P.dv P.db))) (n := 6) (j := 0) (by simp only [ByteArray.size_append, putT_size])
    rw [this, txt_left _ _ (by rw [putT_size]; decide), put_one (by omega)]
    omega
  have e7 : txt (hd6 P ++ R) 7 = P.hop := by
    rw [txt_left _ _ (by omega)]
    unfold hd6
    rw [app_assoc, app_assoc]
    have := txt_right (putT (1610612736 + P.cls.toNat * 1048576 + P.flow.toNat) 4 ++ putT (headP P + P.pay.size - 40) 2 ++ putT (nextK P P.exts).toNat 1) (putT P.hop.toNat 1 ++ (bytT P.sv P.sb ++ bytT P.dv P.db)) (n := 7) (j := 0) (by simp only [ByteArray.size_append, putT_size])
    rw [this, txt_left _ _ (by rw [putT_size]; decide), put_one (by omega)]
    omega
  refine ⟨?_, e0, e4, e6, e7, ?_, ?_⟩
  · have g := getN_high (fun j => txt_b (hd6 P ++ R) j) 0 4 1 (by decide)
    rw [e0, getN_one] at g
    have e256 : (256 : Nat) ^ (4 - 1) = 16777216 := rfl
    rw [e256] at g
    rw [← g]
    omega
  · rw [cutP_left _ _ (by omega)]
    unfold hd6
    rw [app_assoc]
    have := cutP_right (putT (1610612736 + P.cls.toNat * 1048576 + P.flow.toNat) 4 ++ putT (headP P + P.pay.size - 40) 2 ++ putT (nextK P P.exts).toNat 1 ++ putT P.hop.toNat 1) (bytT P.sv P.sb ++ bytT P.dv P.db) (n := 8) (a := 0) (e := 16) (by simp only [ByteArray.size_append, putT_size]) (by rw [ByteArray.size_append]; omega)
    rw [this, cutP_left _ _ (by omega)]
    have := cutP_all (bytT P.sv P.sb)
    rwa [z1] at this
  · rw [cutP_left _ _ (by omega)]
    unfold hd6
    have := cutP_right (putT (1610612736 + P.cls.toNat * 1048576 + P.flow.toNat) 4 ++ putT (headP P + P.pay.size - 40) 2 ++ putT (nextK P P.exts).toNat 1 ++ putT P.hop.toNat 1 ++ bytT P.sv P.sb) (bytT P.dv P.db) (n := 24) (a := 0) (e := 16) (by simp only [ByteArray.size_append, putT_size, z1]) (by omega)
    rw [this]
    have := cutP_all (bytT P.dv P.db)
    rwa [z2] at this
theorem back6 {P : Pk} (hO : PkOk P) (h : rgtP P = true) (hf : fitP P = true) (hs6 : P.sv = true) (rest : ByteArray) : ∃ Q, rdP (sixB P ++ rest) = .ok Q ∧ samP P Q = true := by
  have h40 := hd6_size h hs6
  have hz := six_size h hs6
  obtain ⟨s0, sN, s4, s6, s7, ss, sd⟩ := hd6_says h hf hs6 (exB P P.exts ++ P.pay ++ rest)
  have hB : sixB P ++ rest = hd6 P ++ (exB P P.exts ++ P.pay ++ rest) := by unfold sixB; rw [app_assoc, app_assoc, app_assoc]
  obtain ⟨h1, h2, h3, hpr, hho, hcl, hof, ho8, hr⟩ := rgtP_iff.1 h
  rw [if_pos hs6] at hr
  obtain ⟨hfl, hop, hst, hx, hp, hid, hcu⟩ := rgt6_iff.1 hr
  have hd : P.dv = true := by rw [← h3]; exact hs6
  have hx2 := exB_size (P := P) hx
  have hhead : headP P = 40 + exLen P.exts + (if P.cut = true then 8 else 0) := by unfold headP; rw [if_pos hs6]
  have hE : (exB P P.exts ++ P.pay).size = headP P + P.pay.size - 40 := by rw [ByteArray.size_append, hx2]; omega
  rw [← hB] at s0 sN s4 s6 s7 ss sd
  have hsz : (sixB P ++ rest).size = headP P + P.pay.size + rest.size := by rw [ByteArray.size_append, hz]
  have hR : (sixB P ++ rest).extract 40 (40 + (headP P + P.pay.size - 40)) = exB P P.exts ++ P.pay := by
    rw [hB, ← hE]
    have := cutP_right (hd6 P) (exB P P.exts ++ P.pay ++ rest) (n := 40) (a := 0) (e := (exB P P.exts ++ P.pay).size) h40 (by rw [ByteArray.size_append (a := exB P P.exts ++ P.pay) (b := rest)]; omega)
    rw [this, cutP_left _ _ (Nat.le_refl _), cutP_all]
  unfold rdP
  rw [if_neg (by omega), s0, if_neg (by decide), if_neg (by have := h40; have := hz; omega), if_neg (by decide), s4, if_neg (by omega), s6, hR]
  rw [rdEx_exB hp hpr hof ho8 hid rfl rfl rfl rfl hcu P.exts [] 5 hx (by
    rcases exsOk_len hx with e | e
    · rw [e]; decide
    · omega)]
  refine ⟨_, rfl, ?_⟩
  rw [samP_iff]
  unfold h6
  simp only [ss, sd, sN, s7, List.nil_append]
  refine ⟨hs6, fun i hi => (frB_byt hO.sb h1 hi).symm, hd, fun i hi => (frB_byt hO.db h2 hi).symm, trivial, trivial, by omega, trivial, trivial, trivial, hst, ?_, by omega, trivial, trivial, trivial⟩
  exact txt_ext (by rw [hop]; rfl) (fun j hj => by omega)
theorem sum_nat (T : ByteArray) : ((sumT T).toNat : Int) = sumT T ∧ (sumT T).toNat < 65536 := by
  have := sumT_b T
  omega
/-- What a header of version 4 says. -/
theorem four_says {P : Pk} (h : rgtP P = true) (hf : fitP P = true) (h4 : P.sv = false) (R : ByteArray) :
    txt (fourB P ++ R) 0 = ((64 + headP P / 4 : Nat) : Int) ∧ txt (fourB P ++ R) 1 = P.cls ∧ getN (txt (fourB P ++ R)) 2 2 = headP P + P.pay.size ∧ getN (txt (fourB P ++ R)) 4 2 = P.id.toNat ∧ getN (txt (fourB P ++ R)) 6 2 = P.off.toNat / 8 + bN P.more 8192 + bN P.still 16384 ∧ txt (fourB P ++ R) 8 = P.hop ∧ txt (fourB P ++ R) 9 = P.proto ∧ (fourB P ++ R).extract 0 10 = a4 P ∧ getN (txt (fourB P ++ R)) 10 2 = (sumT (a4 P ++ b4 P)).toNat ∧ (fourB P ++ R).extract 12 (headP P) = b4 P := by
  obtain ⟨h1, h2, h3, hpr, hho, hcl, hof, ho8, hr⟩ := rgtP_iff.1 h
  rw [if_neg (by rw [h4]; decide)] at hr
  obtain ⟨hid, _, hop, _⟩ := rgt4_iff.1 hr
  have z4 := b4_size h h4
  have hh : headP P = 20 + P.opts.size := by unfold headP; rw [if_neg (by rw [h4]; decide)]
  have hfi : headP P + P.pay.size ≤ 65535 := by
    unfold fitP at hf
    rw [if_neg (by rw [h4]; decide)] at hf
    simpa using hf
  have hm := bN_lt P.more 8192
  have hs := bN_lt P.still 16384
  have hB : fourB P ++ R = a4 P ++ (putT (sumT (a4 P ++ b4 P)).toNat 2 ++ (b4 P ++ (P.pay ++ R))) := by unfold fourB; rw [app_assoc, app_assoc, app_assoc]
  have hA : a4 P = putT (64 + headP P / 4) 1 ++ (putT P.cls.toNat 1 ++ (putT (headP P + P.pay.size) 2 ++ (putT P.id.toNat 2 ++ (putT (P.off.toNat / 8 + bN P.more 8192 + bN P.still 16384) 2 ++ (putT P.hop.toNat 1 ++ putT P.proto.toNat 1))))) := by unfold a4; simp only [app_assoc]
  have hsu := sum_nat (a4 P ++ b4 P)
  have za := a4_size P
  rw [hB]
  refine ⟨?_, ?_, ?_, ?_, ?_, ?_, ?_, ?_, ?_, ?_⟩
  · rw [txt_left _ _ (by omega), hA, txt_left _ _ (by rw [putT_size]; decide), put_one (by omega)]
  · rw [txt_left _ _ (by omega), hA, txt_right _ _ (n := 1) (j := 0) (putT_size _ _), txt_left _ _ (by rw [putT_size]; decide), put_one (by omega)]
    omega
  · rw [getN_left _ _ (by omega), hA, getN_right _ _ (n := 1) (a := 1) (putT_size _ _), getN_right _ _ (n := 1) (a := 0) (putT_size _ _), get_putP (by decide) (by omega)]
  · rw [getN_left _ _ (by omega), hA, getN_right _ _ (n := 1) (a := 3) (putT_size _ _), getN_right _ _ (n := 1) (a := 2) (putT_size _ _), getN_right _ _ (n := 2) (a := 0) (putT_size _ _), get_putP (by decide) (by omega)]
  · rw [getN_left _ _ (by omega), hA, getN_right _ _ (n := 1) (a := 5) (putT_size _ _), getN_right _ _ (n := 1) (a := 4) (putT_size _ _), getN_right _ _ (n := 2) (a := 2) (putT_size _ _), getN_right _ _ (n := 2) (a := 0) (putT_size _ _), get_putP (by decide) (by omega)]
  · rw [txt_left _ _ (by omega), hA, txt_right _ _ (n := 1) (j := 7) (putT_size _ _), txt_right _ _ (n := 1) (j := 6) (putT_size _ _), txt_right _ _ (n := 2) (j := 4) (putT_size _ _), txt_right _ _ (n := 2) (j := 2) (putT_size _ _), txt_right _ _ (n := 2) (j := 0) (putT_size _ _), txt_left _ _ (by rw [putT_size]; decide), put_one (by omega)]
    omega
  · rw [txt_left _ _ (by omega), hA, txt_right _ _ (n := 1) (j := 8) (putT_size _ _), txt_right _ _ (n := 1) (j := 7) (putT_size _ _), txt_right _ _ (n := 2) (j := 5) (putT_size _ _), txt_right _ _ (n := 2) (j := 3) (putT_size _ _), txt_right _ _ (n := 2) (j := 1) (putT_size _ _), txt_right _ _ (n := 1) (j := 0) (putT_size _ _), put_one (by omega)]
    omega
  · rw [cutP_left _ _ (by omega), ← za, cutP_all]
  · rw [getN_right _ _ (n := 10) (a := 0) za, get_putP (by decide) (by omega)]
  · rw [hh, show 12 = 10 + 2 by rfl, show 20 + P.opts.size = 10 + (10 + P.opts.size) by omega, cutP_right _ _ za (by simp only [ByteArray.size_append, putT_size]; omega), show 10 + P.opts.size = 2 + (8 + P.opts.size) by omega]
    have := cutP_right (putT (sumT (a4 P ++ b4 P)).toNat 2) (b4 P ++ (P.pay ++ R)) (n := 2) (a := 0) (e := 8 + P.opts.size) (putT_size _ _) (by rw [ByteArray.size_append]; omega)
    rw [this, cutP_left _ _ (by omega), ← z4, cutP_all]
theorem back4 {P : Pk} (hO : PkOk P) (h : rgtP P = true) (hf : fitP P = true) (h4 : P.sv = false) (rest : ByteArray) : ∃ Q, rdP (fourB P ++ rest) = .ok Q ∧ samP P Q = true := by
  obtain ⟨s0, s1, s2, s4, s6, s8, s9, sa, ss, sb⟩ := four_says h hf h4 rest
  obtain ⟨h1, h2, h3, hpr, hho, hcl, hof, ho8, hr⟩ := rgtP_iff.1 h
  rw [if_neg (by rw [h4]; decide)] at hr
  obtain ⟨hid, ho4, hop, hfl, hex, hcu⟩ := rgt4_iff.1 hr
  have hd : P.dv = false := by rw [← h3]; exact h4
  have hz := four_size h h4
  have z4 := b4_size h h4
  have hh : headP P = 20 + P.opts.size := by unfold headP; rw [if_neg (by rw [h4]; decide)]
  have hsz : (fourB P ++ rest).size = headP P + P.pay.size + rest.size := by rw [ByteArray.size_append, hz]
  have z1 := bytT_len h1
  have z2 := bytT_len h2
  rw [if_neg (by rw [h4]; decide)] at z1
  rw [if_neg (by rw [hd]; decide)] at z2
  have b1 : (fourB P ++ rest).extract 12 16 = bytT P.sv P.sb := by
    have := cutP_cut (fourB P ++ rest) (a := 12) (e := headP P) (b := 0) (f := 4) (by omega) (by omega)
    rw [sb] at this
    rw [← this]
    unfold b4
    rw [app_assoc, cutP_left _ _ (by omega), ← z1, cutP_all]
  have b2 : (fourB P ++ rest).extract 16 20 = bytT P.dv P.db := by
    have := cutP_cut (fourB P ++ rest) (a := 12) (e := headP P) (b := 4) (f := 8) (by omega) (by omega)
    rw [sb] at this
    rw [← this]
    unfold b4
    rw [app_assoc, cutP_right _ _ (n := 4) (a := 0) (e := 4) z1 (by rw [ByteArray.size_append]; omega), cutP_left _ _ (by omega), ← z2, cutP_all]
  have b3 : (fourB P ++ rest).extract 20 (headP P) = P.opts := by
    have := cutP_cut (fourB P ++ rest) (a := 12) (e := headP P) (b := 8) (f := 8 + P.opts.size) (by omega) (by omega)
    rw [sb] at this
    rw [show headP P = 12 + (8 + P.opts.size) by omega, ← this]
    unfold b4
    rw [cutP_right _ _ (n := 8) (a := 0) (e := P.opts.size) (by rw [ByteArray.size_append, z1, z2]) (Nat.le_refl _), cutP_all]
  have b5 : (fourB P ++ rest).extract (headP P) (headP P + P.pay.size) = P.pay := by
    have hq : (a4 P ++ putT (sumT (a4 P ++ b4 P)).toNat 2 ++ b4 P).size = headP P := by simp only [ByteArray.size_append, a4_size, putT_size, z4]; omega
    unfold fourB
    rw [app_assoc (a4 P ++ putT (sumT (a4 P ++ b4 P)).toNat 2 ++ b4 P)]
    have := cutP_right (a4 P ++ putT (sumT (a4 P ++ b4 P)).toNat 2 ++ b4 P) (P.pay ++ rest) (n := headP P) (a := 0) (e := P.pay.size) hq (by rw [ByteArray.size_append]; omega)
    rw [Nat.add_zero] at this
    rw [this, cutP_left _ _ (Nat.le_refl _), cutP_all]
  have e0 : (((64 + headP P / 4 : Nat) : Int)).toNat = 64 + headP P / 4 := Int.toNat_natCast _
  have hq4 : (64 + headP P / 4) / 16 = 4 := by omega
  have hq5 : (64 + headP P / 4) % 16 * 4 = headP P := by omega
  have hsu := sum_nat (a4 P ++ b4 P)
  unfold rdP rd4
  simp only [s0, e0, hq4, hq5, s2, sa, sb, ss, s6]
  rw [if_neg (by omega), if_neg (by decide), if_neg (by omega), if_pos trivial, if_neg (by omega), if_neg (by rw [hsu.1]; simp), if_neg (by have := bN_lt P.more 8192; have := bN_lt P.still 16384; omega)]
  refine ⟨_, rfl, ?_⟩
  rw [samP_iff]
  simp only [s1, s4, s8, s9, b1, b2, b3, b5]
  refine ⟨h4, fun i hi => (frB_byt hO.sb h1 hi).symm, hd, fun i hi => (frB_byt hO.db h2 hi).symm, trivial, trivial, trivial, by omega, ?_, ?_, ?_, trivial, hfl, hex, hcu, trivial⟩
  · unfold bN
    split <;> split <;> omega
  · cases P.more <;> cases P.still <;> simp [bN] <;> omega
  · cases P.more <;> cases P.still <;> simp [bN] <;> omega
/-- What was built is read again, whatever stands behind. -/
theorem rd_bld {P : Pk} (hO : PkOk P) (h : rgtP P = true) (hf : fitP P = true) (rest : ByteArray) : ∃ Q, rdP (bldT P ++ rest) = .ok Q ∧ samP P Q = true := by
  unfold bldT
  rw [h, hf, if_pos (by decide)]
  cases h6 : P.sv
  · rw [if_neg (by decide)]; exact back4 hO h hf h6 rest
  · rw [if_pos rfl]; exact back6 hO h hf h6 rest
end Go.Proofs.YtojekoakgpkkdaaDoor
/-
  Own text. Which packets may be: Right of the program and of the document.
-/
namespace Go.Proofs.YtojekoakgpkkdaaDoor
open Go.RowKit Go.Proofs
set_option maxRecDepth 100000
theorem exsOk_step {l : List Ex} {x : Ex} {i j : Nat} (hx : l[i]? = some x) : exsOk (l.drop i) j = (exOk x j && exsOk (l.drop (i + 1)) (j + 1)) := by
  have h1 := (List.getElem?_eq_some_iff.1 hx)
  rw [List.drop_eq_getElem_cons h1.1, h1.2]
  rfl
theorem exOk_code (x : Ex) (i : Nat) : ((!isEx x.kind || !mayB x.kind i) || !decide ((((2 + x.body.size) % 8 : Nat) : Int) = 0) || decide ((2046 : Int) < (x.body.size : Int))) = !exOk x i := by
  unfold exOk
  have e1 : decide ((((2 + x.body.size) % 8 : Nat) : Int) = 0) = decide (x.body.size % 8 = 6) := by congr 1; exact propext ⟨fun h => by omega, fun h => by omega⟩
  have e2 : decide ((2046 : Int) < (x.body.size : Int)) = !decide (x.body.size ≤ 2046) := by
    by_cases h : x.body.size ≤ 2046
    · rw [decide_eq_true h, decide_eq_false (by omega)]; rfl
    · rw [decide_eq_false h, decide_eq_true (by omega)]; rfl
  rw [e1, e2]
  cases isEx x.kind <;> cases mayB x.kind i <;> cases decide (x.body.size % 8 = 6) <;> cases decide (x.body.size ≤ 2046) <;> rfl
theorem wl_allocEx {ops : Array Oper} {rest : List Oper} {o : Oper} {a : Act} {w : World} {Q : Exit → Act → World → Prop} (ho : o.op = .alloc 88) (hgd : Region.wanted o (yielded ops a.tmps) = true)
    (h : ∀ g w', w.heap.size ≤ g → SAt w' g 88 2 (exV ⟨0, ByteArray.empty⟩) → Below w.heap.size w w' → wpList Tryd.prog ops Q rest (a.put o.dst (.pointer (some ⟨g, 0, none⟩))) w') : wpList Tryd.prog ops Q (o :: rest) a w := wl_alO ho hgd zeroEx h
set_option maxHeartbeats 8000000 in
theorem rightExts_run (v : Value) (l : List Ex) (w : World) (h1 : ExAt w v l) (hn : l.length < 4611686018427387904) (hb : ∀ x ∈ l, x.body.size ≤ 140737488355328) : Calls Tryd.prog 75 #[v] w fun e w' => e = .returned (.bool (exsOk l 0)) ∧ Below w.heap.size w w' := by
  obtain ⟨a1, c1, rfl, _⟩ := id h1
  have HR : Hid (exsOk l 0 = exsOk (l.drop 0) 0) := Hid.mk (by rw [List.drop_zero])
  have HE : Hid (∀ j, exsOk (l.drop l.length) j = true) := Hid.mk (fun j => by rw [List.drop_length]; rfl)
  have HB := Hid.mk hb
  clear hb
  generalize exsOk l 0 = r at *
  obtain ⟨n, hnn⟩ : ∃ n, l.length = n := ⟨_, rfl⟩
  have HN := Hid.mk hnn
  rw [hnn] at h1 hn HE ⊢
  clear hnn
  go_enter Tryd.func75, Tryd.ntmps75
  go_wp2_with fail
  go_loopg [8] n (fun gm s8 z => ∃ i : Nat, Hid (gm + i = n) ∧ s8 = .int .i64 (i : Int) ∧ Hid (r = exsOk (l.drop i) i) ∧ Below w.heap.size w z)
  case atStart => exact ⟨0, Hid.mk rfl, rfl, HR, Below.refl _ _⟩
  case round =>
    obtain ⟨i, HI, rfl, HRi, hBz⟩ := hrel
    by_cases hil : i < n
    · have hili : (i : Int) < (n : Int) := by omega
      obtain ⟨x, hx⟩ := list_at (l := l) (i := i) (by rw [HN.out]; exact hil)
      have HS := Hid.mk (exsOk_step (j := i) hx)
      have HZ : Hid (2 + x.body.size < 9223372036854775808) := Hid.mk (by have := HB.out x (List.mem_of_getElem? hx); omega)
      obtain ⟨p1, rfl, k1, k1b⟩ := h1.sl hBz hx
      have H1 := Hid.mk hil
      have hld := ldEx (e := x) k1 k1b
      go_wp2_with (first | (refine wl_value rfl (exec_ixE (i := i) rfl (by rfl) (by rfl) H1.out) ?_) | (refine wl_value rfl (exec_ld rfl (by rfl) hld) ?_) | (refine wl_allocEx rfl rfl ?_; intro g4 y1 hg4 q4 hC1; refine Hid.out ?_))
      refine Hid.mk ?_
      have hg4w : w.heap.size ≤ g4 := by have := hBz.size; omega
      go_wp2_with (refine st_stO rfl rfl isEx2 (exV_one _) q4 (by rfl) (by rfl) ?_; intro y2 r4 o4; refine Hid.out ?_)
      refine Hid.mk ?_
      have hBy : Below w.heap.size w y2 := (hBz.trans (hC1.mono hBz.size)).trans (o4.below hg4w)
      go_upto_region 4 with fail
      refine wp_plain_steps (Below y2.heap.size y2) (fun v v' => Below v.heap.size v v') (fun j vv _ => vv = ([.pointer (some ⟨g4, 1, none⟩), .string x.body, .int .i64 (x.body.size : Int), .int .i64 ((2 + x.body.size : Nat) : Int), .int .i64 (((2 + x.body.size) % 8 : Nat) : Int), .bool (decide ((((2 + x.body.size) % 8 : Nat) : Int) = 0)), .bool (decide ((((2 + x.body.size) % 8 : Nat) : Int) = 0))] : List Value).getD j undef)
          [13, 14, 15, 16, 17, 18, 5]
          [(4, .pointer (some ⟨g4, 0, none⟩))] [] 0
          [[], [0], [1], [2], [3], [4], [5]]
          (by kernel_rfl) ⟨rfl, trivial⟩ trivial (Below.refl _ _) (fun v v' h hb => h.trans (hb.mono h.size)) (fun _ _ _ _ h _ => h)
          ⟨
          (fun QQ aa ww hS fr kn => sg0 rfl (fun K hK => wp_value (exec_fexG 1 (by decide) rfl fr.1) (hK _ _ rfl (Below.refl _ _)))),
          (fun QQ aa ww hS fr kn => sg0 rfl (fun K hK => wp_value (exec_ld rfl kn.1 (ldPs (ex_body (SAt.kept r4 hS)))) (hK _ _ rfl (Below.refl _ _)))),
          (fun QQ aa ww hS fr kn => sg0 rfl (fun K hK => wp_value (exec_lenS rfl kn.1) (hK _ _ rfl (Below.refl _ _)))),
          (fun QQ aa ww hS fr kn => sg0 rfl (fun K hK => wp_value (exec_addW (i := 2) (m := x.body.size) rfl rfl kn.1 rfl HZ.out) (hK _ _ rfl (Below.refl _ _)))),
          (fun QQ aa ww hS fr kn => sg0 rfl (fun K hK => wp_value (exec_remW (i := 2 + x.body.size) (m := 8) rfl kn.1 rfl rfl (by decide)) (hK _ _ rfl (Below.refl _ _)))),
          (fun QQ aa ww hS fr kn => sg0 rfl (fun K hK => wp_value (cmp_eq (m := (((2 + x.body.size) % 8 : Nat) : Int)) (n := 0) rfl kn.1 rfl) (hK _ _ rfl (Below.refl _ _)))),
          (fun QQ aa ww hS fr kn => sg0 rfl (fun K hK => wp_value (exec_assign rfl kn.1) (hK _ _ rfl (Below.refl _ _)))),
          trivial⟩ ?_
      intro vs y3 hB3 kn
      have e5 : vs 5 = .bool (decide ((((2 + x.body.size) % 8 : Nat) : Int) = 0)) := kn 6 (by decide)
      clear kn
      simp only [putAll, Act.put, List.setIfInBounds_toArray, List.set_cons_zero, List.set_cons_succ, e5]
      clear e5
      have r5 := SAt.kept r4 hB3
      have hBx := hBy.trans (hB3.mono hBy.size)
      go_upto_region 5 with fail
      refine wp_plain_steps (Below y3.heap.size y3) (fun v v' => Below v.heap.size v v') (fun j vv _ => vv = ([.pointer (some ⟨g4, 0, none⟩), .int .i64 x.kind, .bool (isEx x.kind), .bool (!(isEx x.kind)), .bool (!(isEx x.kind)), gv (!(!(isEx x.kind))) (.pointer (some ⟨g4, 0, none⟩)), gv (!(!(isEx x.kind))) (.int .i64 x.kind), gv (!(!(isEx x.kind))) (.int .i64 (i : Int)), gv (!(!(isEx x.kind))) (.bool (mayB x.kind i)), gv (!(!(isEx x.kind))) (.bool (!(mayB x.kind i))), .bool ((!(isEx x.kind)) || (!(mayB x.kind i))), .bool ((!(isEx x.kind)) || (!(mayB x.kind i))), gv (!((!(isEx x.kind)) || (!(mayB x.kind i)))) (.bool (decide ((((2 + x.body.size) % 8 : Nat) : Int) = 0))), gv (!((!(isEx x.kind)) || (!(mayB x.kind i)))) (.bool (!(decide ((((2 + x.body.size) % 8 : Nat) : Int) = 0)))), .bool (((!(isEx x.kind)) || (!(mayB x.kind i))) || (!(decide ((((2 + x.body.size) % 8 : Nat) : Int) = 0)))), .bool (((!(isEx x.kind)) || (!(mayB x.kind i))) || (!(decide ((((2 + x.body.size) % 8 : Nat) : Int) = 0)))), gv (!(((!(isEx x.kind)) || (!(mayB x.kind i))) || (!(decide ((((2 + x.body.size) % 8 : Nat) : Int) = 0))))) (.pointer (some ⟨g4, 1, none⟩)), gv (!(((!(isEx x.kind)) || (!(mayB x.kind i))) || (!(decide ((((2 + x.body.size) % 8 : Nat) : Int) = 0))))) (.string x.body), gv (!(((!(isEx x.kind)) || (!(mayB x.kind i))) || (!(decide ((((2 + x.body.size) % 8 : Nat) : Int) = 0))))) (.int .i64 (x.body.size : Int)), gv (!(((!(isEx x.kind)) || (!(mayB x.kind i))) || (!(decide ((((2 + x.body.size) % 8 : Nat) : Int) = 0))))) (.bool (decide (2046 < (x.body.size : Int)))), .bool ((((!(isEx x.kind)) || (!(mayB x.kind i))) || (!(decide ((((2 + x.body.size) % 8 : Nat) : Int) = 0)))) || (decide (2046 < (x.body.size : Int))))] : List Value).getD j undef)
          [19, 20, 21, 22, 23, 24, 25, 26, 27, 28, 29, 30, 31, 32, 33, 34, 35, 36, 37, 38, 39]
          [(4, .pointer (some ⟨g4, 0, none⟩)), (3, .int .i64 (i : Int)), (5, .bool (decide ((((2 + x.body.size) % 8 : Nat) : Int) = 0)))] [] 0
          [[], [0], [1], [2], [3], [4], [4, 5], [4], [4, 6, 7], [4, 8], [4, 9], [10], [11], [11, 12], [11, 13], [14], [15], [15, 16], [15, 17], [15, 18], [15, 19]]
          (by kernel_rfl) ⟨rfl, rfl, rfl, trivial⟩ trivial (Below.refl _ _) (fun v v' h hb => h.trans (hb.mono h.size)) (fun _ _ _ _ h _ => h)
          ⟨
          (fun QQ aa ww hS fr kn => sg0 rfl (fun K hK => wp_value (exec_fexG 0 (by decide) rfl fr.1) (hK _ _ rfl (Below.refl _ _)))),
          (fun QQ aa ww hS fr kn => sg0 rfl (fun K hK => wp_value (exec_ld rfl kn.1 (ldP (ex_kind (SAt.kept r5 hS)))) (hK _ _ rfl (Below.refl _ _)))),
          (fun QQ aa ww hS fr kn => sg0 rfl (fun K hK => stepc en_isExt rfl (args1 kn.1) (isExt_run x.kind ww) (fun w' hb => hK _ _ rfl hb))),
          (fun QQ aa ww hS fr kn => sg0 rfl (fun K hK => wp_value (exec_notB rfl kn.1) (hK _ _ rfl (Below.refl _ _)))),
          (fun QQ aa ww hS fr kn => sg0 rfl (fun K hK => wp_value (exec_move rfl kn.1) (hK _ _ rfl (Below.refl _ _)))),
          (fun QQ aa ww hS fr kn => sgF rfl kn.1 (fun hng K hK => have hc := nt_t hng; wp_value (exec_fexG 0 (by decide) rfl fr.1) (hK _ _ (gv_t hc).symm (Below.refl _ _))) (fun h0 => (gv_f (nt_f h0)).symm)),
          (fun QQ aa ww hS fr kn => sgF rfl kn.1 (fun hng K hK => have hc := nt_t hng; wp_value (exec_ld rfl (kn.2.1.trans (gv_t hc)) (ldP (ex_kind (SAt.kept r5 hS)))) (hK _ _ (gv_t hc).symm (Below.refl _ _))) (fun h0 => (gv_f (nt_f h0)).symm)),
          (fun QQ aa ww hS fr kn => sgF rfl kn.1 (fun hng K hK => have hc := nt_t hng; wp_value (exec_move rfl fr.2.1) (hK _ _ (gv_t hc).symm (Below.refl _ _))) (fun h0 => (gv_f (nt_f h0)).symm)),
          (fun QQ aa ww hS fr kn => sgF rfl kn.1 (fun hng K hK => have hc := nt_t hng; stepc en_mayStand rfl (args2 (kn.2.1.trans (gv_t hc)) (kn.2.2.1.trans (gv_t hc))) (mayStand_run x.kind i ww) (fun w' hb => hK _ _ (gv_t hc).symm hb)) (fun h0 => (gv_f (nt_f h0)).symm)),
          (fun QQ aa ww hS fr kn => sgF rfl kn.1 (fun hng K hK => have hc := nt_t hng; wp_value (exec_notB rfl (kn.2.1.trans (gv_t hc))) (hK _ _ (gv_t hc).symm (Below.refl _ _))) (fun h0 => (gv_f (nt_f h0)).symm)),
          (fun QQ aa ww hS fr kn => sg0 rfl (fun K hK => wp_value (exec_pickOr rfl kn.1 rfl (fun hx => kn.2.1.trans (gv_t (nt_t hx)))) (hK _ _ rfl (Below.refl _ _)))),
          (fun QQ aa ww hS fr kn => sg0 rfl (fun K hK => wp_value (exec_move rfl kn.1) (hK _ _ rfl (Below.refl _ _)))),
          (fun QQ aa ww hS fr kn => sgF rfl kn.1 (fun hng K hK => have hc := nt_t hng; wp_value (exec_move rfl fr.2.2.1) (hK _ _ (gv_t hc).symm (Below.refl _ _))) (fun h0 => (gv_f (nt_f h0)).symm)),
          (fun QQ aa ww hS fr kn => sgF rfl kn.1 (fun hng K hK => have hc := nt_t hng; wp_value (exec_notB rfl (kn.2.1.trans (gv_t hc))) (hK _ _ (gv_t hc).symm (Below.refl _ _))) (fun h0 => (gv_f (nt_f h0)).symm)),
          (fun QQ aa ww hS fr kn => sg0 rfl (fun K hK => wp_value (exec_pickOr rfl kn.1 rfl (fun hx => kn.2.1.trans (gv_t (nt_t hx)))) (hK _ _ rfl (Below.refl _ _)))),
          (fun QQ aa ww hS fr kn => sg0 rfl (fun K hK => wp_value (exec_move rfl kn.1) (hK _ _ rfl (Below.refl _ _)))),
          (fun QQ aa ww hS fr kn => sgF rfl kn.1 (fun hng K hK => have hc := nt_t hng; wp_value (exec_fexG 1 (by decide) rfl fr.1) (hK _ _ (gv_t hc).symm (Below.refl _ _))) (fun h0 => (gv_f (nt_f h0)).symm)),
          (fun QQ aa ww hS fr kn => sgF rfl kn.1 (fun hng K hK => have hc := nt_t hng; wp_value (exec_ld rfl (kn.2.1.trans (gv_t hc)) (ldPs (ex_body (SAt.kept r5 hS)))) (hK _ _ (gv_t hc).symm (Below.refl _ _))) (fun h0 => (gv_f (nt_f h0)).symm)),
          (fun QQ aa ww hS fr kn => sgF rfl kn.1 (fun hng K hK => have hc := nt_t hng; wp_value (exec_lenS rfl (kn.2.1.trans (gv_t hc))) (hK _ _ (gv_t hc).symm (Below.refl _ _))) (fun h0 => (gv_f (nt_f h0)).symm)),
          (fun QQ aa ww hS fr kn => sgF rfl kn.1 (fun hng K hK => have hc := nt_t hng; wp_value (cmp_gt (m := (x.body.size : Int)) (n := 2046) rfl (kn.2.1.trans (gv_t hc)) rfl) (hK _ _ (gv_t hc).symm (Below.refl _ _))) (fun h0 => (gv_f (nt_f h0)).symm)),
          (fun QQ aa ww hS fr kn => sg0 rfl (fun K hK => wp_value (exec_pickOr rfl kn.1 rfl (fun hx => kn.2.1.trans (gv_t (nt_t hx)))) (hK _ _ rfl (Below.refl _ _)))),
          trivial⟩ ?_
      intro vs y4 hB4 kn
      have e39 : vs 39 = .bool ((((!(isEx x.kind)) || (!(mayB x.kind i))) || (!(decide ((((2 + x.body.size) % 8 : Nat) : Int) = 0)))) || (decide (2046 < (x.body.size : Int)))) := kn 20 (by decide)
      clear kn
      simp only [putAll, Act.put, List.setIfInBounds_toArray, List.set_cons_zero, List.set_cons_succ, e39]
      clear e39
      have hBw := hBx.trans (hB4.mono hBx.size)
      have HX := exOk_code x i
      rw [HX]
      cases hq : exOk x i
      · have hr : r = false := by rw [HRi.out, HS.out, hq]; rfl
        clear HX
        go_wp2_with fail
        go_ret
        exact ⟨by rw [hr]; rfl, hBw⟩
      · have HR2 : Hid (r = exsOk (l.drop (i + 1)) (i + 1)) := Hid.mk (by rw [HRi.out, HS.out, hq]; rfl)
        clear HX
        go_wp2_with fail
        go_roundg (n - (i + 1))
        case rel => exact ⟨i + 1, Hid.mk (by omega), by go_num, HR2, hBw⟩
        case measure => have := HI.out; omega
    · have hi2 : i = n := by have := HI.out; omega
      subst hi2
      have hr : r = true := by rw [HRi.out]; exact HE.out _
      go_wp2_with fail
      go_ret
      exact ⟨by rw [hr]; rfl, hBz⟩
theorem en_rightExts (args : Array Value) (w : World) : (callFunc 75 args).run Tryd.prog w = .ok (.enter 75 args) w := by kernel_rfl
theorem en_Valid (args : Array Value) (w : World) : (callFunc 47 args).run Tryd.prog w = .ok (.enter 47 args) w := by kernel_rfl
theorem en_rValid (args : Array Value) (w : World) : (callFunc 61 args).run Tryd.prog w = .ok (.enter 61 args) w := by kernel_rfl
theorem off_nn {n m : Int} (h : (!(!upB n m)) = true) : 0 ≤ n := by
  rw [Bool.not_not] at h
  exact (upB_iff.1 h).1
theorem off_np {n m : Int} (h : upB n m = true) : 0 ≤ n := (upB_iff.1 h).1
theorem dec_nat {a b : Nat} : decide ((a : Int) = (b : Int)) = decide (a = b) := by congr 1; exact propext ⟨fun h => by omega, fun h => by omega⟩
theorem dec_le {a b : Nat} : decide ((a : Int) ≤ (b : Int)) = decide (a ≤ b) := by congr 1; exact propext ⟨fun h => by omega, fun h => by omega⟩
theorem len_nil (l : List Ex) : decide ((l.length : Int) = 0) = l.isEmpty := by
  cases l with
  | nil => rfl
  | cons x l => rw [decide_eq_false (by simp; omega)]; rfl
theorem txt_nil (s : ByteArray) : decide (s = ByteArray.empty) = decide (s.size = 0) := by
  congr 1
  exact propext ⟨fun h => by rw [h]; rfl, fun h => txt_ext (by rw [h]; rfl) (fun j hj => by omega)⟩
theorem rgt4_code (P : Pk) : (upB P.id 65535 && decide (((P.opts.size % 4 : Nat) : Int) = 0) && decide ((P.opts.size : Int) ≤ 40) && decide (P.flow = 0) && decide ((P.exts.length : Int) = 0) && !P.cut) = rgt4 P := by
  unfold rgt4
  have e1 : decide (((P.opts.size % 4 : Nat) : Int) = 0) = decide (P.opts.size % 4 = 0) := dec_nat (b := 0)
  have e2 : decide ((P.opts.size : Int) ≤ 40) = decide (P.opts.size ≤ 40) := dec_le (b := 40)
  rw [e1, e2, len_nil]
  rfl
set_option maxHeartbeats 8000000 in
theorem right4_run (P : Pk) (v : Value) (w : World) (h1 : ExAt w v P.exts) (_hn : P.exts.length < 4611686018427387904) (_hb : ∀ x ∈ P.exts, x.body.size ≤ 140737488355328) : Calls Tryd.prog 50 #[.agg (SC 46 (pkV P v))] w fun e w' => e = .returned (.bool (rgt4 P)) ∧ Below w.heap.size w w' := by
  obtain ⟨a1, c1, rfl, _⟩ := id h1
  go_enter Tryd.func50, Tryd.ntmps50
  go_wp2_with (refine wl_boxO rfl rfl isPk (by rfl) ?_; intro g1 u2 hg1 q1 hB2; refine Hid.out ?_)
  refine Hid.mk ?_
  go_upto_region 1 with fail
  refine wp_plain_steps (Below u2.heap.size u2) (fun v v' => Below v.heap.size v v') (fun j vv _ => vv = ((.pointer (some ⟨g1, 37, none⟩) :: .int .i64 P.id :: .bool (upB P.id 65535) :: .bool (upB P.id 65535) :: gv (upB P.id 65535) (.pointer (some ⟨g1, 41, none⟩)) :: gv (upB P.id 65535) (.string P.opts) :: gv (upB P.id 65535) (.int .i64 (P.opts.size : Int)) :: gv (upB P.id 65535) (.int .i64 ((P.opts.size % 4 : Nat) : Int)) :: gv (upB P.id 65535) (.bool (decide (((P.opts.size % 4 : Nat) : Int) = 0))) :: .bool ((upB P.id 65535) && (decide (((P.opts.size % 4 : Nat) : Int) = 0))) :: .bool ((upB P.id 65535) && (decide (((P.opts.size % 4 : Nat) : Int) = 0))) :: gv ((upB P.id 65535) && (decide (((P.opts.size % 4 : Nat) : Int) = 0))) (.pointer (some ⟨g1, 41, none⟩)) :: gv ((upB P.id 65535) && (decide (((P.opts.size % 4 : Nat) : Int) = 0))) (.string P.opts) :: gv ((upB P.id 65535) && (decide (((P.opts.size % 4 : Nat) : Int) = 0))) (.int .i64 (P.opts.size : Int)) :: gv ((upB P.id 65535) && (decide (((P.opts.size % 4 : Nat) : Int) = 0))) (.bool (decide ((P.opts.size : Int) ≤ 40))) :: .bool (((upB P.id 65535) && (decide (((P.opts.size % 4 : Nat) : Int) = 0))) && (decide ((P.opts.size : Int) ≤ 40))) :: .bool (((upB P.id 65535) && (decide (((P.opts.size % 4 : Nat) : Int) = 0))) && (decide ((P.opts.size : Int) ≤ 40))) :: gv (((upB P.id 65535) && (decide (((P.opts.size % 4 : Nat) : Int) = 0))) && (decide ((P.opts.size : Int) ≤ 40))) (.pointer (some ⟨g1, 42, none⟩)) :: gv (((upB P.id 65535) && (decide (((P.opts.size % 4 : Nat) : Int) = 0))) && (decide ((P.opts.size : Int) ≤ 40))) (.int .i64 P.flow) :: gv (((upB P.id 65535) && (decide (((P.opts.size % 4 : Nat) : Int) = 0))) && (decide ((P.opts.size : Int) ≤ 40))) (.bool (decide (P.flow = 0))) :: .bool ((((upB P.id 65535) && (decide (((P.opts.size % 4 : Nat) : Int) = 0))) && (decide ((P.opts.size : Int) ≤ 40))) && (decide (P.flow = 0))) :: .bool ((((upB P.id 65535) && (decide (((P.opts.size % 4 : Nat) : Int) = 0))) && (decide ((P.opts.size : Int) ≤ 40))) && (decide (P.flow = 0))) :: gv ((((upB P.id 65535) && (decide (((P.opts.size % 4 : Nat) : Int) = 0))) && (decide ((P.opts.size : Int) ≤ 40))) && (decide (P.flow = 0))) (.pointer (some ⟨g1, 43, none⟩)) :: gv ((((upB P.id 65535) && (decide (((P.opts.size % 4 : Nat) : Int) = 0))) && (decide ((P.opts.size : Int) ≤ 40))) && (decide (P.flow = 0))) (.slice a1 P.exts.length c1) :: gv ((((upB P.id 65535) && (decide (((P.opts.size % 4 : Nat) : Int) = 0))) && (decide ((P.opts.size : Int) ≤ 40))) && (decide (P.flow = 0))) (.int .i64 (P.exts.length : Int)) :: gv ((((upB P.id 65535) && (decide (((P.opts.size % 4 : Nat) : Int) = 0))) && (decide ((P.opts.size : Int) ≤ 40))) && (decide (P.flow = 0))) (.bool (decide ((P.exts.length : Int) = 0))) :: .bool (((((upB P.id 65535) && (decide (((P.opts.size % 4 : Nat) : Int) = 0))) && (decide ((P.opts.size : Int) ≤ 40))) && (decide (P.flow = 0))) && (decide ((P.exts.length : Int) = 0))) :: .bool (((((upB P.id 65535) && (decide (((P.opts.size % 4 : Nat) : Int) = 0))) && (decide ((P.opts.size : Int) ≤ 40))) && (decide (P.flow = 0))) && (decide ((P.exts.length : Int) = 0))) :: gv (((((upB P.id 65535) && (decide (((P.opts.size % 4 : Nat) : Int) = 0))) && (decide ((P.opts.size : Int) ≤ 40))) && (decide (P.flow = 0))) && (decide ((P.exts.length : Int) = 0))) (.pointer (some ⟨g1, 44, none⟩)) :: gv (((((upB P.id 65535) && (decide (((P.opts.size % 4 : Nat) : Int) = 0))) && (decide ((P.opts.size : Int) ≤ 40))) && (decide (P.flow = 0))) && (decide ((P.exts.length : Int) = 0))) (.bool P.cut) :: gv (((((upB P.id 65535) && (decide (((P.opts.size % 4 : Nat) : Int) = 0))) && (decide ((P.opts.size : Int) ≤ 40))) && (decide (P.flow = 0))) && (decide ((P.exts.length : Int) = 0))) (.bool (!P.cut)) :: .bool ((((((upB P.id 65535) && (decide (((P.opts.size % 4 : Nat) : Int) = 0))) && (decide ((P.opts.size : Int) ≤ 40))) && (decide (P.flow = 0))) && (decide ((P.exts.length : Int) = 0))) && (!P.cut)) :: .bool ((((((upB P.id 65535) && (decide (((P.opts.size % 4 : Nat) : Int) = 0))) && (decide ((P.opts.size : Int) ≤ 40))) && (decide (P.flow = 0))) && (decide ((P.exts.length : Int) = 0))) && (!P.cut)) :: []) : List Value).getD j undef)
      (3 :: 4 :: 5 :: 6 :: 7 :: 8 :: 9 :: 10 :: 11 :: 12 :: 13 :: 14 :: 15 :: 16 :: 17 :: 18 :: 19 :: 20 :: 21 :: 22 :: 23 :: 24 :: 25 :: 26 :: 27 :: 28 :: 29 :: 30 :: 31 :: 32 :: 33 :: 34 :: 2 :: [])
      [(1, .pointer (some ⟨g1, 0, none⟩))] [] 0
      ([] :: [0] :: [1] :: [2] :: [3] :: [3, 4] :: [3, 5] :: [3, 6] :: [3, 7] :: [3, 8] :: [9] :: [10] :: [10, 11] :: [10, 12] :: [10, 13] :: [10, 14] :: [15] :: [16] :: [16, 17] :: [16, 18] :: [16, 19] :: [20] :: [21] :: [21, 22] :: [21, 23] :: [21, 24] :: [21, 25] :: [26] :: [27] :: [27, 28] :: [27, 29] :: [27, 30] :: [31] :: [])
      (by kernel_rfl) ⟨rfl, trivial⟩ trivial (Below.refl _ _) (fun v v' h hb => h.trans (hb.mono h.size)) (fun _ _ _ _ h _ => h)
      ⟨
      (fun QQ aa ww hS fr kn => sg0 rfl (fun K hK => wp_value (exec_fpk 5 (by decide) rfl fr.1) (hK _ _ rfl (Below.refl _ _)))),
      (fun QQ aa ww hS fr kn => sg0 rfl (fun K hK => wp_value (exec_ld rfl kn.1 (ldP (pk_id (SAt.kept q1 hS)))) (hK _ _ rfl (Below.refl _ _)))),
      (fun QQ aa ww hS fr kn => sg0 rfl (fun K hK => stepc en_upTo rfl (args2 kn.1 rfl) (upTo_run P.id 65535 ww) (fun w' hb => hK _ _ rfl hb))),
      (fun QQ aa ww hS fr kn => sg0 rfl (fun K hK => wp_value (exec_move rfl kn.1) (hK _ _ rfl (Below.refl _ _)))),
      (fun QQ aa ww hS fr kn => sgT rfl kn.1 (fun hc K hK => wp_value (exec_fpk 9 (by decide) rfl fr.1) (hK _ _ (gv_t hc).symm (Below.refl _ _))) (fun h0 => (gv_f h0).symm)),
      (fun QQ aa ww hS fr kn => sgT rfl kn.1 (fun hc K hK => wp_value (exec_ld rfl (kn.2.1.trans (gv_t hc)) (ldPs (pk_opts (SAt.kept q1 hS)))) (hK _ _ (gv_t hc).symm (Below.refl _ _))) (fun h0 => (gv_f h0).symm)),
      (fun QQ aa ww hS fr kn => sgT rfl kn.1 (fun hc K hK => wp_value (exec_lenS rfl (kn.2.1.trans (gv_t hc))) (hK _ _ (gv_t hc).symm (Below.refl _ _))) (fun h0 => (gv_f h0).symm)),
      (fun QQ aa ww hS fr kn => sgT rfl kn.1 (fun hc K hK => wp_value (exec_remW (i := P.opts.size) (m := 4) rfl (kn.2.1.trans (gv_t hc)) rfl rfl (by decide)) (hK _ _ (gv_t hc).symm (Below.refl _ _))) (fun h0 => (gv_f h0).symm)),
      (fun QQ aa ww hS fr kn => sgT rfl kn.1 (fun hc K hK => wp_value (cmp_eq (m := ((P.opts.size % 4 : Nat) : Int)) (n := 0) rfl (kn.2.1.trans (gv_t hc)) rfl) (hK _ _ (gv_t hc).symm (Below.refl _ _))) (fun h0 => (gv_f h0).symm)),
      (fun QQ aa ww hS fr kn => sg0 rfl (fun K hK => wp_value (exec_pickAnd rfl kn.1 (fun hx => kn.2.1.trans (gv_t hx)) rfl) (hK _ _ rfl (Below.refl _ _)))),
      (fun QQ aa ww hS fr kn => sg0 rfl (fun K hK => wp_value (exec_move rfl kn.1) (hK _ _ rfl (Below.refl _ _)))),
      (fun QQ aa ww hS fr kn => sgT rfl kn.1 (fun hc K hK => wp_value (exec_fpk 9 (by decide) rfl fr.1) (hK _ _ (gv_t hc).symm (Below.refl _ _))) (fun h0 => (gv_f h0).symm)),
      (fun QQ aa ww hS fr kn => sgT rfl kn.1 (fun hc K hK => wp_value (exec_ld rfl (kn.2.1.trans (gv_t hc)) (ldPs (pk_opts (SAt.kept q1 hS)))) (hK _ _ (gv_t hc).symm (Below.refl _ _))) (fun h0 => (gv_f h0).symm)),
      (fun QQ aa ww hS fr kn => sgT rfl kn.1 (fun hc K hK => wp_value (exec_lenS rfl (kn.2.1.trans (gv_t hc))) (hK _ _ (gv_t hc).symm (Below.refl _ _))) (fun h0 => (gv_f h0).symm)),
      (fun QQ aa ww hS fr kn => sgT rfl kn.1 (fun hc K hK => wp_value (cmp_le (m := (P.opts.size : Int)) (n := 40) rfl (kn.2.1.trans (gv_t hc)) rfl) (hK _ _ (gv_t hc).symm (Below.refl _ _))) (fun h0 => (gv_f h0).symm)),
      (fun QQ aa ww hS fr kn => sg0 rfl (fun K hK => wp_value (exec_pickAnd rfl kn.1 (fun hx => kn.2.1.trans (gv_t hx)) rfl) (hK _ _ rfl (Below.refl _ _)))),
      (fun QQ aa ww hS fr kn => sg0 rfl (fun K hK => wp_value (exec_move rfl kn.1) (hK _ _ rfl (Below.refl _ _)))),
      (fun QQ aa ww hS fr kn => sgT rfl kn.1 (fun hc K hK => wp_value (exec_fpk 10 (by decide) rfl fr.1) (hK _ _ (gv_t hc).symm (Below.refl _ _))) (fun h0 => (gv_f h0).symm)),
      (fun QQ aa ww hS fr kn => sgT rfl kn.1 (fun hc K hK => wp_value (exec_ld rfl (kn.2.1.trans (gv_t hc)) (ldP (pk_flow (SAt.kept q1 hS)))) (hK _ _ (gv_t hc).symm (Below.refl _ _))) (fun h0 => (gv_f h0).symm)),
      (fun QQ aa ww hS fr kn => sgT rfl kn.1 (fun hc K hK => wp_value (cmp_eq (m := P.flow) (n := 0) rfl (kn.2.1.trans (gv_t hc)) rfl) (hK _ _ (gv_t hc).symm (Below.refl _ _))) (fun h0 => (gv_f h0).symm)),
      (fun QQ aa ww hS fr kn => sg0 rfl (fun K hK => wp_value (exec_pickAnd rfl kn.1 (fun hx => kn.2.1.trans (gv_t hx)) rfl) (hK _ _ rfl (Below.refl _ _)))),
      (fun QQ aa ww hS fr kn => sg0 rfl (fun K hK => wp_value (exec_move rfl kn.1) (hK _ _ rfl (Below.refl _ _)))),
      (fun QQ aa ww hS fr kn => sgT rfl kn.1 (fun hc K hK => wp_value (exec_fpk 11 (by decide) rfl fr.1) (hK _ _ (gv_t hc).symm (Below.refl _ _))) (fun h0 => (gv_f h0).symm)),
      (fun QQ aa ww hS fr kn => sgT rfl kn.1 (fun hc K hK => wp_value (exec_ld rfl (kn.2.1.trans (gv_t hc)) (ldPx (pk_exts (SAt.kept q1 hS)))) (hK _ _ (gv_t hc).symm (Below.refl _ _))) (fun h0 => (gv_f h0).symm)),
      (fun QQ aa ww hS fr kn => sgT rfl kn.1 (fun hc K hK => wp_value (exec_lenX rfl (kn.2.1.trans (gv_t hc))) (hK _ _ (gv_t hc).symm (Below.refl _ _))) (fun h0 => (gv_f h0).symm)),
      (fun QQ aa ww hS fr kn => sgT rfl kn.1 (fun hc K hK => wp_value (cmp_eq (m := (P.exts.length : Int)) (n := 0) rfl (kn.2.1.trans (gv_t hc)) rfl) (hK _ _ (gv_t hc).symm (Below.refl _ _))) (fun h0 => (gv_f h0).symm)),
      (fun QQ aa ww hS fr kn => sg0 rfl (fun K hK => wp_value (exec_pickAnd rfl kn.1 (fun hx => kn.2.1.trans (gv_t hx)) rfl) (hK _ _ rfl (Below.refl _ _)))),
      (fun QQ aa ww hS fr kn => sg0 rfl (fun K hK => wp_value (exec_move rfl kn.1) (hK _ _ rfl (Below.refl _ _)))),
      (fun QQ aa ww hS fr kn => sgT rfl kn.1 (fun hc K hK => wp_value (exec_fpk 12 (by decide) rfl fr.1) (hK _ _ (gv_t hc).symm (Below.refl _ _))) (fun h0 => (gv_f h0).symm)),
      (fun QQ aa ww hS fr kn => sgT rfl kn.1 (fun hc K hK => wp_value (exec_ld rfl (kn.2.1.trans (gv_t hc)) (ldPb (pk_cut (SAt.kept q1 hS)))) (hK _ _ (gv_t hc).symm (Below.refl _ _))) (fun h0 => (gv_f h0).symm)),
      (fun QQ aa ww hS fr kn => sgT rfl kn.1 (fun hc K hK => wp_value (exec_notB rfl (kn.2.1.trans (gv_t hc))) (hK _ _ (gv_t hc).symm (Below.refl _ _))) (fun h0 => (gv_f h0).symm)),
      (fun QQ aa ww hS fr kn => sg0 rfl (fun K hK => wp_value (exec_pickAnd rfl kn.1 (fun hx => kn.2.1.trans (gv_t hx)) rfl) (hK _ _ rfl (Below.refl _ _)))),
      (fun QQ aa ww hS fr kn => sg0 rfl (fun K hK => wp_value (exec_assign rfl kn.1) (hK _ _ rfl (Below.refl _ _)))),
      trivial⟩ ?_
  intro vs u3 hB3 kn
  have e2 : vs 2 = .bool ((((((upB P.id 65535) && (decide (((P.opts.size % 4 : Nat) : Int) = 0))) && (decide ((P.opts.size : Int) ≤ 40))) && (decide (P.flow = 0))) && (decide ((P.exts.length : Int) = 0))) && (!P.cut)) := kn 32 (by decide)
  clear kn
  simp only [putAll, Act.put, List.setIfInBounds_toArray, List.set_cons_zero, List.set_cons_succ, e2]
  clear e2
  go_wp2_with fail
  go_ret
  exact ⟨by rw [← rgt4_code]; rfl, hB2.trans (hB3.mono hB2.size)⟩
theorem rgt6_code (P : Pk) : rgt6 P = (!(((((!(upB P.flow 1048575)) || (!decide (P.opts = ByteArray.empty))) || P.still) || (!(exsOk P.exts 0))) || (isHd P.proto)) && (if P.cut = true then upB P.id 4294967295 else (((decide (P.id = 0)) && (decide (P.off = 0))) && (!P.more)))) := by
  unfold rgt6
  rw [txt_nil]
  have e0 : upB 0 4294967295 = true := by decide
  cases P.cut
  · by_cases hi : P.id = 0
    · rw [hi, e0]
      cases upB P.flow 1048575 <;> cases decide (P.opts.size = 0) <;> cases P.still <;> cases exsOk P.exts 0 <;> cases isHd P.proto <;> rfl
    · have e1 : (P.id == 0) = false := by simpa using hi
      rw [e1, decide_eq_false hi]
      cases upB P.flow 1048575 <;> cases decide (P.opts.size = 0) <;> cases P.still <;> cases exsOk P.exts 0 <;> cases isHd P.proto <;> cases upB P.id 4294967295 <;> rfl
  · cases upB P.flow 1048575 <;> cases decide (P.opts.size = 0) <;> cases P.still <;> cases exsOk P.exts 0 <;> cases isHd P.proto <;> cases upB P.id 4294967295 <;> rfl
set_option maxHeartbeats 8000000 in
theorem right6_run (P : Pk) (v : Value) (w : World) (h1 : ExAt w v P.exts) (hn : P.exts.length < 4611686018427387904) (hb : ∀ x ∈ P.exts, x.body.size ≤ 140737488355328) : Calls Tryd.prog 49 #[.agg (SC 46 (pkV P v))] w fun e w' => e = .returned (.bool (rgt6 P)) ∧ Below w.heap.size w w' := by
  have HC := Hid.mk (rgt6_code P)
  generalize rgt6 P = r at *
  go_enter Tryd.func49, Tryd.ntmps49
  go_wp2_with (refine wl_boxO rfl rfl isPk (by rfl) ?_; intro g1 u2 hg1 q1 hB2; refine Hid.out ?_)
  refine Hid.mk ?_
  have hx1 := h1.kept hB2
  go_upto_region 1 with fail
  refine wp_plain_steps (Below u2.heap.size u2) (fun v v' => Below v.heap.size v v') (fun j vv _ => vv = ([.pointer (some ⟨g1, 42, none⟩), .int .i64 P.flow, .bool (upB P.flow 1048575), .bool (!(upB P.flow 1048575)), .bool (!(upB P.flow 1048575)), gv (!(!(upB P.flow 1048575))) (.pointer (some ⟨g1, 41, none⟩)), gv (!(!(upB P.flow 1048575))) (.string P.opts), gv (!(!(upB P.flow 1048575))) (.bool (!decide (P.opts = ByteArray.empty))), .bool ((!(upB P.flow 1048575)) || (!decide (P.opts = ByteArray.empty))), .bool ((!(upB P.flow 1048575)) || (!decide (P.opts = ByteArray.empty))), gv (!((!(upB P.flow 1048575)) || (!decide (P.opts = ByteArray.empty)))) (.pointer (some ⟨g1, 40, none⟩)), gv (!((!(upB P.flow 1048575)) || (!decide (P.opts = ByteArray.empty)))) (.bool P.still), .bool (((!(upB P.flow 1048575)) || (!decide (P.opts = ByteArray.empty))) || P.still), .bool (((!(upB P.flow 1048575)) || (!decide (P.opts = ByteArray.empty))) || P.still), gv (!(((!(upB P.flow 1048575)) || (!decide (P.opts = ByteArray.empty))) || P.still)) (.pointer (some ⟨g1, 43, none⟩)), gv (!(((!(upB P.flow 1048575)) || (!decide (P.opts = ByteArray.empty))) || P.still)) (v), gv (!(((!(upB P.flow 1048575)) || (!decide (P.opts = ByteArray.empty))) || P.still)) (.bool (exsOk P.exts 0)), gv (!(((!(upB P.flow 1048575)) || (!decide (P.opts = ByteArray.empty))) || P.still)) (.bool (!(exsOk P.exts 0))), .bool ((((!(upB P.flow 1048575)) || (!decide (P.opts = ByteArray.empty))) || P.still) || (!(exsOk P.exts 0))), .bool ((((!(upB P.flow 1048575)) || (!decide (P.opts = ByteArray.empty))) || P.still) || (!(exsOk P.exts 0))), gv (!((((!(upB P.flow 1048575)) || (!decide (P.opts = ByteArray.empty))) || P.still) || (!(exsOk P.exts 0)))) (.pointer (some ⟨g1, 34, none⟩)), gv (!((((!(upB P.flow 1048575)) || (!decide (P.opts = ByteArray.empty))) || P.still) || (!(exsOk P.exts 0)))) (.int .i64 P.proto), gv (!((((!(upB P.flow 1048575)) || (!decide (P.opts = ByteArray.empty))) || P.still) || (!(exsOk P.exts 0)))) (.bool (isHd P.proto)), .bool (((((!(upB P.flow 1048575)) || (!decide (P.opts = ByteArray.empty))) || P.still) || (!(exsOk P.exts 0))) || (isHd P.proto))] : List Value).getD j undef)
      [3, 4, 5, 6, 7, 8, 9, 10, 11, 12, 13, 14, 15, 16, 17, 18, 19, 20, 21, 22, 23, 24, 25, 26]
      [(1, .pointer (some ⟨g1, 0, none⟩))] [] 0
      [[], [0], [1], [2], [3], [4], [4, 5], [4, 6], [4, 7], [8], [9], [9, 10], [9, 11], [12], [13], [13, 14], [13, 15], [13, 16], [13, 17], [18], [19], [19, 20], [19, 21], [19, 22]]
      (by kernel_rfl) ⟨rfl, trivial⟩ trivial (Below.refl _ _) (fun v v' h hb => h.trans (hb.mono h.size)) (fun _ _ _ _ h _ => h)
      ⟨
      (fun QQ aa ww hS fr kn => sg0 rfl (fun K hK => wp_value (exec_fpk 10 (by decide) rfl fr.1) (hK _ _ rfl (Below.refl _ _)))),
      (fun QQ aa ww hS fr kn => sg0 rfl (fun K hK => wp_value (exec_ld rfl kn.1 (ldP (pk_flow (SAt.kept q1 hS)))) (hK _ _ rfl (Below.refl _ _)))),
      (fun QQ aa ww hS fr kn => sg0 rfl (fun K hK => stepc en_upTo rfl (args2 kn.1 rfl) (upTo_run P.flow 1048575 ww) (fun w' hb => hK _ _ rfl hb))),
      (fun QQ aa ww hS fr kn => sg0 rfl (fun K hK => wp_value (exec_notB rfl kn.1) (hK _ _ rfl (Below.refl _ _)))),
      (fun QQ aa ww hS fr kn => sg0 rfl (fun K hK => wp_value (exec_move rfl kn.1) (hK _ _ rfl (Below.refl _ _)))),
      (fun QQ aa ww hS fr kn => sgF rfl kn.1 (fun hng K hK => have hc := nt_t hng; wp_value (exec_fpk 9 (by decide) rfl fr.1) (hK _ _ (gv_t hc).symm (Below.refl _ _))) (fun h0 => (gv_f (nt_f h0)).symm)),
      (fun QQ aa ww hS fr kn => sgF rfl kn.1 (fun hng K hK => have hc := nt_t hng; wp_value (exec_ld rfl (kn.2.1.trans (gv_t hc)) (ldPs (pk_opts (SAt.kept q1 hS)))) (hK _ _ (gv_t hc).symm (Below.refl _ _))) (fun h0 => (gv_f (nt_f h0)).symm)),
      (fun QQ aa ww hS fr kn => sgF rfl kn.1 (fun hng K hK => have hc := nt_t hng; wp_value (cmp_neS (s := P.opts) (t := ByteArray.empty) rfl (kn.2.1.trans (gv_t hc)) rfl) (hK _ _ (gv_t hc).symm (Below.refl _ _))) (fun h0 => (gv_f (nt_f h0)).symm)),
      (fun QQ aa ww hS fr kn => sg0 rfl (fun K hK => wp_value (exec_pickOr rfl kn.1 rfl (fun hx => kn.2.1.trans (gv_t (nt_t hx)))) (hK _ _ rfl (Below.refl _ _)))),
      (fun QQ aa ww hS fr kn => sg0 rfl (fun K hK => wp_value (exec_move rfl kn.1) (hK _ _ rfl (Below.refl _ _)))),
      (fun QQ aa ww hS fr kn => sgF rfl kn.1 (fun hng K hK => have hc := nt_t hng; wp_value (exec_fpk 8 (by decide) rfl fr.1) (hK _ _ (gv_t hc).symm (Below.refl _ _))) (fun h0 => (gv_f (nt_f h0)).symm)),
      (fun QQ aa ww hS fr kn => sgF rfl kn.1 (fun hng K hK => have hc := nt_t hng; wp_value (exec_ld rfl (kn.2.1.trans (gv_t hc)) (ldPb (pk_still (SAt.kept q1 hS)))) (hK _ _ (gv_t hc).symm (Below.refl _ _))) (fun h0 => (gv_f (nt_f h0)).symm)),
      (fun QQ aa ww hS fr kn => sg0 rfl (fun K hK => wp_value (exec_pickOr rfl kn.1 rfl (fun hx => kn.2.1.trans (gv_t (nt_t hx)))) (hK _ _ rfl (Below.refl _ _)))),
      (fun QQ aa ww hS fr kn => sg0 rfl (fun K hK => wp_value (exec_move rfl kn.1) (hK _ _ rfl (Below.refl _ _)))),
      (fun QQ aa ww hS fr kn => sgF rfl kn.1 (fun hng K hK => have hc := nt_t hng; wp_value (exec_fpk 11 (by decide) rfl fr.1) (hK _ _ (gv_t hc).symm (Below.refl _ _))) (fun h0 => (gv_f (nt_f h0)).symm)),
      (fun QQ aa ww hS fr kn => sgF rfl kn.1 (fun hng K hK => have hc := nt_t hng; wp_value (exec_ld rfl (kn.2.1.trans (gv_t hc)) (ldPx (pk_exts (SAt.kept q1 hS)))) (hK _ _ (gv_t hc).symm (Below.refl _ _))) (fun h0 => (gv_f (nt_f h0)).symm)),
      (fun QQ aa ww hS fr kn => sgF rfl kn.1 (fun hng K hK => have hc := nt_t hng; stepc en_rightExts rfl (args1 (kn.2.1.trans (gv_t hc))) (rightExts_run _ P.exts ww (hx1.kept hS) hn hb) (fun w' hb => hK _ _ (gv_t hc).symm hb)) (fun h0 => (gv_f (nt_f h0)).symm)),
      (fun QQ aa ww hS fr kn => sgF rfl kn.1 (fun hng K hK => have hc := nt_t hng; wp_value (exec_notB rfl (kn.2.1.trans (gv_t hc))) (hK _ _ (gv_t hc).symm (Below.refl _ _))) (fun h0 => (gv_f (nt_f h0)).symm)),
      (fun QQ aa ww hS fr kn => sg0 rfl (fun K hK => wp_value (exec_pickOr rfl kn.1 rfl (fun hx => kn.2.1.trans (gv_t (nt_t hx)))) (hK _ _ rfl (Below.refl _ _)))),
      (fun QQ aa ww hS fr kn => sg0 rfl (fun K hK => wp_value (exec_move rfl kn.1) (hK _ _ rfl (Below.refl _ _)))),
      (fun QQ aa ww hS fr kn => sgF rfl kn.1 (fun hng K hK => have hc := nt_t hng; wp_value (exec_fpk 2 (by decide) rfl fr.1) (hK _ _ (gv_t hc).symm (Below.refl _ _))) (fun h0 => (gv_f (nt_f h0)).symm)),
      (fun QQ aa ww hS fr kn => sgF rfl kn.1 (fun hng K hK => have hc := nt_t hng; wp_value (exec_ld rfl (kn.2.1.trans (gv_t hc)) (ldP (pk_proto (SAt.kept q1 hS)))) (hK _ _ (gv_t hc).symm (Below.refl _ _))) (fun h0 => (gv_f (nt_f h0)).symm)),
      (fun QQ aa ww hS fr kn => sgF rfl kn.1 (fun hng K hK => have hc := nt_t hng; stepc en_isHeader rfl (args1 (kn.2.1.trans (gv_t hc))) (isHeader_run P.proto ww) (fun w' hb => hK _ _ (gv_t hc).symm hb)) (fun h0 => (gv_f (nt_f h0)).symm)),
      (fun QQ aa ww hS fr kn => sg0 rfl (fun K hK => wp_value (exec_pickOr rfl kn.1 rfl (fun hx => kn.2.1.trans (gv_t (nt_t hx)))) (hK _ _ rfl (Below.refl _ _)))),
      trivial⟩ ?_
  intro vs u3 hB3 kn
  have e26 : vs 26 = .bool (((((!(upB P.flow 1048575)) || (!decide (P.opts = ByteArray.empty))) || P.still) || (!(exsOk P.exts 0))) || (isHd P.proto)) := kn 23 (by decide)
  clear kn
  simp only [putAll, Act.put, List.setIfInBounds_toArray, List.set_cons_zero, List.set_cons_succ, e26]
  clear e26
  have hBy := hB2.trans (hB3.mono hB2.size)
  have r1 := SAt.kept q1 hB3
  have HC := Hid.mk HC.out
  obtain ⟨c, hc⟩ : ∃ c, (((((!(upB P.flow 1048575)) || (!decide (P.opts = ByteArray.empty))) || P.still) || (!(exsOk P.exts 0))) || (isHd P.proto)) = c := ⟨_, rfl⟩
  rw [hc] at HC ⊢
  clear hc
  cases c
  · have s1 := pk_cut r1
    have s2 := pk_id r1
    cases hcut : P.cut
    · have hr : r = (((decide (P.id = 0)) && (decide (P.off = 0))) && (!P.more)) := by rw [HC.out, hcut]; rfl
      rw [hcut] at s1
      go_upto_region 4 with (first | (refine wl_value rfl (exec_fpk 12 (by decide) rfl (by rfl)) ?_) | (refine wl_value rfl (exec_ld rfl (by rfl) (ldPb s1)) ?_))
      refine wp_plain_steps (Below u3.heap.size u3) (fun v v' => Below v.heap.size v v') (fun j vv _ => vv = ([.pointer (some ⟨g1, 37, none⟩), .int .i64 P.id, .bool (decide (P.id = 0)), .bool (decide (P.id = 0)), gv (decide (P.id = 0)) (.pointer (some ⟨g1, 38, none⟩)), gv (decide (P.id = 0)) (.int .i64 P.off), gv (decide (P.id = 0)) (.bool (decide (P.off = 0))), .bool ((decide (P.id = 0)) && (decide (P.off = 0))), .bool ((decide (P.id = 0)) && (decide (P.off = 0))), gv ((decide (P.id = 0)) && (decide (P.off = 0))) (.pointer (some ⟨g1, 39, none⟩)), gv ((decide (P.id = 0)) && (decide (P.off = 0))) (.bool P.more), gv ((decide (P.id = 0)) && (decide (P.off = 0))) (.bool (!P.more)), .bool (((decide (P.id = 0)) && (decide (P.off = 0))) && (!P.more)), .bool (((decide (P.id = 0)) && (decide (P.off = 0))) && (!P.more))] : List Value).getD j undef)
          [30, 31, 32, 33, 34, 35, 36, 37, 38, 39, 40, 41, 42, 2]
          [(1, .pointer (some ⟨g1, 0, none⟩))] [] 0
          [[], [0], [1], [2], [3], [3, 4], [3, 5], [3, 6], [7], [8], [8, 9], [8, 10], [8, 11], [12]]
          (by kernel_rfl) ⟨rfl, trivial⟩ trivial (Below.refl _ _) (fun v v' h hb => h.trans (hb.mono h.size)) (fun _ _ _ _ h _ => h)
          ⟨
          (fun QQ aa ww hS fr kn => sg0 rfl (fun K hK => wp_value (exec_fpk 5 (by decide) rfl fr.1) (hK _ _ rfl (Below.refl _ _)))),
          (fun QQ aa ww hS fr kn => sg0 rfl (fun K hK => wp_value (exec_ld rfl kn.1 (ldP (pk_id (SAt.kept r1 hS)))) (hK _ _ rfl (Below.refl _ _)))),
          (fun QQ aa ww hS fr kn => sg0 rfl (fun K hK => wp_value (cmp_eq (m := P.id) (n := 0) rfl kn.1 rfl) (hK _ _ rfl (Below.refl _ _)))),
          (fun QQ aa ww hS fr kn => sg0 rfl (fun K hK => wp_value (exec_move rfl kn.1) (hK _ _ rfl (Below.refl _ _)))),
          (fun QQ aa ww hS fr kn => sgT rfl kn.1 (fun hc K hK => wp_value (exec_fpk 6 (by decide) rfl fr.1) (hK _ _ (gv_t hc).symm (Below.refl _ _))) (fun h0 => (gv_f h0).symm)),
          (fun QQ aa ww hS fr kn => sgT rfl kn.1 (fun hc K hK => wp_value (exec_ld rfl (kn.2.1.trans (gv_t hc)) (ldP (pk_off (SAt.kept r1 hS)))) (hK _ _ (gv_t hc).symm (Below.refl _ _))) (fun h0 => (gv_f h0).symm)),
          (fun QQ aa ww hS fr kn => sgT rfl kn.1 (fun hc K hK => wp_value (cmp_eq (m := P.off) (n := 0) rfl (kn.2.1.trans (gv_t hc)) rfl) (hK _ _ (gv_t hc).symm (Below.refl _ _))) (fun h0 => (gv_f h0).symm)),
          (fun QQ aa ww hS fr kn => sg0 rfl (fun K hK => wp_value (exec_pickAnd rfl kn.1 (fun hx => kn.2.1.trans (gv_t hx)) rfl) (hK _ _ rfl (Below.refl _ _)))),
          (fun QQ aa ww hS fr kn => sg0 rfl (fun K hK => wp_value (exec_move rfl kn.1) (hK _ _ rfl (Below.refl _ _)))),
          (fun QQ aa ww hS fr kn => sgT rfl kn.1 (fun hc K hK => wp_value (exec_fpk 7 (by decide) rfl fr.1) (hK _ _ (gv_t hc).symm (Below.refl _ _))) (fun h0 => (gv_f h0).symm)),
          (fun QQ aa ww hS fr kn => sgT rfl kn.1 (fun hc K hK => wp_value (exec_ld rfl (kn.2.1.trans (gv_t hc)) (ldPb (pk_more (SAt.kept r1 hS)))) (hK _ _ (gv_t hc).symm (Below.refl _ _))) (fun h0 => (gv_f h0).symm)),
          (fun QQ aa ww hS fr kn => sgT rfl kn.1 (fun hc K hK => wp_value (exec_notB rfl (kn.2.1.trans (gv_t hc))) (hK _ _ (gv_t hc).symm (Below.refl _ _))) (fun h0 => (gv_f h0).symm)),
          (fun QQ aa ww hS fr kn => sg0 rfl (fun K hK => wp_value (exec_pickAnd rfl kn.1 (fun hx => kn.2.1.trans (gv_t hx)) rfl) (hK _ _ rfl (Below.refl _ _)))),
          (fun QQ aa ww hS fr kn => sg0 rfl (fun K hK => wp_value (exec_assign rfl kn.1) (hK _ _ rfl (Below.refl _ _)))),
          trivial⟩ ?_
      intro vs u4 hB4 kn
      have e2 : vs 2 = .bool (((decide (P.id = 0)) && (decide (P.off = 0))) && (!P.more)) := kn 13 (by decide)
      clear kn
      simp only [putAll, Act.put, List.setIfInBounds_toArray, List.set_cons_zero, List.set_cons_succ, e2]
      clear e2
      go_wp2_with fail
      go_ret
      exact ⟨by rw [hr]; rfl, hBy.trans (hB4.mono hBy.size)⟩
    · have hr : r = upB P.id 4294967295 := by rw [HC.out, hcut]; rfl
      rw [hcut] at s1
      go_wp2_with (first | (refine wl_value rfl (exec_fpk 12 (by decide) rfl (by rfl)) ?_) | (refine wl_value rfl (exec_fpk 5 (by decide) rfl (by rfl)) ?_) | (refine wl_value rfl (exec_ld rfl (by rfl) (ldPb s1)) ?_) | (refine wl_value rfl (exec_ld rfl (by rfl) (ldP s2)) ?_) | (go_at_call 48; refine (upTo_run P.id 4294967295 _).mono ?_; rintro e u4 ⟨rfl, hB4⟩; refine Hid.out ?_))
      refine Hid.mk ?_
      go_wp2_with fail
      go_ret
      exact ⟨by rw [hr]; rfl, hBy.trans (hB4.mono hBy.size)⟩
  · have hr : r = false := by rw [HC.out]; rfl
    go_wp2_with fail
    go_ret
    exact ⟨by rw [hr]; rfl, hBy⟩
theorem en_right4 (args : Array Value) (w : World) : (callFunc 50 args).run Tryd.prog w = .ok (.enter 50 args) w := by kernel_rfl
theorem en_right6 (args : Array Value) (w : World) : (callFunc 49 args).run Tryd.prog w = .ok (.enter 49 args) w := by kernel_rfl
theorem rgtP_code (P : Pk) : rgtP P = (!(((!(validF P.sv P.sb)) || (!(validF P.dv P.db))) || (!(P.sv == P.dv))) && (!(((!(upB P.proto 255)) || (!(upB P.hop 255))) || (!(upB P.cls 255))) && (!((!(upB P.off 65528)) || (!decide (P.off % 8 = 0))) && (if P.sv = true then rgt6 P else rgt4 P)))) := by
  unfold rgtP
  have e : (P.off % 8 == 0) = decide (P.off % 8 = 0) := rfl
  rw [e]
  generalize (if P.sv = true then rgt6 P else rgt4 P) = z
  generalize (P.sv == P.dv) = y
  cases validF P.sv P.sb <;> cases validF P.dv P.db <;> cases y <;> cases upB P.proto 255 <;> cases upB P.hop 255 <;> cases upB P.cls 255 <;> cases upB P.off 65528 <;> cases decide (P.off % 8 = 0) <;> rfl
set_option maxHeartbeats 8000000 in
theorem Right_run (P : Pk) (v : Value) (w : World) (h1 : ExAt w v P.exts) (hn : P.exts.length < 4611686018427387904) (hb : ∀ x ∈ P.exts, x.body.size ≤ 140737488355328) : Calls Tryd.prog 16 #[.agg (SC 46 (pkV P v))] w fun e w' => e = .returned (.bool (rgtP P)) ∧ Below w.heap.size w w' := by
  have HC := Hid.mk (rgtP_code P)
  have H6 := Hid.mk (fun ww h => right6_run P v ww h hn hb)
  have H4 := Hid.mk (fun ww h => right4_run P v ww h hn hb)
  generalize rgtP P = r at *
  go_enter Tryd.func16, Tryd.ntmps16
  go_wp2_with (refine wl_boxO rfl rfl isPk (by rfl) ?_; intro g1 u2 hg1 q1 hB2; refine Hid.out ?_)
  refine Hid.mk ?_
  have hx1 := h1.kept hB2
  go_upto_region 1 with fail
  refine wp_plain_steps (Below u2.heap.size u2) (fun v v' => Below v.heap.size v v') (fun j vv _ => vv = ([.pointer (some ⟨g1, 0, none⟩), .agg (SC 17 (adV P.sv P.sb)), .bool (validF P.sv P.sb), .bool (!(validF P.sv P.sb)), .bool (!(validF P.sv P.sb)), gv (!(!(validF P.sv P.sb))) (.pointer (some ⟨g1, 17, none⟩)), gv (!(!(validF P.sv P.sb))) (.agg (SC 17 (adV P.dv P.db))), gv (!(!(validF P.sv P.sb))) (.bool (validF P.dv P.db)), gv (!(!(validF P.sv P.sb))) (.bool (!(validF P.dv P.db))), .bool ((!(validF P.sv P.sb)) || (!(validF P.dv P.db))), .bool ((!(validF P.sv P.sb)) || (!(validF P.dv P.db))), gv (!((!(validF P.sv P.sb)) || (!(validF P.dv P.db)))) (.pointer (some ⟨g1, 0, none⟩)), gv (!((!(validF P.sv P.sb)) || (!(validF P.dv P.db)))) (.pointer (some ⟨g1, 0, none⟩)), gv (!((!(validF P.sv P.sb)) || (!(validF P.dv P.db)))) (.bool P.sv), gv (!((!(validF P.sv P.sb)) || (!(validF P.dv P.db)))) (.pointer (some ⟨g1, 17, none⟩)), gv (!((!(validF P.sv P.sb)) || (!(validF P.dv P.db)))) (.pointer (some ⟨g1, 17, none⟩)), gv (!((!(validF P.sv P.sb)) || (!(validF P.dv P.db)))) (.bool P.dv), gv (!((!(validF P.sv P.sb)) || (!(validF P.dv P.db)))) (.bool (!(P.sv == P.dv))), .bool (((!(validF P.sv P.sb)) || (!(validF P.dv P.db))) || (!(P.sv == P.dv)))] : List Value).getD j undef)
      [3, 4, 5, 6, 7, 8, 9, 10, 11, 12, 13, 14, 15, 16, 17, 18, 19, 20, 21]
      [(1, .pointer (some ⟨g1, 0, none⟩))] [] 0
      [[], [0], [1], [2], [3], [4], [4, 5], [4, 6], [4, 7], [4, 8], [9], [10], [10, 11], [10, 12], [10], [10, 14], [10, 15], [10, 13, 16], [10, 17]]
      (by kernel_rfl) ⟨rfl, trivial⟩ trivial (Below.refl _ _) (fun v v' h hb => h.trans (hb.mono h.size)) (fun _ _ _ _ h _ => h)
      ⟨
      (fun QQ aa ww hS fr kn => sg0 rfl (fun K hK => wp_value (exec_fpk 0 (by decide) rfl fr.1) (hK _ _ rfl (Below.refl _ _)))),
      (fun QQ aa ww hS fr kn => sg0 rfl (fun K hK => wp_value (exec_ld rfl kn.1 (ld_src (SAt.kept q1 hS))) (hK _ _ rfl (Below.refl _ _)))),
      (fun QQ aa ww hS fr kn => sg0 rfl (fun K hK => stepc en_Valid rfl (args1 kn.1) (Valid_run P.sv P.sb ww) (fun w' hb => hK _ _ rfl hb))),
      (fun QQ aa ww hS fr kn => sg0 rfl (fun K hK => wp_value (exec_notB rfl kn.1) (hK _ _ rfl (Below.refl _ _)))),
      (fun QQ aa ww hS fr kn => sg0 rfl (fun K hK => wp_value (exec_move rfl kn.1) (hK _ _ rfl (Below.refl _ _)))),
      (fun QQ aa ww hS fr kn => sgF rfl kn.1 (fun hng K hK => have hc := nt_t hng; wp_value (exec_fpk 1 (by decide) rfl fr.1) (hK _ _ (gv_t hc).symm (Below.refl _ _))) (fun h0 => (gv_f (nt_f h0)).symm)),
      (fun QQ aa ww hS fr kn => sgF rfl kn.1 (fun hng K hK => have hc := nt_t hng; wp_value (exec_ld rfl (kn.2.1.trans (gv_t hc)) (ld_dst (SAt.kept q1 hS))) (hK _ _ (gv_t hc).symm (Below.refl _ _))) (fun h0 => (gv_f (nt_f h0)).symm)),
      (fun QQ aa ww hS fr kn => sgF rfl kn.1 (fun hng K hK => have hc := nt_t hng; stepc en_Valid rfl (args1 (kn.2.1.trans (gv_t hc))) (Valid_run P.dv P.db ww) (fun w' hb => hK _ _ (gv_t hc).symm hb)) (fun h0 => (gv_f (nt_f h0)).symm)),
      (fun QQ aa ww hS fr kn => sgF rfl kn.1 (fun hng K hK => have hc := nt_t hng; wp_value (exec_notB rfl (kn.2.1.trans (gv_t hc))) (hK _ _ (gv_t hc).symm (Below.refl _ _))) (fun h0 => (gv_f (nt_f h0)).symm)),
      (fun QQ aa ww hS fr kn => sg0 rfl (fun K hK => wp_value (exec_pickOr rfl kn.1 rfl (fun hx => kn.2.1.trans (gv_t (nt_t hx)))) (hK _ _ rfl (Below.refl _ _)))),
      (fun QQ aa ww hS fr kn => sg0 rfl (fun K hK => wp_value (exec_move rfl kn.1) (hK _ _ rfl (Below.refl _ _)))),
      (fun QQ aa ww hS fr kn => sgF rfl kn.1 (fun hng K hK => have hc := nt_t hng; wp_value (exec_fpk 0 (by decide) rfl fr.1) (hK _ _ (gv_t hc).symm (Below.refl _ _))) (fun h0 => (gv_f (nt_f h0)).symm)),
      (fun QQ aa ww hS fr kn => sgF rfl kn.1 (fun hng K hK => have hc := nt_t hng; wp_value (exec_fad0 rfl (kn.2.1.trans (gv_t hc))) (hK _ _ (gv_t hc).symm (Below.refl _ _))) (fun h0 => (gv_f (nt_f h0)).symm)),
      (fun QQ aa ww hS fr kn => sgF rfl kn.1 (fun hng K hK => have hc := nt_t hng; wp_value (exec_ld rfl (kn.2.1.trans (gv_t hc)) (ldPb (pk_sv (SAt.kept q1 hS)))) (hK _ _ (gv_t hc).symm (Below.refl _ _))) (fun h0 => (gv_f (nt_f h0)).symm)),
      (fun QQ aa ww hS fr kn => sgF rfl kn.1 (fun hng K hK => have hc := nt_t hng; wp_value (exec_fpk 1 (by decide) rfl fr.1) (hK _ _ (gv_t hc).symm (Below.refl _ _))) (fun h0 => (gv_f (nt_f h0)).symm)),
      (fun QQ aa ww hS fr kn => sgF rfl kn.1 (fun hng K hK => have hc := nt_t hng; wp_value (exec_fad0 rfl (kn.2.1.trans (gv_t hc))) (hK _ _ (gv_t hc).symm (Below.refl _ _))) (fun h0 => (gv_f (nt_f h0)).symm)),
      (fun QQ aa ww hS fr kn => sgF rfl kn.1 (fun hng K hK => have hc := nt_t hng; wp_value (exec_ld rfl (kn.2.1.trans (gv_t hc)) (ldPb (pk_dv (SAt.kept q1 hS)))) (hK _ _ (gv_t hc).symm (Below.refl _ _))) (fun h0 => (gv_f (nt_f h0)).symm)),
      (fun QQ aa ww hS fr kn => sgF rfl kn.1 (fun hng K hK => have hc := nt_t hng; wp_value (cmp_neB rfl (kn.2.1.trans (gv_t hc)) (kn.2.2.1.trans (gv_t hc))) (hK _ _ (gv_t hc).symm (Below.refl _ _))) (fun h0 => (gv_f (nt_f h0)).symm)),
      (fun QQ aa ww hS fr kn => sg0 rfl (fun K hK => wp_value (exec_pickOr rfl kn.1 rfl (fun hx => kn.2.1.trans (gv_t (nt_t hx)))) (hK _ _ rfl (Below.refl _ _)))),
      trivial⟩ ?_
  intro vs u3 hB3 kn
  have e21 : vs 21 = .bool (((!(validF P.sv P.sb)) || (!(validF P.dv P.db))) || (!(P.sv == P.dv))) := kn 18 (by decide)
  clear kn
  simp only [putAll, Act.put, List.setIfInBounds_toArray, List.set_cons_zero, List.set_cons_succ, e21]
  clear e21
  have hBy := hB2.trans (hB3.mono hB2.size)
  have r1 := SAt.kept q1 hB3
  obtain ⟨c, hc⟩ : ∃ c, (((!(validF P.sv P.sb)) || (!(validF P.dv P.db))) || (!(P.sv == P.dv))) = c := ⟨_, rfl⟩
  rw [hc] at HC ⊢
  clear hc
  cases c
  · go_upto_region 3 with fail
    refine wp_plain_steps (Below u3.heap.size u3) (fun v v' => Below v.heap.size v v') (fun j vv _ => vv = ([.pointer (some ⟨g1, 34, none⟩), .int .i64 P.proto, .bool (upB P.proto 255), .bool (!(upB P.proto 255)), .bool (!(upB P.proto 255)), gv (!(!(upB P.proto 255))) (.pointer (some ⟨g1, 35, none⟩)), gv (!(!(upB P.proto 255))) (.int .i64 P.hop), gv (!(!(upB P.proto 255))) (.bool (upB P.hop 255)), gv (!(!(upB P.proto 255))) (.bool (!(upB P.hop 255))), .bool ((!(upB P.proto 255)) || (!(upB P.hop 255))), .bool ((!(upB P.proto 255)) || (!(upB P.hop 255))), gv (!((!(upB P.proto 255)) || (!(upB P.hop 255)))) (.pointer (some ⟨g1, 36, none⟩)), gv (!((!(upB P.proto 255)) || (!(upB P.hop 255)))) (.int .i64 P.cls), gv (!((!(upB P.proto 255)) || (!(upB P.hop 255)))) (.bool (upB P.cls 255)), gv (!((!(upB P.proto 255)) || (!(upB P.hop 255)))) (.bool (!(upB P.cls 255))), .bool (((!(upB P.proto 255)) || (!(upB P.hop 255))) || (!(upB P.cls 255)))] : List Value).getD j undef)
        [22, 23, 24, 25, 26, 27, 28, 29, 30, 31, 32, 33, 34, 35, 36, 37]
        [(1, .pointer (some ⟨g1, 0, none⟩))] [] 0
        [[], [0], [1], [2], [3], [4], [4, 5], [4, 6], [4, 7], [4, 8], [9], [10], [10, 11], [10, 12], [10, 13], [10, 14]]
        (by kernel_rfl) ⟨rfl, trivial⟩ trivial (Below.refl _ _) (fun v v' h hb => h.trans (hb.mono h.size)) (fun _ _ _ _ h _ => h)
        ⟨
        (fun QQ aa ww hS fr kn => sg0 rfl (fun K hK => wp_value (exec_fpk 2 (by decide) rfl fr.1) (hK _ _ rfl (Below.refl _ _)))),
        (fun QQ aa ww hS fr kn => sg0 rfl (fun K hK => wp_value (exec_ld rfl kn.1 (ldP (pk_proto (SAt.kept r1 hS)))) (hK _ _ rfl (Below.refl _ _)))),
        (fun QQ aa ww hS fr kn => sg0 rfl (fun K hK => stepc en_upTo rfl (args2 kn.1 rfl) (upTo_run P.proto 255 ww) (fun w' hb => hK _ _ rfl hb))),
        (fun QQ aa ww hS fr kn => sg0 rfl (fun K hK => wp_value (exec_notB rfl kn.1) (hK _ _ rfl (Below.refl _ _)))),
        (fun QQ aa ww hS fr kn => sg0 rfl (fun K hK => wp_value (exec_move rfl kn.1) (hK _ _ rfl (Below.refl _ _)))),
        (fun QQ aa ww hS fr kn => sgF rfl kn.1 (fun hng K hK => have hc := nt_t hng; wp_value (exec_fpk 3 (by decide) rfl fr.1) (hK _ _ (gv_t hc).symm (Below.refl _ _))) (fun h0 => (gv_f (nt_f h0)).symm)),
        (fun QQ aa ww hS fr kn => sgF rfl kn.1 (fun hng K hK => have hc := nt_t hng; wp_value (exec_ld rfl (kn.2.1.trans (gv_t hc)) (ldP (pk_hop (SAt.kept r1 hS)))) (hK _ _ (gv_t hc).symm (Below.refl _ _))) (fun h0 => (gv_f (nt_f h0)).symm)),
        (fun QQ aa ww hS fr kn => sgF rfl kn.1 (fun hng K hK => have hc := nt_t hng; stepc en_upTo rfl (args2 (kn.2.1.trans (gv_t hc)) rfl) (upTo_run P.hop 255 ww) (fun w' hb => hK _ _ (gv_t hc).symm hb)) (fun h0 => (gv_f (nt_f h0)).symm)),
        (fun QQ aa ww hS fr kn => sgF rfl kn.1 (fun hng K hK => have hc := nt_t hng; wp_value (exec_notB rfl (kn.2.1.trans (gv_t hc))) (hK _ _ (gv_t hc).symm (Below.refl _ _))) (fun h0 => (gv_f (nt_f h0)).symm)),
        (fun QQ aa ww hS fr kn => sg0 rfl (fun K hK => wp_value (exec_pickOr rfl kn.1 rfl (fun hx => kn.2.1.trans (gv_t (nt_t hx)))) (hK _ _ rfl (Below.refl _ _)))),
        (fun QQ aa ww hS fr kn => sg0 rfl (fun K hK => wp_value (exec_move rfl kn.1) (hK _ _ rfl (Below.refl _ _)))),
        (fun QQ aa ww hS fr kn => sgF rfl kn.1 (fun hng K hK => have hc := nt_t hng; wp_value (exec_fpk 4 (by decide) rfl fr.1) (hK _ _ (gv_t hc).symm (Below.refl _ _))) (fun h0 => (gv_f (nt_f h0)).symm)),
        (fun QQ aa ww hS fr kn => sgF rfl kn.1 (fun hng K hK => have hc := nt_t hng; wp_value (exec_ld rfl (kn.2.1.trans (gv_t hc)) (ldP (pk_cls (SAt.kept r1 hS)))) (hK _ _ (gv_t hc).symm (Below.refl _ _))) (fun h0 => (gv_f (nt_f h0)).symm)),
        (fun QQ aa ww hS fr kn => sgF rfl kn.1 (fun hng K hK => have hc := nt_t hng; stepc en_upTo rfl (args2 (kn.2.1.trans (gv_t hc)) rfl) (upTo_run P.cls 255 ww) (fun w' hb => hK _ _ (gv_t hc).symm hb)) (fun h0 => (gv_f (nt_f h0)).symm)),
        (fun QQ aa ww hS fr kn => sgF rfl kn.1 (fun hng K hK => have hc := nt_t hng; wp_value (exec_notB rfl (kn.2.1.trans (gv_t hc))) (hK _ _ (gv_t hc).symm (Below.refl _ _))) (fun h0 => (gv_f (nt_f h0)).symm)),
        (fun QQ aa ww hS fr kn => sg0 rfl (fun K hK => wp_value (exec_pickOr rfl kn.1 rfl (fun hx => kn.2.1.trans (gv_t (nt_t hx)))) (hK _ _ rfl (Below.refl _ _)))),
        trivial⟩ ?_
    intro vs u4 hB4 kn
    have e37 : vs 37 = .bool (((!(upB P.proto 255)) || (!(upB P.hop 255))) || (!(upB P.cls 255))) := kn 15 (by decide)
    clear kn
    simp only [putAll, Act.put, List.setIfInBounds_toArray, List.set_cons_zero, List.set_cons_succ, e37]
    clear e37
    have hBx := hBy.trans (hB4.mono hBy.size)
    have r2 := SAt.kept r1 hB4
    obtain ⟨c, hc⟩ : ∃ c, (((!(upB P.proto 255)) || (!(upB P.hop 255))) || (!(upB P.cls 255))) = c := ⟨_, rfl⟩
    rw [hc] at HC ⊢
    clear hc
    cases c
    · go_upto_region 5 with fail
      refine wp_plain_steps (Below u4.heap.size u4) (fun v v' => Below v.heap.size v v') (fun j vv _ => vv = ([.pointer (some ⟨g1, 38, none⟩), .int .i64 P.off, .bool (upB P.off 65528), .bool (!(upB P.off 65528)), .bool (!(upB P.off 65528)), gv (!(!(upB P.off 65528))) (.pointer (some ⟨g1, 38, none⟩)), gv (!(!(upB P.off 65528))) (.int .i64 P.off), gv (!(!(upB P.off 65528))) (.int .i64 (P.off % 8)), gv (!(!(upB P.off 65528))) (.bool (!decide (P.off % 8 = 0))), .bool ((!(upB P.off 65528)) || (!decide (P.off % 8 = 0)))] : List Value).getD j undef)
          [38, 39, 40, 41, 42, 43, 44, 45, 46, 47]
          [(1, .pointer (some ⟨g1, 0, none⟩))] [] 0
          [[], [0], [1], [2], [3], [4], [4, 5], [4, 6], [4, 7], [4, 8]]
          (by kernel_rfl) ⟨rfl, trivial⟩ trivial (Below.refl _ _) (fun v v' h hb => h.trans (hb.mono h.size)) (fun _ _ _ _ h _ => h)
          ⟨
          (fun QQ aa ww hS fr kn => sg0 rfl (fun K hK => wp_value (exec_fpk 6 (by decide) rfl fr.1) (hK _ _ rfl (Below.refl _ _)))),
          (fun QQ aa ww hS fr kn => sg0 rfl (fun K hK => wp_value (exec_ld rfl kn.1 (ldP (pk_off (SAt.kept r2 hS)))) (hK _ _ rfl (Below.refl _ _)))),
          (fun QQ aa ww hS fr kn => sg0 rfl (fun K hK => stepc en_upTo rfl (args2 kn.1 rfl) (upTo_run P.off 65528 ww) (fun w' hb => hK _ _ rfl hb))),
          (fun QQ aa ww hS fr kn => sg0 rfl (fun K hK => wp_value (exec_notB rfl kn.1) (hK _ _ rfl (Below.refl _ _)))),
          (fun QQ aa ww hS fr kn => sg0 rfl (fun K hK => wp_value (exec_move rfl kn.1) (hK _ _ rfl (Below.refl _ _)))),
          (fun QQ aa ww hS fr kn => sgF rfl kn.1 (fun hng K hK => have hc := nt_t hng; wp_value (exec_fpk 6 (by decide) rfl fr.1) (hK _ _ (gv_t hc).symm (Below.refl _ _))) (fun h0 => (gv_f (nt_f h0)).symm)),
          (fun QQ aa ww hS fr kn => sgF rfl kn.1 (fun hng K hK => have hc := nt_t hng; wp_value (exec_ld rfl (kn.2.1.trans (gv_t hc)) (ldP (pk_off (SAt.kept r2 hS)))) (hK _ _ (gv_t hc).symm (Below.refl _ _))) (fun h0 => (gv_f (nt_f h0)).symm)),
          (fun QQ aa ww hS fr kn => sgF rfl kn.1 (fun hng K hK => have hc := nt_t hng; wp_value (rem_nn rfl (kn.2.1.trans (gv_t hc)) rfl (off_nn hc) (by decide)) (hK _ _ (gv_t hc).symm (Below.refl _ _))) (fun h0 => (gv_f (nt_f h0)).symm)),
          (fun QQ aa ww hS fr kn => sgF rfl kn.1 (fun hng K hK => have hc := nt_t hng; wp_value (cmp_ne (m := P.off % 8) (n := 0) rfl (kn.2.1.trans (gv_t hc)) rfl) (hK _ _ (gv_t hc).symm (Below.refl _ _))) (fun h0 => (gv_f (nt_f h0)).symm)),
          (fun QQ aa ww hS fr kn => sg0 rfl (fun K hK => wp_value (exec_pickOr rfl kn.1 rfl (fun hx => kn.2.1.trans (gv_t (nt_t hx)))) (hK _ _ rfl (Below.refl _ _)))),
          trivial⟩ ?_
      intro vs u5 hB5 kn
      have e47 : vs 47 = .bool ((!(upB P.off 65528)) || (!decide (P.off % 8 = 0))) := kn 9 (by decide)
      clear kn
      simp only [putAll, Act.put, List.setIfInBounds_toArray, List.set_cons_zero, List.set_cons_succ, e47]
      clear e47
      have hBw := hBx.trans (hB5.mono hBx.size)
      have r3 := SAt.kept r2 hB5
      have hx3 := ((hx1.kept hB3).kept hB4).kept hB5
      obtain ⟨c, hc⟩ : ∃ c, ((!(upB P.off 65528)) || (!decide (P.off % 8 = 0))) = c := ⟨_, rfl⟩
      rw [hc] at HC ⊢
      clear hc
      have s0 := pk_sv r3
      cases c
      · cases hsv : P.sv
        · have hr : r = rgt4 P := by rw [HC.out, hsv]; rfl
          rw [hsv] at s0
          go_wp2_with (first | (refine wl_value rfl (exec_fpk 0 (by decide) rfl (by rfl)) ?_) | (refine wl_value rfl (exec_fad0 rfl (by rfl)) ?_) | (refine wl_value rfl (exec_ld rfl (by rfl) (ldPb s0)) ?_) | (refine wl_value rfl (look_st rfl isPk r3 (by rfl)) ?_) | (go_at_call 50; refine (H4.out _ hx3).mono ?_; rintro e u6 ⟨rfl, hB6⟩; refine Hid.out ?_))
          refine Hid.mk ?_
          go_wp2_with fail
          go_ret
          exact ⟨by rw [hr]; rfl, hBw.trans (hB6.mono hBw.size)⟩
        · have hr : r = rgt6 P := by rw [HC.out, hsv]; rfl
          rw [hsv] at s0
          go_wp2_with (first | (refine wl_value rfl (exec_fpk 0 (by decide) rfl (by rfl)) ?_) | (refine wl_value rfl (exec_fad0 rfl (by rfl)) ?_) | (refine wl_value rfl (exec_ld rfl (by rfl) (ldPb s0)) ?_) | (refine wl_value rfl (look_st rfl isPk r3 (by rfl)) ?_) | (go_at_call 49; refine (H6.out _ hx3).mono ?_; rintro e u6 ⟨rfl, hB6⟩; refine Hid.out ?_))
          refine Hid.mk ?_
          go_wp2_with fail
          go_ret
          exact ⟨by rw [hr]; rfl, hBw.trans (hB6.mono hBw.size)⟩
      · have hr : r = false := by rw [HC.out]; rfl
        go_wp2_with fail
        go_ret
        exact ⟨by rw [hr]; rfl, hBw⟩
    · have hr : r = false := by rw [HC.out]; rfl
      go_wp2_with fail
      go_ret
      exact ⟨by rw [hr]; rfl, hBx⟩
  · have hr : r = false := by rw [HC.out]; rfl
    go_wp2_with fail
    go_ret
    exact ⟨by rw [hr]; rfl, hBy⟩
theorem en_Right (args : Array Value) (w : World) : (callFunc 16 args).run Tryd.prog w = .ok (.enter 16 args) w := by kernel_rfl
end Go.Proofs.YtojekoakgpkkdaaDoor
