/-
  Own text. Which packets may be: Right of the program and of the document.
-/
import Derived.Test.YtojekoakgpkkdabDoorJF2
namespace Go.Proofs.YtojekoakgpkkdabDoor
open Go.RowKit Go.Proofs
set_option maxRecDepth 100000
theorem exsOk_step {l : List Ex} {x : Ex} {i j : Nat} (hx : l[i]? = some x) : exsOk (l.drop i) j = (exOk x j && exsOk (l.drop (i + 1)) (j + 1)) := by
  have h1 := (List.getElem?_eq_some_iff.1 hx)
  rw [List.drop_eq_getElem_cons h1.1, h1.2]
  rfl
theorem exOk_code (x : Ex) (i : Nat) : ((!isEx x.kind || !mayB x.kind i) || !decide ((((2 + x.body.size) % 8 : Nat) : Int) = 0) || decide ((2046 : Int) < (x.body.size : Int))) = !exOk x i := by
  unfold exOk
  have e1 : decide ((((2 + x.body.size) % 8 : Nat) : Int) = 0) = decide (x.body.size % 8 = 6) := by congr 1; exact propext ⟨fun h => by omega, fun h => by omega⟩
  have e2 : decide ((2046 : Int) < (x.body.size : Int)) = !decide (x.body.size ≤ 2046) := by
    by_cases h : x.body.size ≤ 2046
    · rw [decide_eq_true h, decide_eq_false (by omega)]; rfl
    · rw [decide_eq_false h, decide_eq_true (by omega)]; rfl
  rw [e1, e2]
  cases isEx x.kind <;> cases mayB x.kind i <;> cases decide (x.body.size % 8 = 6) <;> cases decide (x.body.size ≤ 2046) <;> rfl
theorem wl_allocEx {ops : Array Oper} {rest : List Oper} {o : Oper} {a : Act} {w : World} {Q : Exit → Act → World → Prop} (ho : o.op = .alloc 113) (hgd : Region.wanted o (yielded ops a.tmps) = true)
    (h : ∀ g w', w.heap.size ≤ g → SAt w' g 113 2 (exV ⟨0, ByteArray.empty⟩) → Below w.heap.size w w' → wpList Tryd.prog ops Q rest (a.put o.dst (.pointer (some ⟨g, 0, none⟩))) w') : wpList Tryd.prog ops Q (o :: rest) a w := wl_alO ho hgd zeroEx h
set_option maxHeartbeats 8000000 in
theorem rightExts_run (v : Value) (l : List Ex) (w : World) (h1 : ExAt w v l) (hn : l.length < 4611686018427387904) (hb : ∀ x ∈ l, x.body.size ≤ 140737488355328) : Calls Tryd.prog 56 #[v] w fun e w' => e = .returned (.bool (exsOk l 0)) ∧ Below w.heap.size w w' := by
  obtain ⟨a1, c1, rfl, _⟩ := id h1
  have HR : Hid (exsOk l 0 = exsOk (l.drop 0) 0) := Hid.mk (by rw [List.drop_zero])
  have HE : Hid (∀ j, exsOk (l.drop l.length) j = true) := Hid.mk (fun j => by rw [List.drop_length]; rfl)
  have HB := Hid.mk hb
  clear hb
  generalize exsOk l 0 = r at *
  obtain ⟨n, hnn⟩ : ∃ n, l.length = n := ⟨_, rfl⟩
  have HN := Hid.mk hnn
  rw [hnn] at h1 hn HE ⊢
  clear hnn
  go_enter Tryd.func56, Tryd.ntmps56
  go_wp2_with fail
  go_loopg [8] n (fun gm s8 z => ∃ i : Nat, Hid (gm + i = n) ∧ s8 = .int .i64 (i : Int) ∧ Hid (r = exsOk (l.drop i) i) ∧ Below w.heap.size w z)
  case atStart => exact ⟨0, Hid.mk rfl, rfl, HR, Below.refl _ _⟩
  case round =>
    obtain ⟨i, HI, rfl, HRi, hBz⟩ := hrel
    by_cases hil : i < n
    · have hili : (i : Int) < (n : Int) := by omega
      obtain ⟨x, hx⟩ := list_at (l := l) (i := i) (by rw [HN.out]; exact hil)
      have HS := Hid.mk (exsOk_step (j := i) hx)
      have HZ : Hid (2 + x.body.size < 9223372036854775808) := Hid.mk (by have := HB.out x (List.mem_of_getElem? hx); omega)
      obtain ⟨p1, rfl, k1, k1b⟩ := h1.sl hBz hx
      have H1 := Hid.mk hil
      have hld := ldEx (e := x) k1 k1b
      go_wp2_with (first | (refine wl_value rfl (exec_ixE (i := i) rfl (by rfl) (by rfl) H1.out) ?_) | (refine wl_value rfl (exec_ld rfl (by rfl) hld) ?_) | (refine wl_allocEx rfl rfl ?_; intro g4 y1 hg4 q4 hC1; refine Hid.out ?_))
      refine Hid.mk ?_
      have hg4w : w.heap.size ≤ g4 := by have := hBz.size; omega
      go_wp2_with (refine st_stO rfl rfl isEx2 (exV_one _) q4 (by rfl) (by rfl) ?_; intro y2 r4 o4; refine Hid.out ?_)
      refine Hid.mk ?_
      have hBy : Below w.heap.size w y2 := (hBz.trans (hC1.mono hBz.size)).trans (o4.below hg4w)
      go_upto_region 4 with fail
      refine wp_plain_steps (Below y2.heap.size y2) (fun v v' => Below v.heap.size v v') (fun j vv _ => vv = ([.pointer (some ⟨g4, 1, none⟩), .string x.body, .int .i64 (x.body.size : Int), .int .i64 ((2 + x.body.size : Nat) : Int), .int .i64 (((2 + x.body.size) % 8 : Nat) : Int), .bool (decide ((((2 + x.body.size) % 8 : Nat) : Int) = 0)), .bool (decide ((((2 + x.body.size) % 8 : Nat) : Int) = 0))] : List Value).getD j undef)
          [13, 14, 15, 16, 17, 18, 5]
          [(4, .pointer (some ⟨g4, 0, none⟩))] [] 0
          [[], [0], [1], [2], [3], [4], [5]]
          (by kernel_rfl) ⟨rfl, trivial⟩ trivial (Below.refl _ _) (fun v v' h hb => h.trans (hb.mono h.size)) (fun _ _ _ _ h _ => h)
          ⟨
          (fun QQ aa ww hS fr kn => sg0 rfl (fun K hK => wp_value (exec_fexG 1 (by decide) rfl fr.1) (hK _ _ rfl (Below.refl _ _)))),
          (fun QQ aa ww hS fr kn => sg0 rfl (fun K hK => wp_value (exec_ld rfl kn.1 (ldPs (ex_body (SAt.kept r4 hS)))) (hK _ _ rfl (Below.refl _ _)))),
          (fun QQ aa ww hS fr kn => sg0 rfl (fun K hK => wp_value (exec_lenS rfl kn.1) (hK _ _ rfl (Below.refl _ _)))),
          (fun QQ aa ww hS fr kn => sg0 rfl (fun K hK => wp_value (exec_addW (i := 2) (m := x.body.size) rfl rfl kn.1 rfl HZ.out) (hK _ _ rfl (Below.refl _ _)))),
          (fun QQ aa ww hS fr kn => sg0 rfl (fun K hK => wp_value (exec_remW (i := 2 + x.body.size) (m := 8) rfl kn.1 rfl rfl (by decide)) (hK _ _ rfl (Below.refl _ _)))),
          (fun QQ aa ww hS fr kn => sg0 rfl (fun K hK => wp_value (cmp_eq (m := (((2 + x.body.size) % 8 : Nat) : Int)) (n := 0) rfl kn.1 rfl) (hK _ _ rfl (Below.refl _ _)))),
          (fun QQ aa ww hS fr kn => sg0 rfl (fun K hK => wp_value (exec_assign rfl kn.1) (hK _ _ rfl (Below.refl _ _)))),
          trivial⟩ ?_
      intro vs y3 hB3 kn
      have e5 : vs 5 = .bool (decide ((((2 + x.body.size) % 8 : Nat) : Int) = 0)) := kn 6 (by decide)
      clear kn
      simp only [putAll, Act.put, List.setIfInBounds_toArray, List.set_cons_zero, List.set_cons_succ, e5]
      clear e5
      have r5 := SAt.kept r4 hB3
      have hBx := hBy.trans (hB3.mono hBy.size)
      go_upto_region 5 with fail
      refine wp_plain_steps (Below y3.heap.size y3) (fun v v' => Below v.heap.size v v') (fun j vv _ => vv = ([.pointer (some ⟨g4, 0, none⟩), .int .i64 x.kind, .bool (isEx x.kind), .bool (!(isEx x.kind)), .bool (!(isEx x.kind)), gv (!(!(isEx x.kind))) (.pointer (some ⟨g4, 0, none⟩)), gv (!(!(isEx x.kind))) (.int .i64 x.kind), gv (!(!(isEx x.kind))) (.int .i64 (i : Int)), gv (!(!(isEx x.kind))) (.bool (mayB x.kind i)), gv (!(!(isEx x.kind))) (.bool (!(mayB x.kind i))), .bool ((!(isEx x.kind)) || (!(mayB x.kind i))), .bool ((!(isEx x.kind)) || (!(mayB x.kind i))), gv (!((!(isEx x.kind)) || (!(mayB x.kind i)))) (.bool (decide ((((2 + x.body.size) % 8 : Nat) : Int) = 0))), gv (!((!(isEx x.kind)) || (!(mayB x.kind i)))) (.bool (!(decide ((((2 + x.body.size) % 8 : Nat) : Int) = 0)))), .bool (((!(isEx x.kind)) || (!(mayB x.kind i))) || (!(decide ((((2 + x.body.size) % 8 : Nat) : Int) = 0)))), .bool (((!(isEx x.kind)) || (!(mayB x.kind i))) || (!(decide ((((2 + x.body.size) % 8 : Nat) : Int) = 0)))), gv (!(((!(isEx x.kind)) || (!(mayB x.kind i))) || (!(decide ((((2 + x.body.size) % 8 : Nat) : Int) = 0))))) (.pointer (some ⟨g4, 1, none⟩)), gv (!(((!(isEx x.kind)) || (!(mayB x.kind i))) || (!(decide ((((2 + x.body.size) % 8 : Nat) : Int) = 0))))) (.string x.body), gv (!(((!(isEx x.kind)) || (!(mayB x.kind i))) || (!(decide ((((2 + x.body.size) % 8 : Nat) : Int) = 0))))) (.int .i64 (x.body.size : Int)), gv (!(((!(isEx x.kind)) || (!(mayB x.kind i))) || (!(decide ((((2 + x.body.size) % 8 : Nat) : Int) = 0))))) (.bool (decide (2046 < (x.body.size : Int)))), .bool ((((!(isEx x.kind)) || (!(mayB x.kind i))) || (!(decide ((((2 + x.body.size) % 8 : Nat) : Int) = 0)))) || (decide (2046 < (x.body.size : Int))))] : List Value).getD j undef)
          [19, 20, 21, 22, 23, 24, 25, 26, 27, 28, 29, 30, 31, 32, 33, 34, 35, 36, 37, 38, 39]
          [(4, .pointer (some ⟨g4, 0, none⟩)), (3, .int .i64 (i : Int)), (5, .bool (decide ((((2 + x.body.size) % 8 : Nat) : Int) = 0)))] [] 0
          [[], [0], [1], [2], [3], [4], [4, 5], [4], [4, 6, 7], [4, 8], [4, 9], [10], [11], [11, 12], [11, 13], [14], [15], [15, 16], [15, 17], [15, 18], [15, 19]]
          (by kernel_rfl) ⟨rfl, rfl, rfl, trivial⟩ trivial (Below.refl _ _) (fun v v' h hb => h.trans (hb.mono h.size)) (fun _ _ _ _ h _ => h)
          ⟨
          (fun QQ aa ww hS fr kn => sg0 rfl (fun K hK => wp_value (exec_fexG 0 (by decide) rfl fr.1) (hK _ _ rfl (Below.refl _ _)))),
          (fun QQ aa ww hS fr kn => sg0 rfl (fun K hK => wp_value (exec_ld rfl kn.1 (ldP (ex_kind (SAt.kept r5 hS)))) (hK _ _ rfl (Below.refl _ _)))),
          (fun QQ aa ww hS fr kn => sg0 rfl (fun K hK => stepc en_isExt rfl (args1 kn.1) (isExt_run x.kind ww) (fun w' hb => hK _ _ rfl hb))),
          (fun QQ aa ww hS fr kn => sg0 rfl (fun K hK => wp_value (exec_notB rfl kn.1) (hK _ _ rfl (Below.refl _ _)))),
          (fun QQ aa ww hS fr kn => sg0 rfl (fun K hK => wp_value (exec_move rfl kn.1) (hK _ _ rfl (Below.refl _ _)))),
          (fun QQ aa ww hS fr kn => sgF rfl kn.1 (fun hng K hK => have hc := nt_t hng; wp_value (exec_fexG 0 (by decide) rfl fr.1) (hK _ _ (gv_t hc).symm (Below.refl _ _))) (fun h0 => (gv_f (nt_f h0)).symm)),
          (fun QQ aa ww hS fr kn => sgF rfl kn.1 (fun hng K hK => have hc := nt_t hng; wp_value (exec_ld rfl (kn.2.1.trans (gv_t hc)) (ldP (ex_kind (SAt.kept r5 hS)))) (hK _ _ (gv_t hc).symm (Below.refl _ _))) (fun h0 => (gv_f (nt_f h0)).symm)),
          (fun QQ aa ww hS fr kn => sgF rfl kn.1 (fun hng K hK => have hc := nt_t hng; wp_value (exec_move rfl fr.2.1) (hK _ _ (gv_t hc).symm (Below.refl _ _))) (fun h0 => (gv_f (nt_f h0)).symm)),
          (fun QQ aa ww hS fr kn => sgF rfl kn.1 (fun hng K hK => have hc := nt_t hng; stepc en_mayStand rfl (args2 (kn.2.1.trans (gv_t hc)) (kn.2.2.1.trans (gv_t hc))) (mayStand_run x.kind i ww) (fun w' hb => hK _ _ (gv_t hc).symm hb)) (fun h0 => (gv_f (nt_f h0)).symm)),
          (fun QQ aa ww hS fr kn => sgF rfl kn.1 (fun hng K hK => have hc := nt_t hng; wp_value (exec_notB rfl (kn.2.1.trans (gv_t hc))) (hK _ _ (gv_t hc).symm (Below.refl _ _))) (fun h0 => (gv_f (nt_f h0)).symm)),
          (fun QQ aa ww hS fr kn => sg0 rfl (fun K hK => wp_value (exec_pickOr rfl kn.1 rfl (fun hx => kn.2.1.trans (gv_t (nt_t hx)))) (hK _ _ rfl (Below.refl _ _)))),
          (fun QQ aa ww hS fr kn => sg0 rfl (fun K hK => wp_value (exec_move rfl kn.1) (hK _ _ rfl (Below.refl _ _)))),
          (fun QQ aa ww hS fr kn => sgF rfl kn.1 (fun hng K hK => have hc := nt_t hng; wp_value (exec_move rfl fr.2.2.1) (hK _ _ (gv_t hc).symm (Below.refl _ _))) (fun h0 => (gv_f (nt_f h0)).symm)),
          (fun QQ aa ww hS fr kn => sgF rfl kn.1 (fun hng K hK => have hc := nt_t hng; wp_value (exec_notB rfl (kn.2.1.trans (gv_t hc))) (hK _ _ (gv_t hc).symm (Below.refl _ _))) (fun h0 => (gv_f (nt_f h0)).symm)),
          (fun QQ aa ww hS fr kn => sg0 rfl (fun K hK => wp_value (exec_pickOr rfl kn.1 rfl (fun hx => kn.2.1.trans (gv_t (nt_t hx)))) (hK _ _ rfl (Below.refl _ _)))),
          (fun QQ aa ww hS fr kn => sg0 rfl (fun K hK => wp_value (exec_move rfl kn.1) (hK _ _ rfl (Below.refl _ _)))),
          (fun QQ aa ww hS fr kn => sgF rfl kn.1 (fun hng K hK => have hc := nt_t hng; wp_value (exec_fexG 1 (by decide) rfl fr.1) (hK _ _ (gv_t hc).symm (Below.refl _ _))) (fun h0 => (gv_f (nt_f h0)).symm)),
          (fun QQ aa ww hS fr kn => sgF rfl kn.1 (fun hng K hK => have hc := nt_t hng; wp_value (exec_ld rfl (kn.2.1.trans (gv_t hc)) (ldPs (ex_body (SAt.kept r5 hS)))) (hK _ _ (gv_t hc).symm (Below.refl _ _))) (fun h0 => (gv_f (nt_f h0)).symm)),
          (fun QQ aa ww hS fr kn => sgF rfl kn.1 (fun hng K hK => have hc := nt_t hng; wp_value (exec_lenS rfl (kn.2.1.trans (gv_t hc))) (hK _ _ (gv_t hc).symm (Below.refl _ _))) (fun h0 => (gv_f (nt_f h0)).symm)),
          (fun QQ aa ww hS fr kn => sgF rfl kn.1 (fun hng K hK => have hc := nt_t hng; wp_value (cmp_gt (m := (x.body.size : Int)) (n := 2046) rfl (kn.2.1.trans (gv_t hc)) rfl) (hK _ _ (gv_t hc).symm (Below.refl _ _))) (fun h0 => (gv_f (nt_f h0)).symm)),
          (fun QQ aa ww hS fr kn => sg0 rfl (fun K hK => wp_value (exec_pickOr rfl kn.1 rfl (fun hx => kn.2.1.trans (gv_t (nt_t hx)))) (hK _ _ rfl (Below.refl _ _)))),
          trivial⟩ ?_
      intro vs y4 hB4 kn
      have e39 : vs 39 = .bool ((((!(isEx x.kind)) || (!(mayB x.kind i))) || (!(decide ((((2 + x.body.size) % 8 : Nat) : Int) = 0)))) || (decide (2046 < (x.body.size : Int)))) := kn 20 (by decide)
      clear kn
      simp only [putAll, Act.put, List.setIfInBounds_toArray, List.set_cons_zero, List.set_cons_succ, e39]
      clear e39
      have hBw := hBx.trans (hB4.mono hBx.size)
      have HX := exOk_code x i
      rw [HX]
      cases hq : exOk x i
      · have hr : r = false := by rw [HRi.out, HS.out, hq]; rfl
        clear HX
        go_wp2_with fail
        go_ret
        exact ⟨by rw [hr]; rfl, hBw⟩
      · have HR2 : Hid (r = exsOk (l.drop (i + 1)) (i + 1)) := Hid.mk (by rw [HRi.out, HS.out, hq]; rfl)
        clear HX
        go_wp2_with fail
        go_roundg (n - (i + 1))
        case rel => exact ⟨i + 1, Hid.mk (by omega), by go_num, HR2, hBw⟩
        case measure => have := HI.out; omega
    · have hi2 : i = n := by have := HI.out; omega
      subst hi2
      have hr : r = true := by rw [HRi.out]; exact HE.out _
      go_wp2_with fail
      go_ret
      exact ⟨by rw [hr]; rfl, hBz⟩
theorem en_rightExts (args : Array Value) (w : World) : (callFunc 56 args).run Tryd.prog w = .ok (.enter 56 args) w := by kernel_rfl
theorem en_Valid (args : Array Value) (w : World) : (callFunc 10 args).run Tryd.prog w = .ok (.enter 10 args) w := by kernel_rfl
theorem off_nn {n m : Int} (h : (!(!upB n m)) = true) : 0 ≤ n := by
  rw [Bool.not_not] at h
  exact (upB_iff.1 h).1
theorem dec_nat {a b : Nat} : decide ((a : Int) = (b : Int)) = decide (a = b) := by congr 1; exact propext ⟨fun h => by omega, fun h => by omega⟩
theorem dec_le {a b : Nat} : decide ((a : Int) ≤ (b : Int)) = decide (a ≤ b) := by congr 1; exact propext ⟨fun h => by omega, fun h => by omega⟩
theorem len_nil (l : List Ex) : decide ((l.length : Int) = 0) = l.isEmpty := by
  cases l with
  | nil => rfl
  | cons x l => rw [decide_eq_false (by simp; omega)]; rfl
theorem txt_nil (s : ByteArray) : decide (s = ByteArray.empty) = decide (s.size = 0) := by
  congr 1
  exact propext ⟨fun h => by rw [h]; rfl, fun h => txt_ext (by rw [h]; rfl) (fun j hj => by omega)⟩
theorem rgt4_code (P : Pk) : (upB P.id 65535 && decide (((P.opts.size % 4 : Nat) : Int) = 0) && decide ((P.opts.size : Int) ≤ 40) && decide (P.flow = 0) && decide ((P.exts.length : Int) = 0) && !P.cut) = rgt4 P := by
  unfold rgt4
  have e1 : decide (((P.opts.size % 4 : Nat) : Int) = 0) = decide (P.opts.size % 4 = 0) := dec_nat (b := 0)
  have e2 : decide ((P.opts.size : Int) ≤ 40) = decide (P.opts.size ≤ 40) := dec_le (b := 40)
  rw [e1, e2, len_nil]
  rfl
set_option maxHeartbeats 8000000 in
theorem right4_run (P : Pk) (v : Value) (w : World) (h1 : ExAt w v P.exts) (_hn : P.exts.length < 4611686018427387904) (_hb : ∀ x ∈ P.exts, x.body.size ≤ 140737488355328) : Calls Tryd.prog 45 #[.agg (SC 46 (pkV P v))] w fun e w' => e = .returned (.bool (rgt4 P)) ∧ Below w.heap.size w w' := by
  obtain ⟨a1, c1, rfl, _⟩ := id h1
  go_enter Tryd.func45, Tryd.ntmps45
  go_wp2_with (refine wl_boxO rfl rfl isPk (by rfl) ?_; intro g1 u2 hg1 q1 hB2; refine Hid.out ?_)
  refine Hid.mk ?_
  go_upto_region 1 with fail
  refine wp_plain_steps (Below u2.heap.size u2) (fun v v' => Below v.heap.size v v') (fun j vv _ => vv = ((.pointer (some ⟨g1, 37, none⟩) :: .int .i64 P.id :: .bool (upB P.id 65535) :: .bool (upB P.id 65535) :: gv (upB P.id 65535) (.pointer (some ⟨g1, 41, none⟩)) :: gv (upB P.id 65535) (.string P.opts) :: gv (upB P.id 65535) (.int .i64 (P.opts.size : Int)) :: gv (upB P.id 65535) (.int .i64 ((P.opts.size % 4 : Nat) : Int)) :: gv (upB P.id 65535) (.bool (decide (((P.opts.size % 4 : Nat) : Int) = 0))) :: .bool ((upB P.id 65535) && (decide (((P.opts.size % 4 : Nat) : Int) = 0))) :: .bool ((upB P.id 65535) && (decide (((P.opts.size % 4 : Nat) : Int) = 0))) :: gv ((upB P.id 65535) && (decide (((P.opts.size % 4 : Nat) : Int) = 0))) (.pointer (some ⟨g1, 41, none⟩)) :: gv ((upB P.id 65535) && (decide (((P.opts.size % 4 : Nat) : Int) = 0))) (.string P.opts) :: gv ((upB P.id 65535) && (decide (((P.opts.size % 4 : Nat) : Int) = 0))) (.int .i64 (P.opts.size : Int)) :: gv ((upB P.id 65535) && (decide (((P.opts.size % 4 : Nat) : Int) = 0))) (.bool (decide ((P.opts.size : Int) ≤ 40))) :: .bool (((upB P.id 65535) && (decide (((P.opts.size % 4 : Nat) : Int) = 0))) && (decide ((P.opts.size : Int) ≤ 40))) :: .bool (((upB P.id 65535) && (decide (((P.opts.size % 4 : Nat) : Int) = 0))) && (decide ((P.opts.size : Int) ≤ 40))) :: gv (((upB P.id 65535) && (decide (((P.opts.size % 4 : Nat) : Int) = 0))) && (decide ((P.opts.size : Int) ≤ 40))) (.pointer (some ⟨g1, 42, none⟩)) :: gv (((upB P.id 65535) && (decide (((P.opts.size % 4 : Nat) : Int) = 0))) && (decide ((P.opts.size : Int) ≤ 40))) (.int .i64 P.flow) :: gv (((upB P.id 65535) && (decide (((P.opts.size % 4 : Nat) : Int) = 0))) && (decide ((P.opts.size : Int) ≤ 40))) (.bool (decide (P.flow = 0))) :: .bool ((((upB P.id 65535) && (decide (((P.opts.size % 4 : Nat) : Int) = 0))) && (decide ((P.opts.size : Int) ≤ 40))) && (decide (P.flow = 0))) :: .bool ((((upB P.id 65535) && (decide (((P.opts.size % 4 : Nat) : Int) = 0))) && (decide ((P.opts.size : Int) ≤ 40))) && (decide (P.flow = 0))) :: gv ((((upB P.id 65535) && (decide (((P.opts.size % 4 : Nat) : Int) = 0))) && (decide ((P.opts.size : Int) ≤ 40))) && (decide (P.flow = 0))) (.pointer (some ⟨g1, 43, none⟩)) :: gv ((((upB P.id 65535) && (decide (((P.opts.size % 4 : Nat) : Int) = 0))) && (decide ((P.opts.size : Int) ≤ 40))) && (decide (P.flow = 0))) (.slice a1 P.exts.length c1) :: gv ((((upB P.id 65535) && (decide (((P.opts.size % 4 : Nat) : Int) = 0))) && (decide ((P.opts.size : Int) ≤ 40))) && (decide (P.flow = 0))) (.int .i64 (P.exts.length : Int)) :: gv ((((upB P.id 65535) && (decide (((P.opts.size % 4 : Nat) : Int) = 0))) && (decide ((P.opts.size : Int) ≤ 40))) && (decide (P.flow = 0))) (.bool (decide ((P.exts.length : Int) = 0))) :: .bool (((((upB P.id 65535) && (decide (((P.opts.size % 4 : Nat) : Int) = 0))) && (decide ((P.opts.size : Int) ≤ 40))) && (decide (P.flow = 0))) && (decide ((P.exts.length : Int) = 0))) :: .bool (((((upB P.id 65535) && (decide (((P.opts.size % 4 : Nat) : Int) = 0))) && (decide ((P.opts.size : Int) ≤ 40))) && (decide (P.flow = 0))) && (decide ((P.exts.length : Int) = 0))) :: gv (((((upB P.id 65535) && (decide (((P.opts.size % 4 : Nat) : Int) = 0))) && (decide ((P.opts.size : Int) ≤ 40))) && (decide (P.flow = 0))) && (decide ((P.exts.length : Int) = 0))) (.pointer (some ⟨g1, 44, none⟩)) :: gv (((((upB P.id 65535) && (decide (((P.opts.size % 4 : Nat) : Int) = 0))) && (decide ((P.opts.size : Int) ≤ 40))) && (decide (P.flow = 0))) && (decide ((P.exts.length : Int) = 0))) (.bool P.cut) :: gv (((((upB P.id 65535) && (decide (((P.opts.size % 4 : Nat) : Int) = 0))) && (decide ((P.opts.size : Int) ≤ 40))) && (decide (P.flow = 0))) && (decide ((P.exts.length : Int) = 0))) (.bool (!P.cut)) :: .bool ((((((upB P.id 65535) && (decide (((P.opts.size % 4 : Nat) : Int) = 0))) && (decide ((P.opts.size : Int) ≤ 40))) && (decide (P.flow = 0))) && (decide ((P.exts.length : Int) = 0))) && (!P.cut)) :: .bool ((((((upB P.id 65535) && (decide (((P.opts.size % 4 : Nat) : Int) = 0))) && (decide ((P.opts.size : Int) ≤ 40))) && (decide (P.flow = 0))) && (decide ((P.exts.length : Int) = 0))) && (!P.cut)) :: []) : List Value).getD j undef)
      (3 :: 4 :: 5 :: 6 :: 7 :: 8 :: 9 :: 10 :: 11 :: 12 :: 13 :: 14 :: 15 :: 16 :: 17 :: 18 :: 19 :: 20 :: 21 :: 22 :: 23 :: 24 :: 25 :: 26 :: 27 :: 28 :: 29 :: 30 :: 31 :: 32 :: 33 :: 34 :: 2 :: [])
      [(1, .pointer (some ⟨g1, 0, none⟩))] [] 0
      ([] :: [0] :: [1] :: [2] :: [3] :: [3, 4] :: [3, 5] :: [3, 6] :: [3, 7] :: [3, 8] :: [9] :: [10] :: [10, 11] :: [10, 12] :: [10, 13] :: [10, 14] :: [15] :: [16] :: [16, 17] :: [16, 18] :: [16, 19] :: [20] :: [21] :: [21, 22] :: [21, 23] :: [21, 24] :: [21, 25] :: [26] :: [27] :: [27, 28] :: [27, 29] :: [27, 30] :: [31] :: [])
      (by kernel_rfl) ⟨rfl, trivial⟩ trivial (Below.refl _ _) (fun v v' h hb => h.trans (hb.mono h.size)) (fun _ _ _ _ h _ => h)
      ⟨
      (fun QQ aa ww hS fr kn => sg0 rfl (fun K hK => wp_value (exec_fpk 5 (by decide) rfl fr.1) (hK _ _ rfl (Below.refl _ _)))),
      (fun QQ aa ww hS fr kn => sg0 rfl (fun K hK => wp_value (exec_ld rfl kn.1 (ldP (pk_id (SAt.kept q1 hS)))) (hK _ _ rfl (Below.refl _ _)))),
      (fun QQ aa ww hS fr kn => sg0 rfl (fun K hK => stepc en_upTo rfl (args2 kn.1 rfl) (upTo_run P.id 65535 ww) (fun w' hb => hK _ _ rfl hb))),
      (fun QQ aa ww hS fr kn => sg0 rfl (fun K hK => wp_value (exec_move rfl kn.1) (hK _ _ rfl (Below.refl _ _)))),
      (fun QQ aa ww hS fr kn => sgT rfl kn.1 (fun hc K hK => wp_value (exec_fpk 9 (by decide) rfl fr.1) (hK _ _ (gv_t hc).symm (Below.refl _ _))) (fun h0 => (gv_f h0).symm)),
      (fun QQ aa ww hS fr kn => sgT rfl kn.1 (fun hc K hK => wp_value (exec_ld rfl (kn.2.1.trans (gv_t hc)) (ldPs (pk_opts (SAt.kept q1 hS)))) (hK _ _ (gv_t hc).symm (Below.refl _ _))) (fun h0 => (gv_f h0).symm)),
      (fun QQ aa ww hS fr kn => sgT rfl kn.1 (fun hc K hK => wp_value (exec_lenS rfl (kn.2.1.trans (gv_t hc))) (hK _ _ (gv_t hc).symm (Below.refl _ _))) (fun h0 => (gv_f h0).symm)),
      (fun QQ aa ww hS fr kn => sgT rfl kn.1 (fun hc K hK => wp_value (exec_remW (i := P.opts.size) (m := 4) rfl (kn.2.1.trans (gv_t hc)) rfl rfl (by decide)) (hK _ _ (gv_t hc).symm (Below.refl _ _))) (fun h0 => (gv_f h0).symm)),
      (fun QQ aa ww hS fr kn => sgT rfl kn.1 (fun hc K hK => wp_value (cmp_eq (m := ((P.opts.size % 4 : Nat) : Int)) (n := 0) rfl (kn.2.1.trans (gv_t hc)) rfl) (hK _ _ (gv_t hc).symm (Below.refl _ _))) (fun h0 => (gv_f h0).symm)),
      (fun QQ aa ww hS fr kn => sg0 rfl (fun K hK => wp_value (exec_pickAnd rfl kn.1 (fun hx => kn.2.1.trans (gv_t hx)) rfl) (hK _ _ rfl (Below.refl _ _)))),
      (fun QQ aa ww hS fr kn => sg0 rfl (fun K hK => wp_value (exec_move rfl kn.1) (hK _ _ rfl (Below.refl _ _)))),
      (fun QQ aa ww hS fr kn => sgT rfl kn.1 (fun hc K hK => wp_value (exec_fpk 9 (by decide) rfl fr.1) (hK _ _ (gv_t hc).symm (Below.refl _ _))) (fun h0 => (gv_f h0).symm)),
      (fun QQ aa ww hS fr kn => sgT rfl kn.1 (fun hc K hK => wp_value (exec_ld rfl (kn.2.1.trans (gv_t hc)) (ldPs (pk_opts (SAt.kept q1 hS)))) (hK _ _ (gv_t hc).symm (Below.refl _ _))) (fun h0 => (gv_f h0).symm)),
      (fun QQ aa ww hS fr kn => sgT rfl kn.1 (fun hc K hK => wp_value (exec_lenS rfl (kn.2.1.trans (gv_t hc))) (hK _ _ (gv_t hc).symm (Below.refl _ _))) (fun h0 => (gv_f h0).symm)),
      (fun QQ aa ww hS fr kn => sgT rfl kn.1 (fun hc K hK => wp_value (cmp_le (m := (P.opts.size : Int)) (n := 40) rfl (kn.2.1.trans (gv_t hc)) rfl) (hK _ _ (gv_t hc).symm (Below.refl _ _))) (fun h0 => (gv_f h0).symm)),
      (fun QQ aa ww hS fr kn => sg0 rfl (fun K hK => wp_value (exec_pickAnd rfl kn.1 (fun hx => kn.2.1.trans (gv_t hx)) rfl) (hK _ _ rfl (Below.refl _ _)))),
      (fun QQ aa ww hS fr kn => sg0 rfl (fun K hK => wp_value (exec_move rfl kn.1) (hK _ _ rfl (Below.refl _ _)))),
      (fun QQ aa ww hS fr kn => sgT rfl kn.1 (fun hc K hK => wp_value (exec_fpk 10 (by decide) rfl fr.1) (hK _ _ (gv_t hc).symm (Below.refl _ _))) (fun h0 => (gv_f h0).symm)),
      (fun QQ aa ww hS fr kn => sgT rfl kn.1 (fun hc K hK => wp_value (exec_ld rfl (kn.2.1.trans (gv_t hc)) (ldP (pk_flow (SAt.kept q1 hS)))) (hK _ _ (gv_t hc).symm (Below.refl _ _))) (fun h0 => (gv_f h0).symm)),
      (fun QQ aa ww hS fr kn => sgT rfl kn.1 (fun hc K hK => wp_value (cmp_eq (m := P.flow) (n := 0) rfl (kn.2.1.trans (gv_t hc)) rfl) (hK _ _ (gv_t hc).symm (Below.refl _ _))) (fun h0 => (gv_f h0).symm)),
      (fun QQ aa ww hS fr kn => sg0 rfl (fun K hK => wp_value (exec_pickAnd rfl kn.1 (fun hx => kn.2.1.trans (gv_t hx)) rfl) (hK _ _ rfl (Below.refl _ _)))),
      (fun QQ aa ww hS fr kn => sg0 rfl (fun K hK => wp_value (exec_move rfl kn.1) (hK _ _ rfl (Below.refl _ _)))),
      (fun QQ aa ww hS fr kn => sgT rfl kn.1 (fun hc K hK => wp_value (exec_fpk 11 (by decide) rfl fr.1) (hK _ _ (gv_t hc).symm (Below.refl _ _))) (fun h0 => (gv_f h0).symm)),
      (fun QQ aa ww hS fr kn => sgT rfl kn.1 (fun hc K hK => wp_value (exec_ld rfl (kn.2.1.trans (gv_t hc)) (ldPx (pk_exts (SAt.kept q1 hS)))) (hK _ _ (gv_t hc).symm (Below.refl _ _))) (fun h0 => (gv_f h0).symm)),
      (fun QQ aa ww hS fr kn => sgT rfl kn.1 (fun hc K hK => wp_value (exec_lenX rfl (kn.2.1.trans (gv_t hc))) (hK _ _ (gv_t hc).symm (Below.refl _ _))) (fun h0 => (gv_f h0).symm)),
      (fun QQ aa ww hS fr kn => sgT rfl kn.1 (fun hc K hK => wp_value (cmp_eq (m := (P.exts.length : Int)) (n := 0) rfl (kn.2.1.trans (gv_t hc)) rfl) (hK _ _ (gv_t hc).symm (Below.refl _ _))) (fun h0 => (gv_f h0).symm)),
      (fun QQ aa ww hS fr kn => sg0 rfl (fun K hK => wp_value (exec_pickAnd rfl kn.1 (fun hx => kn.2.1.trans (gv_t hx)) rfl) (hK _ _ rfl (Below.refl _ _)))),
      (fun QQ aa ww hS fr kn => sg0 rfl (fun K hK => wp_value (exec_move rfl kn.1) (hK _ _ rfl (Below.refl _ _)))),
      (fun QQ aa ww hS fr kn => sgT rfl kn.1 (fun hc K hK => wp_value (exec_fpk 12 (by decide) rfl fr.1) (hK _ _ (gv_t hc).symm (Below.refl _ _))) (fun h0 => (gv_f h0).symm)),
      (fun QQ aa ww hS fr kn => sgT rfl kn.1 (fun hc K hK => wp_value (exec_ld rfl (kn.2.1.trans (gv_t hc)) (ldPb (pk_cut (SAt.kept q1 hS)))) (hK _ _ (gv_t hc).symm (Below.refl _ _))) (fun h0 => (gv_f h0).symm)),
      (fun QQ aa ww hS fr kn => sgT rfl kn.1 (fun hc K hK => wp_value (exec_notB rfl (kn.2.1.trans (gv_t hc))) (hK _ _ (gv_t hc).symm (Below.refl _ _))) (fun h0 => (gv_f h0).symm)),
      (fun QQ aa ww hS fr kn => sg0 rfl (fun K hK => wp_value (exec_pickAnd rfl kn.1 (fun hx => kn.2.1.trans (gv_t hx)) rfl) (hK _ _ rfl (Below.refl _ _)))),
      (fun QQ aa ww hS fr kn => sg0 rfl (fun K hK => wp_value (exec_assign rfl kn.1) (hK _ _ rfl (Below.refl _ _)))),
      trivial⟩ ?_
  intro vs u3 hB3 kn
  have e2 : vs 2 = .bool ((((((upB P.id 65535) && (decide (((P.opts.size % 4 : Nat) : Int) = 0))) && (decide ((P.opts.size : Int) ≤ 40))) && (decide (P.flow = 0))) && (decide ((P.exts.length : Int) = 0))) && (!P.cut)) := kn 32 (by decide)
  clear kn
  simp only [putAll, Act.put, List.setIfInBounds_toArray, List.set_cons_zero, List.set_cons_succ, e2]
  clear e2
  go_wp2_with fail
  go_ret
  exact ⟨by rw [← rgt4_code]; rfl, hB2.trans (hB3.mono hB2.size)⟩
theorem rgt6_code (P : Pk) : rgt6 P = (!(((((!(upB P.flow 1048575)) || (!decide (P.opts = ByteArray.empty))) || P.still) || (!(exsOk P.exts 0))) || (isHd P.proto)) && (if P.cut = true then upB P.id 4294967295 else (((decide (P.id = 0)) && (decide (P.off = 0))) && (!P.more)))) := by
  unfold rgt6
  rw [txt_nil]
  have e0 : upB 0 4294967295 = true := by decide
  cases P.cut
  · by_cases hi : P.id = 0
    · rw [hi, e0]
      cases upB P.flow 1048575 <;> cases decide (P.opts.size = 0) <;> cases P.still <;> cases exsOk P.exts 0 <;> cases isHd P.proto <;> rfl
    · have e1 : (P.id == 0) = false := by simpa using hi
      rw [e1, decide_eq_false hi]
      cases upB P.flow 1048575 <;> cases decide (P.opts.size = 0) <;> cases P.still <;> cases exsOk P.exts 0 <;> cases isHd P.proto <;> cases upB P.id 4294967295 <;> rfl
  · cases upB P.flow 1048575 <;> cases decide (P.opts.size = 0) <;> cases P.still <;> cases exsOk P.exts 0 <;> cases isHd P.proto <;> cases upB P.id 4294967295 <;> rfl
set_option maxHeartbeats 8000000 in
theorem right6_run (P : Pk) (v : Value) (w : World) (h1 : ExAt w v P.exts) (hn : P.exts.length < 4611686018427387904) (hb : ∀ x ∈ P.exts, x.body.size ≤ 140737488355328) : Calls Tryd.prog 44 #[.agg (SC 46 (pkV P v))] w fun e w' => e = .returned (.bool (rgt6 P)) ∧ Below w.heap.size w w' := by
  have HC := Hid.mk (rgt6_code P)
  generalize rgt6 P = r at *
  go_enter Tryd.func44, Tryd.ntmps44
  go_wp2_with (refine wl_boxO rfl rfl isPk (by rfl) ?_; intro g1 u2 hg1 q1 hB2; refine Hid.out ?_)
  refine Hid.mk ?_
  have hx1 := h1.kept hB2
  go_upto_region 1 with fail
  refine wp_plain_steps (Below u2.heap.size u2) (fun v v' => Below v.heap.size v v') (fun j vv _ => vv = ([.pointer (some ⟨g1, 42, none⟩), .int .i64 P.flow, .bool (upB P.flow 1048575), .bool (!(upB P.flow 1048575)), .bool (!(upB P.flow 1048575)), gv (!(!(upB P.flow 1048575))) (.pointer (some ⟨g1, 41, none⟩)), gv (!(!(upB P.flow 1048575))) (.string P.opts), gv (!(!(upB P.flow 1048575))) (.bool (!decide (P.opts = ByteArray.empty))), .bool ((!(upB P.flow 1048575)) || (!decide (P.opts = ByteArray.empty))), .bool ((!(upB P.flow 1048575)) || (!decide (P.opts = ByteArray.empty))), gv (!((!(upB P.flow 1048575)) || (!decide (P.opts = ByteArray.empty)))) (.pointer (some ⟨g1, 40, none⟩)), gv (!((!(upB P.flow 1048575)) || (!decide (P.opts = ByteArray.empty)))) (.bool P.still), .bool (((!(upB P.flow 1048575)) || (!decide (P.opts = ByteArray.empty))) || P.still), .bool (((!(upB P.flow 1048575)) || (!decide (P.opts = ByteArray.empty))) || P.still), gv (!(((!(upB P.flow 1048575)) || (!decide (P.opts = ByteArray.empty))) || P.still)) (.pointer (some ⟨g1, 43, none⟩)), gv (!(((!(upB P.flow 1048575)) || (!decide (P.opts = ByteArray.empty))) || P.still)) (v), gv (!(((!(upB P.flow 1048575)) || (!decide (P.opts = ByteArray.empty))) || P.still)) (.bool (exsOk P.exts 0)), gv (!(((!(upB P.flow 1048575)) || (!decide (P.opts = ByteArray.empty))) || P.still)) (.bool (!(exsOk P.exts 0))), .bool ((((!(upB P.flow 1048575)) || (!decide (P.opts = ByteArray.empty))) || P.still) || (!(exsOk P.exts 0))), .bool ((((!(upB P.flow 1048575)) || (!decide (P.opts = ByteArray.empty))) || P.still) || (!(exsOk P.exts 0))), gv (!((((!(upB P.flow 1048575)) || (!decide (P.opts = ByteArray.empty))) || P.still) || (!(exsOk P.exts 0)))) (.pointer (some ⟨g1, 34, none⟩)), gv (!((((!(upB P.flow 1048575)) || (!decide (P.opts = ByteArray.empty))) || P.still) || (!(exsOk P.exts 0)))) (.int .i64 P.proto), gv (!((((!(upB P.flow 1048575)) || (!decide (P.opts = ByteArray.empty))) || P.still) || (!(exsOk P.exts 0)))) (.bool (isHd P.proto)), .bool (((((!(upB P.flow 1048575)) || (!decide (P.opts = ByteArray.empty))) || P.still) || (!(exsOk P.exts 0))) || (isHd P.proto))] : List Value).getD j undef)
      [3, 4, 5, 6, 7, 8, 9, 10, 11, 12, 13, 14, 15, 16, 17, 18, 19, 20, 21, 22, 23, 24, 25, 26]
      [(1, .pointer (some ⟨g1, 0, none⟩))] [] 0
      [[], [0], [1], [2], [3], [4], [4, 5], [4, 6], [4, 7], [8], [9], [9, 10], [9, 11], [12], [13], [13, 14], [13, 15], [13, 16], [13, 17], [18], [19], [19, 20], [19, 21], [19, 22]]
      (by kernel_rfl) ⟨rfl, trivial⟩ trivial (Below.refl _ _) (fun v v' h hb => h.trans (hb.mono h.size)) (fun _ _ _ _ h _ => h)
      ⟨
      (fun QQ aa ww hS fr kn => sg0 rfl (fun K hK => wp_value (exec_fpk 10 (by decide) rfl fr.1) (hK _ _ rfl (Below.refl _ _)))),
      (fun QQ aa ww hS fr kn => sg0 rfl (fun K hK => wp_value (exec_ld rfl kn.1 (ldP (pk_flow (SAt.kept q1 hS)))) (hK _ _ rfl (Below.refl _ _)))),
      (fun QQ aa ww hS fr kn => sg0 rfl (fun K hK => stepc en_upTo rfl (args2 kn.1 rfl) (upTo_run P.flow 1048575 ww) (fun w' hb => hK _ _ rfl hb))),
      (fun QQ aa ww hS fr kn => sg0 rfl (fun K hK => wp_value (exec_notB rfl kn.1) (hK _ _ rfl (Below.refl _ _)))),
      (fun QQ aa ww hS fr kn => sg0 rfl (fun K hK => wp_value (exec_move rfl kn.1) (hK _ _ rfl (Below.refl _ _)))),
      (fun QQ aa ww hS fr kn => sgF rfl kn.1 (fun hng K hK => have hc := nt_t hng; wp_value (exec_fpk 9 (by decide) rfl fr.1) (hK _ _ (gv_t hc).symm (Below.refl _ _))) (fun h0 => (gv_f (nt_f h0)).symm)),
      (fun QQ aa ww hS fr kn => sgF rfl kn.1 (fun hng K hK => have hc := nt_t hng; wp_value (exec_ld rfl (kn.2.1.trans (gv_t hc)) (ldPs (pk_opts (SAt.kept q1 hS)))) (hK _ _ (gv_t hc).symm (Below.refl _ _))) (fun h0 => (gv_f (nt_f h0)).symm)),
      (fun QQ aa ww hS fr kn => sgF rfl kn.1 (fun hng K hK => have hc := nt_t hng; wp_value (cmp_neS (s := P.opts) (t := ByteArray.empty) rfl (kn.2.1.trans (gv_t hc)) rfl) (hK _ _ (gv_t hc).symm (Below.refl _ _))) (fun h0 => (gv_f (nt_f h0)).symm)),
      (fun QQ aa ww hS fr kn => sg0 rfl (fun K hK => wp_value (exec_pickOr rfl kn.1 rfl (fun hx => kn.2.1.trans (gv_t (nt_t hx)))) (hK _ _ rfl (Below.refl _ _)))),
      (fun QQ aa ww hS fr kn => sg0 rfl (fun K hK => wp_value (exec_move rfl kn.1) (hK _ _ rfl (Below.refl _ _)))),
      (fun QQ aa ww hS fr kn => sgF rfl kn.1 (fun hng K hK => have hc := nt_t hng; wp_value (exec_fpk 8 (by decide) rfl fr.1) (hK _ _ (gv_t hc).symm (Below.refl _ _))) (fun h0 => (gv_f (nt_f h0)).symm)),
      (fun QQ aa ww hS fr kn => sgF rfl kn.1 (fun hng K hK => have hc := nt_t hng; wp_value (exec_ld rfl (kn.2.1.trans (gv_t hc)) (ldPb (pk_still (SAt.kept q1 hS)))) (hK _ _ (gv_t hc).symm (Below.refl _ _))) (fun h0 => (gv_f (nt_f h0)).symm)),
      (fun QQ aa ww hS fr kn => sg0 rfl (fun K hK => wp_value (exec_pickOr rfl kn.1 rfl (fun hx => kn.2.1.trans (gv_t (nt_t hx)))) (hK _ _ rfl (Below.refl _ _)))),
      (fun QQ aa ww hS fr kn => sg0 rfl (fun K hK => wp_value (exec_move rfl kn.1) (hK _ _ rfl (Below.refl _ _)))),
      (fun QQ aa ww hS fr kn => sgF rfl kn.1 (fun hng K hK => have hc := nt_t hng; wp_value (exec_fpk 11 (by decide) rfl fr.1) (hK _ _ (gv_t hc).symm (Below.refl _ _))) (fun h0 => (gv_f (nt_f h0)).symm)),
      (fun QQ aa ww hS fr kn => sgF rfl kn.1 (fun hng K hK => have hc := nt_t hng; wp_value (exec_ld rfl (kn.2.1.trans (gv_t hc)) (ldPx (pk_exts (SAt.kept q1 hS)))) (hK _ _ (gv_t hc).symm (Below.refl _ _))) (fun h0 => (gv_f (nt_f h0)).symm)),
      (fun QQ aa ww hS fr kn => sgF rfl kn.1 (fun hng K hK => have hc := nt_t hng; stepc en_rightExts rfl (args1 (kn.2.1.trans (gv_t hc))) (rightExts_run _ P.exts ww (hx1.kept hS) hn hb) (fun w' hb => hK _ _ (gv_t hc).symm hb)) (fun h0 => (gv_f (nt_f h0)).symm)),
      (fun QQ aa ww hS fr kn => sgF rfl kn.1 (fun hng K hK => have hc := nt_t hng; wp_value (exec_notB rfl (kn.2.1.trans (gv_t hc))) (hK _ _ (gv_t hc).symm (Below.refl _ _))) (fun h0 => (gv_f (nt_f h0)).symm)),
      (fun QQ aa ww hS fr kn => sg0 rfl (fun K hK => wp_value (exec_pickOr rfl kn.1 rfl (fun hx => kn.2.1.trans (gv_t (nt_t hx)))) (hK _ _ rfl (Below.refl _ _)))),
      (fun QQ aa ww hS fr kn => sg0 rfl (fun K hK => wp_value (exec_move rfl kn.1) (hK _ _ rfl (Below.refl _ _)))),
      (fun QQ aa ww hS fr kn => sgF rfl kn.1 (fun hng K hK => have hc := nt_t hng; wp_value (exec_fpk 2 (by decide) rfl fr.1) (hK _ _ (gv_t hc).symm (Below.refl _ _))) (fun h0 => (gv_f (nt_f h0)).symm)),
      (fun QQ aa ww hS fr kn => sgF rfl kn.1 (fun hng K hK => have hc := nt_t hng; wp_value (exec_ld rfl (kn.2.1.trans (gv_t hc)) (ldP (pk_proto (SAt.kept q1 hS)))) (hK _ _ (gv_t hc).symm (Below.refl _ _))) (fun h0 => (gv_f (nt_f h0)).symm)),
      (fun QQ aa ww hS fr kn => sgF rfl kn.1 (fun hng K hK => have hc := nt_t hng; stepc en_isHeader rfl (args1 (kn.2.1.trans (gv_t hc))) (isHeader_run P.proto ww) (fun w' hb => hK _ _ (gv_t hc).symm hb)) (fun h0 => (gv_f (nt_f h0)).symm)),
      (fun QQ aa ww hS fr kn => sg0 rfl (fun K hK => wp_value (exec_pickOr rfl kn.1 rfl (fun hx => kn.2.1.trans (gv_t (nt_t hx)))) (hK _ _ rfl (Below.refl _ _)))),
      trivial⟩ ?_
  intro vs u3 hB3 kn
  have e26 : vs 26 = .bool (((((!(upB P.flow 1048575)) || (!decide (P.opts = ByteArray.empty))) || P.still) || (!(exsOk P.exts 0))) || (isHd P.proto)) := kn 23 (by decide)
  clear kn
  simp only [putAll, Act.put, List.setIfInBounds_toArray, List.set_cons_zero, List.set_cons_succ, e26]
  clear e26
  have hBy := hB2.trans (hB3.mono hB2.size)
  have r1 := SAt.kept q1 hB3
  have HC := Hid.mk HC.out
  obtain ⟨c, hc⟩ : ∃ c, (((((!(upB P.flow 1048575)) || (!decide (P.opts = ByteArray.empty))) || P.still) || (!(exsOk P.exts 0))) || (isHd P.proto)) = c := ⟨_, rfl⟩
  rw [hc] at HC ⊢
  clear hc
  cases c
  · have s1 := pk_cut r1
    have s2 := pk_id r1
    cases hcut : P.cut
    · have hr : r = (((decide (P.id = 0)) && (decide (P.off = 0))) && (!P.more)) := by rw [HC.out, hcut]; rfl
      rw [hcut] at s1
      go_upto_region 4 with (first | (refine wl_value rfl (exec_fpk 12 (by decide) rfl (by rfl)) ?_) | (refine wl_value rfl (exec_ld rfl (by rfl) (ldPb s1)) ?_))
      refine wp_plain_steps (Below u3.heap.size u3) (fun v v' => Below v.heap.size v v') (fun j vv _ => vv = ([.pointer (some ⟨g1, 37, none⟩), .int .i64 P.id, .bool (decide (P.id = 0)), .bool (decide (P.id = 0)), gv (decide (P.id = 0)) (.pointer (some ⟨g1, 38, none⟩)), gv (decide (P.id = 0)) (.int .i64 P.off), gv (decide (P.id = 0)) (.bool (decide (P.off = 0))), .bool ((decide (P.id = 0)) && (decide (P.off = 0))), .bool ((decide (P.id = 0)) && (decide (P.off = 0))), gv ((decide (P.id = 0)) && (decide (P.off = 0))) (.pointer (some ⟨g1, 39, none⟩)), gv ((decide (P.id = 0)) && (decide (P.off = 0))) (.bool P.more), gv ((decide (P.id = 0)) && (decide (P.off = 0))) (.bool (!P.more)), .bool (((decide (P.id = 0)) && (decide (P.off = 0))) && (!P.more)), .bool (((decide (P.id = 0)) && (decide (P.off = 0))) && (!P.more))] : List Value).getD j undef)
          [30, 31, 32, 33, 34, 35, 36, 37, 38, 39, 40, 41, 42, 2]
          [(1, .pointer (some ⟨g1, 0, none⟩))] [] 0
          [[], [0], [1], [2], [3], [3, 4], [3, 5], [3, 6], [7], [8], [8, 9], [8, 10], [8, 11], [12]]
          (by kernel_rfl) ⟨rfl, trivial⟩ trivial (Below.refl _ _) (fun v v' h hb => h.trans (hb.mono h.size)) (fun _ _ _ _ h _ => h)
          ⟨
          (fun QQ aa ww hS fr kn => sg0 rfl (fun K hK => wp_value (exec_fpk 5 (by decide) rfl fr.1) (hK _ _ rfl (Below.refl _ _)))),
          (fun QQ aa ww hS fr kn => sg0 rfl (fun K hK => wp_value (exec_ld rfl kn.1 (ldP (pk_id (SAt.kept r1 hS)))) (hK _ _ rfl (Below.refl _ _)))),
          (fun QQ aa ww hS fr kn => sg0 rfl (fun K hK => wp_value (cmp_eq (m := P.id) (n := 0) rfl kn.1 rfl) (hK _ _ rfl (Below.refl _ _)))),
          (fun QQ aa ww hS fr kn => sg0 rfl (fun K hK => wp_value (exec_move rfl kn.1) (hK _ _ rfl (Below.refl _ _)))),
          (fun QQ aa ww hS fr kn => sgT rfl kn.1 (fun hc K hK => wp_value (exec_fpk 6 (by decide) rfl fr.1) (hK _ _ (gv_t hc).symm (Below.refl _ _))) (fun h0 => (gv_f h0).symm)),
          (fun QQ aa ww hS fr kn => sgT rfl kn.1 (fun hc K hK => wp_value (exec_ld rfl (kn.2.1.trans (gv_t hc)) (ldP (pk_off (SAt.kept r1 hS)))) (hK _ _ (gv_t hc).symm (Below.refl _ _))) (fun h0 => (gv_f h0).symm)),
          (fun QQ aa ww hS fr kn => sgT rfl kn.1 (fun hc K hK => wp_value (cmp_eq (m := P.off) (n := 0) rfl (kn.2.1.trans (gv_t hc)) rfl) (hK _ _ (gv_t hc).symm (Below.refl _ _))) (fun h0 => (gv_f h0).symm)),
          (fun QQ aa ww hS fr kn => sg0 rfl (fun K hK => wp_value (exec_pickAnd rfl kn.1 (fun hx => kn.2.1.trans (gv_t hx)) rfl) (hK _ _ rfl (Below.refl _ _)))),
          (fun QQ aa ww hS fr kn => sg0 rfl (fun K hK => wp_value (exec_move rfl kn.1) (hK _ _ rfl (Below.refl _ _)))),
          (fun QQ aa ww hS fr kn => sgT rfl kn.1 (fun hc K hK => wp_value (exec_fpk 7 (by decide) rfl fr.1) (hK _ _ (gv_t hc).symm (Below.refl _ _))) (fun h0 => (gv_f h0).symm)),
          (fun QQ aa ww hS fr kn => sgT rfl kn.1 (fun hc K hK => wp_value (exec_ld rfl (kn.2.1.trans (gv_t hc)) (ldPb (pk_more (SAt.kept r1 hS)))) (hK _ _ (gv_t hc).symm (Below.refl _ _))) (fun h0 => (gv_f h0).symm)),
          (fun QQ aa ww hS fr kn => sgT rfl kn.1 (fun hc K hK => wp_value (exec_notB rfl (kn.2.1.trans (gv_t hc))) (hK _ _ (gv_t hc).symm (Below.refl _ _))) (fun h0 => (gv_f h0).symm)),
          (fun QQ aa ww hS fr kn => sg0 rfl (fun K hK => wp_value (exec_pickAnd rfl kn.1 (fun hx => kn.2.1.trans (gv_t hx)) rfl) (hK _ _ rfl (Below.refl _ _)))),
          (fun QQ aa ww hS fr kn => sg0 rfl (fun K hK => wp_value (exec_assign rfl kn.1) (hK _ _ rfl (Below.refl _ _)))),
          trivial⟩ ?_
      intro vs u4 hB4 kn
      have e2 : vs 2 = .bool (((decide (P.id = 0)) && (decide (P.off = 0))) && (!P.more)) := kn 13 (by decide)
      clear kn
      simp only [putAll, Act.put, List.setIfInBounds_toArray, List.set_cons_zero, List.set_cons_succ, e2]
      clear e2
      go_wp2_with fail
      go_ret
      exact ⟨by rw [hr]; rfl, hBy.trans (hB4.mono hBy.size)⟩
    · have hr : r = upB P.id 4294967295 := by rw [HC.out, hcut]; rfl
      rw [hcut] at s1
      go_wp2_with (first | (refine wl_value rfl (exec_fpk 12 (by decide) rfl (by rfl)) ?_) | (refine wl_value rfl (exec_fpk 5 (by decide) rfl (by rfl)) ?_) | (refine wl_value rfl (exec_ld rfl (by rfl) (ldPb s1)) ?_) | (refine wl_value rfl (exec_ld rfl (by rfl) (ldP s2)) ?_) | (go_at_call 43; refine (upTo_run P.id 4294967295 _).mono ?_; rintro e u4 ⟨rfl, hB4⟩; refine Hid.out ?_))
      refine Hid.mk ?_
      go_wp2_with fail
      go_ret
      exact ⟨by rw [hr]; rfl, hBy.trans (hB4.mono hBy.size)⟩
  · have hr : r = false := by rw [HC.out]; rfl
    go_wp2_with fail
    go_ret
    exact ⟨by rw [hr]; rfl, hBy⟩
theorem rgtP_code (P : Pk) : rgtP P = (!(((!(validF P.sv P.sb)) || (!(validF P.dv P.db))) || (!(P.sv == P.dv))) && (!(((!(upB P.proto 255)) || (!(upB P.hop 255))) || (!(upB P.cls 255))) && (!((!(upB P.off 65528)) || (!decide (P.off % 8 = 0))) && (if P.sv = true then rgt6 P else rgt4 P)))) := by
  unfold rgtP
  have e : (P.off % 8 == 0) = decide (P.off % 8 = 0) := rfl
  rw [e]
  generalize (if P.sv = true then rgt6 P else rgt4 P) = z
  generalize (P.sv == P.dv) = y
  cases validF P.sv P.sb <;> cases validF P.dv P.db <;> cases y <;> cases upB P.proto 255 <;> cases upB P.hop 255 <;> cases upB P.cls 255 <;> cases upB P.off 65528 <;> cases decide (P.off % 8 = 0) <;> rfl
set_option maxHeartbeats 8000000 in
theorem Right_run (P : Pk) (v : Value) (w : World) (h1 : ExAt w v P.exts) (hn : P.exts.length < 4611686018427387904) (hb : ∀ x ∈ P.exts, x.body.size ≤ 140737488355328) : Calls Tryd.prog 34 #[.agg (SC 46 (pkV P v))] w fun e w' => e = .returned (.bool (rgtP P)) ∧ Below w.heap.size w w' := by
  have HC := Hid.mk (rgtP_code P)
  have H6 := Hid.mk (fun ww h => right6_run P v ww h hn hb)
  have H4 := Hid.mk (fun ww h => right4_run P v ww h hn hb)
  generalize rgtP P = r at *
  go_enter Tryd.func34, Tryd.ntmps34
  go_wp2_with (refine wl_boxO rfl rfl isPk (by rfl) ?_; intro g1 u2 hg1 q1 hB2; refine Hid.out ?_)
  refine Hid.mk ?_
  have hx1 := h1.kept hB2
  go_upto_region 1 with fail
  refine wp_plain_steps (Below u2.heap.size u2) (fun v v' => Below v.heap.size v v') (fun j vv _ => vv = ([.pointer (some ⟨g1, 0, none⟩), .agg (SC 17 (adV P.sv P.sb)), .bool (validF P.sv P.sb), .bool (!(validF P.sv P.sb)), .bool (!(validF P.sv P.sb)), gv (!(!(validF P.sv P.sb))) (.pointer (some ⟨g1, 17, none⟩)), gv (!(!(validF P.sv P.sb))) (.agg (SC 17 (adV P.dv P.db))), gv (!(!(validF P.sv P.sb))) (.bool (validF P.dv P.db)), gv (!(!(validF P.sv P.sb))) (.bool (!(validF P.dv P.db))), .bool ((!(validF P.sv P.sb)) || (!(validF P.dv P.db))), .bool ((!(validF P.sv P.sb)) || (!(validF P.dv P.db))), gv (!((!(validF P.sv P.sb)) || (!(validF P.dv P.db)))) (.pointer (some ⟨g1, 0, none⟩)), gv (!((!(validF P.sv P.sb)) || (!(validF P.dv P.db)))) (.pointer (some ⟨g1, 0, none⟩)), gv (!((!(validF P.sv P.sb)) || (!(validF P.dv P.db)))) (.bool P.sv), gv (!((!(validF P.sv P.sb)) || (!(validF P.dv P.db)))) (.pointer (some ⟨g1, 17, none⟩)), gv (!((!(validF P.sv P.sb)) || (!(validF P.dv P.db)))) (.pointer (some ⟨g1, 17, none⟩)), gv (!((!(validF P.sv P.sb)) || (!(validF P.dv P.db)))) (.bool P.dv), gv (!((!(validF P.sv P.sb)) || (!(validF P.dv P.db)))) (.bool (!(P.sv == P.dv))), .bool (((!(validF P.sv P.sb)) || (!(validF P.dv P.db))) || (!(P.sv == P.dv)))] : List Value).getD j undef)
      [3, 4, 5, 6, 7, 8, 9, 10, 11, 12, 13, 14, 15, 16, 17, 18, 19, 20, 21]
      [(1, .pointer (some ⟨g1, 0, none⟩))] [] 0
      [[], [0], [1], [2], [3], [4], [4, 5], [4, 6], [4, 7], [4, 8], [9], [10], [10, 11], [10, 12], [10], [10, 14], [10, 15], [10, 13, 16], [10, 17]]
      (by kernel_rfl) ⟨rfl, trivial⟩ trivial (Below.refl _ _) (fun v v' h hb => h.trans (hb.mono h.size)) (fun _ _ _ _ h _ => h)
      ⟨
      (fun QQ aa ww hS fr kn => sg0 rfl (fun K hK => wp_value (exec_fpk 0 (by decide) rfl fr.1) (hK _ _ rfl (Below.refl _ _)))),
      (fun QQ aa ww hS fr kn => sg0 rfl (fun K hK => wp_value (exec_ld rfl kn.1 (ld_src (SAt.kept q1 hS))) (hK _ _ rfl (Below.refl _ _)))),
      (fun QQ aa ww hS fr kn => sg0 rfl (fun K hK => stepc en_Valid rfl (args1 kn.1) (Valid_run P.sv P.sb ww) (fun w' hb => hK _ _ rfl hb))),
      (fun QQ aa ww hS fr kn => sg0 rfl (fun K hK => wp_value (exec_notB rfl kn.1) (hK _ _ rfl (Below.refl _ _)))),
      (fun QQ aa ww hS fr kn => sg0 rfl (fun K hK => wp_value (exec_move rfl kn.1) (hK _ _ rfl (Below.refl _ _)))),
      (fun QQ aa ww hS fr kn => sgF rfl kn.1 (fun hng K hK => have hc := nt_t hng; wp_value (exec_fpk 1 (by decide) rfl fr.1) (hK _ _ (gv_t hc).symm (Below.refl _ _))) (fun h0 => (gv_f (nt_f h0)).symm)),
      (fun QQ aa ww hS fr kn => sgF rfl kn.1 (fun hng K hK => have hc := nt_t hng; wp_value (exec_ld rfl (kn.2.1.trans (gv_t hc)) (ld_dst (SAt.kept q1 hS))) (hK _ _ (gv_t hc).symm (Below.refl _ _))) (fun h0 => (gv_f (nt_f h0)).symm)),
      (fun QQ aa ww hS fr kn => sgF rfl kn.1 (fun hng K hK => have hc := nt_t hng; stepc en_Valid rfl (args1 (kn.2.1.trans (gv_t hc))) (Valid_run P.dv P.db ww) (fun w' hb => hK _ _ (gv_t hc).symm hb)) (fun h0 => (gv_f (nt_f h0)).symm)),
      (fun QQ aa ww hS fr kn => sgF rfl kn.1 (fun hng K hK => have hc := nt_t hng; wp_value (exec_notB rfl (kn.2.1.trans (gv_t hc))) (hK _ _ (gv_t hc).symm (Below.refl _ _))) (fun h0 => (gv_f (nt_f h0)).symm)),
      (fun QQ aa ww hS fr kn => sg0 rfl (fun K hK => wp_value (exec_pickOr rfl kn.1 rfl (fun hx => kn.2.1.trans (gv_t (nt_t hx)))) (hK _ _ rfl (Below.refl _ _)))),
      (fun QQ aa ww hS fr kn => sg0 rfl (fun K hK => wp_value (exec_move rfl kn.1) (hK _ _ rfl (Below.refl _ _)))),
      (fun QQ aa ww hS fr kn => sgF rfl kn.1 (fun hng K hK => have hc := nt_t hng; wp_value (exec_fpk 0 (by decide) rfl fr.1) (hK _ _ (gv_t hc).symm (Below.refl _ _))) (fun h0 => (gv_f (nt_f h0)).symm)),
      (fun QQ aa ww hS fr kn => sgF rfl kn.1 (fun hng K hK => have hc := nt_t hng; wp_value (exec_fad0 rfl (kn.2.1.trans (gv_t hc))) (hK _ _ (gv_t hc).symm (Below.refl _ _))) (fun h0 => (gv_f (nt_f h0)).symm)),
      (fun QQ aa ww hS fr kn => sgF rfl kn.1 (fun hng K hK => have hc := nt_t hng; wp_value (exec_ld rfl (kn.2.1.trans (gv_t hc)) (ldPb (pk_sv (SAt.kept q1 hS)))) (hK _ _ (gv_t hc).symm (Below.refl _ _))) (fun h0 => (gv_f (nt_f h0)).symm)),
      (fun QQ aa ww hS fr kn => sgF rfl kn.1 (fun hng K hK => have hc := nt_t hng; wp_value (exec_fpk 1 (by decide) rfl fr.1) (hK _ _ (gv_t hc).symm (Below.refl _ _))) (fun h0 => (gv_f (nt_f h0)).symm)),
      (fun QQ aa ww hS fr kn => sgF rfl kn.1 (fun hng K hK => have hc := nt_t hng; wp_value (exec_fad0 rfl (kn.2.1.trans (gv_t hc))) (hK _ _ (gv_t hc).symm (Below.refl _ _))) (fun h0 => (gv_f (nt_f h0)).symm)),
      (fun QQ aa ww hS fr kn => sgF rfl kn.1 (fun hng K hK => have hc := nt_t hng; wp_value (exec_ld rfl (kn.2.1.trans (gv_t hc)) (ldPb (pk_dv (SAt.kept q1 hS)))) (hK _ _ (gv_t hc).symm (Below.refl _ _))) (fun h0 => (gv_f (nt_f h0)).symm)),
      (fun QQ aa ww hS fr kn => sgF rfl kn.1 (fun hng K hK => have hc := nt_t hng; wp_value (cmp_neB rfl (kn.2.1.trans (gv_t hc)) (kn.2.2.1.trans (gv_t hc))) (hK _ _ (gv_t hc).symm (Below.refl _ _))) (fun h0 => (gv_f (nt_f h0)).symm)),
      (fun QQ aa ww hS fr kn => sg0 rfl (fun K hK => wp_value (exec_pickOr rfl kn.1 rfl (fun hx => kn.2.1.trans (gv_t (nt_t hx)))) (hK _ _ rfl (Below.refl _ _)))),
      trivial⟩ ?_
  intro vs u3 hB3 kn
  have e21 : vs 21 = .bool (((!(validF P.sv P.sb)) || (!(validF P.dv P.db))) || (!(P.sv == P.dv))) := kn 18 (by decide)
  clear kn
  simp only [putAll, Act.put, List.setIfInBounds_toArray, List.set_cons_zero, List.set_cons_succ, e21]
  clear e21
  have hBy := hB2.trans (hB3.mono hB2.size)
  have r1 := SAt.kept q1 hB3
  obtain ⟨c, hc⟩ : ∃ c, (((!(validF P.sv P.sb)) || (!(validF P.dv P.db))) || (!(P.sv == P.dv))) = c := ⟨_, rfl⟩
  rw [hc] at HC ⊢
  clear hc
  cases c
  · go_upto_region 3 with fail
    refine wp_plain_steps (Below u3.heap.size u3) (fun v v' => Below v.heap.size v v') (fun j vv _ => vv = ([.pointer (some ⟨g1, 34, none⟩), .int .i64 P.proto, .bool (upB P.proto 255), .bool (!(upB P.proto 255)), .bool (!(upB P.proto 255)), gv (!(!(upB P.proto 255))) (.pointer (some ⟨g1, 35, none⟩)), gv (!(!(upB P.proto 255))) (.int .i64 P.hop), gv (!(!(upB P.proto 255))) (.bool (upB P.hop 255)), gv (!(!(upB P.proto 255))) (.bool (!(upB P.hop 255))), .bool ((!(upB P.proto 255)) || (!(upB P.hop 255))), .bool ((!(upB P.proto 255)) || (!(upB P.hop 255))), gv (!((!(upB P.proto 255)) || (!(upB P.hop 255)))) (.pointer (some ⟨g1, 36, none⟩)), gv (!((!(upB P.proto 255)) || (!(upB P.hop 255)))) (.int .i64 P.cls), gv (!((!(upB P.proto 255)) || (!(upB P.hop 255)))) (.bool (upB P.cls 255)), gv (!((!(upB P.proto 255)) || (!(upB P.hop 255)))) (.bool (!(upB P.cls 255))), .bool (((!(upB P.proto 255)) || (!(upB P.hop 255))) || (!(upB P.cls 255)))] : List Value).getD j undef)
        [22, 23, 24, 25, 26, 27, 28, 29, 30, 31, 32, 33, 34, 35, 36, 37]
        [(1, .pointer (some ⟨g1, 0, none⟩))] [] 0
        [[], [0], [1], [2], [3], [4], [4, 5], [4, 6], [4, 7], [4, 8], [9], [10], [10, 11], [10, 12], [10, 13], [10, 14]]
        (by kernel_rfl) ⟨rfl, trivial⟩ trivial (Below.refl _ _) (fun v v' h hb => h.trans (hb.mono h.size)) (fun _ _ _ _ h _ => h)
        ⟨
        (fun QQ aa ww hS fr kn => sg0 rfl (fun K hK => wp_value (exec_fpk 2 (by decide) rfl fr.1) (hK _ _ rfl (Below.refl _ _)))),
        (fun QQ aa ww hS fr kn => sg0 rfl (fun K hK => wp_value (exec_ld rfl kn.1 (ldP (pk_proto (SAt.kept r1 hS)))) (hK _ _ rfl (Below.refl _ _)))),
        (fun QQ aa ww hS fr kn => sg0 rfl (fun K hK => stepc en_upTo rfl (args2 kn.1 rfl) (upTo_run P.proto 255 ww) (fun w' hb => hK _ _ rfl hb))),
        (fun QQ aa ww hS fr kn => sg0 rfl (fun K hK => wp_value (exec_notB rfl kn.1) (hK _ _ rfl (Below.refl _ _)))),
        (fun QQ aa ww hS fr kn => sg0 rfl (fun K hK => wp_value (exec_move rfl kn.1) (hK _ _ rfl (Below.refl _ _)))),
        (fun QQ aa ww hS fr kn => sgF rfl kn.1 (fun hng K hK => have hc := nt_t hng; wp_value (exec_fpk 3 (by decide) rfl fr.1) (hK _ _ (gv_t hc).symm (Below.refl _ _))) (fun h0 => (gv_f (nt_f h0)).symm)),
        (fun QQ aa ww hS fr kn => sgF rfl kn.1 (fun hng K hK => have hc := nt_t hng; wp_value (exec_ld rfl (kn.2.1.trans (gv_t hc)) (ldP (pk_hop (SAt.kept r1 hS)))) (hK _ _ (gv_t hc).symm (Below.refl _ _))) (fun h0 => (gv_f (nt_f h0)).symm)),
        (fun QQ aa ww hS fr kn => sgF rfl kn.1 (fun hng K hK => have hc := nt_t hng; stepc en_upTo rfl (args2 (kn.2.1.trans (gv_t hc)) rfl) (upTo_run P.hop 255 ww) (fun w' hb => hK _ _ (gv_t hc).symm hb)) (fun h0 => (gv_f (nt_f h0)).symm)),
        (fun QQ aa ww hS fr kn => sgF rfl kn.1 (fun hng K hK => have hc := nt_t hng; wp_value (exec_notB rfl (kn.2.1.trans (gv_t hc))) (hK _ _ (gv_t hc).symm (Below.refl _ _))) (fun h0 => (gv_f (nt_f h0)).symm)),
        (fun QQ aa ww hS fr kn => sg0 rfl (fun K hK => wp_value (exec_pickOr rfl kn.1 rfl (fun hx => kn.2.1.trans (gv_t (nt_t hx)))) (hK _ _ rfl (Below.refl _ _)))),
        (fun QQ aa ww hS fr kn => sg0 rfl (fun K hK => wp_value (exec_move rfl kn.1) (hK _ _ rfl (Below.refl _ _)))),
        (fun QQ aa ww hS fr kn => sgF rfl kn.1 (fun hng K hK => have hc := nt_t hng; wp_value (exec_fpk 4 (by decide) rfl fr.1) (hK _ _ (gv_t hc).symm (Below.refl _ _))) (fun h0 => (gv_f (nt_f h0)).symm)),
        (fun QQ aa ww hS fr kn => sgF rfl kn.1 (fun hng K hK => have hc := nt_t hng; wp_value (exec_ld rfl (kn.2.1.trans (gv_t hc)) (ldP (pk_cls (SAt.kept r1 hS)))) (hK _ _ (gv_t hc).symm (Below.refl _ _))) (fun h0 => (gv_f (nt_f h0)).symm)),
        (fun QQ aa ww hS fr kn => sgF rfl kn.1 (fun hng K hK => have hc := nt_t hng; stepc en_upTo rfl (args2 (kn.2.1.trans (gv_t hc)) rfl) (upTo_run P.cls 255 ww) (fun w' hb => hK _ _ (gv_t hc).symm hb)) (fun h0 => (gv_f (nt_f h0)).symm)),
        (fun QQ aa ww hS fr kn => sgF rfl kn.1 (fun hng K hK => have hc := nt_t hng; wp_value (exec_notB rfl (kn.2.1.trans (gv_t hc))) (hK _ _ (gv_t hc).symm (Below.refl _ _))) (fun h0 => (gv_f (nt_f h0)).symm)),
        (fun QQ aa ww hS fr kn => sg0 rfl (fun K hK => wp_value (exec_pickOr rfl kn.1 rfl (fun hx => kn.2.1.trans (gv_t (nt_t hx)))) (hK _ _ rfl (Below.refl _ _)))),
        trivial⟩ ?_
    intro vs u4 hB4 kn
    have e37 : vs 37 = .bool (((!(upB P.proto 255)) || (!(upB P.hop 255))) || (!(upB P.cls 255))) := kn 15 (by decide)
    clear kn
    simp only [putAll, Act.put, List.setIfInBounds_toArray, List.set_cons_zero, List.set_cons_succ, e37]
    clear e37
    have hBx := hBy.trans (hB4.mono hBy.size)
    have r2 := SAt.kept r1 hB4
    obtain ⟨c, hc⟩ : ∃ c, (((!(upB P.proto 255)) || (!(upB P.hop 255))) || (!(upB P.cls 255))) = c := ⟨_, rfl⟩
    rw [hc] at HC ⊢
    clear hc
    cases c
    · go_upto_region 5 with fail
      refine wp_plain_steps (Below u4.heap.size u4) (fun v v' => Below v.heap.size v v') (fun j vv _ => vv = ([.pointer (some ⟨g1, 38, none⟩), .int .i64 P.off, .bool (upB P.off 65528), .bool (!(upB P.off 65528)), .bool (!(upB P.off 65528)), gv (!(!(upB P.off 65528))) (.pointer (some ⟨g1, 38, none⟩)), gv (!(!(upB P.off 65528))) (.int .i64 P.off), gv (!(!(upB P.off 65528))) (.int .i64 (P.off % 8)), gv (!(!(upB P.off 65528))) (.bool (!decide (P.off % 8 = 0))), .bool ((!(upB P.off 65528)) || (!decide (P.off % 8 = 0)))] : List Value).getD j undef)
          [38, 39, 40, 41, 42, 43, 44, 45, 46, 47]
          [(1, .pointer (some ⟨g1, 0, none⟩))] [] 0
          [[], [0], [1], [2], [3], [4], [4, 5], [4, 6], [4, 7], [4, 8]]
          (by kernel_rfl) ⟨rfl, trivial⟩ trivial (Below.refl _ _) (fun v v' h hb => h.trans (hb.mono h.size)) (fun _ _ _ _ h _ => h)
          ⟨
          (fun QQ aa ww hS fr kn => sg0 rfl (fun K hK => wp_value (exec_fpk 6 (by decide) rfl fr.1) (hK _ _ rfl (Below.refl _ _)))),
          (fun QQ aa ww hS fr kn => sg0 rfl (fun K hK => wp_value (exec_ld rfl kn.1 (ldP (pk_off (SAt.kept r2 hS)))) (hK _ _ rfl (Below.refl _ _)))),
          (fun QQ aa ww hS fr kn => sg0 rfl (fun K hK => stepc en_upTo rfl (args2 kn.1 rfl) (upTo_run P.off 65528 ww) (fun w' hb => hK _ _ rfl hb))),
          (fun QQ aa ww hS fr kn => sg0 rfl (fun K hK => wp_value (exec_notB rfl kn.1) (hK _ _ rfl (Below.refl _ _)))),
          (fun QQ aa ww hS fr kn => sg0 rfl (fun K hK => wp_value (exec_move rfl kn.1) (hK _ _ rfl (Below.refl _ _)))),
          (fun QQ aa ww hS fr kn => sgF rfl kn.1 (fun hng K hK => have hc := nt_t hng; wp_value (exec_fpk 6 (by decide) rfl fr.1) (hK _ _ (gv_t hc).symm (Below.refl _ _))) (fun h0 => (gv_f (nt_f h0)).symm)),
          (fun QQ aa ww hS fr kn => sgF rfl kn.1 (fun hng K hK => have hc := nt_t hng; wp_value (exec_ld rfl (kn.2.1.trans (gv_t hc)) (ldP (pk_off (SAt.kept r2 hS)))) (hK _ _ (gv_t hc).symm (Below.refl _ _))) (fun h0 => (gv_f (nt_f h0)).symm)),
          (fun QQ aa ww hS fr kn => sgF rfl kn.1 (fun hng K hK => have hc := nt_t hng; wp_value (rem_nn rfl (kn.2.1.trans (gv_t hc)) rfl (off_nn hc) (by decide)) (hK _ _ (gv_t hc).symm (Below.refl _ _))) (fun h0 => (gv_f (nt_f h0)).symm)),
          (fun QQ aa ww hS fr kn => sgF rfl kn.1 (fun hng K hK => have hc := nt_t hng; wp_value (cmp_ne (m := P.off % 8) (n := 0) rfl (kn.2.1.trans (gv_t hc)) rfl) (hK _ _ (gv_t hc).symm (Below.refl _ _))) (fun h0 => (gv_f (nt_f h0)).symm)),
          (fun QQ aa ww hS fr kn => sg0 rfl (fun K hK => wp_value (exec_pickOr rfl kn.1 rfl (fun hx => kn.2.1.trans (gv_t (nt_t hx)))) (hK _ _ rfl (Below.refl _ _)))),
          trivial⟩ ?_
      intro vs u5 hB5 kn
      have e47 : vs 47 = .bool ((!(upB P.off 65528)) || (!decide (P.off % 8 = 0))) := kn 9 (by decide)
      clear kn
      simp only [putAll, Act.put, List.setIfInBounds_toArray, List.set_cons_zero, List.set_cons_succ, e47]
      clear e47
      have hBw := hBx.trans (hB5.mono hBx.size)
      have r3 := SAt.kept r2 hB5
      have hx3 := ((hx1.kept hB3).kept hB4).kept hB5
      obtain ⟨c, hc⟩ : ∃ c, ((!(upB P.off 65528)) || (!decide (P.off % 8 = 0))) = c := ⟨_, rfl⟩
      rw [hc] at HC ⊢
      clear hc
      have s0 := pk_sv r3
      cases c
      · cases hsv : P.sv
        · have hr : r = rgt4 P := by rw [HC.out, hsv]; rfl
          rw [hsv] at s0
          go_wp2_with (first | (refine wl_value rfl (exec_fpk 0 (by decide) rfl (by rfl)) ?_) | (refine wl_value rfl (exec_fad0 rfl (by rfl)) ?_) | (refine wl_value rfl (exec_ld rfl (by rfl) (ldPb s0)) ?_) | (refine wl_value rfl (look_st rfl isPk r3 (by rfl)) ?_) | (go_at_call 45; refine (H4.out _ hx3).mono ?_; rintro e u6 ⟨rfl, hB6⟩; refine Hid.out ?_))
          refine Hid.mk ?_
          go_wp2_with fail
          go_ret
          exact ⟨by rw [hr]; rfl, hBw.trans (hB6.mono hBw.size)⟩
        · have hr : r = rgt6 P := by rw [HC.out, hsv]; rfl
          rw [hsv] at s0
          go_wp2_with (first | (refine wl_value rfl (exec_fpk 0 (by decide) rfl (by rfl)) ?_) | (refine wl_value rfl (exec_fad0 rfl (by rfl)) ?_) | (refine wl_value rfl (exec_ld rfl (by rfl) (ldPb s0)) ?_) | (refine wl_value rfl (look_st rfl isPk r3 (by rfl)) ?_) | (go_at_call 44; refine (H6.out _ hx3).mono ?_; rintro e u6 ⟨rfl, hB6⟩; refine Hid.out ?_))
          refine Hid.mk ?_
          go_wp2_with fail
          go_ret
          exact ⟨by rw [hr]; rfl, hBw.trans (hB6.mono hBw.size)⟩
      · have hr : r = false := by rw [HC.out]; rfl
        go_wp2_with fail
        go_ret
        exact ⟨by rw [hr]; rfl, hBw⟩
    · have hr : r = false := by rw [HC.out]; rfl
      go_wp2_with fail
      go_ret
      exact ⟨by rw [hr]; rfl, hBx⟩
  · have hr : r = false := by rw [HC.out]; rfl
    go_wp2_with fail
    go_ret
    exact ⟨by rw [hr]; rfl, hBy⟩
end Go.Proofs.YtojekoakgpkkdabDoor

/-
  Own text. Which packets may be: the document's side.
-/
namespace Go.Proofs.YtojekoakgpkkdabDoor
open Go.RowKit Go.Proofs
set_option maxRecDepth 100000
end Go.Proofs.YtojekoakgpkkdabDoor

/-
  Own text. How many bytes a packet has: both sides.
-/
namespace Go.Proofs.YtojekoakgpkkdabDoor
open Go.RowKit Go.Proofs
set_option maxRecDepth 100000
theorem exLen_take {l : List Ex} {x : Ex} : ∀ {i : Nat}, l[i]? = some x → exLen (l.take (i + 1)) = exLen (l.take i) + (2 + x.body.size) := by
  induction l with
  | nil => intro i h; simp at h
  | cons y l ih =>
    intro i h
    cases i with
    | zero =>
      simp at h
      subst h
      simp [exLen]
    | succ i =>
      simp at h
      have := ih h
      rw [List.take_succ_cons, List.take_succ_cons]
      unfold exLen
      omega
theorem exLen_le (l : List Ex) (i : Nat) : exLen (l.take i) ≤ exLen l := by
  induction l generalizing i with
  | nil => simp [exLen]
  | cons y l ih =>
    cases i with
    | zero => simp [exLen]
    | succ i =>
      rw [List.take_succ_cons]
      unfold exLen
      have := ih i
      omega
theorem exLen_len (l : List Ex) : 2 * l.length ≤ exLen l := by
  induction l with
  | nil => simp [exLen]
  | cons y l ih => unfold exLen; simp; omega
theorem exLen_mem {l : List Ex} {x : Ex} (h : x ∈ l) : 2 + x.body.size ≤ exLen l := by
  induction l with
  | nil => cases h
  | cons y l ih =>
    unfold exLen
    rcases List.mem_cons.1 h with rfl | h
    · omega
    · have := ih h
      omega
theorem exsOk_exLen : ∀ {l : List Ex} {i : Nat}, exsOk l i = true → exLen l ≤ 2048 * l.length
  | [], _, _ => by simp [exLen]
  | x :: l, i, h => by
    unfold exsOk at h
    rw [Bool.and_eq_true, exOk_iff] at h
    have := exsOk_exLen h.2
    unfold exLen
    rw [List.length_cons]
    omega
/-- A packet that may be has few extension headers. -/
theorem rgt_few {P : Pk} (h : rgtP P = true) : exLen P.exts ≤ 8192 ∧ P.exts.length ≤ 4 ∧ P.opts.size ≤ 40 := by
  obtain ⟨_, _, _, _, _, _, _, _, hr⟩ := rgtP_iff.1 h
  cases hs : P.sv
  · rw [if_neg (by rw [hs]; decide)] at hr
    obtain ⟨_, _, h3, _, h5, _⟩ := rgt4_iff.1 hr
    rw [h5]
    exact ⟨by simp [exLen], by simp, h3⟩
  · rw [if_pos hs] at hr
    obtain ⟨_, h2, _, h4, _⟩ := rgt6_iff.1 hr
    have := exsOk_exLen h4
    rcases exsOk_len h4 with e | e
    · rw [e]
      exact ⟨by simp [exLen], by simp, by omega⟩
    · exact ⟨by omega, by omega, by omega⟩
set_option maxHeartbeats 16000000 in
theorem headSize_run (P : Pk) (v : Value) (w : World) (h1 : ExAt w v P.exts) (ho : P.opts.size ≤ 140737488355328) (hE : exLen P.exts ≤ 1000000) : Calls Tryd.prog 58 #[.agg (SC 46 (pkV P v))] w fun e w' => e = .returned (.int .i64 (headP P : Int)) ∧ Below w.heap.size w w' := by
  obtain ⟨a1, c1, rfl, _⟩ := id h1
  have HH : Hid (headP P = if P.sv = true then 40 + exLen P.exts + (if P.cut = true then 8 else 0) else 20 + P.opts.size) := Hid.mk rfl
  generalize headP P = H at *
  go_enter Tryd.func58, Tryd.ntmps58
  go_wp2_with (refine wl_boxO rfl rfl isPk (by rfl) ?_; intro g1 u2 hg1 q1 hB2; refine Hid.out ?_)
  refine Hid.mk ?_
  have hx1 := h1.kept hB2
  have s0 := pk_sv q1
  have s9 := pk_opts q1
  cases hsv : P.sv
  · have hr : H = 20 + P.opts.size := by rw [HH.out, hsv]; rfl
    rw [hsv] at s0
    go_wp2_with (first | (refine wl_value rfl (exec_fpk 0 (by decide) rfl (by rfl)) ?_) | (refine wl_value rfl (exec_fpk 9 (by decide) rfl (by rfl)) ?_) | (refine wl_value rfl (exec_fad0 rfl (by rfl)) ?_) | (refine wl_value rfl (exec_ld rfl (by rfl) (ldPb s0)) ?_) | (refine wl_value rfl (exec_ld rfl (by rfl) (ldPs s9)) ?_) | (refine wl_value rfl (exec_addW (i := 20) (m := P.opts.size) rfl (by rfl) (by rfl) rfl (by omega)) ?_))
    go_ret
    exact ⟨by rw [hr]; rfl, hB2⟩
  · rw [hsv] at s0
    have HEL := Hid.mk (fun i => exLen_le P.exts i)
    have HE : Hid (exLen (P.exts.take P.exts.length) = exLen P.exts) := Hid.mk (by rw [List.take_length])
    have HLN : Hid (2 * P.exts.length ≤ exLen P.exts) := Hid.mk (exLen_len P.exts)
    obtain ⟨n, hnn⟩ : ∃ n, P.exts.length = n := ⟨_, rfl⟩
    have HN := Hid.mk hnn
    rw [hnn] at hx1 q1 HE HLN ⊢
    have hn : n < 1000000 := by have := HLN.out; omega
    clear hnn
    have s11 := pk_exts q1
    go_wp2_with (first | (refine wl_value rfl (exec_fpk 0 (by decide) rfl (by rfl)) ?_) | (refine wl_value rfl (exec_fpk 11 (by decide) rfl (by rfl)) ?_) | (refine wl_value rfl (exec_fad0 rfl (by rfl)) ?_) | (refine wl_value rfl (exec_ld rfl (by rfl) (ldPb s0)) ?_) | (refine wl_value rfl (exec_ld rfl (by rfl) (ldPx s11)) ?_))
    go_loopg [3, 17] n (fun gm s3 s17 z => ∃ i M : Nat, Hid (gm + i = n) ∧ s17 = .int .i64 (i : Int) ∧ s3 = .int .i64 (M : Int) ∧ Hid (M = 40 + exLen (P.exts.take i)) ∧ Below u2.heap.size u2 z)
    case atStart => exact ⟨0, 40, Hid.mk rfl, rfl, rfl, Hid.mk (by rw [List.take_zero]; rfl), Below.refl _ _⟩
    case round =>
      obtain ⟨i, M, HI, rfl, rfl, HM, hBz⟩ := hrel
      have q9 := SAt.kept q1 hBz
      have hBg := hB2.trans (hBz.mono hB2.size)
      have hMl : M ≤ 1000040 := by have := HEL.out i; have := HM.out; omega
      by_cases hil : i < n
      · have hili : (i : Int) < (n : Int) := by omega
        obtain ⟨x, hx⟩ := list_at (l := P.exts) (i := i) (by rw [HN.out]; exact hil)
        have HS := Hid.mk (exLen_take hx)
        have hxl := exLen_mem (List.mem_of_getElem? hx)
        have HZ : Hid (2 + x.body.size < 9223372036854775808) := Hid.mk (by omega)
        have HM2 : Hid (M + (2 + x.body.size) < 9223372036854775808) := Hid.mk (by omega)
        obtain ⟨p1, rfl, k1, k1b⟩ := hx1.sl hBz hx
        have H1 := Hid.mk hil
        have hld := ldEx (e := x) k1 k1b
        go_wp2_with (first | (refine wl_value rfl (exec_ixE (i := i) rfl (by rfl) (by rfl) H1.out) ?_) | (refine wl_value rfl (exec_ld rfl (by rfl) hld) ?_) | (refine wl_allocEx rfl rfl ?_; intro g4 y1 hg4 q4 hC1; refine Hid.out ?_))
        refine Hid.mk ?_
        have hg4w : u2.heap.size ≤ g4 := by have := hBz.size; omega
        go_wp2_with (refine st_stO rfl rfl isEx2 (exV_one _) q4 (by rfl) (by rfl) ?_; intro y2 r4 o4; refine Hid.out ?_)
        refine Hid.mk ?_
        have hBy : Below u2.heap.size u2 y2 := (hBz.trans (hC1.mono hBz.size)).trans (o4.below hg4w)
        go_upto_region 7 with fail
        refine wp_plain_steps (Below y2.heap.size y2) (fun v v' => Below v.heap.size v v') (fun j vv _ => vv = ([.int .i64 (M : Int), .pointer (some ⟨g4, 1, none⟩), .string x.body, .int .i64 (x.body.size : Int), .int .i64 ((2 + x.body.size : Nat) : Int), .int .i64 ((M + (2 + x.body.size) : Nat) : Int), .int .i64 ((M + (2 + x.body.size) : Nat) : Int)] : List Value).getD j undef)
            [21, 22, 23, 24, 25, 26, 3]
            [(5, .pointer (some ⟨g4, 0, none⟩))] [(3, .int .i64 (M : Int))] 6
            [[], [], [1], [2], [3], [0, 4], [5]]
            (by kernel_rfl) ⟨rfl, trivial⟩ ⟨rfl, trivial⟩ (Below.refl _ _) (fun v v' h hb => h.trans (hb.mono h.size)) (fun _ _ _ _ h _ => h)
            ⟨
            (fun QQ aa ww hS fr kn => sg0 rfl (fun K hK => wp_value (exec_move rfl fr.2.1) (hK _ _ rfl (Below.refl _ _)))),
            (fun QQ aa ww hS fr kn => sg0 rfl (fun K hK => wp_value (exec_fexG 1 (by decide) rfl fr.1) (hK _ _ rfl (Below.refl _ _)))),
            (fun QQ aa ww hS fr kn => sg0 rfl (fun K hK => wp_value (exec_ld rfl kn.1 (ldPs (ex_body (SAt.kept r4 hS)))) (hK _ _ rfl (Below.refl _ _)))),
            (fun QQ aa ww hS fr kn => sg0 rfl (fun K hK => wp_value (exec_lenS rfl kn.1) (hK _ _ rfl (Below.refl _ _)))),
            (fun QQ aa ww hS fr kn => sg0 rfl (fun K hK => wp_value (exec_addW (i := 2) (m := x.body.size) rfl rfl kn.1 rfl HZ.out) (hK _ _ rfl (Below.refl _ _)))),
            (fun QQ aa ww hS fr kn => sg0 rfl (fun K hK => wp_value (exec_addW (i := M) (m := 2 + x.body.size) rfl kn.1 kn.2.1 rfl HM2.out) (hK _ _ rfl (Below.refl _ _)))),
            (fun QQ aa ww hS fr kn => sg0 rfl (fun K hK => wp_value (exec_assign rfl kn.1) (hK _ _ rfl (Below.refl _ _)))),
            trivial⟩ ?_
        intro vs y3 hB3 kn
        have e3 : vs 3 = .int .i64 ((M + (2 + x.body.size) : Nat) : Int) := kn 6 (by decide)
        clear kn
        simp only [putAll, Act.put, List.setIfInBounds_toArray, List.set_cons_zero, List.set_cons_succ, e3]
        clear e3
        have hBx := hBy.trans (hB3.mono hBy.size)
        have HM3 : Hid (M + (2 + x.body.size) = 40 + exLen (P.exts.take (i + 1))) := Hid.mk (by rw [HS.out]; have := HM.out; omega)
        go_wp2_with fail
        go_roundg (n - (i + 1))
        case rel => exact ⟨i + 1, M + (2 + x.body.size), Hid.mk (by omega), by go_num, rfl, HM3, hBx⟩
        case measure => have := HI.out; omega
      · have hi2 : i = n := by have := HI.out; omega
        subst hi2
        have s12 := pk_cut q9
        cases hcut : P.cut
        · rw [hcut] at s12
          have hr : H = M := by have := HM.out; rw [HE.out] at this; rw [HH.out, hsv, hcut, if_pos rfl]; simp; omega
          go_wp2_with (first | fail | (refine wl_value rfl (exec_fpk 12 (by decide) rfl (by rfl)) ?_) | (refine wl_value rfl (exec_ld rfl (by rfl) (ldPb s12)) ?_))
          go_ret
          exact ⟨by rw [hr]; rfl, hBg⟩
        · rw [hcut] at s12
          have hr : H = M + 8 := by have := HM.out; rw [HE.out] at this; rw [HH.out, hsv, hcut, if_pos rfl, if_pos rfl]; omega
          go_wp2_with (first | fail | (refine wl_value rfl (exec_fpk 12 (by decide) rfl (by rfl)) ?_) | (refine wl_value rfl (exec_ld rfl (by rfl) (ldPb s12)) ?_) | (refine wl_value rfl (exec_addW (i := M) (m := 8) rfl (by rfl) (by rfl) rfl (by omega)) ?_))
          go_ret
          exact ⟨by rw [hr]; rfl, hBg⟩
theorem en_headSize (args : Array Value) (w : World) : (callFunc 58 args).run Tryd.prog w = .ok (.enter 58 args) w := by kernel_rfl
theorem headP_le {P : Pk} (ho : P.opts.size ≤ 140737488355328) (hE : exLen P.exts ≤ 1000000) : headP P ≤ 140737489355376 := by
  unfold headP
  split
  · split <;> omega
  · omega
set_option maxHeartbeats 16000000 in
theorem fits_run (P : Pk) (v : Value) (w : World) (h1 : ExAt w v P.exts) (ho : P.opts.size ≤ 140737488355328) (hE : exLen P.exts ≤ 1000000) (hp : P.pay.size ≤ 140737488355328) : Calls Tryd.prog 47 #[.agg (SC 46 (pkV P v))] w fun e w' => e = .returned (.bool (fitP P)) ∧ Below w.heap.size w w' := by
  have hhl := headP_le ho hE
  have HL : Hid (headP P + P.pay.size < 9223372036854775808) := Hid.mk (by omega)
  have HF : Hid (fitP P = if P.sv = true then decide (headP P + P.pay.size ≤ 65575) else decide (headP P + P.pay.size ≤ 65535)) := Hid.mk rfl
  have HM : Hid (P.sv = true → 40 ≤ headP P + P.pay.size) := Hid.mk (fun h => by unfold headP; rw [if_pos h]; omega)
  generalize fitP P = r at *
  go_enter Tryd.func47, Tryd.ntmps47
  go_wp2_with (refine wl_boxO rfl rfl isPk (by rfl) ?_; intro g1 u2 hg1 q1 hB2; refine Hid.out ?_)
  refine Hid.mk ?_
  have hx1 := h1.kept hB2
  go_upto_region 1 with fail
  refine wp_region3 (Below u2.heap.size u2) u2.heap.size
      ([] : List (Nat × Cont))
      [kv (.agg (SC 46 (pkV P v))), kv (.int .i64 (headP P : Int)), kv (.pointer (some ⟨g1, 45, none⟩)), kv (.string P.pay), kv (.int .i64 (P.pay.size : Int)), kv (.int .i64 ((headP P + P.pay.size : Nat) : Int)), kv (.int .i64 ((headP P + P.pay.size : Nat) : Int))]
      [.none, .none, .none, .none, .none, .none, .none]
      [some 4, some 5, some 6, some 7, some 8, some 9, some 3]
      [(1, .pointer (some ⟨g1, 0, none⟩))]
      [[], [.slot 0], [], [.slot 2], [.slot 3], [.slot 1, .slot 4], [.slot 5]]
      [.slot 6] [4, 5, 6, 7, 8, 9, 3]
      rfl (by kernel_rfl) ⟨rfl, trivial⟩ ((Below.refl _ u2).drew) (Nat.le_refl _) trivial trivial (below_GcW (Nat.le_refl _))
      ⟨
      (fun QQ aa ww own hS hBg fr kn => .inl ⟨trivial, fun K hK => wp_value (look_st rfl isPk (SAt.kept q1 hS) fr.1) (hK _ _ ⟨Touch.refl _ _, rfl⟩)⟩),
      (fun QQ aa ww own hS hBg fr kn => .inl ⟨trivial, fun K hK => stepc en_headSize rfl (args1 kn.1) (headSize_run P v ww (hx1.kept hS) ho hE) (fun w' hb => hK _ _ ⟨touch_below hb, rfl⟩)⟩),
      (fun QQ aa ww own hS hBg fr kn => .inl ⟨trivial, fun K hK => wp_value (exec_fpk 13 (by decide) rfl fr.1) (hK _ _ ⟨Touch.refl _ _, rfl⟩)⟩),
      (fun QQ aa ww own hS hBg fr kn => .inl ⟨trivial, fun K hK => wp_value (exec_ld rfl kn.1 (ldPs (pk_pay (SAt.kept q1 hS)))) (hK _ _ ⟨Touch.refl _ _, rfl⟩)⟩),
      (fun QQ aa ww own hS hBg fr kn => .inl ⟨trivial, fun K hK => wp_value (exec_lenS rfl kn.1) (hK _ _ ⟨Touch.refl _ _, rfl⟩)⟩),
      (fun QQ aa ww own hS hBg fr kn => .inl ⟨trivial, fun K hK => wp_value (exec_addW (i := headP P) (m := P.pay.size) rfl kn.1 kn.2.1 rfl HL.out) (hK _ _ ⟨Touch.refl _ _, rfl⟩)⟩),
      (fun QQ aa ww own hS hBg fr kn => .inl ⟨trivial, fun K hK => wp_value (exec_assign rfl kn.1) (hK _ _ ⟨Touch.refl _ _, rfl⟩)⟩),
      trivial⟩ ?_
  intro vs own u3 hB3 hsz kn inj
  have e3 : vs 3 = .int .i64 ((headP P + P.pay.size : Nat) : Int) := kn.1
  clear kn inj hsz
  simp only [putAll, Act.put, List.setIfInBounds_toArray, List.set_cons_zero, List.set_cons_succ, e3]
  clear e3
  have hBy := hB2.trans (hB3.mono hB2.size)
  have q2 := SAt.kept q1 hB3
  have s0 := pk_sv q2
  obtain ⟨M, hM⟩ : ∃ M, headP P + P.pay.size = M := ⟨_, rfl⟩
  rw [hM] at HF HM ⊢
  have hMl : M < 1000000000000000 := by omega
  clear hM HL
  cases hsv : P.sv
  · rw [hsv] at s0
    have hr : r = decide (M ≤ 65535) := by rw [HF.out, hsv]; rfl
    by_cases hq : M ≤ 65535
    · have hqi : (M : Int) ≤ 65535 := by omega
      rw [decide_eq_true hq] at hr
      go_wp2_with (first | (refine wl_value rfl (exec_fpk 0 (by decide) rfl (by rfl)) ?_) | (refine wl_value rfl (exec_fad0 rfl (by rfl)) ?_) | (refine wl_value rfl (exec_ld rfl (by rfl) (ldPb s0)) ?_))
      go_ret
      exact ⟨by first | rfl | (rw [hr]; rfl), hBy⟩
    · have hqi : ¬ (M : Int) ≤ 65535 := by omega
      rw [decide_eq_false hq] at hr
      go_wp2_with (first | (refine wl_value rfl (exec_fpk 0 (by decide) rfl (by rfl)) ?_) | (refine wl_value rfl (exec_fad0 rfl (by rfl)) ?_) | (refine wl_value rfl (exec_ld rfl (by rfl) (ldPb s0)) ?_))
      go_ret
      exact ⟨by first | rfl | (rw [hr]; rfl), hBy⟩
  · rw [hsv] at s0
    have hr : r = decide (M ≤ 65575) := by rw [HF.out, hsv]; rfl
    have h40 := HM.out hsv
    obtain ⟨N, hN⟩ : ∃ N, M = 40 + N := ⟨M - 40, by omega⟩
    have HNN := Hid.mk hN
    by_cases hq : N ≤ 65535
    · have hqi : (N : Int) ≤ 65535 := by omega
      rw [decide_eq_true (by omega)] at hr
      clear hN
      go_wp2_with (first | (refine wl_value rfl (exec_fpk 0 (by decide) rfl (by rfl)) ?_) | (refine wl_value rfl (exec_fad0 rfl (by rfl)) ?_) | (refine wl_value rfl (exec_ld rfl (by rfl) (ldPb s0)) ?_) | (refine wl_value rfl (exec_subW (i := M) (m := 40) (q := N) rfl (by rfl) (by rfl) HNN.out (by have := HNN.out; omega)) ?_))
      go_ret
      exact ⟨by first | rfl | (rw [hr]; rfl), hBy⟩
    · have hqi : ¬ (N : Int) ≤ 65535 := by omega
      rw [decide_eq_false (by omega)] at hr
      clear hN
      go_wp2_with (first | (refine wl_value rfl (exec_fpk 0 (by decide) rfl (by rfl)) ?_) | (refine wl_value rfl (exec_fad0 rfl (by rfl)) ?_) | (refine wl_value rfl (exec_ld rfl (by rfl) (ldPb s0)) ?_) | (refine wl_value rfl (exec_subW (i := M) (m := 40) (q := N) rfl (by rfl) (by rfl) HNN.out (by have := HNN.out; omega)) ?_))
      go_ret
      exact ⟨by first | rfl | (rw [hr]; rfl), hBy⟩
end Go.Proofs.YtojekoakgpkkdabDoor

/-
  Own text. Bytes of packets: the parts, and version 4, of both sides.
-/
namespace Go.Proofs.YtojekoakgpkkdabDoor
open Go.RowKit Go.Proofs
set_option maxRecDepth 100000
theorem bits_or_i64 (a b : Nat) (ha : a < 9223372036854775808) (hb : b < 9223372036854775808) : bits .or .i64 (a : Int) (b : Int) = ((a ||| b : Nat) : Int) := by
  have hx : a ||| b < 2 ^ 63 := Nat.or_lt_two_pow (by omega) (by omega)
  have h1 : (BitVec.ofInt 64 (a : Int)).toNat = a := by
    rw [BitVec.ofInt_natCast, BitVec.toNat_ofNat]; exact Nat.mod_eq_of_lt (by omega)
  have h2 : (BitVec.ofInt 64 (b : Int)).toNat = b := by
    rw [BitVec.ofInt_natCast, BitVec.toNat_ofNat]; exact Nat.mod_eq_of_lt (by omega)
  show IntKind.i64.wrap ((BitVec.ofInt 64 (a : Int) ||| BitVec.ofInt 64 (b : Int)).toNat : Int) = _
  rw [BitVec.toNat_or, h1, h2, IntKind.wrap_i64]
  omega
theorem or_hi {a b : Nat} (k : Nat) (hb : b < 2 ^ k) (ha : a % 2 ^ k = 0) : a ||| b = a + b := by
  have e : a = 2 ^ k * (a / 2 ^ k) := by have := Nat.div_add_mod a (2 ^ k); omega
  rw [e]
  exact (Nat.two_pow_add_eq_or_of_lt hb _).symm
theorem or_64 {m : Nat} (h : m < 64) : 64 ||| m = 64 + m := or_hi 6 h (by decide)
theorem or_more {m : Nat} (b : Bool) (h : m < 8192) : m ||| bN b 8192 = m + bN b 8192 := by
  rw [Nat.or_comm, or_hi 13 h (by cases b <;> decide), Nat.add_comm]
theorem or_still {m : Nat} (b : Bool) (h : m < 16384) : m ||| bN b 16384 = m + bN b 16384 := by
  rw [Nat.or_comm, or_hi 14 h (by cases b <;> decide), Nat.add_comm]
theorem or_cut {m : Nat} (b : Bool) (h : m % 8 = 0) : m ||| bN b 1 = m + bN b 1 := or_hi 3 (by cases b <;> decide) h
theorem or_six1 {c : Nat} (h : c ≤ 255) : 1610612736 ||| c * 1048576 = 1610612736 + c * 1048576 := or_hi 28 (by have : (2 : Nat) ^ 28 = 268435456 := rfl; omega) (by decide)
theorem or_six2 {c f : Nat} (h : f ≤ 1048575) : (1610612736 + c * 1048576) ||| f = 1610612736 + c * 1048576 + f := or_hi 20 (by have : (2 : Nat) ^ 20 = 1048576 := rfl; omega) (by have : (2 : Nat) ^ 20 = 1048576 := rfl; omega)
section
variable {a : Act} {o : Oper} {w : World} {x y : Operand} {t : TypeId}
theorem exec_orI (ho : o.op = .binOp .or 3 x y 3) {i m q : Nat} (hx : a.eval x = .int .i64 (i : Int)) (hy : a.eval y = .int .i64 (m : Int)) (hq : i ||| m = q) (hi : i < 9223372036854775808) (hm : m < 9223372036854775808) : (execOp a.eval o).run Tryd.prog w = .ok (.value (.int .i64 (q : Int))) w := by
  subst hq
  refine exec_bin2 ho hx hy rfl ?_
  have e3 := bits_or_i64 i m hi hm
  simp only [binOp]
  simp [go_sem, e3]
theorem exec_quoZ (ho : o.op = .binOp .quo 3 x y 3) {n : Int} {m q : Nat} (hx : a.eval x = .int .i64 n) (hy : a.eval y = .int .i64 (m : Int)) (h0 : 0 ≤ n) (h1 : n < 9223372036854775808) (hm : 0 < m) (hq : n.toNat / m = q) : (execOp a.eval o).run Tryd.prog w = .ok (.value (.int .i64 (q : Int))) w := by
  obtain ⟨i, rfl⟩ := Int.eq_ofNat_of_zero_le h0
  exact exec_quoW ho hx hy hq hm (by omega)
end
theorem exec_cvIUn {a : Act} {o : Oper} {w : World} {x : Operand} (ho : o.op = .convert 3 79 x) {m : Nat} (hx : a.eval x = .int .i64 (m : Int)) (h1 : m < 9223372036854775808) : (execOp a.eval o).run Tryd.prog w = .ok (.value (.int .u64 (m : Int))) w := by
  have e : IntKind.u64.wrap (m : Int) = (m : Int) := by rw [IntKind.wrap_u64]; omega
  unfold execOp
  simp only [ho, hx]
  simp [go_sem, e]
theorem sz_app {A B : ByteArray} {m n q : Nat} (hA : A.size ≤ m) (hB : B.size ≤ n) (h : m + n = q) : (A ++ B).size ≤ q := by rw [ByteArray.size_append]; omega
theorem cat_ok {A B : ByteArray} {m n : Nat} (hA : A.size ≤ m) (hB : B.size ≤ n) (h : m + n ≤ 9223372036854775807) : A.size + B.size ≤ 9223372036854775807 := by omega
theorem zn {n : Int} (h : 0 ≤ n) : n = ((n.toNat : Nat) : Int) := (Int.toNat_of_nonneg h).symm
theorem en_put (args : Array Value) (w : World) : (callFunc 62 args).run Tryd.prog w = .ok (.enter 62 args) w := by kernel_rfl
theorem en_bit (args : Array Value) (w : World) : (callFunc 64 args).run Tryd.prog w = .ok (.enter 64 args) w := by kernel_rfl
theorem en_Bytes (args : Array Value) (w : World) : (callFunc 63 args).run Tryd.prog w = .ok (.enter 63 args) w := by kernel_rfl
set_option maxHeartbeats 4000000 in
theorem put1N (N : Nat) (w : World) (h1 : N < 9223372036854775808) : Calls Tryd.prog 62 #[.int .i64 (N : Int), .int .i64 1] w fun e w' => e = .returned (.string (putT N 1)) ∧ Below w.heap.size w w' := by
  have HP : Hid (∀ ww, Calls Tryd.prog 32 #[.int .u64 (N : Int), .int .i64 1] ww fun e w' => e = .returned (.string (putT N 1)) ∧ Below ww.heap.size ww w') := Hid.mk (fun ww => Put_run N 1 ww (by decide) (by decide))
  generalize putT N 1 = T at *
  go_enter Tryd.func62, Tryd.ntmps62
  go_wp2_with (first | (refine wl_value rfl (exec_cvIUn (m := N) rfl (by rfl) h1) ?_) | (go_at_call 32; refine (HP.out _).mono ?_; rintro e w2 ⟨rfl, hB⟩; refine Hid.out ?_))
  refine Hid.mk ?_
  go_wp2_with fail
  go_ret
  exact ⟨rfl, hB⟩
theorem put1_run (n : Int) (w : World) (h0 : 0 ≤ n) (h1 : n < 9223372036854775808) : Calls Tryd.prog 62 #[.int .i64 n, .int .i64 1] w fun e w' => e = .returned (.string (putT n.toNat 1)) ∧ Below w.heap.size w w' := by
  obtain ⟨N, rfl⟩ := Int.eq_ofNat_of_zero_le h0
  exact put1N N w (by omega)
set_option maxHeartbeats 4000000 in
theorem put2N (N : Nat) (w : World) (h1 : N < 9223372036854775808) : Calls Tryd.prog 62 #[.int .i64 (N : Int), .int .i64 2] w fun e w' => e = .returned (.string (putT N 2)) ∧ Below w.heap.size w w' := by
  have HP : Hid (∀ ww, Calls Tryd.prog 32 #[.int .u64 (N : Int), .int .i64 2] ww fun e w' => e = .returned (.string (putT N 2)) ∧ Below ww.heap.size ww w') := Hid.mk (fun ww => Put_run N 2 ww (by decide) (by decide))
  generalize putT N 2 = T at *
  go_enter Tryd.func62, Tryd.ntmps62
  go_wp2_with (first | (refine wl_value rfl (exec_cvIUn (m := N) rfl (by rfl) h1) ?_) | (go_at_call 32; refine (HP.out _).mono ?_; rintro e w2 ⟨rfl, hB⟩; refine Hid.out ?_))
  refine Hid.mk ?_
  go_wp2_with fail
  go_ret
  exact ⟨rfl, hB⟩
theorem put2_run (n : Int) (w : World) (h0 : 0 ≤ n) (h1 : n < 9223372036854775808) : Calls Tryd.prog 62 #[.int .i64 n, .int .i64 2] w fun e w' => e = .returned (.string (putT n.toNat 2)) ∧ Below w.heap.size w w' := by
  obtain ⟨N, rfl⟩ := Int.eq_ofNat_of_zero_le h0
  exact put2N N w (by omega)
set_option maxHeartbeats 4000000 in
theorem put4N (N : Nat) (w : World) (h1 : N < 9223372036854775808) : Calls Tryd.prog 62 #[.int .i64 (N : Int), .int .i64 4] w fun e w' => e = .returned (.string (putT N 4)) ∧ Below w.heap.size w w' := by
  have HP : Hid (∀ ww, Calls Tryd.prog 32 #[.int .u64 (N : Int), .int .i64 4] ww fun e w' => e = .returned (.string (putT N 4)) ∧ Below ww.heap.size ww w') := Hid.mk (fun ww => Put_run N 4 ww (by decide) (by decide))
  generalize putT N 4 = T at *
  go_enter Tryd.func62, Tryd.ntmps62
  go_wp2_with (first | (refine wl_value rfl (exec_cvIUn (m := N) rfl (by rfl) h1) ?_) | (go_at_call 32; refine (HP.out _).mono ?_; rintro e w2 ⟨rfl, hB⟩; refine Hid.out ?_))
  refine Hid.mk ?_
  go_wp2_with fail
  go_ret
  exact ⟨rfl, hB⟩
theorem put4_run (n : Int) (w : World) (h0 : 0 ≤ n) (h1 : n < 9223372036854775808) : Calls Tryd.prog 62 #[.int .i64 n, .int .i64 4] w fun e w' => e = .returned (.string (putT n.toNat 4)) ∧ Below w.heap.size w w' := by
  obtain ⟨N, rfl⟩ := Int.eq_ofNat_of_zero_le h0
  exact put4N N w (by omega)
theorem bit_run (b : Bool) (n : Nat) (w : World) : Calls Tryd.prog 64 #[.bool b, .int .i64 (n : Int)] w fun e w' => e = .returned (.int .i64 (bN b n : Int)) ∧ Below w.heap.size w w' := by
  have HB : Hid (bN b n = if b = true then n else 0) := Hid.mk rfl
  generalize bN b n = N at *
  go_enter Tryd.func64, Tryd.ntmps64
  cases b
  · have hr : N = 0 := HB.out
    go_wp2_with fail
    go_ret
    exact ⟨by rw [hr]; rfl, Below.refl _ _⟩
  · have hr : N = n := HB.out
    go_wp2_with fail
    go_ret
    exact ⟨by first | rfl | (rw [hr]; rfl), Below.refl _ _⟩
theorem run_bsT2 (s t : ByteArray) (w : World) : (Instr.buildSlice 87 2 #[(0, .string s), (1, .string t)]).run Tryd.prog w = .ok (.slice (some ⟨w.heap.size, 0, none⟩) 2 2) (w.alloc (.cells #[.string s, .string t] 9)) := by simp [go_sem]
theorem wl_bsT2 {ops : Array Oper} {rest : List Oper} {Q : Exit → Act → World → Prop} {o : Oper} {a : Act} {w : World} {x y : Operand} (ho : o.op = .buildSlice 87 2 #[(0, x), (1, y)]) (hw : Region.wanted o (yielded ops a.tmps) = true) {s t : ByteArray} (hx : a.eval x = .string s) (hy : a.eval y = .string t)
    (h : ∀ g w', w.heap.size ≤ g → w'.heap[g]? = some (.cells #[.string s, .string t] 9 (0, 0)) → Below w.heap.size w w' → wpList Tryd.prog ops Q rest (a.put o.dst (.slice (some ⟨g, 0, none⟩) 2 2)) w') : wpList Tryd.prog ops Q (o :: rest) a w := by
  refine wl_act hw ?_
  have hr := run_bsT2 s t w
  unfold Oper.wp execOp
  simp only [ho, List.map_toArray, List.map_cons, List.map_nil, hx, hy, Sem.run_bind, hr, Result.andThen_ok, Sem.run_pure, Oper.upon]
  exact h _ _ (Nat.le_refl _) (heap_alloc_new w _) ((Below.refl _ w).alloc (Nat.le_refl _) _)
set_option maxHeartbeats 4000000 in
theorem sumOf_run (A B : ByteArray) (w : World) (hA : A.size ≤ 1000000) (hB : B.size ≤ 1000000) : Calls Tryd.prog 65 #[.string A, .string B] w fun e w' => e = .returned (.string (putT (sumT (A ++ B)).toNat 2)) ∧ Below w.heap.size w w' := by
  have HS : Hid (∀ ww g, ww.heap[g]? = some (.cells #[.string A, .string B] 9 (0, 0)) → Calls Tryd.prog 41 #[.slice (some ⟨g, 0, none⟩) 2 2] ww fun e w' => e = .returned (.int .i64 (sumT (A ++ B))) ∧ w' = ww) := Hid.mk (fun ww g hg => by
    have := Sum_run _ 2 _ ww (strs2 hg) (by decide) (by rw [join2, ByteArray.size_append]; omega)
    rw [join2] at this
    exact this)
  have hs := sumT_b (A ++ B)
  generalize sumT (A ++ B) = n at *
  go_enter Tryd.func65, Tryd.ntmps65
  go_wp2_with (refine wl_bsT2 rfl rfl (by rfl) (by rfl) ?_; intro g u2 hg q1 hB2; refine Hid.out ?_)
  refine Hid.mk ?_
  go_wp2_with (first | (go_at_call 41; refine (HS.out _ _ q1).mono ?_; rintro e u3 ⟨rfl, rfl⟩) | (go_at_call 62; refine (put2_run n _ hs.1 (by omega)).mono ?_; rintro e u4 ⟨rfl, hB4⟩; refine Hid.out ?_))
  refine Hid.mk ?_
  go_wp2_with fail
  go_ret
  exact ⟨rfl, hB2.trans (hB4.mono hB2.size)⟩
theorem en_sumOf (args : Array Value) (w : World) : (callFunc 65 args).run Tryd.prog w = .ok (.enter 65 args) w := by kernel_rfl
set_option maxHeartbeats 8000000 in
theorem extBytes_run (x : Ex) (k : Int) (w : World) (hk0 : 0 ≤ k) (hk1 : k ≤ 255) (hz : 6 ≤ x.body.size) (hz2 : x.body.size ≤ 1000000) : Calls Tryd.prog 61 #[.agg (SC 2 (exV x)), .int .i64 k] w fun e w' => e = .returned (.string (putT k.toNat 1 ++ putT ((2 + x.body.size) / 8 - 1) 1 ++ x.body)) ∧ Below w.heap.size w w' := by
  go_enter Tryd.func61, Tryd.ntmps61
  go_wp2_with (refine wl_boxO rfl rfl isEx2 (by rfl) ?_; intro g1 u2 hg1 q1 hB2; refine Hid.out ?_)
  refine Hid.mk ?_
  go_upto_region 1 with fail
  refine wp_plain_steps (Below u2.heap.size u2) (fun v v' => Below v.heap.size v v') (fun j vv _ => vv = ([.pointer (some ⟨g1, 1, none⟩), .string x.body, .int .i64 (x.body.size : Int), .int .i64 ((2 + x.body.size : Nat) : Int), .int .i64 (((2 + x.body.size) / 8 : Nat) : Int), .int .i64 (((2 + x.body.size) / 8 : Nat) : Int)] : List Value).getD j undef)
      [6, 7, 8, 9, 10, 5]
      [(2, .pointer (some ⟨g1, 0, none⟩))] [] 0
      [[], [0], [1], [2], [3], [4]]
      (by kernel_rfl) ⟨rfl, trivial⟩ trivial (Below.refl _ _) (fun v v' h hb => h.trans (hb.mono h.size)) (fun _ _ _ _ h _ => h)
      ⟨
      (fun QQ aa ww hS fr kn => sg0 rfl (fun K hK => wp_value (exec_fexG 1 (by decide) rfl fr.1) (hK _ _ rfl (Below.refl _ _)))),
      (fun QQ aa ww hS fr kn => sg0 rfl (fun K hK => wp_value (exec_ld rfl kn.1 (ldPs (ex_body (SAt.kept q1 hS)))) (hK _ _ rfl (Below.refl _ _)))),
      (fun QQ aa ww hS fr kn => sg0 rfl (fun K hK => wp_value (exec_lenS rfl kn.1) (hK _ _ rfl (Below.refl _ _)))),
      (fun QQ aa ww hS fr kn => sg0 rfl (fun K hK => wp_value (exec_addW (i := 2) (m := x.body.size) rfl rfl kn.1 rfl (by omega)) (hK _ _ rfl (Below.refl _ _)))),
      (fun QQ aa ww hS fr kn => sg0 rfl (fun K hK => wp_value (exec_quoW (i := 2 + x.body.size) (m := 8) rfl kn.1 rfl rfl (by decide) (by omega)) (hK _ _ rfl (Below.refl _ _)))),
      (fun QQ aa ww hS fr kn => sg0 rfl (fun K hK => wp_value (exec_assign rfl kn.1) (hK _ _ rfl (Below.refl _ _)))),
      trivial⟩ ?_
  intro vs u3 hB3 kn
  have e5 : vs 5 = .int .i64 (((2 + x.body.size) / 8 : Nat) : Int) := kn 5 (by decide)
  clear kn
  simp only [putAll, Act.put, List.setIfInBounds_toArray, List.set_cons_zero, List.set_cons_succ, e5]
  clear e5
  have hBy := hB2.trans (hB3.mono hB2.size)
  have q2 := SAt.kept q1 hB3
  go_upto_region 2 with fail
  refine wp_region3 (Below u3.heap.size u3) u3.heap.size
      ([] : List (Nat × Cont))
      [kv (.int .i64 k), kv (.string (putT k.toNat 1)), kv (.int .i64 (((2 + x.body.size) / 8 : Nat) : Int)), kv (.int .i64 (((2 + x.body.size) / 8 - 1 : Nat) : Int)), kv (.string (putT ((2 + x.body.size) / 8 - 1) 1)), kv (.string (putT k.toNat 1 ++ (putT ((2 + x.body.size) / 8 - 1) 1))), kv (.pointer (some ⟨g1, 1, none⟩)), kv (.string x.body), kv (.string (putT k.toNat 1 ++ (putT ((2 + x.body.size) / 8 - 1) 1) ++ x.body)), kv (.string (putT k.toNat 1 ++ (putT ((2 + x.body.size) / 8 - 1) 1) ++ x.body))]
      [.none, .none, .none, .none, .none, .none, .none, .none, .none, .none]
      [some 11, some 12, some 13, some 14, some 15, some 16, some 17, some 18, some 19, some 4]
      [(1, .int .i64 k), (5, .int .i64 (((2 + x.body.size) / 8 : Nat) : Int)), (2, .pointer (some ⟨g1, 0, none⟩))]
      [[], [.slot 0], [], [.slot 2], [.slot 3], [.slot 1, .slot 4], [], [.slot 6], [.slot 5, .slot 7], [.slot 8]]
      [.slot 9] [11, 12, 13, 14, 15, 16, 17, 18, 19, 4]
      rfl (by kernel_rfl) ⟨rfl, rfl, rfl, trivial⟩ ((Below.refl _ u3).drew) (Nat.le_refl _) trivial trivial (below_GcW (Nat.le_refl _))
      ⟨
      (fun QQ aa ww own hS hBg fr kn => .inl ⟨trivial, fun K hK => wp_value (exec_move rfl fr.1) (hK _ _ ⟨Touch.refl _ _, rfl⟩)⟩),
      (fun QQ aa ww own hS hBg fr kn => .inl ⟨trivial, fun K hK => stepc en_put rfl (args2 kn.1 rfl) (put1_run k ww (by omega) (by omega)) (fun w' hb => hK _ _ ⟨touch_below hb, rfl⟩)⟩),
      (fun QQ aa ww own hS hBg fr kn => .inl ⟨trivial, fun K hK => wp_value (exec_move rfl fr.2.1) (hK _ _ ⟨Touch.refl _ _, rfl⟩)⟩),
      (fun QQ aa ww own hS hBg fr kn => .inl ⟨trivial, fun K hK => wp_value (exec_subW (i := (2 + x.body.size) / 8) (m := 1) rfl kn.1 rfl (by omega) (by omega)) (hK _ _ ⟨Touch.refl _ _, rfl⟩)⟩),
      (fun QQ aa ww own hS hBg fr kn => .inl ⟨trivial, fun K hK => stepc en_put rfl (args2 kn.1 rfl) (put1N ((2 + x.body.size) / 8 - 1) ww (by omega)) (fun w' hb => hK _ _ ⟨touch_below hb, rfl⟩)⟩),
      (fun QQ aa ww own hS hBg fr kn => .inl ⟨trivial, fun K hK => wp_value (exec_catS (s := putT k.toNat 1) (t := putT ((2 + x.body.size) / 8 - 1) 1) rfl kn.1 kn.2.1 (cat_ok (Nat.le_of_eq (putT_size _ _)) (Nat.le_of_eq (putT_size _ _)) (by decide : 1 + 1 ≤ 9223372036854775807))) (hK _ _ ⟨Touch.refl _ _, rfl⟩)⟩),
      (fun QQ aa ww own hS hBg fr kn => .inl ⟨trivial, fun K hK => wp_value (exec_fexG 1 (by decide) rfl fr.2.2.1) (hK _ _ ⟨Touch.refl _ _, rfl⟩)⟩),
      (fun QQ aa ww own hS hBg fr kn => .inl ⟨trivial, fun K hK => wp_value (exec_ld rfl kn.1 (ldPs (ex_body (SAt.kept q2 hS)))) (hK _ _ ⟨Touch.refl _ _, rfl⟩)⟩),
      (fun QQ aa ww own hS hBg fr kn => .inl ⟨trivial, fun K hK => wp_value (exec_catS (s := putT k.toNat 1 ++ (putT ((2 + x.body.size) / 8 - 1) 1)) (t := x.body) rfl kn.1 kn.2.1 (cat_ok (sz_app (Nat.le_of_eq (putT_size _ _)) (Nat.le_of_eq (putT_size _ _)) (by decide : 1 + 1 = 2)) hz2 (by decide : 2 + 1000000 ≤ 9223372036854775807))) (hK _ _ ⟨Touch.refl _ _, rfl⟩)⟩),
      (fun QQ aa ww own hS hBg fr kn => .inl ⟨trivial, fun K hK => wp_value (exec_assign rfl kn.1) (hK _ _ ⟨Touch.refl _ _, rfl⟩)⟩),
      trivial⟩ ?_
  intro vs own u4 hB4 hsz kn inj
  have e4 : vs 4 = .string (putT k.toNat 1 ++ (putT ((2 + x.body.size) / 8 - 1) 1) ++ x.body) := kn.1
  clear kn inj hsz
  simp only [putAll, Act.put, List.setIfInBounds_toArray, List.set_cons_zero, List.set_cons_succ, e4]
  clear e4
  go_wp2_with fail
  go_ret
  exact ⟨rfl, hBy.trans (hB4.mono hBy.size)⟩
theorem en_extBytes (args : Array Value) (w : World) : (callFunc 61 args).run Tryd.prog w = .ok (.enter 61 args) w := by kernel_rfl
set_option maxHeartbeats 8000000 in
theorem cutBytes_run (P : Pk) (v : Value) (w : World) (hpr : 0 ≤ P.proto ∧ P.proto ≤ 255) (hof : 0 ≤ P.off ∧ P.off ≤ 65528) (ho8 : P.off % 8 = 0) (hid : 0 ≤ P.id ∧ P.id ≤ 4294967295) : Calls Tryd.prog 59 #[.agg (SC 46 (pkV P v))] w fun e w' => e = .returned (.string (cuB P)) ∧ Below w.heap.size w w' := by
  have hmo := bN_lt P.more 1
  have ofz : Value.int .i64 P.off = .int .i64 ((P.off.toNat : Nat) : Int) := by rw [← zn hof.1]
  have o8 : P.off.toNat % 8 = 0 := by omega
  go_enter Tryd.func59, Tryd.ntmps59
  go_wp2_with (refine wl_boxO rfl rfl isPk (by rfl) ?_; intro g1 u2 hg1 q1 hB2; refine Hid.out ?_)
  refine Hid.mk ?_
  go_upto_region 1 with fail
  refine wp_region3 (Below u2.heap.size u2) u2.heap.size
      ([] : List (Nat × Cont))
      [kv (.pointer (some ⟨g1, 34, none⟩)), kv (.int .i64 P.proto), kv (.string (putT P.proto.toNat 1)), kv (.string (putT 0 1)), kv (.string (putT P.proto.toNat 1 ++ (putT 0 1))), kv (.pointer (some ⟨g1, 38, none⟩)), kv (.int .i64 P.off), kv (.pointer (some ⟨g1, 39, none⟩)), kv (.bool P.more), kv (.int .i64 ((bN P.more 1 : Nat) : Int)), kv (.int .i64 ((P.off.toNat + bN P.more 1 : Nat) : Int)), kv (.string (putT (P.off.toNat + bN P.more 1) 2)), kv (.string (putT P.proto.toNat 1 ++ (putT 0 1) ++ (putT (P.off.toNat + bN P.more 1) 2))), kv (.pointer (some ⟨g1, 37, none⟩)), kv (.int .i64 P.id), kv (.string (putT P.id.toNat 4)), kv (.string (putT P.proto.toNat 1 ++ (putT 0 1) ++ (putT (P.off.toNat + bN P.more 1) 2) ++ (putT P.id.toNat 4))), kv (.string (putT P.proto.toNat 1 ++ (putT 0 1) ++ (putT (P.off.toNat + bN P.more 1) 2) ++ (putT P.id.toNat 4)))]
      [.none, .none, .none, .none, .none, .none, .none, .none, .none, .none, .none, .none, .none, .none, .none, .none, .none, .none]
      [some 3, some 4, some 5, some 6, some 7, some 8, some 9, some 10, some 11, some 12, some 13, some 14, some 15, some 16, some 17, some 18, some 19, some 2]
      [(1, .pointer (some ⟨g1, 0, none⟩))]
      [[], [.slot 0], [.slot 1], [], [.slot 2, .slot 3], [], [.slot 5], [], [.slot 7], [.slot 8], [.slot 6, .slot 9], [.slot 10], [.slot 4, .slot 11], [], [.slot 13], [.slot 14], [.slot 12, .slot 15], [.slot 16]]
      [.slot 17] [3, 4, 5, 6, 7, 8, 9, 10, 11, 12, 13, 14, 15, 16, 17, 18, 19, 2]
      rfl (by kernel_rfl) ⟨rfl, trivial⟩ ((Below.refl _ u2).drew) (Nat.le_refl _) trivial trivial (below_GcW (Nat.le_refl _))
      ⟨
      (fun QQ aa ww own hS hBg fr kn => .inl ⟨trivial, fun K hK => wp_value (exec_fpk 2 (by decide) rfl fr.1) (hK _ _ ⟨Touch.refl _ _, rfl⟩)⟩),
      (fun QQ aa ww own hS hBg fr kn => .inl ⟨trivial, fun K hK => wp_value (exec_ld rfl kn.1 (ldP (pk_proto (SAt.kept q1 hS)))) (hK _ _ ⟨Touch.refl _ _, rfl⟩)⟩),
      (fun QQ aa ww own hS hBg fr kn => .inl ⟨trivial, fun K hK => stepc en_put rfl (args2 kn.1 rfl) (put1_run P.proto ww (by omega) (by omega)) (fun w' hb => hK _ _ ⟨touch_below hb, rfl⟩)⟩),
      (fun QQ aa ww own hS hBg fr kn => .inl ⟨trivial, fun K hK => stepc en_put rfl (args2 rfl rfl) (put1_run 0 ww (by decide) (by decide)) (fun w' hb => hK _ _ ⟨touch_below hb, rfl⟩)⟩),
      (fun QQ aa ww own hS hBg fr kn => .inl ⟨trivial, fun K hK => wp_value (exec_catS (s := putT P.proto.toNat 1) (t := putT 0 1) rfl kn.1 kn.2.1 (cat_ok (Nat.le_of_eq (putT_size _ _)) (Nat.le_of_eq (putT_size _ _)) (by decide : 1 + 1 ≤ 9223372036854775807))) (hK _ _ ⟨Touch.refl _ _, rfl⟩)⟩),
      (fun QQ aa ww own hS hBg fr kn => .inl ⟨trivial, fun K hK => wp_value (exec_fpk 6 (by decide) rfl fr.1) (hK _ _ ⟨Touch.refl _ _, rfl⟩)⟩),
      (fun QQ aa ww own hS hBg fr kn => .inl ⟨trivial, fun K hK => wp_value (exec_ld rfl kn.1 (ldP (pk_off (SAt.kept q1 hS)))) (hK _ _ ⟨Touch.refl _ _, rfl⟩)⟩),
      (fun QQ aa ww own hS hBg fr kn => .inl ⟨trivial, fun K hK => wp_value (exec_fpk 7 (by decide) rfl fr.1) (hK _ _ ⟨Touch.refl _ _, rfl⟩)⟩),
      (fun QQ aa ww own hS hBg fr kn => .inl ⟨trivial, fun K hK => wp_value (exec_ld rfl kn.1 (ldPb (pk_more (SAt.kept q1 hS)))) (hK _ _ ⟨Touch.refl _ _, rfl⟩)⟩),
      (fun QQ aa ww own hS hBg fr kn => .inl ⟨trivial, fun K hK => stepc en_bit rfl (args2 kn.1 rfl) (bit_run P.more 1 ww) (fun w' hb => hK _ _ ⟨touch_below hb, rfl⟩)⟩),
      (fun QQ aa ww own hS hBg fr kn => .inl ⟨trivial, fun K hK => wp_value (exec_orI (i := P.off.toNat) (m := bN P.more 1) rfl (kn.1.trans ofz) kn.2.1 (or_cut P.more o8) (by omega) (by omega)) (hK _ _ ⟨Touch.refl _ _, rfl⟩)⟩),
      (fun QQ aa ww own hS hBg fr kn => .inl ⟨trivial, fun K hK => stepc en_put rfl (args2 kn.1 rfl) (put2N (P.off.toNat + bN P.more 1) ww (by omega)) (fun w' hb => hK _ _ ⟨touch_below hb, rfl⟩)⟩),
      (fun QQ aa ww own hS hBg fr kn => .inl ⟨trivial, fun K hK => wp_value (exec_catS (s := putT P.proto.toNat 1 ++ (putT 0 1)) (t := putT (P.off.toNat + bN P.more 1) 2) rfl kn.1 kn.2.1 (cat_ok (sz_app (Nat.le_of_eq (putT_size _ _)) (Nat.le_of_eq (putT_size _ _)) (by decide : 1 + 1 = 2)) (Nat.le_of_eq (putT_size _ _)) (by decide : 2 + 2 ≤ 9223372036854775807))) (hK _ _ ⟨Touch.refl _ _, rfl⟩)⟩),
      (fun QQ aa ww own hS hBg fr kn => .inl ⟨trivial, fun K hK => wp_value (exec_fpk 5 (by decide) rfl fr.1) (hK _ _ ⟨Touch.refl _ _, rfl⟩)⟩),
      (fun QQ aa ww own hS hBg fr kn => .inl ⟨trivial, fun K hK => wp_value (exec_ld rfl kn.1 (ldP (pk_id (SAt.kept q1 hS)))) (hK _ _ ⟨Touch.refl _ _, rfl⟩)⟩),
      (fun QQ aa ww own hS hBg fr kn => .inl ⟨trivial, fun K hK => stepc en_put rfl (args2 kn.1 rfl) (put4_run P.id ww (by omega) (by omega)) (fun w' hb => hK _ _ ⟨touch_below hb, rfl⟩)⟩),
      (fun QQ aa ww own hS hBg fr kn => .inl ⟨trivial, fun K hK => wp_value (exec_catS (s := putT P.proto.toNat 1 ++ (putT 0 1) ++ (putT (P.off.toNat + bN P.more 1) 2)) (t := putT P.id.toNat 4) rfl kn.1 kn.2.1 (cat_ok (sz_app (sz_app (Nat.le_of_eq (putT_size _ _)) (Nat.le_of_eq (putT_size _ _)) (by decide : 1 + 1 = 2)) (Nat.le_of_eq (putT_size _ _)) (by decide : 2 + 2 = 4)) (Nat.le_of_eq (putT_size _ _)) (by decide : 4 + 4 ≤ 9223372036854775807))) (hK _ _ ⟨Touch.refl _ _, rfl⟩)⟩),
      (fun QQ aa ww own hS hBg fr kn => .inl ⟨trivial, fun K hK => wp_value (exec_assign rfl kn.1) (hK _ _ ⟨Touch.refl _ _, rfl⟩)⟩),
      trivial⟩ ?_
  intro vs own u3 hB3 hsz kn inj
  have e2 : vs 2 = .string (putT P.proto.toNat 1 ++ (putT 0 1) ++ (putT (P.off.toNat + bN P.more 1) 2) ++ (putT P.id.toNat 4)) := kn.1
  clear kn inj hsz
  simp only [putAll, Act.put, List.setIfInBounds_toArray, List.set_cons_zero, List.set_cons_succ, e2]
  clear e2
  go_wp2_with fail
  go_ret
  exact ⟨rfl, hB2.trans (hB3.mono hB2.size)⟩
set_option maxHeartbeats 16000000 in
theorem bytes4_run (P : Pk) (v : Value) (w : World) (h1 : ExAt w v P.exts) (hO : PkOk P) (hr : rgtP P = true) (hf : fitP P = true) (h4 : P.sv = false) : Calls Tryd.prog 49 #[.agg (SC 46 (pkV P v))] w fun e w' => e = .returned (.string (fourB P)) ∧ Below w.heap.size w w' := by
  obtain ⟨hv1, hv2, _, hpr, hho, hcl, hof, ho8, hrr⟩ := rgtP_iff.1 hr
  rw [if_neg (by rw [h4]; decide)] at hrr
  obtain ⟨hid, _, hop, _, hex, _⟩ := rgt4_iff.1 hrr
  have hE : exLen P.exts ≤ 1000000 := by rw [hex]; decide
  have hfi : headP P + P.pay.size ≤ 65535 := by
    unfold fitP at hf
    rw [if_neg (by rw [h4]; decide)] at hf
    simpa using hf
  have hh : headP P = 20 + P.opts.size := by unfold headP; rw [if_neg (by rw [h4]; decide)]
  have hm1 := bN_lt P.more 8192
  have hm2 := bN_lt P.still 16384
  have hy1 := bytT_size P.sv P.sb
  have hy2 := bytT_size P.dv P.db
  have za := a4_size P
  have zb := b4_size hr h4
  have HSU : Hid (∀ ww, Calls Tryd.prog 65 #[.string (a4 P), .string (b4 P)] ww fun e w' => e = .returned (.string (putT (sumT (a4 P ++ b4 P)).toNat 2)) ∧ Below ww.heap.size ww w') := Hid.mk (fun ww => sumOf_run (a4 P) (b4 P) ww (by omega) (by omega))
  have hS0 : (putT (sumT (a4 P ++ b4 P)).toNat 2).size = 2 := putT_size _ _
  have hzB : (b4 P).size ≤ 48 := by omega
  have hpy : P.pay.size ≤ 65575 := by omega
  have HFB : Hid (fourB P = a4 P ++ putT (sumT (a4 P ++ b4 P)).toNat 2 ++ b4 P ++ P.pay) := Hid.mk rfl
  have HA : Hid (a4 P = putT (64 + headP P / 4) 1 ++ putT P.cls.toNat 1 ++ putT (headP P + P.pay.size) 2 ++ putT P.id.toNat 2 ++ putT (P.off.toNat / 8 + bN P.more 8192 + bN P.still 16384) 2 ++ putT P.hop.toNat 1 ++ putT P.proto.toNat 1) := Hid.mk rfl
  have HBB : Hid (b4 P = bytT P.sv P.sb ++ bytT P.dv P.db ++ P.opts) := Hid.mk rfl
  have HH := Hid.mk (fun ww h => headSize_run P v ww h (by omega) hE)
  have hHl : headP P ≤ 60 := by omega
  clear hh zb
  generalize fourB P = FB at *
  generalize putT (sumT (a4 P ++ b4 P)).toNat 2 = S at *
  generalize a4 P = A at *
  generalize b4 P = B at *
  generalize headP P = H at *
  go_enter Tryd.func49, Tryd.ntmps49
  go_wp2_with (refine wl_boxO rfl rfl isPk (by rfl) ?_; intro g1 u2 hg1 q1 hB2; refine Hid.out ?_)
  refine Hid.mk ?_
  have hx1 := h1.kept hB2
  go_wp2_with (first | (refine wl_value rfl (look_st rfl isPk q1 (by rfl)) ?_) | (go_at_call 58; refine (HH.out _ hx1).mono ?_; rintro e u3 ⟨rfl, hB3⟩; refine Hid.out ?_))
  refine Hid.mk ?_
  have hBa := hB2.trans (hB3.mono hB2.size)
  have q2 := SAt.kept q1 hB3
  go_upto_region 2 with fail
  refine wp_region3 (Below u3.heap.size u3) u3.heap.size
      ([] : List (Nat × Cont))
      (kv (.int .i64 (H : Int)) :: kv (.int .i64 ((H / 4 : Nat) : Int)) :: kv (.int .i64 ((64 + H / 4 : Nat) : Int)) :: kv (.string (putT (64 + H / 4) 1)) :: kv (.pointer (some ⟨g1, 36, none⟩)) :: kv (.int .i64 P.cls) :: kv (.string (putT P.cls.toNat 1)) :: kv (.string (putT (64 + H / 4) 1 ++ (putT P.cls.toNat 1))) :: kv (.int .i64 (H : Int)) :: kv (.pointer (some ⟨g1, 45, none⟩)) :: kv (.string P.pay) :: kv (.int .i64 (P.pay.size : Int)) :: kv (.int .i64 ((H + P.pay.size : Nat) : Int)) :: kv (.string (putT (H + P.pay.size) 2)) :: kv (.string (putT (64 + H / 4) 1 ++ (putT P.cls.toNat 1) ++ (putT (H + P.pay.size) 2))) :: kv (.pointer (some ⟨g1, 37, none⟩)) :: kv (.int .i64 P.id) :: kv (.string (putT P.id.toNat 2)) :: kv (.string (putT (64 + H / 4) 1 ++ (putT P.cls.toNat 1) ++ (putT (H + P.pay.size) 2) ++ (putT P.id.toNat 2))) :: kv (.pointer (some ⟨g1, 38, none⟩)) :: kv (.int .i64 P.off) :: kv (.int .i64 ((P.off.toNat / 8 : Nat) : Int)) :: kv (.pointer (some ⟨g1, 39, none⟩)) :: kv (.bool P.more) :: kv (.int .i64 ((bN P.more 8192 : Nat) : Int)) :: kv (.int .i64 ((P.off.toNat / 8 + bN P.more 8192 : Nat) : Int)) :: kv (.pointer (some ⟨g1, 40, none⟩)) :: kv (.bool P.still) :: kv (.int .i64 ((bN P.still 16384 : Nat) : Int)) :: kv (.int .i64 ((P.off.toNat / 8 + bN P.more 8192 + bN P.still 16384 : Nat) : Int)) :: kv (.string (putT (P.off.toNat / 8 + bN P.more 8192 + bN P.still 16384) 2)) :: kv (.string (putT (64 + H / 4) 1 ++ (putT P.cls.toNat 1) ++ (putT (H + P.pay.size) 2) ++ (putT P.id.toNat 2) ++ (putT (P.off.toNat / 8 + bN P.more 8192 + bN P.still 16384) 2))) :: kv (.pointer (some ⟨g1, 35, none⟩)) :: kv (.int .i64 P.hop) :: kv (.string (putT P.hop.toNat 1)) :: kv (.string (putT (64 + H / 4) 1 ++ (putT P.cls.toNat 1) ++ (putT (H + P.pay.size) 2) ++ (putT P.id.toNat 2) ++ (putT (P.off.toNat / 8 + bN P.more 8192 + bN P.still 16384) 2) ++ (putT P.hop.toNat 1))) :: kv (.pointer (some ⟨g1, 34, none⟩)) :: kv (.int .i64 P.proto) :: kv (.string (putT P.proto.toNat 1)) :: kv (.string (putT (64 + H / 4) 1 ++ (putT P.cls.toNat 1) ++ (putT (H + P.pay.size) 2) ++ (putT P.id.toNat 2) ++ (putT (P.off.toNat / 8 + bN P.more 8192 + bN P.still 16384) 2) ++ (putT P.hop.toNat 1) ++ (putT P.proto.toNat 1))) :: kv (.string (putT (64 + H / 4) 1 ++ (putT P.cls.toNat 1) ++ (putT (H + P.pay.size) 2) ++ (putT P.id.toNat 2) ++ (putT (P.off.toNat / 8 + bN P.more 8192 + bN P.still 16384) 2) ++ (putT P.hop.toNat 1) ++ (putT P.proto.toNat 1))) :: [])
      (.none :: .none :: .none :: .none :: .none :: .none :: .none :: .none :: .none :: .none :: .none :: .none :: .none :: .none :: .none :: .none :: .none :: .none :: .none :: .none :: .none :: .none :: .none :: .none :: .none :: .none :: .none :: .none :: .none :: .none :: .none :: .none :: .none :: .none :: .none :: .none :: .none :: .none :: .none :: .none :: .none :: [])
      (some 8 :: some 9 :: some 10 :: some 11 :: some 12 :: some 13 :: some 14 :: some 15 :: some 16 :: some 17 :: some 18 :: some 19 :: some 20 :: some 21 :: some 22 :: some 23 :: some 24 :: some 25 :: some 26 :: some 27 :: some 28 :: some 29 :: some 30 :: some 31 :: some 32 :: some 33 :: some 34 :: some 35 :: some 36 :: some 37 :: some 38 :: some 39 :: some 40 :: some 41 :: some 42 :: some 43 :: some 44 :: some 45 :: some 46 :: some 47 :: some 4 :: [])
      [(3, .int .i64 (H : Int)), (1, .pointer (some ⟨g1, 0, none⟩))]
      ([] :: [.slot 0] :: [.slot 1] :: [.slot 2] :: [] :: [.slot 4] :: [.slot 5] :: [.slot 3, .slot 6] :: [] :: [] :: [.slot 9] :: [.slot 10] :: [.slot 8, .slot 11] :: [.slot 12] :: [.slot 7, .slot 13] :: [] :: [.slot 15] :: [.slot 16] :: [.slot 14, .slot 17] :: [] :: [.slot 19] :: [.slot 20] :: [] :: [.slot 22] :: [.slot 23] :: [.slot 21, .slot 24] :: [] :: [.slot 26] :: [.slot 27] :: [.slot 25, .slot 28] :: [.slot 29] :: [.slot 18, .slot 30] :: [] :: [.slot 32] :: [.slot 33] :: [.slot 31, .slot 34] :: [] :: [.slot 36] :: [.slot 37] :: [.slot 35, .slot 38] :: [.slot 39] :: [])
      [.slot 40] (8 :: 9 :: 10 :: 11 :: 12 :: 13 :: 14 :: 15 :: 16 :: 17 :: 18 :: 19 :: 20 :: 21 :: 22 :: 23 :: 24 :: 25 :: 26 :: 27 :: 28 :: 29 :: 30 :: 31 :: 32 :: 33 :: 34 :: 35 :: 36 :: 37 :: 38 :: 39 :: 40 :: 41 :: 42 :: 43 :: 44 :: 45 :: 46 :: 47 :: 4 :: [])
      rfl (by kernel_rfl) ⟨rfl, rfl, trivial⟩ ((Below.refl _ u3).drew) (Nat.le_refl _) trivial trivial (below_GcW (Nat.le_refl _))
      ⟨
      (fun QQ aa ww own hS hBg fr kn => .inl ⟨trivial, fun K hK => wp_value (exec_move rfl fr.1) (hK _ _ ⟨Touch.refl _ _, rfl⟩)⟩),
      (fun QQ aa ww own hS hBg fr kn => .inl ⟨trivial, fun K hK => wp_value (exec_quoW (i := H) (m := 4) rfl kn.1 rfl rfl (by decide) (by omega)) (hK _ _ ⟨Touch.refl _ _, rfl⟩)⟩),
      (fun QQ aa ww own hS hBg fr kn => .inl ⟨trivial, fun K hK => wp_value (exec_orI (i := 64) (m := H / 4) rfl rfl kn.1 (or_64 (by omega)) (by decide) (by omega)) (hK _ _ ⟨Touch.refl _ _, rfl⟩)⟩),
      (fun QQ aa ww own hS hBg fr kn => .inl ⟨trivial, fun K hK => stepc en_put rfl (args2 kn.1 rfl) (put1N (64 + H / 4) ww (by omega)) (fun w' hb => hK _ _ ⟨touch_below hb, rfl⟩)⟩),
      (fun QQ aa ww own hS hBg fr kn => .inl ⟨trivial, fun K hK => wp_value (exec_fpk 4 (by decide) rfl fr.2.1) (hK _ _ ⟨Touch.refl _ _, rfl⟩)⟩),
      (fun QQ aa ww own hS hBg fr kn => .inl ⟨trivial, fun K hK => wp_value (exec_ld rfl kn.1 (ldP (pk_cls (SAt.kept q2 hS)))) (hK _ _ ⟨Touch.refl _ _, rfl⟩)⟩),
      (fun QQ aa ww own hS hBg fr kn => .inl ⟨trivial, fun K hK => stepc en_put rfl (args2 kn.1 rfl) (put1_run P.cls ww (by omega) (by omega)) (fun w' hb => hK _ _ ⟨touch_below hb, rfl⟩)⟩),
      (fun QQ aa ww own hS hBg fr kn => .inl ⟨trivial, fun K hK => wp_value (exec_catS (s := putT (64 + H / 4) 1) (t := putT P.cls.toNat 1) rfl kn.1 kn.2.1 (cat_ok (Nat.le_of_eq (putT_size _ _)) (Nat.le_of_eq (putT_size _ _)) (by decide : 1 + 1 ≤ 9223372036854775807))) (hK _ _ ⟨Touch.refl _ _, rfl⟩)⟩),
      (fun QQ aa ww own hS hBg fr kn => .inl ⟨trivial, fun K hK => wp_value (exec_move rfl fr.1) (hK _ _ ⟨Touch.refl _ _, rfl⟩)⟩),
      (fun QQ aa ww own hS hBg fr kn => .inl ⟨trivial, fun K hK => wp_value (exec_fpk 13 (by decide) rfl fr.2.1) (hK _ _ ⟨Touch.refl _ _, rfl⟩)⟩),
      (fun QQ aa ww own hS hBg fr kn => .inl ⟨trivial, fun K hK => wp_value (exec_ld rfl kn.1 (ldPs (pk_pay (SAt.kept q2 hS)))) (hK _ _ ⟨Touch.refl _ _, rfl⟩)⟩),
      (fun QQ aa ww own hS hBg fr kn => .inl ⟨trivial, fun K hK => wp_value (exec_lenS rfl kn.1) (hK _ _ ⟨Touch.refl _ _, rfl⟩)⟩),
      (fun QQ aa ww own hS hBg fr kn => .inl ⟨trivial, fun K hK => wp_value (exec_addW (i := H) (m := P.pay.size) rfl kn.1 kn.2.1 rfl (by omega)) (hK _ _ ⟨Touch.refl _ _, rfl⟩)⟩),
      (fun QQ aa ww own hS hBg fr kn => .inl ⟨trivial, fun K hK => stepc en_put rfl (args2 kn.1 rfl) (put2N (H + P.pay.size) ww (by omega)) (fun w' hb => hK _ _ ⟨touch_below hb, rfl⟩)⟩),
      (fun QQ aa ww own hS hBg fr kn => .inl ⟨trivial, fun K hK => wp_value (exec_catS (s := putT (64 + H / 4) 1 ++ (putT P.cls.toNat 1)) (t := putT (H + P.pay.size) 2) rfl kn.1 kn.2.1 (cat_ok (sz_app (Nat.le_of_eq (putT_size _ _)) (Nat.le_of_eq (putT_size _ _)) (by decide : 1 + 1 = 2)) (Nat.le_of_eq (putT_size _ _)) (by decide : 2 + 2 ≤ 9223372036854775807))) (hK _ _ ⟨Touch.refl _ _, rfl⟩)⟩),
      (fun QQ aa ww own hS hBg fr kn => .inl ⟨trivial, fun K hK => wp_value (exec_fpk 5 (by decide) rfl fr.2.1) (hK _ _ ⟨Touch.refl _ _, rfl⟩)⟩),
      (fun QQ aa ww own hS hBg fr kn => .inl ⟨trivial, fun K hK => wp_value (exec_ld rfl kn.1 (ldP (pk_id (SAt.kept q2 hS)))) (hK _ _ ⟨Touch.refl _ _, rfl⟩)⟩),
      (fun QQ aa ww own hS hBg fr kn => .inl ⟨trivial, fun K hK => stepc en_put rfl (args2 kn.1 rfl) (put2_run P.id ww (by omega) (by omega)) (fun w' hb => hK _ _ ⟨touch_below hb, rfl⟩)⟩),
      (fun QQ aa ww own hS hBg fr kn => .inl ⟨trivial, fun K hK => wp_value (exec_catS (s := putT (64 + H / 4) 1 ++ (putT P.cls.toNat 1) ++ (putT (H + P.pay.size) 2)) (t := putT P.id.toNat 2) rfl kn.1 kn.2.1 (cat_ok (sz_app (sz_app (Nat.le_of_eq (putT_size _ _)) (Nat.le_of_eq (putT_size _ _)) (by decide : 1 + 1 = 2)) (Nat.le_of_eq (putT_size _ _)) (by decide : 2 + 2 = 4)) (Nat.le_of_eq (putT_size _ _)) (by decide : 4 + 2 ≤ 9223372036854775807))) (hK _ _ ⟨Touch.refl _ _, rfl⟩)⟩),
      (fun QQ aa ww own hS hBg fr kn => .inl ⟨trivial, fun K hK => wp_value (exec_fpk 6 (by decide) rfl fr.2.1) (hK _ _ ⟨Touch.refl _ _, rfl⟩)⟩),
      (fun QQ aa ww own hS hBg fr kn => .inl ⟨trivial, fun K hK => wp_value (exec_ld rfl kn.1 (ldP (pk_off (SAt.kept q2 hS)))) (hK _ _ ⟨Touch.refl _ _, rfl⟩)⟩),
      (fun QQ aa ww own hS hBg fr kn => .inl ⟨trivial, fun K hK => wp_value (exec_quoZ (m := 8) rfl kn.1 rfl hof.1 (by omega) (by decide) rfl) (hK _ _ ⟨Touch.refl _ _, rfl⟩)⟩),
      (fun QQ aa ww own hS hBg fr kn => .inl ⟨trivial, fun K hK => wp_value (exec_fpk 7 (by decide) rfl fr.2.1) (hK _ _ ⟨Touch.refl _ _, rfl⟩)⟩),
      (fun QQ aa ww own hS hBg fr kn => .inl ⟨trivial, fun K hK => wp_value (exec_ld rfl kn.1 (ldPb (pk_more (SAt.kept q2 hS)))) (hK _ _ ⟨Touch.refl _ _, rfl⟩)⟩),
      (fun QQ aa ww own hS hBg fr kn => .inl ⟨trivial, fun K hK => stepc en_bit rfl (args2 kn.1 rfl) (bit_run P.more 8192 ww) (fun w' hb => hK _ _ ⟨touch_below hb, rfl⟩)⟩),
      (fun QQ aa ww own hS hBg fr kn => .inl ⟨trivial, fun K hK => wp_value (exec_orI (i := P.off.toNat / 8) (m := bN P.more 8192) rfl kn.1 kn.2.1 (or_more P.more (by omega)) (by omega) (by omega)) (hK _ _ ⟨Touch.refl _ _, rfl⟩)⟩),
      (fun QQ aa ww own hS hBg fr kn => .inl ⟨trivial, fun K hK => wp_value (exec_fpk 8 (by decide) rfl fr.2.1) (hK _ _ ⟨Touch.refl _ _, rfl⟩)⟩),
      (fun QQ aa ww own hS hBg fr kn => .inl ⟨trivial, fun K hK => wp_value (exec_ld rfl kn.1 (ldPb (pk_still (SAt.kept q2 hS)))) (hK _ _ ⟨Touch.refl _ _, rfl⟩)⟩),
      (fun QQ aa ww own hS hBg fr kn => .inl ⟨trivial, fun K hK => stepc en_bit rfl (args2 kn.1 rfl) (bit_run P.still 16384 ww) (fun w' hb => hK _ _ ⟨touch_below hb, rfl⟩)⟩),
      (fun QQ aa ww own hS hBg fr kn => .inl ⟨trivial, fun K hK => wp_value (exec_orI (i := P.off.toNat / 8 + bN P.more 8192) (m := bN P.still 16384) rfl kn.1 kn.2.1 (or_still P.still (by omega)) (by omega) (by omega)) (hK _ _ ⟨Touch.refl _ _, rfl⟩)⟩),
      (fun QQ aa ww own hS hBg fr kn => .inl ⟨trivial, fun K hK => stepc en_put rfl (args2 kn.1 rfl) (put2N (P.off.toNat / 8 + bN P.more 8192 + bN P.still 16384) ww (by omega)) (fun w' hb => hK _ _ ⟨touch_below hb, rfl⟩)⟩),
      (fun QQ aa ww own hS hBg fr kn => .inl ⟨trivial, fun K hK => wp_value (exec_catS (s := putT (64 + H / 4) 1 ++ (putT P.cls.toNat 1) ++ (putT (H + P.pay.size) 2) ++ (putT P.id.toNat 2)) (t := putT (P.off.toNat / 8 + bN P.more 8192 + bN P.still 16384) 2) rfl kn.1 kn.2.1 (cat_ok (sz_app (sz_app (sz_app (Nat.le_of_eq (putT_size _ _)) (Nat.le_of_eq (putT_size _ _)) (by decide : 1 + 1 = 2)) (Nat.le_of_eq (putT_size _ _)) (by decide : 2 + 2 = 4)) (Nat.le_of_eq (putT_size _ _)) (by decide : 4 + 2 = 6)) (Nat.le_of_eq (putT_size _ _)) (by decide : 6 + 2 ≤ 9223372036854775807))) (hK _ _ ⟨Touch.refl _ _, rfl⟩)⟩),
      (fun QQ aa ww own hS hBg fr kn => .inl ⟨trivial, fun K hK => wp_value (exec_fpk 3 (by decide) rfl fr.2.1) (hK _ _ ⟨Touch.refl _ _, rfl⟩)⟩),
      (fun QQ aa ww own hS hBg fr kn => .inl ⟨trivial, fun K hK => wp_value (exec_ld rfl kn.1 (ldP (pk_hop (SAt.kept q2 hS)))) (hK _ _ ⟨Touch.refl _ _, rfl⟩)⟩),
      (fun QQ aa ww own hS hBg fr kn => .inl ⟨trivial, fun K hK => stepc en_put rfl (args2 kn.1 rfl) (put1_run P.hop ww (by omega) (by omega)) (fun w' hb => hK _ _ ⟨touch_below hb, rfl⟩)⟩),
      (fun QQ aa ww own hS hBg fr kn => .inl ⟨trivial, fun K hK => wp_value (exec_catS (s := putT (64 + H / 4) 1 ++ (putT P.cls.toNat 1) ++ (putT (H + P.pay.size) 2) ++ (putT P.id.toNat 2) ++ (putT (P.off.toNat / 8 + bN P.more 8192 + bN P.still 16384) 2)) (t := putT P.hop.toNat 1) rfl kn.1 kn.2.1 (cat_ok (sz_app (sz_app (sz_app (sz_app (Nat.le_of_eq (putT_size _ _)) (Nat.le_of_eq (putT_size _ _)) (by decide : 1 + 1 = 2)) (Nat.le_of_eq (putT_size _ _)) (by decide : 2 + 2 = 4)) (Nat.le_of_eq (putT_size _ _)) (by decide : 4 + 2 = 6)) (Nat.le_of_eq (putT_size _ _)) (by decide : 6 + 2 = 8)) (Nat.le_of_eq (putT_size _ _)) (by decide : 8 + 1 ≤ 9223372036854775807))) (hK _ _ ⟨Touch.refl _ _, rfl⟩)⟩),
      (fun QQ aa ww own hS hBg fr kn => .inl ⟨trivial, fun K hK => wp_value (exec_fpk 2 (by decide) rfl fr.2.1) (hK _ _ ⟨Touch.refl _ _, rfl⟩)⟩),
      (fun QQ aa ww own hS hBg fr kn => .inl ⟨trivial, fun K hK => wp_value (exec_ld rfl kn.1 (ldP (pk_proto (SAt.kept q2 hS)))) (hK _ _ ⟨Touch.refl _ _, rfl⟩)⟩),
      (fun QQ aa ww own hS hBg fr kn => .inl ⟨trivial, fun K hK => stepc en_put rfl (args2 kn.1 rfl) (put1_run P.proto ww (by omega) (by omega)) (fun w' hb => hK _ _ ⟨touch_below hb, rfl⟩)⟩),
      (fun QQ aa ww own hS hBg fr kn => .inl ⟨trivial, fun K hK => wp_value (exec_catS (s := putT (64 + H / 4) 1 ++ (putT P.cls.toNat 1) ++ (putT (H + P.pay.size) 2) ++ (putT P.id.toNat 2) ++ (putT (P.off.toNat / 8 + bN P.more 8192 + bN P.still 16384) 2) ++ (putT P.hop.toNat 1)) (t := putT P.proto.toNat 1) rfl kn.1 kn.2.1 (cat_ok (sz_app (sz_app (sz_app (sz_app (sz_app (Nat.le_of_eq (putT_size _ _)) (Nat.le_of_eq (putT_size _ _)) (by decide : 1 + 1 = 2)) (Nat.le_of_eq (putT_size _ _)) (by decide : 2 + 2 = 4)) (Nat.le_of_eq (putT_size _ _)) (by decide : 4 + 2 = 6)) (Nat.le_of_eq (putT_size _ _)) (by decide : 6 + 2 = 8)) (Nat.le_of_eq (putT_size _ _)) (by decide : 8 + 1 = 9)) (Nat.le_of_eq (putT_size _ _)) (by decide : 9 + 1 ≤ 9223372036854775807))) (hK _ _ ⟨Touch.refl _ _, rfl⟩)⟩),
      (fun QQ aa ww own hS hBg fr kn => .inl ⟨trivial, fun K hK => wp_value (exec_assign rfl kn.1) (hK _ _ ⟨Touch.refl _ _, rfl⟩)⟩),
      trivial⟩ ?_
  intro vs own u4 hB4 hsz kn inj
  have e4 : vs 4 = .string (putT (64 + H / 4) 1 ++ (putT P.cls.toNat 1) ++ (putT (H + P.pay.size) 2) ++ (putT P.id.toNat 2) ++ (putT (P.off.toNat / 8 + bN P.more 8192 + bN P.still 16384) 2) ++ (putT P.hop.toNat 1) ++ (putT P.proto.toNat 1)) := kn.1
  clear kn inj hsz
  simp only [putAll, Act.put, List.setIfInBounds_toArray, List.set_cons_zero, List.set_cons_succ, e4]
  clear e4
  have hBb := hBa.trans (hB4.mono hBa.size)
  have q3 := SAt.kept q2 hB4
  rw [← HA.out]
  go_upto_region 3 with fail
  refine wp_region3 (Below u4.heap.size u4) u4.heap.size
      ([] : List (Nat × Cont))
      [kv (.pointer (some ⟨g1, 0, none⟩)), kv (.agg (SC 17 (adV P.sv P.sb))), kv (.string (bytT P.sv P.sb)), kv (.pointer (some ⟨g1, 17, none⟩)), kv (.agg (SC 17 (adV P.dv P.db))), kv (.string (bytT P.dv P.db)), kv (.string (bytT P.sv P.sb ++ (bytT P.dv P.db))), kv (.pointer (some ⟨g1, 41, none⟩)), kv (.string P.opts), kv (.string (bytT P.sv P.sb ++ (bytT P.dv P.db) ++ P.opts)), kv (.string (bytT P.sv P.sb ++ (bytT P.dv P.db) ++ P.opts))]
      [.none, .none, .none, .none, .none, .none, .none, .none, .none, .none, .none]
      [some 48, some 49, some 50, some 51, some 52, some 53, some 54, some 55, some 56, some 57, some 5]
      [(1, .pointer (some ⟨g1, 0, none⟩))]
      [[], [.slot 0], [.slot 1], [], [.slot 3], [.slot 4], [.slot 2, .slot 5], [], [.slot 7], [.slot 6, .slot 8], [.slot 9]]
      [.slot 10] [48, 49, 50, 51, 52, 53, 54, 55, 56, 57, 5]
      rfl (by kernel_rfl) ⟨rfl, trivial⟩ ((Below.refl _ u4).drew) (Nat.le_refl _) trivial trivial (below_GcW (Nat.le_refl _))
      ⟨
      (fun QQ aa ww own hS hBg fr kn => .inl ⟨trivial, fun K hK => wp_value (exec_fpk 0 (by decide) rfl fr.1) (hK _ _ ⟨Touch.refl _ _, rfl⟩)⟩),
      (fun QQ aa ww own hS hBg fr kn => .inl ⟨trivial, fun K hK => wp_value (exec_ld rfl kn.1 (ld_src (SAt.kept q3 hS))) (hK _ _ ⟨Touch.refl _ _, rfl⟩)⟩),
      (fun QQ aa ww own hS hBg fr kn => .inl ⟨trivial, fun K hK => stepc en_Bytes rfl (args1 kn.1) (Bytes_run P.sv P.sb ww hO.sb) (fun w' hb => hK _ _ ⟨touch_below hb, rfl⟩)⟩),
      (fun QQ aa ww own hS hBg fr kn => .inl ⟨trivial, fun K hK => wp_value (exec_fpk 1 (by decide) rfl fr.1) (hK _ _ ⟨Touch.refl _ _, rfl⟩)⟩),
      (fun QQ aa ww own hS hBg fr kn => .inl ⟨trivial, fun K hK => wp_value (exec_ld rfl kn.1 (ld_dst (SAt.kept q3 hS))) (hK _ _ ⟨Touch.refl _ _, rfl⟩)⟩),
      (fun QQ aa ww own hS hBg fr kn => .inl ⟨trivial, fun K hK => stepc en_Bytes rfl (args1 kn.1) (Bytes_run P.dv P.db ww hO.db) (fun w' hb => hK _ _ ⟨touch_below hb, rfl⟩)⟩),
      (fun QQ aa ww own hS hBg fr kn => .inl ⟨trivial, fun K hK => wp_value (exec_catS (s := bytT P.sv P.sb) (t := bytT P.dv P.db) rfl kn.1 kn.2.1 (cat_ok hy1 hy2 (by decide : 16 + 16 ≤ 9223372036854775807))) (hK _ _ ⟨Touch.refl _ _, rfl⟩)⟩),
      (fun QQ aa ww own hS hBg fr kn => .inl ⟨trivial, fun K hK => wp_value (exec_fpk 9 (by decide) rfl fr.1) (hK _ _ ⟨Touch.refl _ _, rfl⟩)⟩),
      (fun QQ aa ww own hS hBg fr kn => .inl ⟨trivial, fun K hK => wp_value (exec_ld rfl kn.1 (ldPs (pk_opts (SAt.kept q3 hS)))) (hK _ _ ⟨Touch.refl _ _, rfl⟩)⟩),
      (fun QQ aa ww own hS hBg fr kn => .inl ⟨trivial, fun K hK => wp_value (exec_catS (s := bytT P.sv P.sb ++ (bytT P.dv P.db)) (t := P.opts) rfl kn.1 kn.2.1 (cat_ok (sz_app hy1 hy2 (by decide : 16 + 16 = 32)) hop (by decide : 32 + 40 ≤ 9223372036854775807))) (hK _ _ ⟨Touch.refl _ _, rfl⟩)⟩),
      (fun QQ aa ww own hS hBg fr kn => .inl ⟨trivial, fun K hK => wp_value (exec_assign rfl kn.1) (hK _ _ ⟨Touch.refl _ _, rfl⟩)⟩),
      trivial⟩ ?_
  intro vs own u5 hB5 hsz kn inj
  have e5 : vs 5 = .string (bytT P.sv P.sb ++ (bytT P.dv P.db) ++ P.opts) := kn.1
  clear kn inj hsz
  simp only [putAll, Act.put, List.setIfInBounds_toArray, List.set_cons_zero, List.set_cons_succ, e5]
  clear e5
  have hBc := hBb.trans (hB5.mono hBb.size)
  have q4 := SAt.kept q3 hB5
  rw [← HBB.out]
  go_upto_region 4 with fail
  refine wp_region3 (Below u5.heap.size u5) u5.heap.size
      ([] : List (Nat × Cont))
      [kv (.string A), kv (.string A), kv (.string B), kv (.string S), kv (.string (A ++ S)), kv (.string B), kv (.string (A ++ S ++ B)), kv (.pointer (some ⟨g1, 45, none⟩)), kv (.string P.pay), kv (.string (A ++ S ++ B ++ P.pay)), kv (.string (A ++ S ++ B ++ P.pay))]
      [.none, .none, .none, .none, .none, .none, .none, .none, .none, .none, .none]
      [some 58, some 59, some 60, some 61, some 62, some 63, some 64, some 65, some 66, some 67, some 2]
      [(4, .string A), (5, .string B), (1, .pointer (some ⟨g1, 0, none⟩))]
      [[], [], [], [.slot 1, .slot 2], [.slot 0, .slot 3], [], [.slot 4, .slot 5], [], [.slot 7], [.slot 6, .slot 8], [.slot 9]]
      [.slot 10] [58, 59, 60, 61, 62, 63, 64, 65, 66, 67, 2]
      rfl (by kernel_rfl) ⟨rfl, rfl, rfl, trivial⟩ ((Below.refl _ u5).drew) (Nat.le_refl _) trivial trivial (below_GcW (Nat.le_refl _))
      ⟨
      (fun QQ aa ww own hS hBg fr kn => .inl ⟨trivial, fun K hK => wp_value (exec_move rfl fr.1) (hK _ _ ⟨Touch.refl _ _, rfl⟩)⟩),
      (fun QQ aa ww own hS hBg fr kn => .inl ⟨trivial, fun K hK => wp_value (exec_move rfl fr.1) (hK _ _ ⟨Touch.refl _ _, rfl⟩)⟩),
      (fun QQ aa ww own hS hBg fr kn => .inl ⟨trivial, fun K hK => wp_value (exec_move rfl fr.2.1) (hK _ _ ⟨Touch.refl _ _, rfl⟩)⟩),
      (fun QQ aa ww own hS hBg fr kn => .inl ⟨trivial, fun K hK => stepc en_sumOf rfl (args2 kn.1 kn.2.1) (HSU.out ww) (fun w' hb => hK _ _ ⟨touch_below hb, rfl⟩)⟩),
      (fun QQ aa ww own hS hBg fr kn => .inl ⟨trivial, fun K hK => wp_value (exec_catS (s := A) (t := S) rfl kn.1 kn.2.1 (cat_ok (Nat.le_of_eq za) (Nat.le_of_eq hS0) (by decide : 10 + 2 ≤ 9223372036854775807))) (hK _ _ ⟨Touch.refl _ _, rfl⟩)⟩),
      (fun QQ aa ww own hS hBg fr kn => .inl ⟨trivial, fun K hK => wp_value (exec_move rfl fr.2.1) (hK _ _ ⟨Touch.refl _ _, rfl⟩)⟩),
      (fun QQ aa ww own hS hBg fr kn => .inl ⟨trivial, fun K hK => wp_value (exec_catS (s := A ++ S) (t := B) rfl kn.1 kn.2.1 (cat_ok (sz_app (Nat.le_of_eq za) (Nat.le_of_eq hS0) (by decide : 10 + 2 = 12)) hzB (by decide : 12 + 48 ≤ 9223372036854775807))) (hK _ _ ⟨Touch.refl _ _, rfl⟩)⟩),
      (fun QQ aa ww own hS hBg fr kn => .inl ⟨trivial, fun K hK => wp_value (exec_fpk 13 (by decide) rfl fr.2.2.1) (hK _ _ ⟨Touch.refl _ _, rfl⟩)⟩),
      (fun QQ aa ww own hS hBg fr kn => .inl ⟨trivial, fun K hK => wp_value (exec_ld rfl kn.1 (ldPs (pk_pay (SAt.kept q4 hS)))) (hK _ _ ⟨Touch.refl _ _, rfl⟩)⟩),
      (fun QQ aa ww own hS hBg fr kn => .inl ⟨trivial, fun K hK => wp_value (exec_catS (s := A ++ S ++ B) (t := P.pay) rfl kn.1 kn.2.1 (cat_ok (sz_app (sz_app (Nat.le_of_eq za) (Nat.le_of_eq hS0) (by decide : 10 + 2 = 12)) hzB (by decide : 12 + 48 = 60)) hpy (by decide : 60 + 65575 ≤ 9223372036854775807))) (hK _ _ ⟨Touch.refl _ _, rfl⟩)⟩),
      (fun QQ aa ww own hS hBg fr kn => .inl ⟨trivial, fun K hK => wp_value (exec_assign rfl kn.1) (hK _ _ ⟨Touch.refl _ _, rfl⟩)⟩),
      trivial⟩ ?_
  intro vs own u6 hB6 hsz kn inj
  have e2 : vs 2 = .string (A ++ S ++ B ++ P.pay) := kn.1
  clear kn inj hsz
  simp only [putAll, Act.put, List.setIfInBounds_toArray, List.set_cons_zero, List.set_cons_succ, e2]
  clear e2
  go_wp2_with fail
  go_ret
  exact ⟨by rw [HFB.out]; rfl, hBc.trans (hB6.mono hBc.size)⟩
end Go.Proofs.YtojekoakgpkkdabDoor

