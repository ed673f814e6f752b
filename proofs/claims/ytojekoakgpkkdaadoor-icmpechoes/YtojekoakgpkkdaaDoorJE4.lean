/-
  Own text. Which packets may be: Right of the program and of the document.
-/
import Derived.Test.YtojekoakgpkkdaaDoorJE3
namespace Go.Proofs.YtojekoakgpkkdaaDoor
open Go.RowKit Go.Proofs
set_option maxRecDepth 100000
theorem exsOk_step {l : List Ex} {x : Ex} {i j : Nat} (hx : l[i]? = some x) : exsOk (l.drop i) j = (exOk x j && exsOk (l.drop (i + 1)) (j + 1)) := by
  have h1 := (List.getElem?_eq_some_iff.1 hx)
  rw [List.drop_eq_getElem_cons h1.1, h1.2]
  rfl
theorem exOk_code (x : Ex) (i : Nat) : ((!isEx x.kind || !mayB x.kind i) || !decide ((((2 + x.body.size) % 8 : Nat) : Int) = 0) || decide ((2046 : Int) < (x.body.size : Int))) = !exOk x i := by
  unfold exOk
  have e1 : decide ((((2 + x.body.size) % 8 : Nat) : Int) = 0) = decide (x.body.size % 8 = 6) := by congr 1; exact propext ⟨fun h => by omega, fun h => by omega⟩
  have e2 : decide ((2046 : Int) < (x.body.size : Int)) = !decide (x.body.size ≤ 2046) := by
    by_cases h : x.body.size ≤ 2046
    · rw [decide_eq_true h, decide_eq_false (by omega)]; rfl
    · rw [decide_eq_false h, decide_eq_true (by omega)]; rfl
  rw [e1, e2]
  cases isEx x.kind <;> cases mayB x.kind i <;> cases decide (x.body.size % 8 = 6) <;> cases decide (x.body.size ≤ 2046) <;> rfl
theorem wl_allocEx {ops : Array Oper} {rest : List Oper} {o : Oper} {a : Act} {w : World} {Q : Exit → Act → World → Prop} (ho : o.op = .alloc 88) (hgd : Region.wanted o (yielded ops a.tmps) = true)
    (h : ∀ g w', w.heap.size ≤ g → SAt w' g 88 2 (exV ⟨0, ByteArray.empty⟩) → Below w.heap.size w w' → wpList Tryd.prog ops Q rest (a.put o.dst (.pointer (some ⟨g, 0, none⟩))) w') : wpList Tryd.prog ops Q (o :: rest) a w := wl_alO ho hgd zeroEx h
set_option maxHeartbeats 8000000 in
theorem rightExts_run (v : Value) (l : List Ex) (w : World) (h1 : ExAt w v l) (hn : l.length < 4611686018427387904) (hb : ∀ x ∈ l, x.body.size ≤ 140737488355328) : Calls Tryd.prog 75 #[v] w fun e w' => e = .returned (.bool (exsOk l 0)) ∧ Below w.heap.size w w' := by
  obtain ⟨a1, c1, rfl, _⟩ := id h1
  have HR : Hid (exsOk l 0 = exsOk (l.drop 0) 0) := Hid.mk (by rw [List.drop_zero])
  have HE : Hid (∀ j, exsOk (l.drop l.length) j = true) := Hid.mk (fun j => by rw [List.drop_length]; rfl)
  have HB := Hid.mk hb
  clear hb
  generalize exsOk l 0 = r at *
  obtain ⟨n, hnn⟩ : ∃ n, l.length = n := ⟨_, rfl⟩
  have HN := Hid.mk hnn
  rw [hnn] at h1 hn HE ⊢
  clear hnn
  go_enter Tryd.func75, Tryd.ntmps75
  go_wp2_with fail
  go_loopg [8] n (fun gm s8 z => ∃ i : Nat, Hid (gm + i = n) ∧ s8 = .int .i64 (i : Int) ∧ Hid (r = exsOk (l.drop i) i) ∧ Below w.heap.size w z)
  case atStart => exact ⟨0, Hid.mk rfl, rfl, HR, Below.refl _ _⟩
  case round =>
    obtain ⟨i, HI, rfl, HRi, hBz⟩ := hrel
    by_cases hil : i < n
    · have hili : (i : Int) < (n : Int) := by omega
      obtain ⟨x, hx⟩ := list_at (l := l) (i := i) (by rw [HN.out]; exact hil)
      have HS := Hid.mk (exsOk_step (j := i) hx)
      have HZ : Hid (2 + x.body.size < 9223372036854775808) := Hid.mk (by have := HB.out x (List.mem_of_getElem? hx); omega)
      obtain ⟨p1, rfl, k1, k1b⟩ := h1.sl hBz hx
      have H1 := Hid.mk hil
      have hld := ldEx (e := x) k1 k1b
      go_wp2_with (first | (refine wl_value rfl (exec_ixE (i := i) rfl (by rfl) (by rfl) H1.out) ?_) | (refine wl_value rfl (exec_ld rfl (by rfl) hld) ?_) | (refine wl_allocEx rfl rfl ?_; intro g4 y1 hg4 q4 hC1; refine Hid.out ?_))
      refine Hid.mk ?_
      have hg4w : w.heap.size ≤ g4 := by have := hBz.size; omega
      go_wp2_with (refine st_stO rfl rfl isEx2 (exV_one _) q4 (by rfl) (by rfl) ?_; intro y2 r4 o4; refine Hid.out ?_)
      refine Hid.mk ?_
      have hBy : Below w.heap.size w y2 := (hBz.trans (hC1.mono hBz.size)).trans (o4.below hg4w)
      go_upto_region 4 with fail
      refine wp_plain_steps (Below y2.heap.size y2) (fun v v' => Below v.heap.size v v') (fun j vv _ => vv = ([.pointer (some ⟨g4, 1, none⟩), .string x.body, .int .i64 (x.body.size : Int), .int .i64 ((2 + x.body.size : Nat) : Int), .int .i64 (((2 + x.body.size) % 8 : Nat) : Int), .bool (decide ((((2 + x.body.size) % 8 : Nat) : Int) = 0)), .bool (decide ((((2 + x.body.size) % 8 : Nat) : Int) = 0))] : List Value).getD j undef)
          [13, 14, 15, 16, 17, 18, 5]
          [(4, .pointer (some ⟨g4, 0, none⟩))] [] 0
          [[], [0], [1], [2], [3], [4], [5]]
          (by kernel_rfl) ⟨rfl, trivial⟩ trivial (Below.refl _ _) (fun v v' h hb => h.trans (hb.mono h.size)) (fun _ _ _ _ h _ => h)
          ⟨
          (fun QQ aa ww hS fr kn => sg0 rfl (fun K hK => wp_value (exec_fexG 1 (by decide) rfl fr.1) (hK _ _ rfl (Below.refl _ _)))),
          (fun QQ aa ww hS fr kn => sg0 rfl (fun K hK => wp_value (exec_ld rfl kn.1 (ldPs (ex_body (SAt.kept r4 hS)))) (hK _ _ rfl (Below.refl _ _)))),
          (fun QQ aa ww hS fr kn => sg0 rfl (fun K hK => wp_value (exec_lenS rfl kn.1) (hK _ _ rfl (Below.refl _ _)))),
          (fun QQ aa ww hS fr kn => sg0 rfl (fun K hK => wp_value (exec_addW (i := 2) (m := x.body.size) rfl rfl kn.1 rfl HZ.out) (hK _ _ rfl (Below.refl _ _)))),
          (fun QQ aa ww hS fr kn => sg0 rfl (fun K hK => wp_value (exec_remW (i := 2 + x.body.size) (m := 8) rfl kn.1 rfl rfl (by decide)) (hK _ _ rfl (Below.refl _ _)))),
          (fun QQ aa ww hS fr kn => sg0 rfl (fun K hK => wp_value (cmp_eq (m := (((2 + x.body.size) % 8 : Nat) : Int)) (n := 0) rfl kn.1 rfl) (hK _ _ rfl (Below.refl _ _)))),
          (fun QQ aa ww hS fr kn => sg0 rfl (fun K hK => wp_value (exec_assign rfl kn.1) (hK _ _ rfl (Below.refl _ _)))),
          trivial⟩ ?_
      intro vs y3 hB3 kn
      have e5 : vs 5 = .bool (decide ((((2 + x.body.size) % 8 : Nat) : Int) = 0)) := kn 6 (by decide)
      clear kn
      simp only [putAll, Act.put, List.setIfInBounds_toArray, List.set_cons_zero, List.set_cons_succ, e5]
      clear e5
      have r5 := SAt.kept r4 hB3
      have hBx := hBy.trans (hB3.mono hBy.size)
      go_upto_region 5 with fail
      refine wp_plain_steps (Below y3.heap.size y3) (fun v v' => Below v.heap.size v v') (fun j vv _ => vv = ([.pointer (some ⟨g4, 0, none⟩), .int .i64 x.kind, .bool (isEx x.kind), .bool (!(isEx x.kind)), .bool (!(isEx x.kind)), gv (!(!(isEx x.kind))) (.pointer (some ⟨g4, 0, none⟩)), gv (!(!(isEx x.kind))) (.int .i64 x.kind), gv (!(!(isEx x.kind))) (.int .i64 (i : Int)), gv (!(!(isEx x.kind))) (.bool (mayB x.kind i)), gv (!(!(isEx x.kind))) (.bool (!(mayB x.kind i))), .bool ((!(isEx x.kind)) || (!(mayB x.kind i))), .bool ((!(isEx x.kind)) || (!(mayB x.kind i))), gv (!((!(isEx x.kind)) || (!(mayB x.kind i)))) (.bool (decide ((((2 + x.body.size) % 8 : Nat) : Int) = 0))), gv (!((!(isEx x.kind)) || (!(mayB x.kind i)))) (.bool (!(decide ((((2 + x.body.size) % 8 : Nat) : Int) = 0)))), .bool (((!(isEx x.kind)) || (!(mayB x.kind i))) || (!(decide ((((2 + x.body.size) % 8 : Nat) : Int) = 0)))), .bool (((!(isEx x.kind)) || (!(mayB x.kind i))) || (!(decide ((((2 + x.body.size) % 8 : Nat) : Int) = 0)))), gv (!(((!(isEx x.kind)) || (!(mayB x.kind i))) || (!(decide ((((2 + x.body.size) % 8 : Nat) : Int) = 0))))) (.pointer (some ⟨g4, 1, none⟩)), gv (!(((!(isEx x.kind)) || (!(mayB x.kind i))) || (!(decide ((((2 + x.body.size) % 8 : Nat) : Int) = 0))))) (.string x.body), gv (!(((!(isEx x.kind)) || (!(mayB x.kind i))) || (!(decide ((((2 + x.body.size) % 8 : Nat) : Int) = 0))))) (.int .i64 (x.body.size : Int)), gv (!(((!(isEx x.kind)) || (!(mayB x.kind i))) || (!(decide ((((2 + x.body.size) % 8 : Nat) : Int) = 0))))) (.bool (decide (2046 < (x.body.size : Int)))), .bool ((((!(isEx x.kind)) || (!(mayB x.kind i))) || (!(decide ((((2 + x.body.size) % 8 : Nat) : Int) = 0)))) || (decide (2046 < (x.body.size : Int))))] : List Value).getD j undef)
          [19, 20, 21, 22, 23, 24, 25, 26, 27, 28, 29, 30, 31, 32, 33, 34, 35, 36, 37, 38, 39]
          [(4, .pointer (some ⟨g4, 0, none⟩)), (3, .int .i64 (i : Int)), (5, .bool (decide ((((2 + x.body.size) % 8 : Nat) : Int) = 0)))] [] 0
          [[], [0], [1], [2], [3], [4], [4, 5], [4], [4, 6, 7], [4, 8], [4, 9], [10], [11], [11, 12], [11, 13], [14], [15], [15, 16], [15, 17], [15, 18], [15, 19]]
          (by kernel_rfl) ⟨rfl, rfl, rfl, trivial⟩ trivial (Below.refl _ _) (fun v v' h hb => h.trans (hb.mono h.size)) (fun _ _ _ _ h _ => h)
          ⟨
          (fun QQ aa ww hS fr kn => sg0 rfl (fun K hK => wp_value (exec_fexG 0 (by decide) rfl fr.1) (hK _ _ rfl (Below.refl _ _)))),
          (fun QQ aa ww hS fr kn => sg0 rfl (fun K hK => wp_value (exec_ld rfl kn.1 (ldP (ex_kind (SAt.kept r5 hS)))) (hK _ _ rfl (Below.refl _ _)))),
          (fun QQ aa ww hS fr kn => sg0 rfl (fun K hK => stepc en_isExt rfl (args1 kn.1) (isExt_run x.kind ww) (fun w' hb => hK _ _ rfl hb))),
          (fun QQ aa ww hS fr kn => sg0 rfl (fun K hK => wp_value (exec_notB rfl kn.1) (hK _ _ rfl (Below.refl _ _)))),
          (fun QQ aa ww hS fr kn => sg0 rfl (fun K hK => wp_value (exec_move rfl kn.1) (hK _ _ rfl (Below.refl _ _)))),
          (fun QQ aa ww hS fr kn => sgF rfl kn.1 (fun hng K hK => have hc := nt_t hng; wp_value (exec_fexG 0 (by decide) rfl fr.1) (hK _ _ (gv_t hc).symm (Below.refl _ _))) (fun h0 => (gv_f (nt_f h0)).symm)),
          (fun QQ aa ww hS fr kn => sgF rfl kn.1 (fun hng K hK => have hc := nt_t hng; wp_value (exec_ld rfl (kn.2.1.trans (gv_t hc)) (ldP (ex_kind (SAt.kept r5 hS)))) (hK _ _ (gv_t hc).symm (Below.refl _ _))) (fun h0 => (gv_f (nt_f h0)).symm)),
          (fun QQ aa ww hS fr kn => sgF rfl kn.1 (fun hng K hK => have hc := nt_t hng; wp_value (exec_move rfl fr.2.1) (hK _ _ (gv_t hc).symm (Below.refl _ _))) (fun h0 => (gv_f (nt_f h0)).symm)),
          (fun QQ aa ww hS fr kn => sgF rfl kn.1 (fun hng K hK => have hc := nt_t hng; stepc en_mayStand rfl (args2 (kn.2.1.trans (gv_t hc)) (kn.2.2.1.trans (gv_t hc))) (mayStand_run x.kind i ww) (fun w' hb => hK _ _ (gv_t hc).symm hb)) (fun h0 => (gv_f (nt_f h0)).symm)),
          (fun QQ aa ww hS fr kn => sgF rfl kn.1 (fun hng K hK => have hc := nt_t hng; wp_value (exec_notB rfl (kn.2.1.trans (gv_t hc))) (hK _ _ (gv_t hc).symm (Below.refl _ _))) (fun h0 => (gv_f (nt_f h0)).symm)),
          (fun QQ aa ww hS fr kn => sg0 rfl (fun K hK => wp_value (exec_pickOr rfl kn.1 rfl (fun hx => kn.2.1.trans (gv_t (nt_t hx)))) (hK _ _ rfl (Below.refl _ _)))),
          (fun QQ aa ww hS fr kn => sg0 rfl (fun K hK => wp_value (exec_move rfl kn.1) (hK _ _ rfl (Below.refl _ _)))),
          (fun QQ aa ww hS fr kn => sgF rfl kn.1 (fun hng K hK => have hc := nt_t hng; wp_value (exec_move rfl fr.2.2.1) (hK _ _ (gv_t hc).symm (Below.refl _ _))) (fun h0 => (gv_f (nt_f h0)).symm)),
          (fun QQ aa ww hS fr kn => sgF rfl kn.1 (fun hng K hK => have hc := nt_t hng; wp_value (exec_notB rfl (kn.2.1.trans (gv_t hc))) (hK _ _ (gv_t hc).symm (Below.refl _ _))) (fun h0 => (gv_f (nt_f h0)).symm)),
          (fun QQ aa ww hS fr kn => sg0 rfl (fun K hK => wp_value (exec_pickOr rfl kn.1 rfl (fun hx => kn.2.1.trans (gv_t (nt_t hx)))) (hK _ _ rfl (Below.refl _ _)))),
          (fun QQ aa ww hS fr kn => sg0 rfl (fun K hK => wp_value (exec_move rfl kn.1) (hK _ _ rfl (Below.refl _ _)))),
          (fun QQ aa ww hS fr kn => sgF rfl kn.1 (fun hng K hK => have hc := nt_t hng; wp_value (exec_fexG 1 (by decide) rfl fr.1) (hK _ _ (gv_t hc).symm (Below.refl _ _))) (fun h0 => (gv_f (nt_f h0)).symm)),
          (fun QQ aa ww hS fr kn => sgF rfl kn.1 (fun hng K hK => have hc := nt_t hng; wp_value (exec_ld rfl (kn.2.1.trans (gv_t hc)) (ldPs (ex_body (SAt.kept r5 hS)))) (hK _ _ (gv_t hc).symm (Below.refl _ _))) (fun h0 => (gv_f (nt_f h0)).symm)),
          (fun QQ aa ww hS fr kn => sgF rfl kn.1 (fun hng K hK => have hc := nt_t hng; wp_value (exec_lenS rfl (kn.2.1.trans (gv_t hc))) (hK _ _ (gv_t hc).symm (Below.refl _ _))) (fun h0 => (gv_f (nt_f h0)).symm)),
          (fun QQ aa ww hS fr kn => sgF rfl kn.1 (fun hng K hK => have hc := nt_t hng; wp_value (cmp_gt (m := (x.body.size : Int)) (n := 2046) rfl (kn.2.1.trans (gv_t hc)) rfl) (hK _ _ (gv_t hc).symm (Below.refl _ _))) (fun h0 => (gv_f (nt_f h0)).symm)),
          (fun QQ aa ww hS fr kn => sg0 rfl (fun K hK => wp_value (exec_pickOr rfl kn.1 rfl (fun hx => kn.2.1.trans (gv_t (nt_t hx)))) (hK _ _ rfl (Below.refl _ _)))),
          trivial⟩ ?_
      intro vs y4 hB4 kn
      have e39 : vs 39 = .bool ((((!(isEx x.kind)) || (!(mayB x.kind i))) || (!(decide ((((2 + x.body.size) % 8 : Nat) : Int) = 0)))) || (decide (2046 < (x.body.size : Int)))) := kn 20 (by decide)
      clear kn
      simp only [putAll, Act.put, List.setIfInBounds_toArray, List.set_cons_zero, List.set_cons_succ, e39]
      clear e39
      have hBw := hBx.trans (hB4.mono hBx.size)
      have HX := exOk_code x i
      rw [HX]
      cases hq : exOk x i
      · have hr : r = false := by rw [HRi.out, HS.out, hq]; rfl
        clear HX
        go_wp2_with fail
        go_ret
        exact ⟨by rw [hr]; rfl, hBw⟩
      · have HR2 : Hid (r = exsOk (l.drop (i + 1)) (i + 1)) := Hid.mk (by rw [HRi.out, HS.out, hq]; rfl)
        clear HX
        go_wp2_with fail
        go_roundg (n - (i + 1))
        case rel => exact ⟨i + 1, Hid.mk (by omega), by go_num, HR2, hBw⟩
        case measure => have := HI.out; omega
    · have hi2 : i = n := by have := HI.out; omega
      subst hi2
      have hr : r = true := by rw [HRi.out]; exact HE.out _
      go_wp2_with fail
      go_ret
      exact ⟨by rw [hr]; rfl, hBz⟩
theorem en_rightExts (args : Array Value) (w : World) : (callFunc 75 args).run Tryd.prog w = .ok (.enter 75 args) w := by kernel_rfl
theorem en_Valid (args : Array Value) (w : World) : (callFunc 47 args).run Tryd.prog w = .ok (.enter 47 args) w := by kernel_rfl
theorem off_nn {n m : Int} (h : (!(!upB n m)) = true) : 0 ≤ n := by
  rw [Bool.not_not] at h
  exact (upB_iff.1 h).1
theorem off_np {n m : Int} (h : upB n m = true) : 0 ≤ n := (upB_iff.1 h).1
theorem dec_nat {a b : Nat} : decide ((a : Int) = (b : Int)) = decide (a = b) := by congr 1; exact propext ⟨fun h => by omega, fun h => by omega⟩
theorem dec_le {a b : Nat} : decide ((a : Int) ≤ (b : Int)) = decide (a ≤ b) := by congr 1; exact propext ⟨fun h => by omega, fun h => by omega⟩
theorem len_nil (l : List Ex) : decide ((l.length : Int) = 0) = l.isEmpty := by
  cases l with
  | nil => rfl
  | cons x l => rw [decide_eq_false (by simp; omega)]; rfl
theorem txt_nil (s : ByteArray) : decide (s = ByteArray.empty) = decide (s.size = 0) := by
  congr 1
  exact propext ⟨fun h => by rw [h]; rfl, fun h => txt_ext (by rw [h]; rfl) (fun j hj => by omega)⟩
theorem rgt4_code (P : Pk) : (upB P.id 65535 && decide (((P.opts.size % 4 : Nat) : Int) = 0) && decide ((P.opts.size : Int) ≤ 40) && decide (P.flow = 0) && decide ((P.exts.length : Int) = 0) && !P.cut) = rgt4 P := by
  unfold rgt4
  have e1 : decide (((P.opts.size % 4 : Nat) : Int) = 0) = decide (P.opts.size % 4 = 0) := dec_nat (b := 0)
  have e2 : decide ((P.opts.size : Int) ≤ 40) = decide (P.opts.size ≤ 40) := dec_le (b := 40)
  rw [e1, e2, len_nil]
  rfl
set_option maxHeartbeats 8000000 in
theorem right4_run (P : Pk) (v : Value) (w : World) (h1 : ExAt w v P.exts) (_hn : P.exts.length < 4611686018427387904) (_hb : ∀ x ∈ P.exts, x.body.size ≤ 140737488355328) : Calls Tryd.prog 50 #[.agg (SC 46 (pkV P v))] w fun e w' => e = .returned (.bool (rgt4 P)) ∧ Below w.heap.size w w' := by
  obtain ⟨a1, c1, rfl, _⟩ := id h1
  go_enter Tryd.func50, Tryd.ntmps50
  go_wp2_with (refine wl_boxO rfl rfl isPk (by rfl) ?_; intro g1 u2 hg1 q1 hB2; refine Hid.out ?_)
  refine Hid.mk ?_
  go_upto_region 1 with fail
  refine wp_plain_steps (Below u2.heap.size u2) (fun v v' => Below v.heap.size v v') (fun j vv _ => vv = ((.pointer (some ⟨g1, 37, none⟩) :: .int .i64 P.id :: .bool (upB P.id 65535) :: .bool (upB P.id 65535) :: gv (upB P.id 65535) (.pointer (some ⟨g1, 41, none⟩)) :: gv (upB P.id 65535) (.string P.opts) :: gv (upB P.id 65535) (.int .i64 (P.opts.size : Int)) :: gv (upB P.id 65535) (.int .i64 ((P.opts.size % 4 : Nat) : Int)) :: gv (upB P.id 65535) (.bool (decide (((P.opts.size % 4 : Nat) : Int) = 0))) :: .bool ((upB P.id 65535) && (decide (((P.opts.size % 4 : Nat) : Int) = 0))) :: .bool ((upB P.id 65535) && (decide (((P.opts.size % 4 : Nat) : Int) = 0))) :: gv ((upB P.id 65535) && (decide (((P.opts.size % 4 : Nat) : Int) = 0))) (.pointer (some ⟨g1, 41, none⟩)) :: gv ((upB P.id 65535) && (decide (((P.opts.size % 4 : Nat) : Int) = 0))) (.string P.opts) :: gv ((upB P.id 65535) && (decide (((P.opts.size % 4 : Nat) : Int) = 0))) (.int .i64 (P.opts.size : Int)) :: gv ((upB P.id 65535) && (decide (((P.opts.size % 4 : Nat) : Int) = 0))) (.bool (decide ((P.opts.size : Int) ≤ 40))) :: .bool (((upB P.id 65535) && (decide (((P.opts.size % 4 : Nat) : Int) = 0))) && (decide ((P.opts.size : Int) ≤ 40))) :: .bool (((upB P.id 65535) && (decide (((P.opts.size % 4 : Nat) : Int) = 0))) && (decide ((P.opts.size : Int) ≤ 40))) :: gv (((upB P.id 65535) && (decide (((P.opts.size % 4 : Nat) : Int) = 0))) && (decide ((P.opts.size : Int) ≤ 40))) (.pointer (some ⟨g1, 42, none⟩)) :: gv (((upB P.id 65535) && (decide (((P.opts.size % 4 : Nat) : Int) = 0))) && (decide ((P.opts.size : Int) ≤ 40))) (.int .i64 P.flow) :: gv (((upB P.id 65535) && (decide (((P.opts.size % 4 : Nat) : Int) = 0))) && (decide ((P.opts.size : Int) ≤ 40))) (.bool (decide (P.flow = 0))) :: .bool ((((upB P.id 65535) && (decide (((P.opts.size % 4 : Nat) : Int) = 0))) && (decide ((P.opts.size : Int) ≤ 40))) && (decide (P.flow = 0))) :: .bool ((((upB P.id 65535) && (decide (((P.opts.size % 4 : Nat) : Int) = 0))) && (decide ((P.opts.size : Int) ≤ 40))) && (decide (P.flow = 0))) :: gv ((((upB P.id 65535) && (decide (((P.opts.size % 4 : Nat) : Int) = 0))) && (decide ((P.opts.size : Int) ≤ 40))) && (decide (P.flow = 0))) (.pointer (some ⟨g1, 43, none⟩)) :: gv ((((upB P.id 65535) && (decide (((P.opts.size % 4 : Nat) : Int) = 0))) && (decide ((P.opts.size : Int) ≤ 40))) && (decide (P.flow = 0))) (.slice a1 P.exts.length c1) :: gv ((((upB P.id 65535) && (decide (((P.opts.size % 4 : Nat) : Int) = 0))) && (decide ((P.opts.size : Int) ≤ 40))) && (decide (P.flow = 0))) (.int .i64 (P.exts.length : Int)) :: gv ((((upB P.id 65535) && (decide (((P.opts.size % 4 : Nat) : Int) = 0))) && (decide ((P.opts.size : Int) ≤ 40))) && (decide (P.flow = 0))) (.bool (decide ((P.exts.length : Int) = 0))) :: .bool (((((upB P.id 65535) && (decide (((P.opts.size % 4 : Nat) : Int) = 0))) && (decide ((P.opts.size : Int) ≤ 40))) && (decide (P.flow = 0))) && (decide ((P.exts.length : Int) = 0))) :: .bool (((((upB P.id 65535) && (decide (((P.opts.size % 4 : Nat) : Int) = 0))) && (decide ((P.opts.size : Int) ≤ 40))) && (decide (P.flow = 0))) && (decide ((P.exts.length : Int) = 0))) :: gv (((((upB P.id 65535) && (decide (((P.opts.size % 4 : Nat) : Int) = 0))) && (decide ((P.opts.size : Int) ≤ 40))) && (decide (P.flow = 0))) && (decide ((P.exts.length : Int) = 0))) (.pointer (some ⟨g1, 44, none⟩)) :: gv (((((upB P.id 65535) && (decide (((P.opts.size % 4 : Nat) : Int) = 0))) && (decide ((P.opts.size : Int) ≤ 40))) && (decide (P.flow = 0))) && (decide ((P.exts.length : Int) = 0))) (.bool P.cut) :: gv (((((upB P.id 65535) && (decide (((P.opts.size % 4 : Nat) : Int) = 0))) && (decide ((P.opts.size : Int) ≤ 40))) && (decide (P.flow = 0))) && (decide ((P.exts.length : Int) = 0))) (.bool (!P.cut)) :: .bool ((((((upB P.id 65535) && (decide (((P.opts.size % 4 : Nat) : Int) = 0))) && (decide ((P.opts.size : Int) ≤ 40))) && (decide (P.flow = 0))) && (decide ((P.exts.length : Int) = 0))) && (!P.cut)) :: .bool ((((((upB P.id 65535) && (decide (((P.opts.size % 4 : Nat) : Int) = 0))) && (decide ((P.opts.size : Int) ≤ 40))) && (decide (P.flow = 0))) && (decide ((P.exts.length : Int) = 0))) && (!P.cut)) :: []) : List Value).getD j undef)
      (3 :: 4 :: 5 :: 6 :: 7 :: 8 :: 9 :: 10 :: 11 :: 12 :: 13 :: 14 :: 15 :: 16 :: 17 :: 18 :: 19 :: 20 :: 21 :: 22 :: 23 :: 24 :: 25 :: 26 :: 27 :: 28 :: 29 :: 30 :: 31 :: 32 :: 33 :: 34 :: 2 :: [])
      [(1, .pointer (some ⟨g1, 0, none⟩))] [] 0
      ([] :: [0] :: [1] :: [2] :: [3] :: [3, 4] :: [3, 5] :: [3, 6] :: [3, 7] :: [3, 8] :: [9] :: [10] :: [10, 11] :: [10, 12] :: [10, 13] :: [10, 14] :: [15] :: [16] :: [16, 17] :: [16, 18] :: [16, 19] :: [20] :: [21] :: [21, 22] :: [21, 23] :: [21, 24] :: [21, 25] :: [26] :: [27] :: [27, 28] :: [27, 29] :: [27, 30] :: [31] :: [])
      (by kernel_rfl) ⟨rfl, trivial⟩ trivial (Below.refl _ _) (fun v v' h hb => h.trans (hb.mono h.size)) (fun _ _ _ _ h _ => h)
      ⟨
      (fun QQ aa ww hS fr kn => sg0 rfl (fun K hK => wp_value (exec_fpk 5 (by decide) rfl fr.1) (hK _ _ rfl (Below.refl _ _)))),
      (fun QQ aa ww hS fr kn => sg0 rfl (fun K hK => wp_value (exec_ld rfl kn.1 (ldP (pk_id (SAt.kept q1 hS)))) (hK _ _ rfl (Below.refl _ _)))),
      (fun QQ aa ww hS fr kn => sg0 rfl (fun K hK => stepc en_upTo rfl (args2 kn.1 rfl) (upTo_run P.id 65535 ww) (fun w' hb => hK _ _ rfl hb))),
      (fun QQ aa ww hS fr kn => sg0 rfl (fun K hK => wp_value (exec_move rfl kn.1) (hK _ _ rfl (Below.refl _ _)))),
      (fun QQ aa ww hS fr kn => sgT rfl kn.1 (fun hc K hK => wp_value (exec_fpk 9 (by decide) rfl fr.1) (hK _ _ (gv_t hc).symm (Below.refl _ _))) (fun h0 => (gv_f h0).symm)),
      (fun QQ aa ww hS fr kn => sgT rfl kn.1 (fun hc K hK => wp_value (exec_ld rfl (kn.2.1.trans (gv_t hc)) (ldPs (pk_opts (SAt.kept q1 hS)))) (hK _ _ (gv_t hc).symm (Below.refl _ _))) (fun h0 => (gv_f h0).symm)),
      (fun QQ aa ww hS fr kn => sgT rfl kn.1 (fun hc K hK => wp_value (exec_lenS rfl (kn.2.1.trans (gv_t hc))) (hK _ _ (gv_t hc).symm (Below.refl _ _))) (fun h0 => (gv_f h0).symm)),
      (fun QQ aa ww hS fr kn => sgT rfl kn.1 (fun hc K hK => wp_value (exec_remW (i := P.opts.size) (m := 4) rfl (kn.2.1.trans (gv_t hc)) rfl rfl (by decide)) (hK _ _ (gv_t hc).symm (Below.refl _ _))) (fun h0 => (gv_f h0).symm)),
      (fun QQ aa ww hS fr kn => sgT rfl kn.1 (fun hc K hK => wp_value (cmp_eq (m := ((P.opts.size % 4 : Nat) : Int)) (n := 0) rfl (kn.2.1.trans (gv_t hc)) rfl) (hK _ _ (gv_t hc).symm (Below.refl _ _))) (fun h0 => (gv_f h0).symm)),
      (fun QQ aa ww hS fr kn => sg0 rfl (fun K hK => wp_value (exec_pickAnd rfl kn.1 (fun hx => kn.2.1.trans (gv_t hx)) rfl) (hK _ _ rfl (Below.refl _ _)))),
      (fun QQ aa ww hS fr kn => sg0 rfl (fun K hK => wp_value (exec_move rfl kn.1) (hK _ _ rfl (Below.refl _ _)))),
      (fun QQ aa ww hS fr kn => sgT rfl kn.1 (fun hc K hK => wp_value (exec_fpk 9 (by decide) rfl fr.1) (hK _ _ (gv_t hc).symm (Below.refl _ _))) (fun h0 => (gv_f h0).symm)),
      (fun QQ aa ww hS fr kn => sgT rfl kn.1 (fun hc K hK => wp_value (exec_ld rfl (kn.2.1.trans (gv_t hc)) (ldPs (pk_opts (SAt.kept q1 hS)))) (hK _ _ (gv_t hc).symm (Below.refl _ _))) (fun h0 => (gv_f h0).symm)),
      (fun QQ aa ww hS fr kn => sgT rfl kn.1 (fun hc K hK => wp_value (exec_lenS rfl (kn.2.1.trans (gv_t hc))) (hK _ _ (gv_t hc).symm (Below.refl _ _))) (fun h0 => (gv_f h0).symm)),
      (fun QQ aa ww hS fr kn => sgT rfl kn.1 (fun hc K hK => wp_value (cmp_le (m := (P.opts.size : Int)) (n := 40) rfl (kn.2.1.trans (gv_t hc)) rfl) (hK _ _ (gv_t hc).symm (Below.refl _ _))) (fun h0 => (gv_f h0).symm)),
      (fun QQ aa ww hS fr kn => sg0 rfl (fun K hK => wp_value (exec_pickAnd rfl kn.1 (fun hx => kn.2.1.trans (gv_t hx)) rfl) (hK _ _ rfl (Below.refl _ _)))),
      (fun QQ aa ww hS fr kn => sg0 rfl (fun K hK => wp_value (exec_move rfl kn.1) (hK _ _ rfl (Below.refl _ _)))),
      (fun QQ aa ww hS fr kn => sgT rfl kn.1 (fun hc K hK => wp_value (exec_fpk 10 (by decide) rfl fr.1) (hK _ _ (gv_t hc).symm (Below.refl _ _))) (fun h0 => (gv_f h0).symm)),
      (fun QQ aa ww hS fr kn => sgT rfl kn.1 (fun hc K hK => wp_value (exec_ld rfl (kn.2.1.trans (gv_t hc)) (ldP (pk_flow (SAt.kept q1 hS)))) (hK _ _ (gv_t hc).symm (Below.refl _ _))) (fun h0 => (gv_f h0).symm)),
      (fun QQ aa ww hS fr kn => sgT rfl kn.1 (fun hc K hK => wp_value (cmp_eq (m := P.flow) (n := 0) rfl (kn.2.1.trans (gv_t hc)) rfl) (hK _ _ (gv_t hc).symm (Below.refl _ _))) (fun h0 => (gv_f h0).symm)),
      (fun QQ aa ww hS fr kn => sg0 rfl (fun K hK => wp_value (exec_pickAnd rfl kn.1 (fun hx => kn.2.1.trans (gv_t hx)) rfl) (hK _ _ rfl (Below.refl _ _)))),
      (fun QQ aa ww hS fr kn => sg0 rfl (fun K hK => wp_value (exec_move rfl kn.1) (hK _ _ rfl (Below.refl _ _)))),
      (fun QQ aa ww hS fr kn => sgT rfl kn.1 (fun hc K hK => wp_value (exec_fpk 11 (by decide) rfl fr.1) (hK _ _ (gv_t hc).symm (Below.refl _ _))) (fun h0 => (gv_f h0).symm)),
      (fun QQ aa ww hS fr kn => sgT rfl kn.1 (fun hc K hK => wp_value (exec_ld rfl (kn.2.1.trans (gv_t hc)) (ldPx (pk_exts (SAt.kept q1 hS)))) (hK _ _ (gv_t hc).symm (Below.refl _ _))) (fun h0 => (gv_f h0).symm)),
      (fun QQ aa ww hS fr kn => sgT rfl kn.1 (fun hc K hK => wp_value (exec_lenX rfl (kn.2.1.trans (gv_t hc))) (hK _ _ (gv_t hc).symm (Below.refl _ _))) (fun h0 => (gv_f h0).symm)),
      (fun QQ aa ww hS fr kn => sgT rfl kn.1 (fun hc K hK => wp_value (cmp_eq (m := (P.exts.length : Int)) (n := 0) rfl (kn.2.1.trans (gv_t hc)) rfl) (hK _ _ (gv_t hc).symm (Below.refl _ _))) (fun h0 => (gv_f h0).symm)),
      (fun QQ aa ww hS fr kn => sg0 rfl (fun K hK => wp_value (exec_pickAnd rfl kn.1 (fun hx => kn.2.1.trans (gv_t hx)) rfl) (hK _ _ rfl (Below.refl _ _)))),
      (fun QQ aa ww hS fr kn => sg0 rfl (fun K hK => wp_value (exec_move rfl kn.1) (hK _ _ rfl (Below.refl _ _)))),
      (fun QQ aa ww hS fr kn => sgT rfl kn.1 (fun hc K hK => wp_value (exec_fpk 12 (by decide) rfl fr.1) (hK _ _ (gv_t hc).symm (Below.refl _ _))) (fun h0 => (gv_f h0).symm)),
      (fun QQ aa ww hS fr kn => sgT rfl kn.1 (fun hc K hK => wp_value (exec_ld rfl (kn.2.1.trans (gv_t hc)) (ldPb (pk_cut (SAt.kept q1 hS)))) (hK _ _ (gv_t hc).symm (Below.refl _ _))) (fun h0 => (gv_f h0).symm)),
      (fun QQ aa ww hS fr kn => sgT rfl kn.1 (fun hc K hK => wp_value (exec_notB rfl (kn.2.1.trans (gv_t hc))) (hK _ _ (gv_t hc).symm (Below.refl _ _))) (fun h0 => (gv_f h0).symm)),
      (fun QQ aa ww hS fr kn => sg0 rfl (fun K hK => wp_value (exec_pickAnd rfl kn.1 (fun hx => kn.2.1.trans (gv_t hx)) rfl) (hK _ _ rfl (Below.refl _ _)))),
      (fun QQ aa ww hS fr kn => sg0 rfl (fun K hK => wp_value (exec_assign rfl kn.1) (hK _ _ rfl (Below.refl _ _)))),
      trivial⟩ ?_
  intro vs u3 hB3 kn
  have e2 : vs 2 = .bool ((((((upB P.id 65535) && (decide (((P.opts.size % 4 : Nat) : Int) = 0))) && (decide ((P.opts.size : Int) ≤ 40))) && (decide (P.flow = 0))) && (decide ((P.exts.length : Int) = 0))) && (!P.cut)) := kn 32 (by decide)
  clear kn
  simp only [putAll, Act.put, List.setIfInBounds_toArray, List.set_cons_zero, List.set_cons_succ, e2]
  clear e2
  go_wp2_with fail
  go_ret
  exact ⟨by rw [← rgt4_code]; rfl, hB2.trans (hB3.mono hB2.size)⟩
theorem rgt6_code (P : Pk) : rgt6 P = (!(((((!(upB P.flow 1048575)) || (!decide (P.opts = ByteArray.empty))) || P.still) || (!(exsOk P.exts 0))) || (isHd P.proto)) && (if P.cut = true then upB P.id 4294967295 else (((decide (P.id = 0)) && (decide (P.off = 0))) && (!P.more)))) := by
  unfold rgt6
  rw [txt_nil]
  have e0 : upB 0 4294967295 = true := by decide
  cases P.cut
  · by_cases hi : P.id = 0
    · rw [hi, e0]
      cases upB P.flow 1048575 <;> cases decide (P.opts.size = 0) <;> cases P.still <;> cases exsOk P.exts 0 <;> cases isHd P.proto <;> rfl
    · have e1 : (P.id == 0) = false := by simpa using hi
      rw [e1, decide_eq_false hi]
      cases upB P.flow 1048575 <;> cases decide (P.opts.size = 0) <;> cases P.still <;> cases exsOk P.exts 0 <;> cases isHd P.proto <;> cases upB P.id 4294967295 <;> rfl
  · cases upB P.flow 1048575 <;> cases decide (P.opts.size = 0) <;> cases P.still <;> cases exsOk P.exts 0 <;> cases isHd P.proto <;> cases upB P.id 4294967295 <;> rfl
set_option maxHeartbeats 8000000 in
theorem right6_run (P : Pk) (v : Value) (w : World) (h1 : ExAt w v P.exts) (hn : P.exts.length < 4611686018427387904) (hb : ∀ x ∈ P.exts, x.body.size ≤ 140737488355328) : Calls Tryd.prog 49 #[.agg (SC 46 (pkV P v))] w fun e w' => e = .returned (.bool (rgt6 P)) ∧ Below w.heap.size w w' := by
  have HC := Hid.mk (rgt6_code P)
  generalize rgt6 P = r at *
  go_enter Tryd.func49, Tryd.ntmps49
  go_wp2_with (refine wl_boxO rfl rfl isPk (by rfl) ?_; intro g1 u2 hg1 q1 hB2; refine Hid.out ?_)
  refine Hid.mk ?_
  have hx1 := h1.kept hB2
  go_upto_region 1 with fail
  refine wp_plain_steps (Below u2.heap.size u2) (fun v v' => Below v.heap.size v v') (fun j vv _ => vv = ([.pointer (some ⟨g1, 42, none⟩), .int .i64 P.flow, .bool (upB P.flow 1048575), .bool (!(upB P.flow 1048575)), .bool (!(upB P.flow 1048575)), gv (!(!(upB P.flow 1048575))) (.pointer (some ⟨g1, 41, none⟩)), gv (!(!(upB P.flow 1048575))) (.string P.opts), gv (!(!(upB P.flow 1048575))) (.bool (!decide (P.opts = ByteArray.empty))), .bool ((!(upB P.flow 1048575)) || (!decide (P.opts = ByteArray.empty))), .bool ((!(upB P.flow 1048575)) || (!decide (P.opts = ByteArray.empty))), gv (!((!(upB P.flow 1048575)) || (!decide (P.opts = ByteArray.empty)))) (.pointer (some ⟨g1, 40, none⟩)), gv (!((!(upB P.flow 1048575)) || (!decide (P.opts = ByteArray.empty)))) (.bool P.still), .bool (((!(upB P.flow 1048575)) || (!decide (P.opts = ByteArray.empty))) || P.still), .bool (((!(upB P.flow 1048575)) || (!decide (P.opts = ByteArray.empty))) || P.still), gv (!(((!(upB P.flow 1048575)) || (!decide (P.opts = ByteArray.empty))) || P.still)) (.pointer (some ⟨g1, 43, none⟩)), gv (!(((!(upB P.flow 1048575)) || (!decide (P.opts = ByteArray.empty))) || P.still)) (v), gv (!(((!(upB P.flow 1048575)) || (!decide (P.opts = ByteArray.empty))) || P.still)) (.bool (exsOk P.exts 0)), gv (!(((!(upB P.flow 1048575)) || (!decide (P.opts = ByteArray.empty))) || P.still)) (.bool (!(exsOk P.exts 0))), .bool ((((!(upB P.flow 1048575)) || (!decide (P.opts = ByteArray.empty))) || P.still) || (!(exsOk P.exts 0))), .bool ((((!(upB P.flow 1048575)) || (!decide (P.opts = ByteArray.empty))) || P.still) || (!(exsOk P.exts 0))), gv (!((((!(upB P.flow 1048575)) || (!decide (P.opts = ByteArray.empty))) || P.still) || (!(exsOk P.exts 0)))) (.pointer (some ⟨g1, 34, none⟩)), gv (!((((!(upB P.flow 1048575)) || (!decide (P.opts = ByteArray.empty))) || P.still) || (!(exsOk P.exts 0)))) (.int .i64 P.proto), gv (!((((!(upB P.flow 1048575)) || (!decide (P.opts = ByteArray.empty))) || P.still) || (!(exsOk P.exts 0)))) (.bool (isHd P.proto)), .bool (((((!(upB P.flow 1048575)) || (!decide (P.opts = ByteArray.empty))) || P.still) || (!(exsOk P.exts 0))) || (isHd P.proto))] : List Value).getD j undef)
      [3, 4, 5, 6, 7, 8, 9, 10, 11, 12, 13, 14, 15, 16, 17, 18, 19, 20, 21, 22, 23, 24, 25, 26]
      [(1, .pointer (some ⟨g1, 0, none⟩))] [] 0
      [[], [0], [1], [2], [3], [4], [4, 5], [4, 6], [4, 7], [8], [9], [9, 10], [9, 11], [12], [13], [13, 14], [13, 15], [13, 16], [13, 17], [18], [19], [19, 20], [19, 21], [19, 22]]
      (by kernel_rfl) ⟨rfl, trivial⟩ trivial (Below.refl _ _) (fun v v' h hb => h.trans (hb.mono h.size)) (fun _ _ _ _ h _ => h)
      ⟨
      (fun QQ aa ww hS fr kn => sg0 rfl (fun K hK => wp_value (exec_fpk 10 (by decide) rfl fr.1) (hK _ _ rfl (Below.refl _ _)))),
      (fun QQ aa ww hS fr kn => sg0 rfl (fun K hK => wp_value (exec_ld rfl kn.1 (ldP (pk_flow (SAt.kept q1 hS)))) (hK _ _ rfl (Below.refl _ _)))),
      (fun QQ aa ww hS fr kn => sg0 rfl (fun K hK => stepc en_upTo rfl (args2 kn.1 rfl) (upTo_run P.flow 1048575 ww) (fun w' hb => hK _ _ rfl hb))),
      (fun QQ aa ww hS fr kn => sg0 rfl (fun K hK => wp_value (exec_notB rfl kn.1) (hK _ _ rfl (Below.refl _ _)))),
      (fun QQ aa ww hS fr kn => sg0 rfl (fun K hK => wp_value (exec_move rfl kn.1) (hK _ _ rfl (Below.refl _ _)))),
      (fun QQ aa ww hS fr kn => sgF rfl kn.1 (fun hng K hK => have hc := nt_t hng; wp_value (exec_fpk 9 (by decide) rfl fr.1) (hK _ _ (gv_t hc).symm (Below.refl _ _))) (fun h0 => (gv_f (nt_f h0)).symm)),
      (fun QQ aa ww hS fr kn => sgF rfl kn.1 (fun hng K hK => have hc := nt_t hng; wp_value (exec_ld rfl (kn.2.1.trans (gv_t hc)) (ldPs (pk_opts (SAt.kept q1 hS)))) (hK _ _ (gv_t hc).symm (Below.refl _ _))) (fun h0 => (gv_f (nt_f h0)).symm)),
      (fun QQ aa ww hS fr kn => sgF rfl kn.1 (fun hng K hK => have hc := nt_t hng; wp_value (cmp_neS (s := P.opts) (t := ByteArray.empty) rfl (kn.2.1.trans (gv_t hc)) rfl) (hK _ _ (gv_t hc).symm (Below.refl _ _))) (fun h0 => (gv_f (nt_f h0)).symm)),
      (fun QQ aa ww hS fr kn => sg0 rfl (fun K hK => wp_value (exec_pickOr rfl kn.1 rfl (fun hx => kn.2.1.trans (gv_t (nt_t hx)))) (hK _ _ rfl (Below.refl _ _)))),
      (fun QQ aa ww hS fr kn => sg0 rfl (fun K hK => wp_value (exec_move rfl kn.1) (hK _ _ rfl (Below.refl _ _)))),
      (fun QQ aa ww hS fr kn => sgF rfl kn.1 (fun hng K hK => have hc := nt_t hng; wp_value (exec_fpk 8 (by decide) rfl fr.1) (hK _ _ (gv_t hc).symm (Below.refl _ _))) (fun h0 => (gv_f (nt_f h0)).symm)),
      (fun QQ aa ww hS fr kn => sgF rfl kn.1 (fun hng K hK => have hc := nt_t hng; wp_value (exec_ld rfl (kn.2.1.trans (gv_t hc)) (ldPb (pk_still (SAt.kept q1 hS)))) (hK _ _ (gv_t hc).symm (Below.refl _ _))) (fun h0 => (gv_f (nt_f h0)).symm)),
      (fun QQ aa ww hS fr kn => sg0 rfl (fun K hK => wp_value (exec_pickOr rfl kn.1 rfl (fun hx => kn.2.1.trans (gv_t (nt_t hx)))) (hK _ _ rfl (Below.refl _ _)))),
      (fun QQ aa ww hS fr kn => sg0 rfl (fun K hK => wp_value (exec_move rfl kn.1) (hK _ _ rfl (Below.refl _ _)))),
      (fun QQ aa ww hS fr kn => sgF rfl kn.1 (fun hng K hK => have hc := nt_t hng; wp_value (exec_fpk 11 (by decide) rfl fr.1) (hK _ _ (gv_t hc).symm (Below.refl _ _))) (fun h0 => (gv_f (nt_f h0)).symm)),
      (fun QQ aa ww hS fr kn => sgF rfl kn.1 (fun hng K hK => have hc := nt_t hng; wp_value (exec_ld rfl (kn.2.1.trans (gv_t hc)) (ldPx (pk_exts (SAt.kept q1 hS)))) (hK _ _ (gv_t hc).symm (Below.refl _ _))) (fun h0 => (gv_f (nt_f h0)).symm)),
      (fun QQ aa ww hS fr kn => sgF rfl kn.1 (fun hng K hK => have hc := nt_t hng; stepc en_rightExts rfl (args1 (kn.2.1.trans (gv_t hc))) (rightExts_run _ P.exts ww (hx1.kept hS) hn hb) (fun w' hb => hK _ _ (gv_t hc).symm hb)) (fun h0 => (gv_f (nt_f h0)).symm)),
      (fun QQ aa ww hS fr kn => sgF rfl kn.1 (fun hng K hK => have hc := nt_t hng; wp_value (exec_notB rfl (kn.2.1.trans (gv_t hc))) (hK _ _ (gv_t hc).symm (Below.refl _ _))) (fun h0 => (gv_f (nt_f h0)).symm)),
      (fun QQ aa ww hS fr kn => sg0 rfl (fun K hK => wp_value (exec_pickOr rfl kn.1 rfl (fun hx => kn.2.1.trans (gv_t (nt_t hx)))) (hK _ _ rfl (Below.refl _ _)))),
      (fun QQ aa ww hS fr kn => sg0 rfl (fun K hK => wp_value (exec_move rfl kn.1) (hK _ _ rfl (Below.refl _ _)))),
      (fun QQ aa ww hS fr kn => sgF rfl kn.1 (fun hng K hK => have hc := nt_t hng; wp_value (exec_fpk 2 (by decide) rfl fr.1) (hK _ _ (gv_t hc).symm (Below.refl _ _))) (fun h0 => (gv_f (nt_f h0)).symm)),
      (fun QQ aa ww hS fr kn => sgF rfl kn.1 (fun hng K hK => have hc := nt_t hng; wp_value (exec_ld rfl (kn.2.1.trans (gv_t hc)) (ldP (pk_proto (SAt.kept q1 hS)))) (hK _ _ (gv_t hc).symm (Below.refl _ _))) (fun h0 => (gv_f (nt_f h0)).symm)),
      (fun QQ aa ww hS fr kn => sgF rfl kn.1 (fun hng K hK => have hc := nt_t hng; stepc en_isHeader rfl (args1 (kn.2.1.trans (gv_t hc))) (isHeader_run P.proto ww) (fun w' hb => hK _ _ (gv_t hc).symm hb)) (fun h0 => (gv_f (nt_f h0)).symm)),
      (fun QQ aa ww hS fr kn => sg0 rfl (fun K hK => wp_value (exec_pickOr rfl kn.1 rfl (fun hx => kn.2.1.trans (gv_t (nt_t hx)))) (hK _ _ rfl (Below.refl _ _)))),
      trivial⟩ ?_
  intro vs u3 hB3 kn
  have e26 : vs 26 = .bool (((((!(upB P.flow 1048575)) || (!decide (P.opts = ByteArray.empty))) || P.still) || (!(exsOk P.exts 0))) || (isHd P.proto)) := kn 23 (by decide)
  clear kn
  simp only [putAll, Act.put, List.setIfInBounds_toArray, List.set_cons_zero, List.set_cons_succ, e26]
  clear e26
  have hBy := hB2.trans (hB3.mono hB2.size)
  have r1 := SAt.kept q1 hB3
  have HC := Hid.mk HC.out
  obtain ⟨c, hc⟩ : ∃ c, (((((!(upB P.flow 1048575)) || (!decide (P.opts = ByteArray.empty))) || P.still) || (!(exsOk P.exts 0))) || (isHd P.proto)) = c := ⟨_, rfl⟩
  rw [hc] at HC ⊢
  clear hc
  cases c
  · have s1 := pk_cut r1
    have s2 := pk_id r1
    cases hcut : P.cut
    · have hr : r = (((decide (P.id = 0)) && (decide (P.off = 0))) && (!P.more)) := by rw [HC.out, hcut]; rfl
      rw [hcut] at s1
      go_upto_region 4 with (first | (refine wl_value rfl (exec_fpk 12 (by decide) rfl (by rfl)) ?_) | (refine wl_value rfl (exec_ld rfl (by rfl) (ldPb s1)) ?_))
      refine wp_plain_steps (Below u3.heap.size u3) (fun v v' => Below v.heap.size v v') (fun j vv _ => vv = ([.pointer (some ⟨g1, 37, none⟩), .int .i64 P.id, .bool (decide (P.id = 0)), .bool (decide (P.id = 0)), gv (decide (P.id = 0)) (.pointer (some ⟨g1, 38, none⟩)), gv (decide (P.id = 0)) (.int .i64 P.off), gv (decide (P.id = 0)) (.bool (decide (P.off = 0))), .bool ((decide (P.id = 0)) && (decide (P.off = 0))), .bool ((decide (P.id = 0)) && (decide (P.off = 0))), gv ((decide (P.id = 0)) && (decide (P.off = 0))) (.pointer (some ⟨g1, 39, none⟩)), gv ((decide (P.id = 0)) && (decide (P.off = 0))) (.bool P.more), gv ((decide (P.id = 0)) && (decide (P.off = 0))) (.bool (!P.more)), .bool (((decide (P.id = 0)) && (decide (P.off = 0))) && (!P.more)), .bool (((decide (P.id = 0)) && (decide (P.off = 0))) && (!P.more))] : List Value).getD j undef)
          [30, 31, 32, 33, 34, 35, 36, 37, 38, 39, 40, 41, 42, 2]
          [(1, .pointer (some ⟨g1, 0, none⟩))] [] 0
          [[], [0], [1], [2], [3], [3, 4], [3, 5], [3, 6], [7], [8], [8, 9], [8, 10], [8, 11], [12]]
          (by kernel_rfl) ⟨rfl, trivial⟩ trivial (Below.refl _ _) (fun v v' h hb => h.trans (hb.mono h.size)) (fun _ _ _ _ h _ => h)
          ⟨
          (fun QQ aa ww hS fr kn => sg0 rfl (fun K hK => wp_value (exec_fpk 5 (by decide) rfl fr.1) (hK _ _ rfl (Below.refl _ _)))),
          (fun QQ aa ww hS fr kn => sg0 rfl (fun K hK => wp_value (exec_ld rfl kn.1 (ldP (pk_id (SAt.kept r1 hS)))) (hK _ _ rfl (Below.refl _ _)))),
          (fun QQ aa ww hS fr kn => sg0 rfl (fun K hK => wp_value (cmp_eq (m := P.id) (n := 0) rfl kn.1 rfl) (hK _ _ rfl (Below.refl _ _)))),
          (fun QQ aa ww hS fr kn => sg0 rfl (fun K hK => wp_value (exec_move rfl kn.1) (hK _ _ rfl (Below.refl _ _)))),
          (fun QQ aa ww hS fr kn => sgT rfl kn.1 (fun hc K hK => wp_value (exec_fpk 6 (by decide) rfl fr.1) (hK _ _ (gv_t hc).symm (Below.refl _ _))) (fun h0 => (gv_f h0).symm)),
          (fun QQ aa ww hS fr kn => sgT rfl kn.1 (fun hc K hK => wp_value (exec_ld rfl (kn.2.1.trans (gv_t hc)) (ldP (pk_off (SAt.kept r1 hS)))) (hK _ _ (gv_t hc).symm (Below.refl _ _))) (fun h0 => (gv_f h0).symm)),
          (fun QQ aa ww hS fr kn => sgT rfl kn.1 (fun hc K hK => wp_value (cmp_eq (m := P.off) (n := 0) rfl (kn.2.1.trans (gv_t hc)) rfl) (hK _ _ (gv_t hc).symm (Below.refl _ _))) (fun h0 => (gv_f h0).symm)),
          (fun QQ aa ww hS fr kn => sg0 rfl (fun K hK => wp_value (exec_pickAnd rfl kn.1 (fun hx => kn.2.1.trans (gv_t hx)) rfl) (hK _ _ rfl (Below.refl _ _)))),
          (fun QQ aa ww hS fr kn => sg0 rfl (fun K hK => wp_value (exec_move rfl kn.1) (hK _ _ rfl (Below.refl _ _)))),
          (fun QQ aa ww hS fr kn => sgT rfl kn.1 (fun hc K hK => wp_value (exec_fpk 7 (by decide) rfl fr.1) (hK _ _ (gv_t hc).symm (Below.refl _ _))) (fun h0 => (gv_f h0).symm)),
          (fun QQ aa ww hS fr kn => sgT rfl kn.1 (fun hc K hK => wp_value (exec_ld rfl (kn.2.1.trans (gv_t hc)) (ldPb (pk_more (SAt.kept r1 hS)))) (hK _ _ (gv_t hc).symm (Below.refl _ _))) (fun h0 => (gv_f h0).symm)),
          (fun QQ aa ww hS fr kn => sgT rfl kn.1 (fun hc K hK => wp_value (exec_notB rfl (kn.2.1.trans (gv_t hc))) (hK _ _ (gv_t hc).symm (Below.refl _ _))) (fun h0 => (gv_f h0).symm)),
          (fun QQ aa ww hS fr kn => sg0 rfl (fun K hK => wp_value (exec_pickAnd rfl kn.1 (fun hx => kn.2.1.trans (gv_t hx)) rfl) (hK _ _ rfl (Below.refl _ _)))),
          (fun QQ aa ww hS fr kn => sg0 rfl (fun K hK => wp_value (exec_assign rfl kn.1) (hK _ _ rfl (Below.refl _ _)))),
          trivial⟩ ?_
      intro vs u4 hB4 kn
      have e2 : vs 2 = .bool (((decide (P.id = 0)) && (decide (P.off = 0))) && (!P.more)) := kn 13 (by decide)
      clear kn
      simp only [putAll, Act.put, List.setIfInBounds_toArray, List.set_cons_zero, List.set_cons_succ, e2]
      clear e2
      go_wp2_with fail
      go_ret
      exact ⟨by rw [hr]; rfl, hBy.trans (hB4.mono hBy.size)⟩
    · have hr : r = upB P.id 4294967295 := by rw [HC.out, hcut]; rfl
      rw [hcut] at s1
      go_wp2_with (first | (refine wl_value rfl (exec_fpk 12 (by decide) rfl (by rfl)) ?_) | (refine wl_value rfl (exec_fpk 5 (by decide) rfl (by rfl)) ?_) | (refine wl_value rfl (exec_ld rfl (by rfl) (ldPb s1)) ?_) | (refine wl_value rfl (exec_ld rfl (by rfl) (ldP s2)) ?_) | (go_at_call 48; refine (upTo_run P.id 4294967295 _).mono ?_; rintro e u4 ⟨rfl, hB4⟩; refine Hid.out ?_))
      refine Hid.mk ?_
      go_wp2_with fail
      go_ret
      exact ⟨by rw [hr]; rfl, hBy.trans (hB4.mono hBy.size)⟩
  · have hr : r = false := by rw [HC.out]; rfl
    go_wp2_with fail
    go_ret
    exact ⟨by rw [hr]; rfl, hBy⟩
theorem rgtP_code (P : Pk) : rgtP P = (!(((!(validF P.sv P.sb)) || (!(validF P.dv P.db))) || (!(P.sv == P.dv))) && (!(((!(upB P.proto 255)) || (!(upB P.hop 255))) || (!(upB P.cls 255))) && (!((!(upB P.off 65528)) || (!decide (P.off % 8 = 0))) && (if P.sv = true then rgt6 P else rgt4 P)))) := by
  unfold rgtP
  have e : (P.off % 8 == 0) = decide (P.off % 8 = 0) := rfl
  rw [e]
  generalize (if P.sv = true then rgt6 P else rgt4 P) = z
  generalize (P.sv == P.dv) = y
  cases validF P.sv P.sb <;> cases validF P.dv P.db <;> cases y <;> cases upB P.proto 255 <;> cases upB P.hop 255 <;> cases upB P.cls 255 <;> cases upB P.off 65528 <;> cases decide (P.off % 8 = 0) <;> rfl
set_option maxHeartbeats 8000000 in
theorem Right_run (P : Pk) (v : Value) (w : World) (h1 : ExAt w v P.exts) (hn : P.exts.length < 4611686018427387904) (hb : ∀ x ∈ P.exts, x.body.size ≤ 140737488355328) : Calls Tryd.prog 16 #[.agg (SC 46 (pkV P v))] w fun e w' => e = .returned (.bool (rgtP P)) ∧ Below w.heap.size w w' := by
  have HC := Hid.mk (rgtP_code P)
  have H6 := Hid.mk (fun ww h => right6_run P v ww h hn hb)
  have H4 := Hid.mk (fun ww h => right4_run P v ww h hn hb)
  generalize rgtP P = r at *
  go_enter Tryd.func16, Tryd.ntmps16
  go_wp2_with (refine wl_boxO rfl rfl isPk (by rfl) ?_; intro g1 u2 hg1 q1 hB2; refine Hid.out ?_)
  refine Hid.mk ?_
  have hx1 := h1.kept hB2
  go_upto_region 1 with fail
  refine wp_plain_steps (Below u2.heap.size u2) (fun v v' => Below v.heap.size v v') (fun j vv _ => vv = ([.pointer (some ⟨g1, 0, none⟩), .agg (SC 17 (adV P.sv P.sb)), .bool (validF P.sv P.sb), .bool (!(validF P.sv P.sb)), .bool (!(validF P.sv P.sb)), gv (!(!(validF P.sv P.sb))) (.pointer (some ⟨g1, 17, none⟩)), gv (!(!(validF P.sv P.sb))) (.agg (SC 17 (adV P.dv P.db))), gv (!(!(validF P.sv P.sb))) (.bool (validF P.dv P.db)), gv (!(!(validF P.sv P.sb))) (.bool (!(validF P.dv P.db))), .bool ((!(validF P.sv P.sb)) || (!(validF P.dv P.db))), .bool ((!(validF P.sv P.sb)) || (!(validF P.dv P.db))), gv (!((!(validF P.sv P.sb)) || (!(validF P.dv P.db)))) (.pointer (some ⟨g1, 0, none⟩)), gv (!((!(validF P.sv P.sb)) || (!(validF P.dv P.db)))) (.pointer (some ⟨g1, 0, none⟩)), gv (!((!(validF P.sv P.sb)) || (!(validF P.dv P.db)))) (.bool P.sv), gv (!((!(validF P.sv P.sb)) || (!(validF P.dv P.db)))) (.pointer (some ⟨g1, 17, none⟩)), gv (!((!(validF P.sv P.sb)) || (!(validF P.dv P.db)))) (.pointer (some ⟨g1, 17, none⟩)), gv (!((!(validF P.sv P.sb)) || (!(validF P.dv P.db)))) (.bool P.dv), gv (!((!(validF P.sv P.sb)) || (!(validF P.dv P.db)))) (.bool (!(P.sv == P.dv))), .bool (((!(validF P.sv P.sb)) || (!(validF P.dv P.db))) || (!(P.sv == P.dv)))] : List Value).getD j undef)
      [3, 4, 5, 6, 7, 8, 9, 10, 11, 12, 13, 14, 15, 16, 17, 18, 19, 20, 21]
      [(1, .pointer (some ⟨g1, 0, none⟩))] [] 0
      [[], [0], [1], [2], [3], [4], [4, 5], [4, 6], [4, 7], [4, 8], [9], [10], [10, 11], [10, 12], [10], [10, 14], [10, 15], [10, 13, 16], [10, 17]]
      (by kernel_rfl) ⟨rfl, trivial⟩ trivial (Below.refl _ _) (fun v v' h hb => h.trans (hb.mono h.size)) (fun _ _ _ _ h _ => h)
      ⟨
      (fun QQ aa ww hS fr kn => sg0 rfl (fun K hK => wp_value (exec_fpk 0 (by decide) rfl fr.1) (hK _ _ rfl (Below.refl _ _)))),
      (fun QQ aa ww hS fr kn => sg0 rfl (fun K hK => wp_value (exec_ld rfl kn.1 (ld_src (SAt.kept q1 hS))) (hK _ _ rfl (Below.refl _ _)))),
      (fun QQ aa ww hS fr kn => sg0 rfl (fun K hK => stepc en_Valid rfl (args1 kn.1) (Valid_run P.sv P.sb ww) (fun w' hb => hK _ _ rfl hb))),
      (fun QQ aa ww hS fr kn => sg0 rfl (fun K hK => wp_value (exec_notB rfl kn.1) (hK _ _ rfl (Below.refl _ _)))),
      (fun QQ aa ww hS fr kn => sg0 rfl (fun K hK => wp_value (exec_move rfl kn.1) (hK _ _ rfl (Below.refl _ _)))),
      (fun QQ aa ww hS fr kn => sgF rfl kn.1 (fun hng K hK => have hc := nt_t hng; wp_value (exec_fpk 1 (by decide) rfl fr.1) (hK _ _ (gv_t hc).symm (Below.refl _ _))) (fun h0 => (gv_f (nt_f h0)).symm)),
      (fun QQ aa ww hS fr kn => sgF rfl kn.1 (fun hng K hK => have hc := nt_t hng; wp_value (exec_ld rfl (kn.2.1.trans (gv_t hc)) (ld_dst (SAt.kept q1 hS))) (hK _ _ (gv_t hc).symm (Below.refl _ _))) (fun h0 => (gv_f (nt_f h0)).symm)),
      (fun QQ aa ww hS fr kn => sgF rfl kn.1 (fun hng K hK => have hc := nt_t hng; stepc en_Valid rfl (args1 (kn.2.1.trans (gv_t hc))) (Valid_run P.dv P.db ww) (fun w' hb => hK _ _ (gv_t hc).symm hb)) (fun h0 => (gv_f (nt_f h0)).symm)),
      (fun QQ aa ww hS fr kn => sgF rfl kn.1 (fun hng K hK => have hc := nt_t hng; wp_value (exec_notB rfl (kn.2.1.trans (gv_t hc))) (hK _ _ (gv_t hc).symm (Below.refl _ _))) (fun h0 => (gv_f (nt_f h0)).symm)),
      (fun QQ aa ww hS fr kn => sg0 rfl (fun K hK => wp_value (exec_pickOr rfl kn.1 rfl (fun hx => kn.2.1.trans (gv_t (nt_t hx)))) (hK _ _ rfl (Below.refl _ _)))),
      (fun QQ aa ww hS fr kn => sg0 rfl (fun K hK => wp_value (exec_move rfl kn.1) (hK _ _ rfl (Below.refl _ _)))),
      (fun QQ aa ww hS fr kn => sgF rfl kn.1 (fun hng K hK => have hc := nt_t hng; wp_value (exec_fpk 0 (by decide) rfl fr.1) (hK _ _ (gv_t hc).symm (Below.refl _ _))) (fun h0 => (gv_f (nt_f h0)).symm)),
      (fun QQ aa ww hS fr kn => sgF rfl kn.1 (fun hng K hK => have hc := nt_t hng; wp_value (exec_fad0 rfl (kn.2.1.trans (gv_t hc))) (hK _ _ (gv_t hc).symm (Below.refl _ _))) (fun h0 => (gv_f (nt_f h0)).symm)),
      (fun QQ aa ww hS fr kn => sgF rfl kn.1 (fun hng K hK => have hc := nt_t hng; wp_value (exec_ld rfl (kn.2.1.trans (gv_t hc)) (ldPb (pk_sv (SAt.kept q1 hS)))) (hK _ _ (gv_t hc).symm (Below.refl _ _))) (fun h0 => (gv_f (nt_f h0)).symm)),
      (fun QQ aa ww hS fr kn => sgF rfl kn.1 (fun hng K hK => have hc := nt_t hng; wp_value (exec_fpk 1 (by decide) rfl fr.1) (hK _ _ (gv_t hc).symm (Below.refl _ _))) (fun h0 => (gv_f (nt_f h0)).symm)),
      (fun QQ aa ww hS fr kn => sgF rfl kn.1 (fun hng K hK => have hc := nt_t hng; wp_value (exec_fad0 rfl (kn.2.1.trans (gv_t hc))) (hK _ _ (gv_t hc).symm (Below.refl _ _))) (fun h0 => (gv_f (nt_f h0)).symm)),
      (fun QQ aa ww hS fr kn => sgF rfl kn.1 (fun hng K hK => have hc := nt_t hng; wp_value (exec_ld rfl (kn.2.1.trans (gv_t hc)) (ldPb (pk_dv (SAt.kept q1 hS)))) (hK _ _ (gv_t hc).symm (Below.refl _ _))) (fun h0 => (gv_f (nt_f h0)).symm)),
      (fun QQ aa ww hS fr kn => sgF rfl kn.1 (fun hng K hK => have hc := nt_t hng; wp_value (cmp_neB rfl (kn.2.1.trans (gv_t hc)) (kn.2.2.1.trans (gv_t hc))) (hK _ _ (gv_t hc).symm (Below.refl _ _))) (fun h0 => (gv_f (nt_f h0)).symm)),
      (fun QQ aa ww hS fr kn => sg0 rfl (fun K hK => wp_value (exec_pickOr rfl kn.1 rfl (fun hx => kn.2.1.trans (gv_t (nt_t hx)))) (hK _ _ rfl (Below.refl _ _)))),
      trivial⟩ ?_
  intro vs u3 hB3 kn
  have e21 : vs 21 = .bool (((!(validF P.sv P.sb)) || (!(validF P.dv P.db))) || (!(P.sv == P.dv))) := kn 18 (by decide)
  clear kn
  simp only [putAll, Act.put, List.setIfInBounds_toArray, List.set_cons_zero, List.set_cons_succ, e21]
  clear e21
  have hBy := hB2.trans (hB3.mono hB2.size)
  have r1 := SAt.kept q1 hB3
  obtain ⟨c, hc⟩ : ∃ c, (((!(validF P.sv P.sb)) || (!(validF P.dv P.db))) || (!(P.sv == P.dv))) = c := ⟨_, rfl⟩
  rw [hc] at HC ⊢
  clear hc
  cases c
  · go_upto_region 3 with fail
    refine wp_plain_steps (Below u3.heap.size u3) (fun v v' => Below v.heap.size v v') (fun j vv _ => vv = ([.pointer (some ⟨g1, 34, none⟩), .int .i64 P.proto, .bool (upB P.proto 255), .bool (!(upB P.proto 255)), .bool (!(upB P.proto 255)), gv (!(!(upB P.proto 255))) (.pointer (some ⟨g1, 35, none⟩)), gv (!(!(upB P.proto 255))) (.int .i64 P.hop), gv (!(!(upB P.proto 255))) (.bool (upB P.hop 255)), gv (!(!(upB P.proto 255))) (.bool (!(upB P.hop 255))), .bool ((!(upB P.proto 255)) || (!(upB P.hop 255))), .bool ((!(upB P.proto 255)) || (!(upB P.hop 255))), gv (!((!(upB P.proto 255)) || (!(upB P.hop 255)))) (.pointer (some ⟨g1, 36, none⟩)), gv (!((!(upB P.proto 255)) || (!(upB P.hop 255)))) (.int .i64 P.cls), gv (!((!(upB P.proto 255)) || (!(upB P.hop 255)))) (.bool (upB P.cls 255)), gv (!((!(upB P.proto 255)) || (!(upB P.hop 255)))) (.bool (!(upB P.cls 255))), .bool (((!(upB P.proto 255)) || (!(upB P.hop 255))) || (!(upB P.cls 255)))] : List Value).getD j undef)
        [22, 23, 24, 25, 26, 27, 28, 29, 30, 31, 32, 33, 34, 35, 36, 37]
        [(1, .pointer (some ⟨g1, 0, none⟩))] [] 0
        [[], [0], [1], [2], [3], [4], [4, 5], [4, 6], [4, 7], [4, 8], [9], [10], [10, 11], [10, 12], [10, 13], [10, 14]]
        (by kernel_rfl) ⟨rfl, trivial⟩ trivial (Below.refl _ _) (fun v v' h hb => h.trans (hb.mono h.size)) (fun _ _ _ _ h _ => h)
        ⟨
        (fun QQ aa ww hS fr kn => sg0 rfl (fun K hK => wp_value (exec_fpk 2 (by decide) rfl fr.1) (hK _ _ rfl (Below.refl _ _)))),
        (fun QQ aa ww hS fr kn => sg0 rfl (fun K hK => wp_value (exec_ld rfl kn.1 (ldP (pk_proto (SAt.kept r1 hS)))) (hK _ _ rfl (Below.refl _ _)))),
        (fun QQ aa ww hS fr kn => sg0 rfl (fun K hK => stepc en_upTo rfl (args2 kn.1 rfl) (upTo_run P.proto 255 ww) (fun w' hb => hK _ _ rfl hb))),
        (fun QQ aa ww hS fr kn => sg0 rfl (fun K hK => wp_value (exec_notB rfl kn.1) (hK _ _ rfl (Below.refl _ _)))),
        (fun QQ aa ww hS fr kn => sg0 rfl (fun K hK => wp_value (exec_move rfl kn.1) (hK _ _ rfl (Below.refl _ _)))),
        (fun QQ aa ww hS fr kn => sgF rfl kn.1 (fun hng K hK => have hc := nt_t hng; wp_value (exec_fpk 3 (by decide) rfl fr.1) (hK _ _ (gv_t hc).symm (Below.refl _ _))) (fun h0 => (gv_f (nt_f h0)).symm)),
        (fun QQ aa ww hS fr kn => sgF rfl kn.1 (fun hng K hK => have hc := nt_t hng; wp_value (exec_ld rfl (kn.2.1.trans (gv_t hc)) (ldP (pk_hop (SAt.kept r1 hS)))) (hK _ _ (gv_t hc).symm (Below.refl _ _))) (fun h0 => (gv_f (nt_f h0)).symm)),
        (fun QQ aa ww hS fr kn => sgF rfl kn.1 (fun hng K hK => have hc := nt_t hng; stepc en_upTo rfl (args2 (kn.2.1.trans (gv_t hc)) rfl) (upTo_run P.hop 255 ww) (fun w' hb => hK _ _ (gv_t hc).symm hb)) (fun h0 => (gv_f (nt_f h0)).symm)),
        (fun QQ aa ww hS fr kn => sgF rfl kn.1 (fun hng K hK => have hc := nt_t hng; wp_value (exec_notB rfl (kn.2.1.trans (gv_t hc))) (hK _ _ (gv_t hc).symm (Below.refl _ _))) (fun h0 => (gv_f (nt_f h0)).symm)),
        (fun QQ aa ww hS fr kn => sg0 rfl (fun K hK => wp_value (exec_pickOr rfl kn.1 rfl (fun hx => kn.2.1.trans (gv_t (nt_t hx)))) (hK _ _ rfl (Below.refl _ _)))),
        (fun QQ aa ww hS fr kn => sg0 rfl (fun K hK => wp_value (exec_move rfl kn.1) (hK _ _ rfl (Below.refl _ _)))),
        (fun QQ aa ww hS fr kn => sgF rfl kn.1 (fun hng K hK => have hc := nt_t hng; wp_value (exec_fpk 4 (by decide) rfl fr.1) (hK _ _ (gv_t hc).symm (Below.refl _ _))) (fun h0 => (gv_f (nt_f h0)).symm)),
        (fun QQ aa ww hS fr kn => sgF rfl kn.1 (fun hng K hK => have hc := nt_t hng; wp_value (exec_ld rfl (kn.2.1.trans (gv_t hc)) (ldP (pk_cls (SAt.kept r1 hS)))) (hK _ _ (gv_t hc).symm (Below.refl _ _))) (fun h0 => (gv_f (nt_f h0)).symm)),
        (fun QQ aa ww hS fr kn => sgF rfl kn.1 (fun hng K hK => have hc := nt_t hng; stepc en_upTo rfl (args2 (kn.2.1.trans (gv_t hc)) rfl) (upTo_run P.cls 255 ww) (fun w' hb => hK _ _ (gv_t hc).symm hb)) (fun h0 => (gv_f (nt_f h0)).symm)),
        (fun QQ aa ww hS fr kn => sgF rfl kn.1 (fun hng K hK => have hc := nt_t hng; wp_value (exec_notB rfl (kn.2.1.trans (gv_t hc))) (hK _ _ (gv_t hc).symm (Below.refl _ _))) (fun h0 => (gv_f (nt_f h0)).symm)),
        (fun QQ aa ww hS fr kn => sg0 rfl (fun K hK => wp_value (exec_pickOr rfl kn.1 rfl (fun hx => kn.2.1.trans (gv_t (nt_t hx)))) (hK _ _ rfl (Below.refl _ _)))),
        trivial⟩ ?_
    intro vs u4 hB4 kn
    have e37 : vs 37 = .bool (((!(upB P.proto 255)) || (!(upB P.hop 255))) || (!(upB P.cls 255))) := kn 15 (by decide)
    clear kn
    simp only [putAll, Act.put, List.setIfInBounds_toArray, List.set_cons_zero, List.set_cons_succ, e37]
    clear e37
    have hBx := hBy.trans (hB4.mono hBy.size)
    have r2 := SAt.kept r1 hB4
    obtain ⟨c, hc⟩ : ∃ c, (((!(upB P.proto 255)) || (!(upB P.hop 255))) || (!(upB P.cls 255))) = c := ⟨_, rfl⟩
    rw [hc] at HC ⊢
    clear hc
    cases c
    · go_upto_region 5 with fail
      refine wp_plain_steps (Below u4.heap.size u4) (fun v v' => Below v.heap.size v v') (fun j vv _ => vv = ([.pointer (some ⟨g1, 38, none⟩), .int .i64 P.off, .bool (upB P.off 65528), .bool (!(upB P.off 65528)), .bool (!(upB P.off 65528)), gv (!(!(upB P.off 65528))) (.pointer (some ⟨g1, 38, none⟩)), gv (!(!(upB P.off 65528))) (.int .i64 P.off), gv (!(!(upB P.off 65528))) (.int .i64 (P.off % 8)), gv (!(!(upB P.off 65528))) (.bool (!decide (P.off % 8 = 0))), .bool ((!(upB P.off 65528)) || (!decide (P.off % 8 = 0)))] : List Value).getD j undef)
          [38, 39, 40, 41, 42, 43, 44, 45, 46, 47]
          [(1, .pointer (some ⟨g1, 0, none⟩))] [] 0
          [[], [0], [1], [2], [3], [4], [4, 5], [4, 6], [4, 7], [4, 8]]
          (by kernel_rfl) ⟨rfl, trivial⟩ trivial (Below.refl _ _) (fun v v' h hb => h.trans (hb.mono h.size)) (fun _ _ _ _ h _ => h)
          ⟨
          (fun QQ aa ww hS fr kn => sg0 rfl (fun K hK => wp_value (exec_fpk 6 (by decide) rfl fr.1) (hK _ _ rfl (Below.refl _ _)))),
          (fun QQ aa ww hS fr kn => sg0 rfl (fun K hK => wp_value (exec_ld rfl kn.1 (ldP (pk_off (SAt.kept r2 hS)))) (hK _ _ rfl (Below.refl _ _)))),
          (fun QQ aa ww hS fr kn => sg0 rfl (fun K hK => stepc en_upTo rfl (args2 kn.1 rfl) (upTo_run P.off 65528 ww) (fun w' hb => hK _ _ rfl hb))),
          (fun QQ aa ww hS fr kn => sg0 rfl (fun K hK => wp_value (exec_notB rfl kn.1) (hK _ _ rfl (Below.refl _ _)))),
          (fun QQ aa ww hS fr kn => sg0 rfl (fun K hK => wp_value (exec_move rfl kn.1) (hK _ _ rfl (Below.refl _ _)))),
          (fun QQ aa ww hS fr kn => sgF rfl kn.1 (fun hng K hK => have hc := nt_t hng; wp_value (exec_fpk 6 (by decide) rfl fr.1) (hK _ _ (gv_t hc).symm (Below.refl _ _))) (fun h0 => (gv_f (nt_f h0)).symm)),
          (fun QQ aa ww hS fr kn => sgF rfl kn.1 (fun hng K hK => have hc := nt_t hng; wp_value (exec_ld rfl (kn.2.1.trans (gv_t hc)) (ldP (pk_off (SAt.kept r2 hS)))) (hK _ _ (gv_t hc).symm (Below.refl _ _))) (fun h0 => (gv_f (nt_f h0)).symm)),
          (fun QQ aa ww hS fr kn => sgF rfl kn.1 (fun hng K hK => have hc := nt_t hng; wp_value (rem_nn rfl (kn.2.1.trans (gv_t hc)) rfl (off_nn hc) (by decide)) (hK _ _ (gv_t hc).symm (Below.refl _ _))) (fun h0 => (gv_f (nt_f h0)).symm)),
          (fun QQ aa ww hS fr kn => sgF rfl kn.1 (fun hng K hK => have hc := nt_t hng; wp_value (cmp_ne (m := P.off % 8) (n := 0) rfl (kn.2.1.trans (gv_t hc)) rfl) (hK _ _ (gv_t hc).symm (Below.refl _ _))) (fun h0 => (gv_f (nt_f h0)).symm)),
          (fun QQ aa ww hS fr kn => sg0 rfl (fun K hK => wp_value (exec_pickOr rfl kn.1 rfl (fun hx => kn.2.1.trans (gv_t (nt_t hx)))) (hK _ _ rfl (Below.refl _ _)))),
          trivial⟩ ?_
      intro vs u5 hB5 kn
      have e47 : vs 47 = .bool ((!(upB P.off 65528)) || (!decide (P.off % 8 = 0))) := kn 9 (by decide)
      clear kn
      simp only [putAll, Act.put, List.setIfInBounds_toArray, List.set_cons_zero, List.set_cons_succ, e47]
      clear e47
      have hBw := hBx.trans (hB5.mono hBx.size)
      have r3 := SAt.kept r2 hB5
      have hx3 := ((hx1.kept hB3).kept hB4).kept hB5
      obtain ⟨c, hc⟩ : ∃ c, ((!(upB P.off 65528)) || (!decide (P.off % 8 = 0))) = c := ⟨_, rfl⟩
      rw [hc] at HC ⊢
      clear hc
      have s0 := pk_sv r3
      cases c
      · cases hsv : P.sv
        · have hr : r = rgt4 P := by rw [HC.out, hsv]; rfl
          rw [hsv] at s0
          go_wp2_with (first | (refine wl_value rfl (exec_fpk 0 (by decide) rfl (by rfl)) ?_) | (refine wl_value rfl (exec_fad0 rfl (by rfl)) ?_) | (refine wl_value rfl (exec_ld rfl (by rfl) (ldPb s0)) ?_) | (refine wl_value rfl (look_st rfl isPk r3 (by rfl)) ?_) | (go_at_call 50; refine (H4.out _ hx3).mono ?_; rintro e u6 ⟨rfl, hB6⟩; refine Hid.out ?_))
          refine Hid.mk ?_
          go_wp2_with fail
          go_ret
          exact ⟨by rw [hr]; rfl, hBw.trans (hB6.mono hBw.size)⟩
        · have hr : r = rgt6 P := by rw [HC.out, hsv]; rfl
          rw [hsv] at s0
          go_wp2_with (first | (refine wl_value rfl (exec_fpk 0 (by decide) rfl (by rfl)) ?_) | (refine wl_value rfl (exec_fad0 rfl (by rfl)) ?_) | (refine wl_value rfl (exec_ld rfl (by rfl) (ldPb s0)) ?_) | (refine wl_value rfl (look_st rfl isPk r3 (by rfl)) ?_) | (go_at_call 49; refine (H6.out _ hx3).mono ?_; rintro e u6 ⟨rfl, hB6⟩; refine Hid.out ?_))
          refine Hid.mk ?_
          go_wp2_with fail
          go_ret
          exact ⟨by rw [hr]; rfl, hBw.trans (hB6.mono hBw.size)⟩
      · have hr : r = false := by rw [HC.out]; rfl
        go_wp2_with fail
        go_ret
        exact ⟨by rw [hr]; rfl, hBw⟩
    · have hr : r = false := by rw [HC.out]; rfl
      go_wp2_with fail
      go_ret
      exact ⟨by rw [hr]; rfl, hBx⟩
  · have hr : r = false := by rw [HC.out]; rfl
    go_wp2_with fail
    go_ret
    exact ⟨by rw [hr]; rfl, hBy⟩
end Go.Proofs.YtojekoakgpkkdaaDoor

/-
  Own text. Which packets may be: the document's side.
-/
namespace Go.Proofs.YtojekoakgpkkdaaDoor
open Go.RowKit Go.Proofs
set_option maxRecDepth 100000
theorem rExt_eq (x : Ex) (i : Nat) (hi : i < 4) : ((((((decide (x.kind = 0)) && (decide ((i : Int) = 0))) || (decide (x.kind = 43))) || (decide (x.kind = 60))) && decide (((x.body.size % 8 : Nat) : Int) = 6)) && decide ((x.body.size : Int) ≤ 2046)) = exOk x i := by
  have e1 : decide (((x.body.size % 8 : Nat) : Int) = 6) = decide (x.body.size % 8 = 6) := dec_nat (b := 6)
  have e2 : decide ((x.body.size : Int) ≤ 2046) = decide (x.body.size ≤ 2046) := dec_le (b := 2046)
  rw [e1, e2]
  unfold exOk
  congr 2
  unfold isEx mayB
  have e3 : decide ((i : Int) = 0) = decide (i = 0) := dec_nat (b := 0)
  rw [e3, decide_eq_true hi, Bool.true_and]
  by_cases k0 : x.kind = 0
  · rw [k0]
    cases decide (i = 0) <;> decide
  · have f1 : (x.kind == 0) = false := by simpa using k0
    have f2 : (x.kind != 0) = true := by simpa using k0
    rw [f1, f2, decide_eq_false k0, Bool.true_or, Bool.and_true, Bool.false_and, Bool.false_or]
    rfl
set_option maxHeartbeats 8000000 in
theorem rExt_run (x : Ex) (i : Nat) (w : World) (hi : i < 4) : Calls Tryd.prog 92 #[.agg (SC 2 (exV x)), .int .i64 (i : Int)] w fun e w' => e = .returned (.bool (exOk x i)) ∧ Below w.heap.size w w' := by
  have HC := Hid.mk (rExt_eq x i hi)
  generalize exOk x i = r at *
  go_enter Tryd.func92, Tryd.ntmps92
  go_wp2_with (refine wl_boxO rfl rfl isEx2 (by rfl) ?_; intro g1 u2 hg1 q1 hB2; refine Hid.out ?_)
  refine Hid.mk ?_
  go_upto_region 1 with fail
  refine wp_plain_steps (Below u2.heap.size u2) (fun v v' => Below v.heap.size v v') (fun j vv _ => vv = ([.pointer (some ⟨g1, 0, none⟩), .int .i64 x.kind, .bool (decide (x.kind = 0)), .bool (decide (x.kind = 0)), gv (decide (x.kind = 0)) (.int .i64 (i : Int)), gv (decide (x.kind = 0)) (.bool (decide ((i : Int) = 0))), .bool ((decide (x.kind = 0)) && (decide ((i : Int) = 0))), .bool ((decide (x.kind = 0)) && (decide ((i : Int) = 0))), gv (!((decide (x.kind = 0)) && (decide ((i : Int) = 0)))) (.pointer (some ⟨g1, 0, none⟩)), gv (!((decide (x.kind = 0)) && (decide ((i : Int) = 0)))) (.int .i64 x.kind), gv (!((decide (x.kind = 0)) && (decide ((i : Int) = 0)))) (.bool (decide (x.kind = 43))), .bool (((decide (x.kind = 0)) && (decide ((i : Int) = 0))) || (decide (x.kind = 43))), .bool (((decide (x.kind = 0)) && (decide ((i : Int) = 0))) || (decide (x.kind = 43))), gv (!(((decide (x.kind = 0)) && (decide ((i : Int) = 0))) || (decide (x.kind = 43)))) (.pointer (some ⟨g1, 0, none⟩)), gv (!(((decide (x.kind = 0)) && (decide ((i : Int) = 0))) || (decide (x.kind = 43)))) (.int .i64 x.kind), gv (!(((decide (x.kind = 0)) && (decide ((i : Int) = 0))) || (decide (x.kind = 43)))) (.bool (decide (x.kind = 60))), .bool ((((decide (x.kind = 0)) && (decide ((i : Int) = 0))) || (decide (x.kind = 43))) || (decide (x.kind = 60))), .bool ((((decide (x.kind = 0)) && (decide ((i : Int) = 0))) || (decide (x.kind = 43))) || (decide (x.kind = 60)))] : List Value).getD j undef)
      [6, 7, 8, 9, 10, 11, 12, 13, 14, 15, 16, 17, 18, 19, 20, 21, 22, 5]
      [(2, .pointer (some ⟨g1, 0, none⟩)), (1, .int .i64 (i : Int))] [] 0
      [[], [0], [1], [2], [3], [3, 4], [3, 5], [6], [7], [7, 8], [7, 9], [7, 10], [11], [12], [12, 13], [12, 14], [12, 15], [16]]
      (by kernel_rfl) ⟨rfl, rfl, trivial⟩ trivial (Below.refl _ _) (fun v v' h hb => h.trans (hb.mono h.size)) (fun _ _ _ _ h _ => h)
      ⟨
      (fun QQ aa ww hS fr kn => sg0 rfl (fun K hK => wp_value (exec_fexG 0 (by decide) rfl fr.1) (hK _ _ rfl (Below.refl _ _)))),
      (fun QQ aa ww hS fr kn => sg0 rfl (fun K hK => wp_value (exec_ld rfl kn.1 (ldP (ex_kind (SAt.kept q1 hS)))) (hK _ _ rfl (Below.refl _ _)))),
      (fun QQ aa ww hS fr kn => sg0 rfl (fun K hK => wp_value (cmp_eq (m := x.kind) (n := 0) rfl kn.1 rfl) (hK _ _ rfl (Below.refl _ _)))),
      (fun QQ aa ww hS fr kn => sg0 rfl (fun K hK => wp_value (exec_move rfl kn.1) (hK _ _ rfl (Below.refl _ _)))),
      (fun QQ aa ww hS fr kn => sgT rfl kn.1 (fun hc K hK => wp_value (exec_move rfl fr.2.1) (hK _ _ (gv_t hc).symm (Below.refl _ _))) (fun h0 => (gv_f h0).symm)),
      (fun QQ aa ww hS fr kn => sgT rfl kn.1 (fun hc K hK => wp_value (cmp_eq (m := (i : Int)) (n := 0) rfl (kn.2.1.trans (gv_t hc)) rfl) (hK _ _ (gv_t hc).symm (Below.refl _ _))) (fun h0 => (gv_f h0).symm)),
      (fun QQ aa ww hS fr kn => sg0 rfl (fun K hK => wp_value (exec_pickAnd rfl kn.1 (fun hx => kn.2.1.trans (gv_t hx)) rfl) (hK _ _ rfl (Below.refl _ _)))),
      (fun QQ aa ww hS fr kn => sg0 rfl (fun K hK => wp_value (exec_move rfl kn.1) (hK _ _ rfl (Below.refl _ _)))),
      (fun QQ aa ww hS fr kn => sgF rfl kn.1 (fun hng K hK => have hc := nt_t hng; wp_value (exec_fexG 0 (by decide) rfl fr.1) (hK _ _ (gv_t hc).symm (Below.refl _ _))) (fun h0 => (gv_f (nt_f h0)).symm)),
      (fun QQ aa ww hS fr kn => sgF rfl kn.1 (fun hng K hK => have hc := nt_t hng; wp_value (exec_ld rfl (kn.2.1.trans (gv_t hc)) (ldP (ex_kind (SAt.kept q1 hS)))) (hK _ _ (gv_t hc).symm (Below.refl _ _))) (fun h0 => (gv_f (nt_f h0)).symm)),
      (fun QQ aa ww hS fr kn => sgF rfl kn.1 (fun hng K hK => have hc := nt_t hng; wp_value (cmp_eq (m := x.kind) (n := 43) rfl (kn.2.1.trans (gv_t hc)) rfl) (hK _ _ (gv_t hc).symm (Below.refl _ _))) (fun h0 => (gv_f (nt_f h0)).symm)),
      (fun QQ aa ww hS fr kn => sg0 rfl (fun K hK => wp_value (exec_pickOr rfl kn.1 rfl (fun hx => kn.2.1.trans (gv_t (nt_t hx)))) (hK _ _ rfl (Below.refl _ _)))),
      (fun QQ aa ww hS fr kn => sg0 rfl (fun K hK => wp_value (exec_move rfl kn.1) (hK _ _ rfl (Below.refl _ _)))),
      (fun QQ aa ww hS fr kn => sgF rfl kn.1 (fun hng K hK => have hc := nt_t hng; wp_value (exec_fexG 0 (by decide) rfl fr.1) (hK _ _ (gv_t hc).symm (Below.refl _ _))) (fun h0 => (gv_f (nt_f h0)).symm)),
      (fun QQ aa ww hS fr kn => sgF rfl kn.1 (fun hng K hK => have hc := nt_t hng; wp_value (exec_ld rfl (kn.2.1.trans (gv_t hc)) (ldP (ex_kind (SAt.kept q1 hS)))) (hK _ _ (gv_t hc).symm (Below.refl _ _))) (fun h0 => (gv_f (nt_f h0)).symm)),
      (fun QQ aa ww hS fr kn => sgF rfl kn.1 (fun hng K hK => have hc := nt_t hng; wp_value (cmp_eq (m := x.kind) (n := 60) rfl (kn.2.1.trans (gv_t hc)) rfl) (hK _ _ (gv_t hc).symm (Below.refl _ _))) (fun h0 => (gv_f (nt_f h0)).symm)),
      (fun QQ aa ww hS fr kn => sg0 rfl (fun K hK => wp_value (exec_pickOr rfl kn.1 rfl (fun hx => kn.2.1.trans (gv_t (nt_t hx)))) (hK _ _ rfl (Below.refl _ _)))),
      (fun QQ aa ww hS fr kn => sg0 rfl (fun K hK => wp_value (exec_assign rfl kn.1) (hK _ _ rfl (Below.refl _ _)))),
      trivial⟩ ?_
  intro vs u3 hB3 kn
  have e5 : vs 5 = .bool ((((decide (x.kind = 0)) && (decide ((i : Int) = 0))) || (decide (x.kind = 43))) || (decide (x.kind = 60))) := kn 17 (by decide)
  clear kn
  simp only [putAll, Act.put, List.setIfInBounds_toArray, List.set_cons_zero, List.set_cons_succ, e5]
  clear e5
  have r1 := SAt.kept q1 hB3
  have hBy := hB2.trans (hB3.mono hB2.size)
  obtain ⟨K, hK⟩ : ∃ K, ((((decide (x.kind = 0)) && (decide ((i : Int) = 0))) || (decide (x.kind = 43))) || (decide (x.kind = 60))) = K := ⟨_, rfl⟩
  rw [hK] at HC ⊢
  clear hK
  go_upto_region 2 with fail
  refine wp_plain_steps (Below u3.heap.size u3) (fun v v' => Below v.heap.size v v') (fun j vv _ => vv = ([.bool K, .bool K, gv K (.pointer (some ⟨g1, 1, none⟩)), gv K (.string x.body), gv K (.int .i64 (x.body.size : Int)), gv K (.int .i64 ((x.body.size % 8 : Nat) : Int)), gv K (.bool (decide (((x.body.size % 8 : Nat) : Int) = 6))), .bool (K && (decide (((x.body.size % 8 : Nat) : Int) = 6))), .bool (K && (decide (((x.body.size % 8 : Nat) : Int) = 6))), gv (K && (decide (((x.body.size % 8 : Nat) : Int) = 6))) (.pointer (some ⟨g1, 1, none⟩)), gv (K && (decide (((x.body.size % 8 : Nat) : Int) = 6))) (.string x.body), gv (K && (decide (((x.body.size % 8 : Nat) : Int) = 6))) (.int .i64 (x.body.size : Int)), gv (K && (decide (((x.body.size % 8 : Nat) : Int) = 6))) (.bool (decide ((x.body.size : Int) ≤ 2046))), .bool ((K && (decide (((x.body.size % 8 : Nat) : Int) = 6))) && (decide ((x.body.size : Int) ≤ 2046))), .bool ((K && (decide (((x.body.size % 8 : Nat) : Int) = 6))) && (decide ((x.body.size : Int) ≤ 2046)))] : List Value).getD j undef)
      [23, 24, 25, 26, 27, 28, 29, 30, 31, 32, 33, 34, 35, 36, 4]
      [(2, .pointer (some ⟨g1, 0, none⟩)), (5, .bool K)] [] 0
      [[], [0], [1], [1, 2], [1, 3], [1, 4], [1, 5], [1, 6], [7], [8], [8, 9], [8, 10], [8, 11], [8, 12], [13]]
      (by kernel_rfl) ⟨rfl, rfl, trivial⟩ trivial (Below.refl _ _) (fun v v' h hb => h.trans (hb.mono h.size)) (fun _ _ _ _ h _ => h)
      ⟨
      (fun QQ aa ww hS fr kn => sg0 rfl (fun K hK => wp_value (exec_move rfl fr.2.1) (hK _ _ rfl (Below.refl _ _)))),
      (fun QQ aa ww hS fr kn => sg0 rfl (fun K hK => wp_value (exec_move rfl kn.1) (hK _ _ rfl (Below.refl _ _)))),
      (fun QQ aa ww hS fr kn => sgT rfl kn.1 (fun hc K hK => wp_value (exec_fexG 1 (by decide) rfl fr.1) (hK _ _ (gv_t hc).symm (Below.refl _ _))) (fun h0 => (gv_f h0).symm)),
      (fun QQ aa ww hS fr kn => sgT rfl kn.1 (fun hc K hK => wp_value (exec_ld rfl (kn.2.1.trans (gv_t hc)) (ldPs (ex_body (SAt.kept r1 hS)))) (hK _ _ (gv_t hc).symm (Below.refl _ _))) (fun h0 => (gv_f h0).symm)),
      (fun QQ aa ww hS fr kn => sgT rfl kn.1 (fun hc K hK => wp_value (exec_lenS rfl (kn.2.1.trans (gv_t hc))) (hK _ _ (gv_t hc).symm (Below.refl _ _))) (fun h0 => (gv_f h0).symm)),
      (fun QQ aa ww hS fr kn => sgT rfl kn.1 (fun hc K hK => wp_value (exec_remW (i := x.body.size) (m := 8) rfl (kn.2.1.trans (gv_t hc)) rfl rfl (by decide)) (hK _ _ (gv_t hc).symm (Below.refl _ _))) (fun h0 => (gv_f h0).symm)),
      (fun QQ aa ww hS fr kn => sgT rfl kn.1 (fun hc K hK => wp_value (cmp_eq (m := ((x.body.size % 8 : Nat) : Int)) (n := 6) rfl (kn.2.1.trans (gv_t hc)) rfl) (hK _ _ (gv_t hc).symm (Below.refl _ _))) (fun h0 => (gv_f h0).symm)),
      (fun QQ aa ww hS fr kn => sg0 rfl (fun K hK => wp_value (exec_pickAnd rfl kn.1 (fun hx => kn.2.1.trans (gv_t hx)) rfl) (hK _ _ rfl (Below.refl _ _)))),
      (fun QQ aa ww hS fr kn => sg0 rfl (fun K hK => wp_value (exec_move rfl kn.1) (hK _ _ rfl (Below.refl _ _)))),
      (fun QQ aa ww hS fr kn => sgT rfl kn.1 (fun hc K hK => wp_value (exec_fexG 1 (by decide) rfl fr.1) (hK _ _ (gv_t hc).symm (Below.refl _ _))) (fun h0 => (gv_f h0).symm)),
      (fun QQ aa ww hS fr kn => sgT rfl kn.1 (fun hc K hK => wp_value (exec_ld rfl (kn.2.1.trans (gv_t hc)) (ldPs (ex_body (SAt.kept r1 hS)))) (hK _ _ (gv_t hc).symm (Below.refl _ _))) (fun h0 => (gv_f h0).symm)),
      (fun QQ aa ww hS fr kn => sgT rfl kn.1 (fun hc K hK => wp_value (exec_lenS rfl (kn.2.1.trans (gv_t hc))) (hK _ _ (gv_t hc).symm (Below.refl _ _))) (fun h0 => (gv_f h0).symm)),
      (fun QQ aa ww hS fr kn => sgT rfl kn.1 (fun hc K hK => wp_value (cmp_le (m := (x.body.size : Int)) (n := 2046) rfl (kn.2.1.trans (gv_t hc)) rfl) (hK _ _ (gv_t hc).symm (Below.refl _ _))) (fun h0 => (gv_f h0).symm)),
      (fun QQ aa ww hS fr kn => sg0 rfl (fun K hK => wp_value (exec_pickAnd rfl kn.1 (fun hx => kn.2.1.trans (gv_t hx)) rfl) (hK _ _ rfl (Below.refl _ _)))),
      (fun QQ aa ww hS fr kn => sg0 rfl (fun K hK => wp_value (exec_assign rfl kn.1) (hK _ _ rfl (Below.refl _ _)))),
      trivial⟩ ?_
  intro vs u4 hB4 kn
  have e4 : vs 4 = .bool ((K && (decide (((x.body.size % 8 : Nat) : Int) = 6))) && (decide ((x.body.size : Int) ≤ 2046))) := kn 14 (by decide)
  clear kn
  simp only [putAll, Act.put, List.setIfInBounds_toArray, List.set_cons_zero, List.set_cons_succ, e4]
  clear e4
  go_wp2_with fail
  go_ret
  exact ⟨by rw [← HC.out]; rfl, hBy.trans (hB4.mono hBy.size)⟩
theorem rgtP_doc (P : Pk) : rgtP P = (!(((((!validF P.sv P.sb) || (!validF P.dv P.db)) || (!(P.sv == P.dv))) || (!(((upB P.proto 255) && (upB P.hop 255)) && (upB P.cls 255)))) || (!((upB P.off 65528) && (decide (P.off % 8 = 0))))) && (if P.sv = true then rgt6 P else rgt4 P)) := by
  unfold rgtP
  have e : (P.off % 8 == 0) = decide (P.off % 8 = 0) := rfl
  rw [e]
  generalize (if P.sv = true then rgt6 P else rgt4 P) = z
  generalize (P.sv == P.dv) = y
  cases validF P.sv P.sb <;> cases validF P.dv P.db <;> cases y <;> cases upB P.proto 255 <;> cases upB P.hop 255 <;> cases upB P.cls 255 <;> cases upB P.off 65528 <;> cases decide (P.off % 8 = 0) <;> rfl
theorem exsOk_long {l : List Ex} (h : 4 < l.length) : exsOk l 0 = false := by
  cases e : exsOk l 0
  · rfl
  · rcases exsOk_len e with h2 | h2
    · rw [h2] at h; simp at h
    · omega
theorem rgt6_doc (P : Pk) : rgt6 P = (!(((((!(upB P.flow 1048575)) || (!decide (P.opts = ByteArray.empty))) || P.still) || (decide (4 < (P.exts.length : Int)))) || (!(upB P.id 4294967295))) && (exsOk P.exts 0 && ((!(isHd P.proto)) && (P.cut || (((decide (P.id = 0)) && (decide (P.off = 0))) && (!P.more)))))) := by
  unfold rgt6
  rw [txt_nil]
  have e1 : (P.id == 0) = decide (P.id = 0) := rfl
  have e2 : (P.off == 0) = decide (P.off = 0) := rfl
  rw [e1, e2]
  have e3 : decide ((4 : Int) < (P.exts.length : Int)) = true → exsOk P.exts 0 = false := fun h => exsOk_long (by have := of_decide_eq_true h; omega)
  cases hl : decide ((4 : Int) < (P.exts.length : Int))
  · cases upB P.flow 1048575 <;> cases decide (P.opts.size = 0) <;> cases P.still <;> cases exsOk P.exts 0 <;> cases isHd P.proto <;> cases upB P.id 4294967295 <;> rfl
  · rw [e3 hl]
    cases upB P.flow 1048575 <;> cases decide (P.opts.size = 0) <;> cases P.still <;> rfl
set_option maxHeartbeats 16000000 in
theorem rRight_run (P : Pk) (v : Value) (w : World) (h1 : ExAt w v P.exts) (hn : P.exts.length < 4611686018427387904) (_hb : ∀ x ∈ P.exts, x.body.size ≤ 140737488355328) : Calls Tryd.prog 71 #[.agg (SC 46 (pkV P v))] w fun e w' => e = .returned (.bool (rgtP P)) ∧ Below w.heap.size w w' := by
  obtain ⟨a1, c1, rfl, _⟩ := id h1
  have HC := Hid.mk (rgtP_doc P)
  have HC6 := Hid.mk (rgt6_doc P)
  have HC4 := Hid.mk (rgt4_code P)
  generalize rgtP P = r at *
  clear _hb
  go_enter Tryd.func71, Tryd.ntmps71
  go_wp2_with (refine wl_boxO rfl rfl isPk (by rfl) ?_; intro g1 u2 hg1 q1 hB2; refine Hid.out ?_)
  refine Hid.mk ?_
  have l1 := ld_src q1
  go_wp2_with (first | (refine wl_value rfl (exec_fpk 0 (by decide) rfl (by rfl)) ?_) | (refine wl_value rfl (exec_ld rfl (by rfl) l1) ?_) | (go_at_call 61; refine (rValid_run P.sv P.sb _).mono ?_; rintro e u3 ⟨rfl, hB3⟩; refine Hid.out ?_))
  refine Hid.mk ?_
  have hBa := hB2.trans (hB3.mono hB2.size)
  have q2 := SAt.kept q1 hB3
  have l2 := ld_dst q2
  go_wp2_with (first | (refine wl_value rfl (exec_fpk 1 (by decide) rfl (by rfl)) ?_) | (refine wl_value rfl (exec_ld rfl (by rfl) l2) ?_) | (go_at_call 61; refine (rValid_run P.dv P.db _).mono ?_; rintro e u4 ⟨rfl, hB4⟩; refine Hid.out ?_))
  refine Hid.mk ?_
  have hBb := hBa.trans (hB4.mono hBa.size)
  have q4 := SAt.kept q2 hB4
  obtain ⟨v, hv⟩ : ∃ v : Value, .slice a1 P.exts.length c1 = v := ⟨_, rfl⟩
  have q4 : SAt u4 g1 39 46 (pkV P v) := by rw [← hv]; exact q4
  have HV := Hid.mk hv
  clear hv l1 l2 q1 q2
  go_upto_region 3 with fail
  refine wp_plain_steps (Below u4.heap.size u4) (fun v v' => Below v.heap.size v v') (fun j vv _ => vv = ([.pointer (some ⟨g1, 34, none⟩), .int .i64 P.proto, .bool (upB P.proto 255), .bool (upB P.proto 255), gv (upB P.proto 255) (.pointer (some ⟨g1, 35, none⟩)), gv (upB P.proto 255) (.int .i64 P.hop), gv (upB P.proto 255) (.bool (upB P.hop 255)), .bool ((upB P.proto 255) && (upB P.hop 255)), .bool ((upB P.proto 255) && (upB P.hop 255)), gv ((upB P.proto 255) && (upB P.hop 255)) (.pointer (some ⟨g1, 36, none⟩)), gv ((upB P.proto 255) && (upB P.hop 255)) (.int .i64 P.cls), gv ((upB P.proto 255) && (upB P.hop 255)) (.bool (upB P.cls 255)), .bool (((upB P.proto 255) && (upB P.hop 255)) && (upB P.cls 255)), .bool (((upB P.proto 255) && (upB P.hop 255)) && (upB P.cls 255))] : List Value).getD j undef)
      [16, 17, 18, 19, 20, 21, 22, 23, 24, 25, 26, 27, 28, 5]
      [(1, .pointer (some ⟨g1, 0, none⟩))] [] 0
      [[], [0], [1], [2], [3], [3, 4], [3, 5], [3, 6], [7], [8], [8, 9], [8, 10], [8, 11], [12]]
      (by kernel_rfl) ⟨rfl, trivial⟩ trivial (Below.refl _ _) (fun v v' h hb => h.trans (hb.mono h.size)) (fun _ _ _ _ h _ => h)
      ⟨
      (fun QQ aa ww hS fr kn => sg0 rfl (fun K hK => wp_value (exec_fpk 2 (by decide) rfl fr.1) (hK _ _ rfl (Below.refl _ _)))),
      (fun QQ aa ww hS fr kn => sg0 rfl (fun K hK => wp_value (exec_ld rfl kn.1 (ldP (pk_proto (SAt.kept q4 hS)))) (hK _ _ rfl (Below.refl _ _)))),
      (fun QQ aa ww hS fr kn => sg0 rfl (fun K hK => stepc en_within rfl (args2 kn.1 rfl) (within_run P.proto 255 ww) (fun w' hb => hK _ _ rfl hb))),
      (fun QQ aa ww hS fr kn => sg0 rfl (fun K hK => wp_value (exec_move rfl kn.1) (hK _ _ rfl (Below.refl _ _)))),
      (fun QQ aa ww hS fr kn => sgT rfl kn.1 (fun hc K hK => wp_value (exec_fpk 3 (by decide) rfl fr.1) (hK _ _ (gv_t hc).symm (Below.refl _ _))) (fun h0 => (gv_f h0).symm)),
      (fun QQ aa ww hS fr kn => sgT rfl kn.1 (fun hc K hK => wp_value (exec_ld rfl (kn.2.1.trans (gv_t hc)) (ldP (pk_hop (SAt.kept q4 hS)))) (hK _ _ (gv_t hc).symm (Below.refl _ _))) (fun h0 => (gv_f h0).symm)),
      (fun QQ aa ww hS fr kn => sgT rfl kn.1 (fun hc K hK => stepc en_within rfl (args2 (kn.2.1.trans (gv_t hc)) rfl) (within_run P.hop 255 ww) (fun w' hb => hK _ _ (gv_t hc).symm hb)) (fun h0 => (gv_f h0).symm)),
      (fun QQ aa ww hS fr kn => sg0 rfl (fun K hK => wp_value (exec_pickAnd rfl kn.1 (fun hx => kn.2.1.trans (gv_t hx)) rfl) (hK _ _ rfl (Below.refl _ _)))),
      (fun QQ aa ww hS fr kn => sg0 rfl (fun K hK => wp_value (exec_move rfl kn.1) (hK _ _ rfl (Below.refl _ _)))),
      (fun QQ aa ww hS fr kn => sgT rfl kn.1 (fun hc K hK => wp_value (exec_fpk 4 (by decide) rfl fr.1) (hK _ _ (gv_t hc).symm (Below.refl _ _))) (fun h0 => (gv_f h0).symm)),
      (fun QQ aa ww hS fr kn => sgT rfl kn.1 (fun hc K hK => wp_value (exec_ld rfl (kn.2.1.trans (gv_t hc)) (ldP (pk_cls (SAt.kept q4 hS)))) (hK _ _ (gv_t hc).symm (Below.refl _ _))) (fun h0 => (gv_f h0).symm)),
      (fun QQ aa ww hS fr kn => sgT rfl kn.1 (fun hc K hK => stepc en_within rfl (args2 (kn.2.1.trans (gv_t hc)) rfl) (within_run P.cls 255 ww) (fun w' hb => hK _ _ (gv_t hc).symm hb)) (fun h0 => (gv_f h0).symm)),
      (fun QQ aa ww hS fr kn => sg0 rfl (fun K hK => wp_value (exec_pickAnd rfl kn.1 (fun hx => kn.2.1.trans (gv_t hx)) rfl) (hK _ _ rfl (Below.refl _ _)))),
      (fun QQ aa ww hS fr kn => sg0 rfl (fun K hK => wp_value (exec_assign rfl kn.1) (hK _ _ rfl (Below.refl _ _)))),
      trivial⟩ ?_
  intro vs u5 hB5 kn
  have e5 : vs 5 = .bool (((upB P.proto 255) && (upB P.hop 255)) && (upB P.cls 255)) := kn 13 (by decide)
  clear kn
  simp only [putAll, Act.put, List.setIfInBounds_toArray, List.set_cons_zero, List.set_cons_succ, e5]
  clear e5
  have hBc := hBb.trans (hB5.mono hBb.size)
  have q5 := SAt.kept q4 hB5
  go_upto_region 4 with fail
  refine wp_plain_steps (Below u5.heap.size u5) (fun v v' => Below v.heap.size v v') (fun j vv _ => vv = ([.pointer (some ⟨g1, 38, none⟩), .int .i64 P.off, .bool (upB P.off 65528), .bool (upB P.off 65528), gv (upB P.off 65528) (.pointer (some ⟨g1, 38, none⟩)), gv (upB P.off 65528) (.int .i64 P.off), gv (upB P.off 65528) (.int .i64 (P.off % 8)), gv (upB P.off 65528) (.bool (decide (P.off % 8 = 0))), .bool ((upB P.off 65528) && (decide (P.off % 8 = 0))), .bool ((upB P.off 65528) && (decide (P.off % 8 = 0)))] : List Value).getD j undef)
      [29, 30, 31, 32, 33, 34, 35, 36, 37, 6]
      [(1, .pointer (some ⟨g1, 0, none⟩))] [] 0
      [[], [0], [1], [2], [3], [3, 4], [3, 5], [3, 6], [3, 7], [8]]
      (by kernel_rfl) ⟨rfl, trivial⟩ trivial (Below.refl _ _) (fun v v' h hb => h.trans (hb.mono h.size)) (fun _ _ _ _ h _ => h)
      ⟨
      (fun QQ aa ww hS fr kn => sg0 rfl (fun K hK => wp_value (exec_fpk 6 (by decide) rfl fr.1) (hK _ _ rfl (Below.refl _ _)))),
      (fun QQ aa ww hS fr kn => sg0 rfl (fun K hK => wp_value (exec_ld rfl kn.1 (ldP (pk_off (SAt.kept q5 hS)))) (hK _ _ rfl (Below.refl _ _)))),
      (fun QQ aa ww hS fr kn => sg0 rfl (fun K hK => stepc en_within rfl (args2 kn.1 rfl) (within_run P.off 65528 ww) (fun w' hb => hK _ _ rfl hb))),
      (fun QQ aa ww hS fr kn => sg0 rfl (fun K hK => wp_value (exec_move rfl kn.1) (hK _ _ rfl (Below.refl _ _)))),
      (fun QQ aa ww hS fr kn => sgT rfl kn.1 (fun hc K hK => wp_value (exec_fpk 6 (by decide) rfl fr.1) (hK _ _ (gv_t hc).symm (Below.refl _ _))) (fun h0 => (gv_f h0).symm)),
      (fun QQ aa ww hS fr kn => sgT rfl kn.1 (fun hc K hK => wp_value (exec_ld rfl (kn.2.1.trans (gv_t hc)) (ldP (pk_off (SAt.kept q5 hS)))) (hK _ _ (gv_t hc).symm (Below.refl _ _))) (fun h0 => (gv_f h0).symm)),
      (fun QQ aa ww hS fr kn => sgT rfl kn.1 (fun hc K hK => wp_value (rem_nn rfl (kn.2.1.trans (gv_t hc)) rfl (off_np hc) (by decide)) (hK _ _ (gv_t hc).symm (Below.refl _ _))) (fun h0 => (gv_f h0).symm)),
      (fun QQ aa ww hS fr kn => sgT rfl kn.1 (fun hc K hK => wp_value (cmp_eq (m := P.off % 8) (n := 0) rfl (kn.2.1.trans (gv_t hc)) rfl) (hK _ _ (gv_t hc).symm (Below.refl _ _))) (fun h0 => (gv_f h0).symm)),
      (fun QQ aa ww hS fr kn => sg0 rfl (fun K hK => wp_value (exec_pickAnd rfl kn.1 (fun hx => kn.2.1.trans (gv_t hx)) rfl) (hK _ _ rfl (Below.refl _ _)))),
      (fun QQ aa ww hS fr kn => sg0 rfl (fun K hK => wp_value (exec_assign rfl kn.1) (hK _ _ rfl (Below.refl _ _)))),
      trivial⟩ ?_
  intro vs u6 hB6 kn
  have e6 : vs 6 = .bool ((upB P.off 65528) && (decide (P.off % 8 = 0))) := kn 9 (by decide)
  clear kn
  simp only [putAll, Act.put, List.setIfInBounds_toArray, List.set_cons_zero, List.set_cons_succ, e6]
  clear e6
  have hBd := hBc.trans (hB6.mono hBc.size)
  have q6 := SAt.kept q5 hB6
  obtain ⟨ya, hya⟩ : ∃ c, validF P.sv P.sb = c := ⟨_, rfl⟩
  obtain ⟨yb, hyb⟩ : ∃ c, validF P.dv P.db = c := ⟨_, rfl⟩
  obtain ⟨yc, hyc⟩ : ∃ c, (((upB P.proto 255) && (upB P.hop 255)) && (upB P.cls 255)) = c := ⟨_, rfl⟩
  obtain ⟨yd, hyd⟩ : ∃ c, ((upB P.off 65528) && (decide (P.off % 8 = 0))) = c := ⟨_, rfl⟩
  rw [hya, hyb, hyc, hyd] at HC
  simp only [hya, hyb, hyc, hyd]
  clear hya hyb hyc hyd
  go_upto_region 5 with fail
  refine wp_plain_steps (Below u6.heap.size u6) (fun v v' => Below v.heap.size v v') (fun j vv _ => vv = ([.bool ya, .bool (!ya), .bool (!ya), gv (!(!ya)) (.bool yb), gv (!(!ya)) (.bool (!yb)), .bool ((!ya) || (!yb)), .bool ((!ya) || (!yb)), gv (!((!ya) || (!yb))) (.pointer (some ⟨g1, 0, none⟩)), gv (!((!ya) || (!yb))) (.pointer (some ⟨g1, 0, none⟩)), gv (!((!ya) || (!yb))) (.bool P.sv), gv (!((!ya) || (!yb))) (.pointer (some ⟨g1, 17, none⟩)), gv (!((!ya) || (!yb))) (.pointer (some ⟨g1, 17, none⟩)), gv (!((!ya) || (!yb))) (.bool P.dv), gv (!((!ya) || (!yb))) (.bool (!(P.sv == P.dv))), .bool (((!ya) || (!yb)) || (!(P.sv == P.dv))), .bool (((!ya) || (!yb)) || (!(P.sv == P.dv))), gv (!(((!ya) || (!yb)) || (!(P.sv == P.dv)))) (.bool yc), gv (!(((!ya) || (!yb)) || (!(P.sv == P.dv)))) (.bool (!yc)), .bool ((((!ya) || (!yb)) || (!(P.sv == P.dv))) || (!yc)), .bool ((((!ya) || (!yb)) || (!(P.sv == P.dv))) || (!yc)), gv (!((((!ya) || (!yb)) || (!(P.sv == P.dv))) || (!yc))) (.bool yd), gv (!((((!ya) || (!yb)) || (!(P.sv == P.dv))) || (!yc))) (.bool (!yd)), .bool (((((!ya) || (!yb)) || (!(P.sv == P.dv))) || (!yc)) || (!yd))] : List Value).getD j undef)
      [38, 39, 40, 41, 42, 43, 44, 45, 46, 47, 48, 49, 50, 51, 52, 53, 54, 55, 56, 57, 58, 59, 60]
      [(1, .pointer (some ⟨g1, 0, none⟩)), (3, .bool ya), (4, .bool yb), (5, .bool yc), (6, .bool yd)] [] 0
      [[], [0], [1], [2], [2, 3], [2, 4], [5], [6], [6, 7], [6, 8], [6], [6, 10], [6, 11], [6, 9, 12], [6, 13], [14], [15], [15, 16], [15, 17], [18], [19], [19, 20], [19, 21]]
      (by kernel_rfl) ⟨rfl, rfl, rfl, rfl, rfl, trivial⟩ trivial (Below.refl _ _) (fun v v' h hb => h.trans (hb.mono h.size)) (fun _ _ _ _ h _ => h)
      ⟨
      (fun QQ aa ww hS fr kn => sg0 rfl (fun K hK => wp_value (exec_move rfl fr.2.1) (hK _ _ rfl (Below.refl _ _)))),
      (fun QQ aa ww hS fr kn => sg0 rfl (fun K hK => wp_value (exec_notB rfl kn.1) (hK _ _ rfl (Below.refl _ _)))),
      (fun QQ aa ww hS fr kn => sg0 rfl (fun K hK => wp_value (exec_move rfl kn.1) (hK _ _ rfl (Below.refl _ _)))),
      (fun QQ aa ww hS fr kn => sgF rfl kn.1 (fun hng K hK => have hc := nt_t hng; wp_value (exec_move rfl fr.2.2.1) (hK _ _ (gv_t hc).symm (Below.refl _ _))) (fun h0 => (gv_f (nt_f h0)).symm)),
      (fun QQ aa ww hS fr kn => sgF rfl kn.1 (fun hng K hK => have hc := nt_t hng; wp_value (exec_notB rfl (kn.2.1.trans (gv_t hc))) (hK _ _ (gv_t hc).symm (Below.refl _ _))) (fun h0 => (gv_f (nt_f h0)).symm)),
      (fun QQ aa ww hS fr kn => sg0 rfl (fun K hK => wp_value (exec_pickOr rfl kn.1 rfl (fun hx => kn.2.1.trans (gv_t (nt_t hx)))) (hK _ _ rfl (Below.refl _ _)))),
      (fun QQ aa ww hS fr kn => sg0 rfl (fun K hK => wp_value (exec_move rfl kn.1) (hK _ _ rfl (Below.refl _ _)))),
      (fun QQ aa ww hS fr kn => sgF rfl kn.1 (fun hng K hK => have hc := nt_t hng; wp_value (exec_fpk 0 (by decide) rfl fr.1) (hK _ _ (gv_t hc).symm (Below.refl _ _))) (fun h0 => (gv_f (nt_f h0)).symm)),
      (fun QQ aa ww hS fr kn => sgF rfl kn.1 (fun hng K hK => have hc := nt_t hng; wp_value (exec_fad0 rfl (kn.2.1.trans (gv_t hc))) (hK _ _ (gv_t hc).symm (Below.refl _ _))) (fun h0 => (gv_f (nt_f h0)).symm)),
      (fun QQ aa ww hS fr kn => sgF rfl kn.1 (fun hng K hK => have hc := nt_t hng; wp_value (exec_ld rfl (kn.2.1.trans (gv_t hc)) (ldPb (pk_sv (SAt.kept q6 hS)))) (hK _ _ (gv_t hc).symm (Below.refl _ _))) (fun h0 => (gv_f (nt_f h0)).symm)),
      (fun QQ aa ww hS fr kn => sgF rfl kn.1 (fun hng K hK => have hc := nt_t hng; wp_value (exec_fpk 1 (by decide) rfl fr.1) (hK _ _ (gv_t hc).symm (Below.refl _ _))) (fun h0 => (gv_f (nt_f h0)).symm)),
      (fun QQ aa ww hS fr kn => sgF rfl kn.1 (fun hng K hK => have hc := nt_t hng; wp_value (exec_fad0 rfl (kn.2.1.trans (gv_t hc))) (hK _ _ (gv_t hc).symm (Below.refl _ _))) (fun h0 => (gv_f (nt_f h0)).symm)),
      (fun QQ aa ww hS fr kn => sgF rfl kn.1 (fun hng K hK => have hc := nt_t hng; wp_value (exec_ld rfl (kn.2.1.trans (gv_t hc)) (ldPb (pk_dv (SAt.kept q6 hS)))) (hK _ _ (gv_t hc).symm (Below.refl _ _))) (fun h0 => (gv_f (nt_f h0)).symm)),
      (fun QQ aa ww hS fr kn => sgF rfl kn.1 (fun hng K hK => have hc := nt_t hng; wp_value (cmp_neB rfl (kn.2.1.trans (gv_t hc)) (kn.2.2.1.trans (gv_t hc))) (hK _ _ (gv_t hc).symm (Below.refl _ _))) (fun h0 => (gv_f (nt_f h0)).symm)),
      (fun QQ aa ww hS fr kn => sg0 rfl (fun K hK => wp_value (exec_pickOr rfl kn.1 rfl (fun hx => kn.2.1.trans (gv_t (nt_t hx)))) (hK _ _ rfl (Below.refl _ _)))),
      (fun QQ aa ww hS fr kn => sg0 rfl (fun K hK => wp_value (exec_move rfl kn.1) (hK _ _ rfl (Below.refl _ _)))),
      (fun QQ aa ww hS fr kn => sgF rfl kn.1 (fun hng K hK => have hc := nt_t hng; wp_value (exec_move rfl fr.2.2.2.1) (hK _ _ (gv_t hc).symm (Below.refl _ _))) (fun h0 => (gv_f (nt_f h0)).symm)),
      (fun QQ aa ww hS fr kn => sgF rfl kn.1 (fun hng K hK => have hc := nt_t hng; wp_value (exec_notB rfl (kn.2.1.trans (gv_t hc))) (hK _ _ (gv_t hc).symm (Below.refl _ _))) (fun h0 => (gv_f (nt_f h0)).symm)),
      (fun QQ aa ww hS fr kn => sg0 rfl (fun K hK => wp_value (exec_pickOr rfl kn.1 rfl (fun hx => kn.2.1.trans (gv_t (nt_t hx)))) (hK _ _ rfl (Below.refl _ _)))),
      (fun QQ aa ww hS fr kn => sg0 rfl (fun K hK => wp_value (exec_move rfl kn.1) (hK _ _ rfl (Below.refl _ _)))),
      (fun QQ aa ww hS fr kn => sgF rfl kn.1 (fun hng K hK => have hc := nt_t hng; wp_value (exec_move rfl fr.2.2.2.2.1) (hK _ _ (gv_t hc).symm (Below.refl _ _))) (fun h0 => (gv_f (nt_f h0)).symm)),
      (fun QQ aa ww hS fr kn => sgF rfl kn.1 (fun hng K hK => have hc := nt_t hng; wp_value (exec_notB rfl (kn.2.1.trans (gv_t hc))) (hK _ _ (gv_t hc).symm (Below.refl _ _))) (fun h0 => (gv_f (nt_f h0)).symm)),
      (fun QQ aa ww hS fr kn => sg0 rfl (fun K hK => wp_value (exec_pickOr rfl kn.1 rfl (fun hx => kn.2.1.trans (gv_t (nt_t hx)))) (hK _ _ rfl (Below.refl _ _)))),
      trivial⟩ ?_
  intro vs u7 hB7 kn
  have e60 : vs 60 = .bool (((((!ya) || (!yb)) || (!(P.sv == P.dv))) || (!yc)) || (!yd)) := kn 22 (by decide)
  clear kn
  simp only [putAll, Act.put, List.setIfInBounds_toArray, List.set_cons_zero, List.set_cons_succ, e60]
  clear e60
  have hBe := hBd.trans (hB7.mono hBd.size)
  have q7 := SAt.kept q6 hB7
  obtain ⟨c, hc⟩ : ∃ c, (((((!ya) || (!yb)) || (!(P.sv == P.dv))) || (!yc)) || (!yd)) = c := ⟨_, rfl⟩
  rw [hc] at HC ⊢
  clear hc
  cases c
  · have q7 : SAt u7 g1 39 46 (pkV P (.slice a1 P.exts.length c1)) := by rw [HV.out]; exact q7
    have s0 := pk_sv q7
    cases hsv : P.sv
    · have hr : r = rgt4 P := by rw [HC.out, hsv]; rfl
      rw [hsv] at s0
      go_upto_region 8 with (first | (refine wl_value rfl (exec_fpk 0 (by decide) rfl (by rfl)) ?_) | (refine wl_value rfl (exec_fad0 rfl (by rfl)) ?_) | (refine wl_value rfl (exec_ld rfl (by rfl) (ldPb s0)) ?_))
      refine wp_plain_steps (Below u7.heap.size u7) (fun v v' => Below v.heap.size v v') (fun j vv _ => vv = ((.pointer (some ⟨g1, 37, none⟩) :: .int .i64 P.id :: .bool (upB P.id 65535) :: .bool (upB P.id 65535) :: gv (upB P.id 65535) (.pointer (some ⟨g1, 41, none⟩)) :: gv (upB P.id 65535) (.string P.opts) :: gv (upB P.id 65535) (.int .i64 (P.opts.size : Int)) :: gv (upB P.id 65535) (.int .i64 ((P.opts.size % 4 : Nat) : Int)) :: gv (upB P.id 65535) (.bool (decide (((P.opts.size % 4 : Nat) : Int) = 0))) :: .bool ((upB P.id 65535) && (decide (((P.opts.size % 4 : Nat) : Int) = 0))) :: .bool ((upB P.id 65535) && (decide (((P.opts.size % 4 : Nat) : Int) = 0))) :: gv ((upB P.id 65535) && (decide (((P.opts.size % 4 : Nat) : Int) = 0))) (.pointer (some ⟨g1, 41, none⟩)) :: gv ((upB P.id 65535) && (decide (((P.opts.size % 4 : Nat) : Int) = 0))) (.string P.opts) :: gv ((upB P.id 65535) && (decide (((P.opts.size % 4 : Nat) : Int) = 0))) (.int .i64 (P.opts.size : Int)) :: gv ((upB P.id 65535) && (decide (((P.opts.size % 4 : Nat) : Int) = 0))) (.bool (decide ((P.opts.size : Int) ≤ 40))) :: .bool (((upB P.id 65535) && (decide (((P.opts.size % 4 : Nat) : Int) = 0))) && (decide ((P.opts.size : Int) ≤ 40))) :: .bool (((upB P.id 65535) && (decide (((P.opts.size % 4 : Nat) : Int) = 0))) && (decide ((P.opts.size : Int) ≤ 40))) :: gv (((upB P.id 65535) && (decide (((P.opts.size % 4 : Nat) : Int) = 0))) && (decide ((P.opts.size : Int) ≤ 40))) (.pointer (some ⟨g1, 42, none⟩)) :: gv (((upB P.id 65535) && (decide (((P.opts.size % 4 : Nat) : Int) = 0))) && (decide ((P.opts.size : Int) ≤ 40))) (.int .i64 P.flow) :: gv (((upB P.id 65535) && (decide (((P.opts.size % 4 : Nat) : Int) = 0))) && (decide ((P.opts.size : Int) ≤ 40))) (.bool (decide (P.flow = 0))) :: .bool ((((upB P.id 65535) && (decide (((P.opts.size % 4 : Nat) : Int) = 0))) && (decide ((P.opts.size : Int) ≤ 40))) && (decide (P.flow = 0))) :: .bool ((((upB P.id 65535) && (decide (((P.opts.size % 4 : Nat) : Int) = 0))) && (decide ((P.opts.size : Int) ≤ 40))) && (decide (P.flow = 0))) :: gv ((((upB P.id 65535) && (decide (((P.opts.size % 4 : Nat) : Int) = 0))) && (decide ((P.opts.size : Int) ≤ 40))) && (decide (P.flow = 0))) (.pointer (some ⟨g1, 43, none⟩)) :: gv ((((upB P.id 65535) && (decide (((P.opts.size % 4 : Nat) : Int) = 0))) && (decide ((P.opts.size : Int) ≤ 40))) && (decide (P.flow = 0))) (.slice a1 P.exts.length c1) :: gv ((((upB P.id 65535) && (decide (((P.opts.size % 4 : Nat) : Int) = 0))) && (decide ((P.opts.size : Int) ≤ 40))) && (decide (P.flow = 0))) (.int .i64 (P.exts.length : Int)) :: gv ((((upB P.id 65535) && (decide (((P.opts.size % 4 : Nat) : Int) = 0))) && (decide ((P.opts.size : Int) ≤ 40))) && (decide (P.flow = 0))) (.bool (decide ((P.exts.length : Int) = 0))) :: .bool (((((upB P.id 65535) && (decide (((P.opts.size % 4 : Nat) : Int) = 0))) && (decide ((P.opts.size : Int) ≤ 40))) && (decide (P.flow = 0))) && (decide ((P.exts.length : Int) = 0))) :: .bool (((((upB P.id 65535) && (decide (((P.opts.size % 4 : Nat) : Int) = 0))) && (decide ((P.opts.size : Int) ≤ 40))) && (decide (P.flow = 0))) && (decide ((P.exts.length : Int) = 0))) :: gv (((((upB P.id 65535) && (decide (((P.opts.size % 4 : Nat) : Int) = 0))) && (decide ((P.opts.size : Int) ≤ 40))) && (decide (P.flow = 0))) && (decide ((P.exts.length : Int) = 0))) (.pointer (some ⟨g1, 44, none⟩)) :: gv (((((upB P.id 65535) && (decide (((P.opts.size % 4 : Nat) : Int) = 0))) && (decide ((P.opts.size : Int) ≤ 40))) && (decide (P.flow = 0))) && (decide ((P.exts.length : Int) = 0))) (.bool P.cut) :: gv (((((upB P.id 65535) && (decide (((P.opts.size % 4 : Nat) : Int) = 0))) && (decide ((P.opts.size : Int) ≤ 40))) && (decide (P.flow = 0))) && (decide ((P.exts.length : Int) = 0))) (.bool (!P.cut)) :: .bool ((((((upB P.id 65535) && (decide (((P.opts.size % 4 : Nat) : Int) = 0))) && (decide ((P.opts.size : Int) ≤ 40))) && (decide (P.flow = 0))) && (decide ((P.exts.length : Int) = 0))) && (!P.cut)) :: .bool ((((((upB P.id 65535) && (decide (((P.opts.size % 4 : Nat) : Int) = 0))) && (decide ((P.opts.size : Int) ≤ 40))) && (decide (P.flow = 0))) && (decide ((P.exts.length : Int) = 0))) && (!P.cut)) :: []) : List Value).getD j undef)
          (65 :: 66 :: 67 :: 68 :: 69 :: 70 :: 71 :: 72 :: 73 :: 74 :: 75 :: 76 :: 77 :: 78 :: 79 :: 80 :: 81 :: 82 :: 83 :: 84 :: 85 :: 86 :: 87 :: 88 :: 89 :: 90 :: 91 :: 92 :: 93 :: 94 :: 95 :: 96 :: 2 :: [])
          [(1, .pointer (some ⟨g1, 0, none⟩))] [] 0
          ([] :: [0] :: [1] :: [2] :: [3] :: [3, 4] :: [3, 5] :: [3, 6] :: [3, 7] :: [3, 8] :: [9] :: [10] :: [10, 11] :: [10, 12] :: [10, 13] :: [10, 14] :: [15] :: [16] :: [16, 17] :: [16, 18] :: [16, 19] :: [20] :: [21] :: [21, 22] :: [21, 23] :: [21, 24] :: [21, 25] :: [26] :: [27] :: [27, 28] :: [27, 29] :: [27, 30] :: [31] :: [])
          (by kernel_rfl) ⟨rfl, trivial⟩ trivial (Below.refl _ _) (fun v v' h hb => h.trans (hb.mono h.size)) (fun _ _ _ _ h _ => h)
          ⟨
          (fun QQ aa ww hS fr kn => sg0 rfl (fun K hK => wp_value (exec_fpk 5 (by decide) rfl fr.1) (hK _ _ rfl (Below.refl _ _)))),
          (fun QQ aa ww hS fr kn => sg0 rfl (fun K hK => wp_value (exec_ld rfl kn.1 (ldP (pk_id (SAt.kept q7 hS)))) (hK _ _ rfl (Below.refl _ _)))),
          (fun QQ aa ww hS fr kn => sg0 rfl (fun K hK => stepc en_within rfl (args2 kn.1 rfl) (within_run P.id 65535 ww) (fun w' hb => hK _ _ rfl hb))),
          (fun QQ aa ww hS fr kn => sg0 rfl (fun K hK => wp_value (exec_move rfl kn.1) (hK _ _ rfl (Below.refl _ _)))),
          (fun QQ aa ww hS fr kn => sgT rfl kn.1 (fun hc K hK => wp_value (exec_fpk 9 (by decide) rfl fr.1) (hK _ _ (gv_t hc).symm (Below.refl _ _))) (fun h0 => (gv_f h0).symm)),
          (fun QQ aa ww hS fr kn => sgT rfl kn.1 (fun hc K hK => wp_value (exec_ld rfl (kn.2.1.trans (gv_t hc)) (ldPs (pk_opts (SAt.kept q7 hS)))) (hK _ _ (gv_t hc).symm (Below.refl _ _))) (fun h0 => (gv_f h0).symm)),
          (fun QQ aa ww hS fr kn => sgT rfl kn.1 (fun hc K hK => wp_value (exec_lenS rfl (kn.2.1.trans (gv_t hc))) (hK _ _ (gv_t hc).symm (Below.refl _ _))) (fun h0 => (gv_f h0).symm)),
          (fun QQ aa ww hS fr kn => sgT rfl kn.1 (fun hc K hK => wp_value (exec_remW (i := P.opts.size) (m := 4) rfl (kn.2.1.trans (gv_t hc)) rfl rfl (by decide)) (hK _ _ (gv_t hc).symm (Below.refl _ _))) (fun h0 => (gv_f h0).symm)),
          (fun QQ aa ww hS fr kn => sgT rfl kn.1 (fun hc K hK => wp_value (cmp_eq (m := ((P.opts.size % 4 : Nat) : Int)) (n := 0) rfl (kn.2.1.trans (gv_t hc)) rfl) (hK _ _ (gv_t hc).symm (Below.refl _ _))) (fun h0 => (gv_f h0).symm)),
          (fun QQ aa ww hS fr kn => sg0 rfl (fun K hK => wp_value (exec_pickAnd rfl kn.1 (fun hx => kn.2.1.trans (gv_t hx)) rfl) (hK _ _ rfl (Below.refl _ _)))),
          (fun QQ aa ww hS fr kn => sg0 rfl (fun K hK => wp_value (exec_move rfl kn.1) (hK _ _ rfl (Below.refl _ _)))),
          (fun QQ aa ww hS fr kn => sgT rfl kn.1 (fun hc K hK => wp_value (exec_fpk 9 (by decide) rfl fr.1) (hK _ _ (gv_t hc).symm (Below.refl _ _))) (fun h0 => (gv_f h0).symm)),
          (fun QQ aa ww hS fr kn => sgT rfl kn.1 (fun hc K hK => wp_value (exec_ld rfl (kn.2.1.trans (gv_t hc)) (ldPs (pk_opts (SAt.kept q7 hS)))) (hK _ _ (gv_t hc).symm (Below.refl _ _))) (fun h0 => (gv_f h0).symm)),
          (fun QQ aa ww hS fr kn => sgT rfl kn.1 (fun hc K hK => wp_value (exec_lenS rfl (kn.2.1.trans (gv_t hc))) (hK _ _ (gv_t hc).symm (Below.refl _ _))) (fun h0 => (gv_f h0).symm)),
          (fun QQ aa ww hS fr kn => sgT rfl kn.1 (fun hc K hK => wp_value (cmp_le (m := (P.opts.size : Int)) (n := 40) rfl (kn.2.1.trans (gv_t hc)) rfl) (hK _ _ (gv_t hc).symm (Below.refl _ _))) (fun h0 => (gv_f h0).symm)),
          (fun QQ aa ww hS fr kn => sg0 rfl (fun K hK => wp_value (exec_pickAnd rfl kn.1 (fun hx => kn.2.1.trans (gv_t hx)) rfl) (hK _ _ rfl (Below.refl _ _)))),
          (fun QQ aa ww hS fr kn => sg0 rfl (fun K hK => wp_value (exec_move rfl kn.1) (hK _ _ rfl (Below.refl _ _)))),
          (fun QQ aa ww hS fr kn => sgT rfl kn.1 (fun hc K hK => wp_value (exec_fpk 10 (by decide) rfl fr.1) (hK _ _ (gv_t hc).symm (Below.refl _ _))) (fun h0 => (gv_f h0).symm)),
          (fun QQ aa ww hS fr kn => sgT rfl kn.1 (fun hc K hK => wp_value (exec_ld rfl (kn.2.1.trans (gv_t hc)) (ldP (pk_flow (SAt.kept q7 hS)))) (hK _ _ (gv_t hc).symm (Below.refl _ _))) (fun h0 => (gv_f h0).symm)),
          (fun QQ aa ww hS fr kn => sgT rfl kn.1 (fun hc K hK => wp_value (cmp_eq (m := P.flow) (n := 0) rfl (kn.2.1.trans (gv_t hc)) rfl) (hK _ _ (gv_t hc).symm (Below.refl _ _))) (fun h0 => (gv_f h0).symm)),
          (fun QQ aa ww hS fr kn => sg0 rfl (fun K hK => wp_value (exec_pickAnd rfl kn.1 (fun hx => kn.2.1.trans (gv_t hx)) rfl) (hK _ _ rfl (Below.refl _ _)))),
          (fun QQ aa ww hS fr kn => sg0 rfl (fun K hK => wp_value (exec_move rfl kn.1) (hK _ _ rfl (Below.refl _ _)))),
          (fun QQ aa ww hS fr kn => sgT rfl kn.1 (fun hc K hK => wp_value (exec_fpk 11 (by decide) rfl fr.1) (hK _ _ (gv_t hc).symm (Below.refl _ _))) (fun h0 => (gv_f h0).symm)),
          (fun QQ aa ww hS fr kn => sgT rfl kn.1 (fun hc K hK => wp_value (exec_ld rfl (kn.2.1.trans (gv_t hc)) (ldPx (pk_exts (SAt.kept q7 hS)))) (hK _ _ (gv_t hc).symm (Below.refl _ _))) (fun h0 => (gv_f h0).symm)),
          (fun QQ aa ww hS fr kn => sgT rfl kn.1 (fun hc K hK => wp_value (exec_lenX rfl (kn.2.1.trans (gv_t hc))) (hK _ _ (gv_t hc).symm (Below.refl _ _))) (fun h0 => (gv_f h0).symm)),
          (fun QQ aa ww hS fr kn => sgT rfl kn.1 (fun hc K hK => wp_value (cmp_eq (m := (P.exts.length : Int)) (n := 0) rfl (kn.2.1.trans (gv_t hc)) rfl) (hK _ _ (gv_t hc).symm (Below.refl _ _))) (fun h0 => (gv_f h0).symm)),
          (fun QQ aa ww hS fr kn => sg0 rfl (fun K hK => wp_value (exec_pickAnd rfl kn.1 (fun hx => kn.2.1.trans (gv_t hx)) rfl) (hK _ _ rfl (Below.refl _ _)))),
          (fun QQ aa ww hS fr kn => sg0 rfl (fun K hK => wp_value (exec_move rfl kn.1) (hK _ _ rfl (Below.refl _ _)))),
          (fun QQ aa ww hS fr kn => sgT rfl kn.1 (fun hc K hK => wp_value (exec_fpk 12 (by decide) rfl fr.1) (hK _ _ (gv_t hc).symm (Below.refl _ _))) (fun h0 => (gv_f h0).symm)),
          (fun QQ aa ww hS fr kn => sgT rfl kn.1 (fun hc K hK => wp_value (exec_ld rfl (kn.2.1.trans (gv_t hc)) (ldPb (pk_cut (SAt.kept q7 hS)))) (hK _ _ (gv_t hc).symm (Below.refl _ _))) (fun h0 => (gv_f h0).symm)),
          (fun QQ aa ww hS fr kn => sgT rfl kn.1 (fun hc K hK => wp_value (exec_notB rfl (kn.2.1.trans (gv_t hc))) (hK _ _ (gv_t hc).symm (Below.refl _ _))) (fun h0 => (gv_f h0).symm)),
          (fun QQ aa ww hS fr kn => sg0 rfl (fun K hK => wp_value (exec_pickAnd rfl kn.1 (fun hx => kn.2.1.trans (gv_t hx)) rfl) (hK _ _ rfl (Below.refl _ _)))),
          (fun QQ aa ww hS fr kn => sg0 rfl (fun K hK => wp_value (exec_assign rfl kn.1) (hK _ _ rfl (Below.refl _ _)))),
          trivial⟩ ?_
      intro vs u8 hB8 kn
      have e2 : vs 2 = .bool ((((((upB P.id 65535) && (decide (((P.opts.size % 4 : Nat) : Int) = 0))) && (decide ((P.opts.size : Int) ≤ 40))) && (decide (P.flow = 0))) && (decide ((P.exts.length : Int) = 0))) && (!P.cut)) := kn 32 (by decide)
      clear kn
      simp only [putAll, Act.put, List.setIfInBounds_toArray, List.set_cons_zero, List.set_cons_succ, e2]
      clear e2
      go_wp2_with fail
      go_ret
      exact ⟨by rw [hr, ← HC4.out]; rfl, hBe.trans (hB8.mono hBe.size)⟩
    · have hr : r = rgt6 P := by rw [HC.out, hsv]; rfl
      rw [hsv] at s0
      have HC7 := Hid.mk (hr.trans HC6.out)
      clear HC HC6 HC4 hr
      go_upto_region 9 with (first | (refine wl_value rfl (exec_fpk 0 (by decide) rfl (by rfl)) ?_) | (refine wl_value rfl (exec_fad0 rfl (by rfl)) ?_) | (refine wl_value rfl (exec_ld rfl (by rfl) (ldPb s0)) ?_))
      refine wp_plain_steps (Below u7.heap.size u7) (fun v v' => Below v.heap.size v v') (fun j vv _ => vv = ([.pointer (some ⟨g1, 42, none⟩), .int .i64 P.flow, .bool (upB P.flow 1048575), .bool (!(upB P.flow 1048575)), .bool (!(upB P.flow 1048575)), gv (!(!(upB P.flow 1048575))) (.pointer (some ⟨g1, 41, none⟩)), gv (!(!(upB P.flow 1048575))) (.string P.opts), gv (!(!(upB P.flow 1048575))) (.bool (!decide (P.opts = ByteArray.empty))), .bool ((!(upB P.flow 1048575)) || (!decide (P.opts = ByteArray.empty))), .bool ((!(upB P.flow 1048575)) || (!decide (P.opts = ByteArray.empty))), gv (!((!(upB P.flow 1048575)) || (!decide (P.opts = ByteArray.empty)))) (.pointer (some ⟨g1, 40, none⟩)), gv (!((!(upB P.flow 1048575)) || (!decide (P.opts = ByteArray.empty)))) (.bool P.still), .bool (((!(upB P.flow 1048575)) || (!decide (P.opts = ByteArray.empty))) || P.still), .bool (((!(upB P.flow 1048575)) || (!decide (P.opts = ByteArray.empty))) || P.still), gv (!(((!(upB P.flow 1048575)) || (!decide (P.opts = ByteArray.empty))) || P.still)) (.pointer (some ⟨g1, 43, none⟩)), gv (!(((!(upB P.flow 1048575)) || (!decide (P.opts = ByteArray.empty))) || P.still)) (.slice a1 P.exts.length c1), gv (!(((!(upB P.flow 1048575)) || (!decide (P.opts = ByteArray.empty))) || P.still)) (.int .i64 (P.exts.length : Int)), gv (!(((!(upB P.flow 1048575)) || (!decide (P.opts = ByteArray.empty))) || P.still)) (.bool (decide (4 < (P.exts.length : Int)))), .bool ((((!(upB P.flow 1048575)) || (!decide (P.opts = ByteArray.empty))) || P.still) || (decide (4 < (P.exts.length : Int)))), .bool ((((!(upB P.flow 1048575)) || (!decide (P.opts = ByteArray.empty))) || P.still) || (decide (4 < (P.exts.length : Int)))), gv (!((((!(upB P.flow 1048575)) || (!decide (P.opts = ByteArray.empty))) || P.still) || (decide (4 < (P.exts.length : Int))))) (.pointer (some ⟨g1, 37, none⟩)), gv (!((((!(upB P.flow 1048575)) || (!decide (P.opts = ByteArray.empty))) || P.still) || (decide (4 < (P.exts.length : Int))))) (.int .i64 P.id), gv (!((((!(upB P.flow 1048575)) || (!decide (P.opts = ByteArray.empty))) || P.still) || (decide (4 < (P.exts.length : Int))))) (.bool (upB P.id 4294967295)), gv (!((((!(upB P.flow 1048575)) || (!decide (P.opts = ByteArray.empty))) || P.still) || (decide (4 < (P.exts.length : Int))))) (.bool (!(upB P.id 4294967295))), .bool (((((!(upB P.flow 1048575)) || (!decide (P.opts = ByteArray.empty))) || P.still) || (decide (4 < (P.exts.length : Int)))) || (!(upB P.id 4294967295)))] : List Value).getD j undef)
          [97, 98, 99, 100, 101, 102, 103, 104, 105, 106, 107, 108, 109, 110, 111, 112, 113, 114, 115, 116, 117, 118, 119, 120, 121]
          [(1, .pointer (some ⟨g1, 0, none⟩))] [] 0
          [[], [0], [1], [2], [3], [4], [4, 5], [4, 6], [4, 7], [8], [9], [9, 10], [9, 11], [12], [13], [13, 14], [13, 15], [13, 16], [13, 17], [18], [19], [19, 20], [19, 21], [19, 22], [19, 23]]
          (by kernel_rfl) ⟨rfl, trivial⟩ trivial (Below.refl _ _) (fun v v' h hb => h.trans (hb.mono h.size)) (fun _ _ _ _ h _ => h)
          ⟨
          (fun QQ aa ww hS fr kn => sg0 rfl (fun K hK => wp_value (exec_fpk 10 (by decide) rfl fr.1) (hK _ _ rfl (Below.refl _ _)))),
          (fun QQ aa ww hS fr kn => sg0 rfl (fun K hK => wp_value (exec_ld rfl kn.1 (ldP (pk_flow (SAt.kept q7 hS)))) (hK _ _ rfl (Below.refl _ _)))),
          (fun QQ aa ww hS fr kn => sg0 rfl (fun K hK => stepc en_within rfl (args2 kn.1 rfl) (within_run P.flow 1048575 ww) (fun w' hb => hK _ _ rfl hb))),
          (fun QQ aa ww hS fr kn => sg0 rfl (fun K hK => wp_value (exec_notB rfl kn.1) (hK _ _ rfl (Below.refl _ _)))),
          (fun QQ aa ww hS fr kn => sg0 rfl (fun K hK => wp_value (exec_move rfl kn.1) (hK _ _ rfl (Below.refl _ _)))),
          (fun QQ aa ww hS fr kn => sgF rfl kn.1 (fun hng K hK => have hc := nt_t hng; wp_value (exec_fpk 9 (by decide) rfl fr.1) (hK _ _ (gv_t hc).symm (Below.refl _ _))) (fun h0 => (gv_f (nt_f h0)).symm)),
          (fun QQ aa ww hS fr kn => sgF rfl kn.1 (fun hng K hK => have hc := nt_t hng; wp_value (exec_ld rfl (kn.2.1.trans (gv_t hc)) (ldPs (pk_opts (SAt.kept q7 hS)))) (hK _ _ (gv_t hc).symm (Below.refl _ _))) (fun h0 => (gv_f (nt_f h0)).symm)),
          (fun QQ aa ww hS fr kn => sgF rfl kn.1 (fun hng K hK => have hc := nt_t hng; wp_value (cmp_neS (s := P.opts) (t := ByteArray.empty) rfl (kn.2.1.trans (gv_t hc)) rfl) (hK _ _ (gv_t hc).symm (Below.refl _ _))) (fun h0 => (gv_f (nt_f h0)).symm)),
          (fun QQ aa ww hS fr kn => sg0 rfl (fun K hK => wp_value (exec_pickOr rfl kn.1 rfl (fun hx => kn.2.1.trans (gv_t (nt_t hx)))) (hK _ _ rfl (Below.refl _ _)))),
          (fun QQ aa ww hS fr kn => sg0 rfl (fun K hK => wp_value (exec_move rfl kn.1) (hK _ _ rfl (Below.refl _ _)))),
          (fun QQ aa ww hS fr kn => sgF rfl kn.1 (fun hng K hK => have hc := nt_t hng; wp_value (exec_fpk 8 (by decide) rfl fr.1) (hK _ _ (gv_t hc).symm (Below.refl _ _))) (fun h0 => (gv_f (nt_f h0)).symm)),
          (fun QQ aa ww hS fr kn => sgF rfl kn.1 (fun hng K hK => have hc := nt_t hng; wp_value (exec_ld rfl (kn.2.1.trans (gv_t hc)) (ldPb (pk_still (SAt.kept q7 hS)))) (hK _ _ (gv_t hc).symm (Below.refl _ _))) (fun h0 => (gv_f (nt_f h0)).symm)),
          (fun QQ aa ww hS fr kn => sg0 rfl (fun K hK => wp_value (exec_pickOr rfl kn.1 rfl (fun hx => kn.2.1.trans (gv_t (nt_t hx)))) (hK _ _ rfl (Below.refl _ _)))),
          (fun QQ aa ww hS fr kn => sg0 rfl (fun K hK => wp_value (exec_move rfl kn.1) (hK _ _ rfl (Below.refl _ _)))),
          (fun QQ aa ww hS fr kn => sgF rfl kn.1 (fun hng K hK => have hc := nt_t hng; wp_value (exec_fpk 11 (by decide) rfl fr.1) (hK _ _ (gv_t hc).symm (Below.refl _ _))) (fun h0 => (gv_f (nt_f h0)).symm)),
          (fun QQ aa ww hS fr kn => sgF rfl kn.1 (fun hng K hK => have hc := nt_t hng; wp_value (exec_ld rfl (kn.2.1.trans (gv_t hc)) (ldPx (pk_exts (SAt.kept q7 hS)))) (hK _ _ (gv_t hc).symm (Below.refl _ _))) (fun h0 => (gv_f (nt_f h0)).symm)),
          (fun QQ aa ww hS fr kn => sgF rfl kn.1 (fun hng K hK => have hc := nt_t hng; wp_value (exec_lenX rfl (kn.2.1.trans (gv_t hc))) (hK _ _ (gv_t hc).symm (Below.refl _ _))) (fun h0 => (gv_f (nt_f h0)).symm)),
          (fun QQ aa ww hS fr kn => sgF rfl kn.1 (fun hng K hK => have hc := nt_t hng; wp_value (cmp_gt (m := (P.exts.length : Int)) (n := 4) rfl (kn.2.1.trans (gv_t hc)) rfl) (hK _ _ (gv_t hc).symm (Below.refl _ _))) (fun h0 => (gv_f (nt_f h0)).symm)),
          (fun QQ aa ww hS fr kn => sg0 rfl (fun K hK => wp_value (exec_pickOr rfl kn.1 rfl (fun hx => kn.2.1.trans (gv_t (nt_t hx)))) (hK _ _ rfl (Below.refl _ _)))),
          (fun QQ aa ww hS fr kn => sg0 rfl (fun K hK => wp_value (exec_move rfl kn.1) (hK _ _ rfl (Below.refl _ _)))),
          (fun QQ aa ww hS fr kn => sgF rfl kn.1 (fun hng K hK => have hc := nt_t hng; wp_value (exec_fpk 5 (by decide) rfl fr.1) (hK _ _ (gv_t hc).symm (Below.refl _ _))) (fun h0 => (gv_f (nt_f h0)).symm)),
          (fun QQ aa ww hS fr kn => sgF rfl kn.1 (fun hng K hK => have hc := nt_t hng; wp_value (exec_ld rfl (kn.2.1.trans (gv_t hc)) (ldP (pk_id (SAt.kept q7 hS)))) (hK _ _ (gv_t hc).symm (Below.refl _ _))) (fun h0 => (gv_f (nt_f h0)).symm)),
          (fun QQ aa ww hS fr kn => sgF rfl kn.1 (fun hng K hK => have hc := nt_t hng; stepc en_within rfl (args2 (kn.2.1.trans (gv_t hc)) rfl) (within_run P.id 4294967295 ww) (fun w' hb => hK _ _ (gv_t hc).symm hb)) (fun h0 => (gv_f (nt_f h0)).symm)),
          (fun QQ aa ww hS fr kn => sgF rfl kn.1 (fun hng K hK => have hc := nt_t hng; wp_value (exec_notB rfl (kn.2.1.trans (gv_t hc))) (hK _ _ (gv_t hc).symm (Below.refl _ _))) (fun h0 => (gv_f (nt_f h0)).symm)),
          (fun QQ aa ww hS fr kn => sg0 rfl (fun K hK => wp_value (exec_pickOr rfl kn.1 rfl (fun hx => kn.2.1.trans (gv_t (nt_t hx)))) (hK _ _ rfl (Below.refl _ _)))),
          trivial⟩ ?_
      intro vs u8 hB8 kn
      have e121 : vs 121 = .bool (((((!(upB P.flow 1048575)) || (!decide (P.opts = ByteArray.empty))) || P.still) || (decide (4 < (P.exts.length : Int)))) || (!(upB P.id 4294967295))) := kn 24 (by decide)
      clear kn
      simp only [putAll, Act.put, List.setIfInBounds_toArray, List.set_cons_zero, List.set_cons_succ, e121]
      clear e121
      have hBf := hBe.trans (hB8.mono hBe.size)
      have q8 := SAt.kept q7 hB8
      have hx8 := h1.kept hBf
      obtain ⟨c, hc⟩ : ∃ c, (((((!(upB P.flow 1048575)) || (!decide (P.opts = ByteArray.empty))) || P.still) || (decide (4 < (P.exts.length : Int)))) || (!(upB P.id 4294967295))) = c := ⟨_, rfl⟩
      have HK9 := Hid.mk hc
      rw [hc] at HC7 ⊢
      clear hc
      cases c
      · have hlen : P.exts.length ≤ 4 := by
          have h := HK9.out
          simp only [Bool.or_eq_false_iff, decide_eq_false_iff_not] at h
          omega
        clear HK9
        have HR : Hid (exsOk P.exts 0 = exsOk (P.exts.drop 0) 0) := Hid.mk (by rw [List.drop_zero])
        have HE : Hid (∀ j, exsOk (P.exts.drop P.exts.length) j = true) := Hid.mk (fun j => by rw [List.drop_length]; rfl)
        obtain ⟨n, hnn⟩ : ∃ n, P.exts.length = n := ⟨_, rfl⟩
        have HN := Hid.mk hnn
        rw [hnn] at hx8 q8 hn HE hlen ⊢
        clear hnn HV q7 s0
        go_wp2_with fail
        go_loopg [7] n (fun gm s7 z => ∃ i : Nat, Hid (gm + i = n) ∧ s7 = .int .i64 (i : Int) ∧ Hid (exsOk P.exts 0 = exsOk (P.exts.drop i) i) ∧ Below u8.heap.size u8 z)
        case atStart => exact ⟨0, Hid.mk rfl, rfl, HR, Below.refl _ _⟩
        case round =>
          obtain ⟨i, HI, rfl, HRi, hBz⟩ := hrel
          have q9 := SAt.kept q8 hBz
          have t1 := pk_exts q9
          have hBg := hBf.trans (hBz.mono hBf.size)
          by_cases hil : i < n
          · have hili : (i : Int) < (n : Int) := by omega
            obtain ⟨x, hx⟩ := list_at (l := P.exts) (i := i) (by rw [HN.out]; exact hil)
            have HS := Hid.mk (exsOk_step (j := i) hx)
            obtain ⟨p1, rfl, k1, k1b⟩ := hx8.sl hBz hx
            have H1 := Hid.mk hil
            have hld := ldEx (e := x) k1 k1b
            have hi4 : i < 4 := by omega
            go_wp2_with (first | (refine wl_value rfl (exec_fpk 11 (by decide) rfl (by rfl)) ?_) | (refine wl_value rfl (exec_ld rfl (by rfl) (ldPx t1)) ?_) | (refine wl_value rfl (exec_ixE (i := i) rfl (by rfl) (by rfl) H1.out) ?_) | (refine wl_value rfl (exec_ld rfl (by rfl) hld) ?_) | (go_at_call 92; refine (rExt_run x i _ hi4).mono ?_; rintro e y2 ⟨rfl, hC2⟩; refine Hid.out ?_))
            refine Hid.mk ?_
            have hBh := hBg.trans (hC2.mono hBg.size)
            have hBy := hBz.trans (hC2.mono hBz.size)
            cases hq : exOk x i
            · have hr : r = false := by rw [HC7.out, HRi.out, HS.out, hq]; rfl
              go_wp2_with fail
              go_ret
              exact ⟨by rw [hr]; rfl, hBh⟩
            · have HR2 : Hid (exsOk P.exts 0 = exsOk (P.exts.drop (i + 1)) (i + 1)) := Hid.mk (by rw [HRi.out, HS.out, hq]; rfl)
              go_wp2_with fail
              go_roundg (n - (i + 1))
              case rel => exact ⟨i + 1, Hid.mk (by omega), by go_num, HR2, hBy⟩
              case measure => have := HI.out; omega
          · have hi2 : i = n := by have := HI.out; omega
            subst hi2
            have hr : r = ((!(isHd P.proto)) && (P.cut || (((decide (P.id = 0)) && (decide (P.off = 0))) && (!P.more)))) := by rw [HC7.out, HRi.out, HE.out]; rfl
            have s2 := pk_proto q9
            go_wp2_with (first | (refine wl_value rfl (exec_fpk 11 (by decide) rfl (by rfl)) ?_) | (refine wl_value rfl (exec_fpk 2 (by decide) rfl (by rfl)) ?_) | (refine wl_value rfl (exec_ld rfl (by rfl) (ldPx t1)) ?_) | (refine wl_value rfl (exec_ld rfl (by rfl) (ldP s2)) ?_) | (go_at_call 93; refine (rIsExt_run P.proto _).mono ?_; rintro e y2 ⟨rfl, hC2⟩; refine Hid.out ?_))
            refine Hid.mk ?_
            have q10 := SAt.kept q9 hC2
            have hBh := hBg.trans (hC2.mono hBg.size)
            go_upto_region 18 with fail
            refine wp_plain_steps (Below y2.heap.size y2) (fun v v' => Below v.heap.size v v') (fun j vv _ => vv = ([.bool (isHd P.proto), .bool (!(isHd P.proto)), .bool (!(isHd P.proto)), gv (!(isHd P.proto)) (.pointer (some ⟨g1, 44, none⟩)), gv (!(isHd P.proto)) (.bool P.cut), gv (!(isHd P.proto)) (.bool P.cut), gv ((!(isHd P.proto)) && (!P.cut)) (.pointer (some ⟨g1, 37, none⟩)), gv ((!(isHd P.proto)) && (!P.cut)) (.int .i64 P.id), gv ((!(isHd P.proto)) && (!P.cut)) (.bool (decide (P.id = 0))), gv ((!(isHd P.proto)) && (!P.cut)) (.bool (decide (P.id = 0))), gv (((!(isHd P.proto)) && (!P.cut)) && (decide (P.id = 0))) (.pointer (some ⟨g1, 38, none⟩)), gv (((!(isHd P.proto)) && (!P.cut)) && (decide (P.id = 0))) (.int .i64 P.off), gv (((!(isHd P.proto)) && (!P.cut)) && (decide (P.id = 0))) (.bool (decide (P.off = 0))), gv ((!(isHd P.proto)) && (!P.cut)) (.bool ((decide (P.id = 0)) && (decide (P.off = 0)))), gv ((!(isHd P.proto)) && (!P.cut)) (.bool ((decide (P.id = 0)) && (decide (P.off = 0)))), gv (((!(isHd P.proto)) && (!P.cut)) && ((decide (P.id = 0)) && (decide (P.off = 0)))) (.pointer (some ⟨g1, 39, none⟩)), gv (((!(isHd P.proto)) && (!P.cut)) && ((decide (P.id = 0)) && (decide (P.off = 0)))) (.bool P.more), gv (((!(isHd P.proto)) && (!P.cut)) && ((decide (P.id = 0)) && (decide (P.off = 0)))) (.bool (!P.more)), gv ((!(isHd P.proto)) && (!P.cut)) (.bool (((decide (P.id = 0)) && (decide (P.off = 0))) && (!P.more))), gv (!(isHd P.proto)) (.bool (P.cut || (((decide (P.id = 0)) && (decide (P.off = 0))) && (!P.more)))), .bool ((!(isHd P.proto)) && (P.cut || (((decide (P.id = 0)) && (decide (P.off = 0))) && (!P.more)))), .bool ((!(isHd P.proto)) && (P.cut || (((decide (P.id = 0)) && (decide (P.off = 0))) && (!P.more))))] : List Value).getD j undef)
                [141, 142, 143, 144, 145, 146, 147, 148, 149, 150, 151, 152, 153, 154, 155, 156, 157, 158, 159, 160, 161, 2]
                [(1, .pointer (some ⟨g1, 0, none⟩)), (9, .bool (isHd P.proto))] [] 0
                [[], [0], [1], [2], [2, 3], [2, 4], [5], [5, 6], [5, 7], [5, 8], [9], [9, 10], [9, 11], [5, 9, 12], [5, 13], [14], [14, 15], [14, 16], [5, 14, 17], [2, 5, 18], [2, 19], [20]]
                (by kernel_rfl) ⟨rfl, rfl, trivial⟩ trivial (Below.refl _ _) (fun v v' h hb => h.trans (hb.mono h.size)) (fun _ _ _ _ h _ => h)
                ⟨
                (fun QQ aa ww hS fr kn => sg0 rfl (fun K hK => wp_value (exec_move rfl fr.2.1) (hK _ _ rfl (Below.refl _ _)))),
                (fun QQ aa ww hS fr kn => sg0 rfl (fun K hK => wp_value (exec_notB rfl kn.1) (hK _ _ rfl (Below.refl _ _)))),
                (fun QQ aa ww hS fr kn => sg0 rfl (fun K hK => wp_value (exec_move rfl kn.1) (hK _ _ rfl (Below.refl _ _)))),
                (fun QQ aa ww hS fr kn => sgT rfl kn.1 (fun hc K hK => wp_value (exec_fpk 12 (by decide) rfl fr.1) (hK _ _ (gv_t hc).symm (Below.refl _ _))) (fun h0 => (gv_f h0).symm)),
                (fun QQ aa ww hS fr kn => sgT rfl kn.1 (fun hc K hK => wp_value (exec_ld rfl (kn.2.1.trans (gv_t hc)) (ldPb (pk_cut (SAt.kept q10 hS)))) (hK _ _ (gv_t hc).symm (Below.refl _ _))) (fun h0 => (gv_f h0).symm)),
                (fun QQ aa ww hS fr kn => sgT rfl kn.1 (fun hc K hK => wp_value (exec_move rfl (kn.2.1.trans (gv_t hc))) (hK _ _ (gv_t hc).symm (Below.refl _ _))) (fun h0 => (gv_f h0).symm)),
                (fun QQ aa ww hS fr kn => sgTF rfl kn.1 (fun hc K hK => wp_value (exec_fpk 5 (by decide) rfl fr.1) (hK _ _ (gv_t hc).symm (Below.refl _ _))) (fun h0 => (gv_f h0).symm)),
                (fun QQ aa ww hS fr kn => sgTF rfl kn.1 (fun hc K hK => wp_value (exec_ld rfl (kn.2.1.trans (gv_t hc)) (ldP (pk_id (SAt.kept q10 hS)))) (hK _ _ (gv_t hc).symm (Below.refl _ _))) (fun h0 => (gv_f h0).symm)),
                (fun QQ aa ww hS fr kn => sgTF rfl kn.1 (fun hc K hK => wp_value (cmp_eq (m := P.id) (n := 0) rfl (kn.2.1.trans (gv_t hc)) rfl) (hK _ _ (gv_t hc).symm (Below.refl _ _))) (fun h0 => (gv_f h0).symm)),
                (fun QQ aa ww hS fr kn => sgTF rfl kn.1 (fun hc K hK => wp_value (exec_move rfl (kn.2.1.trans (gv_t hc))) (hK _ _ (gv_t hc).symm (Below.refl _ _))) (fun h0 => (gv_f h0).symm)),
                (fun QQ aa ww hS fr kn => sgTT rfl kn.1 (fun hc K hK => wp_value (exec_fpk 6 (by decide) rfl fr.1) (hK _ _ (gv_t hc).symm (Below.refl _ _))) (fun h0 => (gv_f h0).symm)),
                (fun QQ aa ww hS fr kn => sgTT rfl kn.1 (fun hc K hK => wp_value (exec_ld rfl (kn.2.1.trans (gv_t hc)) (ldP (pk_off (SAt.kept q10 hS)))) (hK _ _ (gv_t hc).symm (Below.refl _ _))) (fun h0 => (gv_f h0).symm)),
                (fun QQ aa ww hS fr kn => sgTT rfl kn.1 (fun hc K hK => wp_value (cmp_eq (m := P.off) (n := 0) rfl (kn.2.1.trans (gv_t hc)) rfl) (hK _ _ (gv_t hc).symm (Below.refl _ _))) (fun h0 => (gv_f h0).symm)),
                (fun QQ aa ww hS fr kn => sgTF rfl kn.1 (fun hc K hK => wp_value (exec_pickAnd rfl (kn.2.1.trans (gv_t hc)) (fun hx => kn.2.2.1.trans (gv_t (an_t hc hx))) rfl) (hK _ _ (gv_t hc).symm (Below.refl _ _))) (fun h0 => (gv_f h0).symm)),
                (fun QQ aa ww hS fr kn => sgTF rfl kn.1 (fun hc K hK => wp_value (exec_move rfl (kn.2.1.trans (gv_t hc))) (hK _ _ (gv_t hc).symm (Below.refl _ _))) (fun h0 => (gv_f h0).symm)),
                (fun QQ aa ww hS fr kn => sgTT rfl kn.1 (fun hc K hK => wp_value (exec_fpk 7 (by decide) rfl fr.1) (hK _ _ (gv_t hc).symm (Below.refl _ _))) (fun h0 => (gv_f h0).symm)),
                (fun QQ aa ww hS fr kn => sgTT rfl kn.1 (fun hc K hK => wp_value (exec_ld rfl (kn.2.1.trans (gv_t hc)) (ldPb (pk_more (SAt.kept q10 hS)))) (hK _ _ (gv_t hc).symm (Below.refl _ _))) (fun h0 => (gv_f h0).symm)),
                (fun QQ aa ww hS fr kn => sgTT rfl kn.1 (fun hc K hK => wp_value (exec_notB rfl (kn.2.1.trans (gv_t hc))) (hK _ _ (gv_t hc).symm (Below.refl _ _))) (fun h0 => (gv_f h0).symm)),
                (fun QQ aa ww hS fr kn => sgTF rfl kn.1 (fun hc K hK => wp_value (exec_pickAnd rfl (kn.2.1.trans (gv_t hc)) (fun hx => kn.2.2.1.trans (gv_t (an_t hc hx))) rfl) (hK _ _ (gv_t hc).symm (Below.refl _ _))) (fun h0 => (gv_f h0).symm)),
                (fun QQ aa ww hS fr kn => sgT rfl kn.1 (fun hc K hK => wp_value (exec_pickOr rfl (kn.2.1.trans (gv_t hc)) rfl (fun hx => kn.2.2.1.trans (gv_t (an_t hc (nt_t hx))))) (hK _ _ (gv_t hc).symm (Below.refl _ _))) (fun h0 => (gv_f h0).symm)),
                (fun QQ aa ww hS fr kn => sg0 rfl (fun K hK => wp_value (exec_pickAnd rfl kn.1 (fun hx => kn.2.1.trans (gv_t hx)) rfl) (hK _ _ rfl (Below.refl _ _)))),
                (fun QQ aa ww hS fr kn => sg0 rfl (fun K hK => wp_value (exec_assign rfl kn.1) (hK _ _ rfl (Below.refl _ _)))),
                trivial⟩ ?_
            intro vs y3 hC3 kn
            have e2 : vs 2 = .bool ((!(isHd P.proto)) && (P.cut || (((decide (P.id = 0)) && (decide (P.off = 0))) && (!P.more)))) := kn 21 (by decide)
            clear kn
            simp only [putAll, Act.put, List.setIfInBounds_toArray, List.set_cons_zero, List.set_cons_succ, e2]
            clear e2
            go_wp2_with fail
            go_ret
            exact ⟨by rw [hr]; rfl, hBh.trans (hC3.mono hBh.size)⟩
      · have hr : r = false := by rw [HC7.out]; rfl
        go_wp2_with fail
        go_ret
        exact ⟨by rw [hr]; rfl, hBf⟩
  · have hr : r = false := by rw [HC.out]; rfl
    go_wp2_with fail
    go_ret
    exact ⟨by rw [hr]; rfl, hBe⟩
end Go.Proofs.YtojekoakgpkkdaaDoor

/-
  Own text. How many bytes a packet has: both sides.
-/
namespace Go.Proofs.YtojekoakgpkkdaaDoor
open Go.RowKit Go.Proofs
set_option maxRecDepth 100000
theorem exLen_take {l : List Ex} {x : Ex} : ∀ {i : Nat}, l[i]? = some x → exLen (l.take (i + 1)) = exLen (l.take i) + (2 + x.body.size) := by
  induction l with
  | nil => intro i h; simp at h
  | cons y l ih =>
    intro i h
    cases i with
    | zero =>
      simp at h
      subst h
      simp [exLen]
    | succ i =>
      simp at h
      have := ih h
      rw [List.take_succ_cons, List.take_succ_cons]
      unfold exLen
      omega
theorem exLen_le (l : List Ex) (i : Nat) : exLen (l.take i) ≤ exLen l := by
  induction l generalizing i with
  | nil => simp [exLen]
  | cons y l ih =>
    cases i with
    | zero => simp [exLen]
    | succ i =>
      rw [List.take_succ_cons]
      unfold exLen
      have := ih i
      omega
theorem exLen_len (l : List Ex) : 2 * l.length ≤ exLen l := by
  induction l with
  | nil => simp [exLen]
  | cons y l ih => unfold exLen; simp; omega
theorem exLen_mem {l : List Ex} {x : Ex} (h : x ∈ l) : 2 + x.body.size ≤ exLen l := by
  induction l with
  | nil => cases h
  | cons y l ih =>
    unfold exLen
    rcases List.mem_cons.1 h with rfl | h
    · omega
    · have := ih h
      omega
theorem exsOk_exLen : ∀ {l : List Ex} {i : Nat}, exsOk l i = true → exLen l ≤ 2048 * l.length
  | [], _, _ => by simp [exLen]
  | x :: l, i, h => by
    unfold exsOk at h
    rw [Bool.and_eq_true, exOk_iff] at h
    have := exsOk_exLen h.2
    unfold exLen
    rw [List.length_cons]
    omega
/-- A packet that may be has few extension headers. -/
theorem rgt_few {P : Pk} (h : rgtP P = true) : exLen P.exts ≤ 8192 ∧ P.exts.length ≤ 4 ∧ P.opts.size ≤ 40 := by
  obtain ⟨_, _, _, _, _, _, _, _, hr⟩ := rgtP_iff.1 h
  cases hs : P.sv
  · rw [if_neg (by rw [hs]; decide)] at hr
    obtain ⟨_, _, h3, _, h5, _⟩ := rgt4_iff.1 hr
    rw [h5]
    exact ⟨by simp [exLen], by simp, h3⟩
  · rw [if_pos hs] at hr
    obtain ⟨_, h2, _, h4, _⟩ := rgt6_iff.1 hr
    have := exsOk_exLen h4
    rcases exsOk_len h4 with e | e
    · rw [e]
      exact ⟨by simp [exLen], by simp, by omega⟩
    · exact ⟨by omega, by omega, by omega⟩
set_option maxHeartbeats 16000000 in
theorem headSize_run (P : Pk) (v : Value) (w : World) (h1 : ExAt w v P.exts) (ho : P.opts.size ≤ 140737488355328) (hE : exLen P.exts ≤ 1000000) : Calls Tryd.prog 102 #[.agg (SC 46 (pkV P v))] w fun e w' => e = .returned (.int .i64 (headP P : Int)) ∧ Below w.heap.size w w' := by
  obtain ⟨a1, c1, rfl, _⟩ := id h1
  have HH : Hid (headP P = if P.sv = true then 40 + exLen P.exts + (if P.cut = true then 8 else 0) else 20 + P.opts.size) := Hid.mk rfl
  generalize headP P = H at *
  go_enter Tryd.func102, Tryd.ntmps102
  go_wp2_with (refine wl_boxO rfl rfl isPk (by rfl) ?_; intro g1 u2 hg1 q1 hB2; refine Hid.out ?_)
  refine Hid.mk ?_
  have hx1 := h1.kept hB2
  have s0 := pk_sv q1
  have s9 := pk_opts q1
  cases hsv : P.sv
  · have hr : H = 20 + P.opts.size := by rw [HH.out, hsv]; rfl
    rw [hsv] at s0
    go_wp2_with (first | (refine wl_value rfl (exec_fpk 0 (by decide) rfl (by rfl)) ?_) | (refine wl_value rfl (exec_fpk 9 (by decide) rfl (by rfl)) ?_) | (refine wl_value rfl (exec_fad0 rfl (by rfl)) ?_) | (refine wl_value rfl (exec_ld rfl (by rfl) (ldPb s0)) ?_) | (refine wl_value rfl (exec_ld rfl (by rfl) (ldPs s9)) ?_) | (refine wl_value rfl (exec_addW (i := 20) (m := P.opts.size) rfl (by rfl) (by rfl) rfl (by omega)) ?_))
    go_ret
    exact ⟨by rw [hr]; rfl, hB2⟩
  · rw [hsv] at s0
    have HEL := Hid.mk (fun i => exLen_le P.exts i)
    have HE : Hid (exLen (P.exts.take P.exts.length) = exLen P.exts) := Hid.mk (by rw [List.take_length])
    have HLN : Hid (2 * P.exts.length ≤ exLen P.exts) := Hid.mk (exLen_len P.exts)
    obtain ⟨n, hnn⟩ : ∃ n, P.exts.length = n := ⟨_, rfl⟩
    have HN := Hid.mk hnn
    rw [hnn] at hx1 q1 HE HLN ⊢
    have hn : n < 1000000 := by have := HLN.out; omega
    clear hnn
    have s11 := pk_exts q1
    go_wp2_with (first | (refine wl_value rfl (exec_fpk 0 (by decide) rfl (by rfl)) ?_) | (refine wl_value rfl (exec_fpk 11 (by decide) rfl (by rfl)) ?_) | (refine wl_value rfl (exec_fad0 rfl (by rfl)) ?_) | (refine wl_value rfl (exec_ld rfl (by rfl) (ldPb s0)) ?_) | (refine wl_value rfl (exec_ld rfl (by rfl) (ldPx s11)) ?_))
    go_loopg [3, 17] n (fun gm s3 s17 z => ∃ i M : Nat, Hid (gm + i = n) ∧ s17 = .int .i64 (i : Int) ∧ s3 = .int .i64 (M : Int) ∧ Hid (M = 40 + exLen (P.exts.take i)) ∧ Below u2.heap.size u2 z)
    case atStart => exact ⟨0, 40, Hid.mk rfl, rfl, rfl, Hid.mk (by rw [List.take_zero]; rfl), Below.refl _ _⟩
    case round =>
      obtain ⟨i, M, HI, rfl, rfl, HM, hBz⟩ := hrel
      have q9 := SAt.kept q1 hBz
      have hBg := hB2.trans (hBz.mono hB2.size)
      have hMl : M ≤ 1000040 := by have := HEL.out i; have := HM.out; omega
      by_cases hil : i < n
      · have hili : (i : Int) < (n : Int) := by omega
        obtain ⟨x, hx⟩ := list_at (l := P.exts) (i := i) (by rw [HN.out]; exact hil)
        have HS := Hid.mk (exLen_take hx)
        have hxl := exLen_mem (List.mem_of_getElem? hx)
        have HZ : Hid (2 + x.body.size < 9223372036854775808) := Hid.mk (by omega)
        have HM2 : Hid (M + (2 + x.body.size) < 9223372036854775808) := Hid.mk (by omega)
        obtain ⟨p1, rfl, k1, k1b⟩ := hx1.sl hBz hx
        have H1 := Hid.mk hil
        have hld := ldEx (e := x) k1 k1b
        go_wp2_with (first | (refine wl_value rfl (exec_ixE (i := i) rfl (by rfl) (by rfl) H1.out) ?_) | (refine wl_value rfl (exec_ld rfl (by rfl) hld) ?_) | (refine wl_allocEx rfl rfl ?_; intro g4 y1 hg4 q4 hC1; refine Hid.out ?_))
        refine Hid.mk ?_
        have hg4w : u2.heap.size ≤ g4 := by have := hBz.size; omega
        go_wp2_with (refine st_stO rfl rfl isEx2 (exV_one _) q4 (by rfl) (by rfl) ?_; intro y2 r4 o4; refine Hid.out ?_)
        refine Hid.mk ?_
        have hBy : Below u2.heap.size u2 y2 := (hBz.trans (hC1.mono hBz.size)).trans (o4.below hg4w)
        go_upto_region 7 with fail
        refine wp_plain_steps (Below y2.heap.size y2) (fun v v' => Below v.heap.size v v') (fun j vv _ => vv = ([.int .i64 (M : Int), .pointer (some ⟨g4, 1, none⟩), .string x.body, .int .i64 (x.body.size : Int), .int .i64 ((2 + x.body.size : Nat) : Int), .int .i64 ((M + (2 + x.body.size) : Nat) : Int), .int .i64 ((M + (2 + x.body.size) : Nat) : Int)] : List Value).getD j undef)
            [21, 22, 23, 24, 25, 26, 3]
            [(5, .pointer (some ⟨g4, 0, none⟩))] [(3, .int .i64 (M : Int))] 6
            [[], [], [1], [2], [3], [0, 4], [5]]
            (by kernel_rfl) ⟨rfl, trivial⟩ ⟨rfl, trivial⟩ (Below.refl _ _) (fun v v' h hb => h.trans (hb.mono h.size)) (fun _ _ _ _ h _ => h)
            ⟨
            (fun QQ aa ww hS fr kn => sg0 rfl (fun K hK => wp_value (exec_move rfl fr.2.1) (hK _ _ rfl (Below.refl _ _)))),
            (fun QQ aa ww hS fr kn => sg0 rfl (fun K hK => wp_value (exec_fexG 1 (by decide) rfl fr.1) (hK _ _ rfl (Below.refl _ _)))),
            (fun QQ aa ww hS fr kn => sg0 rfl (fun K hK => wp_value (exec_ld rfl kn.1 (ldPs (ex_body (SAt.kept r4 hS)))) (hK _ _ rfl (Below.refl _ _)))),
            (fun QQ aa ww hS fr kn => sg0 rfl (fun K hK => wp_value (exec_lenS rfl kn.1) (hK _ _ rfl (Below.refl _ _)))),
            (fun QQ aa ww hS fr kn => sg0 rfl (fun K hK => wp_value (exec_addW (i := 2) (m := x.body.size) rfl rfl kn.1 rfl HZ.out) (hK _ _ rfl (Below.refl _ _)))),
            (fun QQ aa ww hS fr kn => sg0 rfl (fun K hK => wp_value (exec_addW (i := M) (m := 2 + x.body.size) rfl kn.1 kn.2.1 rfl HM2.out) (hK _ _ rfl (Below.refl _ _)))),
            (fun QQ aa ww hS fr kn => sg0 rfl (fun K hK => wp_value (exec_assign rfl kn.1) (hK _ _ rfl (Below.refl _ _)))),
            trivial⟩ ?_
        intro vs y3 hB3 kn
        have e3 : vs 3 = .int .i64 ((M + (2 + x.body.size) : Nat) : Int) := kn 6 (by decide)
        clear kn
        simp only [putAll, Act.put, List.setIfInBounds_toArray, List.set_cons_zero, List.set_cons_succ, e3]
        clear e3
        have hBx := hBy.trans (hB3.mono hBy.size)
        have HM3 : Hid (M + (2 + x.body.size) = 40 + exLen (P.exts.take (i + 1))) := Hid.mk (by rw [HS.out]; have := HM.out; omega)
        go_wp2_with fail
        go_roundg (n - (i + 1))
        case rel => exact ⟨i + 1, M + (2 + x.body.size), Hid.mk (by omega), by go_num, rfl, HM3, hBx⟩
        case measure => have := HI.out; omega
      · have hi2 : i = n := by have := HI.out; omega
        subst hi2
        have s12 := pk_cut q9
        cases hcut : P.cut
        · rw [hcut] at s12
          have hr : H = M := by have := HM.out; rw [HE.out] at this; rw [HH.out, hsv, hcut, if_pos rfl]; simp; omega
          go_wp2_with (first | fail | (refine wl_value rfl (exec_fpk 12 (by decide) rfl (by rfl)) ?_) | (refine wl_value rfl (exec_ld rfl (by rfl) (ldPb s12)) ?_))
          go_ret
          exact ⟨by rw [hr]; rfl, hBg⟩
        · rw [hcut] at s12
          have hr : H = M + 8 := by have := HM.out; rw [HE.out] at this; rw [HH.out, hsv, hcut, if_pos rfl, if_pos rfl]; omega
          go_wp2_with (first | fail | (refine wl_value rfl (exec_fpk 12 (by decide) rfl (by rfl)) ?_) | (refine wl_value rfl (exec_ld rfl (by rfl) (ldPb s12)) ?_) | (refine wl_value rfl (exec_addW (i := M) (m := 8) rfl (by rfl) (by rfl) rfl (by omega)) ?_))
          go_ret
          exact ⟨by rw [hr]; rfl, hBg⟩
theorem en_headSize (args : Array Value) (w : World) : (callFunc 102 args).run Tryd.prog w = .ok (.enter 102 args) w := by kernel_rfl
theorem headP_le {P : Pk} (ho : P.opts.size ≤ 140737488355328) (hE : exLen P.exts ≤ 1000000) : headP P ≤ 140737489355376 := by
  unfold headP
  split
  · split <;> omega
  · omega
set_option maxHeartbeats 16000000 in
theorem fits_run (P : Pk) (v : Value) (w : World) (h1 : ExAt w v P.exts) (ho : P.opts.size ≤ 140737488355328) (hE : exLen P.exts ≤ 1000000) (hp : P.pay.size ≤ 140737488355328) : Calls Tryd.prog 96 #[.agg (SC 46 (pkV P v))] w fun e w' => e = .returned (.bool (fitP P)) ∧ Below w.heap.size w w' := by
  have hhl := headP_le ho hE
  have HL : Hid (headP P + P.pay.size < 9223372036854775808) := Hid.mk (by omega)
  have HF : Hid (fitP P = if P.sv = true then decide (headP P + P.pay.size ≤ 65575) else decide (headP P + P.pay.size ≤ 65535)) := Hid.mk rfl
  have HM : Hid (P.sv = true → 40 ≤ headP P + P.pay.size) := Hid.mk (fun h => by unfold headP; rw [if_pos h]; omega)
  generalize fitP P = r at *
  go_enter Tryd.func96, Tryd.ntmps96
  go_wp2_with (refine wl_boxO rfl rfl isPk (by rfl) ?_; intro g1 u2 hg1 q1 hB2; refine Hid.out ?_)
  refine Hid.mk ?_
  have hx1 := h1.kept hB2
  go_upto_region 1 with fail
  refine wp_region3 (Below u2.heap.size u2) u2.heap.size
      ([] : List (Nat × Cont))
      [kv (.agg (SC 46 (pkV P v))), kv (.int .i64 (headP P : Int)), kv (.pointer (some ⟨g1, 45, none⟩)), kv (.string P.pay), kv (.int .i64 (P.pay.size : Int)), kv (.int .i64 ((headP P + P.pay.size : Nat) : Int)), kv (.int .i64 ((headP P + P.pay.size : Nat) : Int))]
      [.none, .none, .none, .none, .none, .none, .none]
      [some 4, some 5, some 6, some 7, some 8, some 9, some 3]
      [(1, .pointer (some ⟨g1, 0, none⟩))]
      [[], [.slot 0], [], [.slot 2], [.slot 3], [.slot 1, .slot 4], [.slot 5]]
      [.slot 6] [4, 5, 6, 7, 8, 9, 3]
      rfl (by kernel_rfl) ⟨rfl, trivial⟩ ((Below.refl _ u2).drew) (Nat.le_refl _) trivial trivial (below_GcW (Nat.le_refl _))
      ⟨
      (fun QQ aa ww own hS hBg fr kn => .inl ⟨trivial, fun K hK => wp_value (look_st rfl isPk (SAt.kept q1 hS) fr.1) (hK _ _ ⟨Touch.refl _ _, rfl⟩)⟩),
      (fun QQ aa ww own hS hBg fr kn => .inl ⟨trivial, fun K hK => stepc en_headSize rfl (args1 kn.1) (headSize_run P v ww (hx1.kept hS) ho hE) (fun w' hb => hK _ _ ⟨touch_below hb, rfl⟩)⟩),
      (fun QQ aa ww own hS hBg fr kn => .inl ⟨trivial, fun K hK => wp_value (exec_fpk 13 (by decide) rfl fr.1) (hK _ _ ⟨Touch.refl _ _, rfl⟩)⟩),
      (fun QQ aa ww own hS hBg fr kn => .inl ⟨trivial, fun K hK => wp_value (exec_ld rfl kn.1 (ldPs (pk_pay (SAt.kept q1 hS)))) (hK _ _ ⟨Touch.refl _ _, rfl⟩)⟩),
      (fun QQ aa ww own hS hBg fr kn => .inl ⟨trivial, fun K hK => wp_value (exec_lenS rfl kn.1) (hK _ _ ⟨Touch.refl _ _, rfl⟩)⟩),
      (fun QQ aa ww own hS hBg fr kn => .inl ⟨trivial, fun K hK => wp_value (exec_addW (i := headP P) (m := P.pay.size) rfl kn.1 kn.2.1 rfl HL.out) (hK _ _ ⟨Touch.refl _ _, rfl⟩)⟩),
      (fun QQ aa ww own hS hBg fr kn => .inl ⟨trivial, fun K hK => wp_value (exec_assign rfl kn.1) (hK _ _ ⟨Touch.refl _ _, rfl⟩)⟩),
      trivial⟩ ?_
  intro vs own u3 hB3 hsz kn inj
  have e3 : vs 3 = .int .i64 ((headP P + P.pay.size : Nat) : Int) := kn.1
  clear kn inj hsz
  simp only [putAll, Act.put, List.setIfInBounds_toArray, List.set_cons_zero, List.set_cons_succ, e3]
  clear e3
  have hBy := hB2.trans (hB3.mono hB2.size)
  have q2 := SAt.kept q1 hB3
  have s0 := pk_sv q2
  obtain ⟨M, hM⟩ : ∃ M, headP P + P.pay.size = M := ⟨_, rfl⟩
  rw [hM] at HF HM ⊢
  have hMl : M < 1000000000000000 := by omega
  clear hM HL
  cases hsv : P.sv
  · rw [hsv] at s0
    have hr : r = decide (M ≤ 65535) := by rw [HF.out, hsv]; rfl
    by_cases hq : M ≤ 65535
    · have hqi : (M : Int) ≤ 65535 := by omega
      rw [decide_eq_true hq] at hr
      go_wp2_with (first | (refine wl_value rfl (exec_fpk 0 (by decide) rfl (by rfl)) ?_) | (refine wl_value rfl (exec_fad0 rfl (by rfl)) ?_) | (refine wl_value rfl (exec_ld rfl (by rfl) (ldPb s0)) ?_))
      go_ret
      exact ⟨by first | rfl | (rw [hr]; rfl), hBy⟩
    · have hqi : ¬ (M : Int) ≤ 65535 := by omega
      rw [decide_eq_false hq] at hr
      go_wp2_with (first | (refine wl_value rfl (exec_fpk 0 (by decide) rfl (by rfl)) ?_) | (refine wl_value rfl (exec_fad0 rfl (by rfl)) ?_) | (refine wl_value rfl (exec_ld rfl (by rfl) (ldPb s0)) ?_))
      go_ret
      exact ⟨by first | rfl | (rw [hr]; rfl), hBy⟩
  · rw [hsv] at s0
    have hr : r = decide (M ≤ 65575) := by rw [HF.out, hsv]; rfl
    have h40 := HM.out hsv
    obtain ⟨N, hN⟩ : ∃ N, M = 40 + N := ⟨M - 40, by omega⟩
    have HNN := Hid.mk hN
    by_cases hq : N ≤ 65535
    · have hqi : (N : Int) ≤ 65535 := by omega
      rw [decide_eq_true (by omega)] at hr
      clear hN
      go_wp2_with (first | (refine wl_value rfl (exec_fpk 0 (by decide) rfl (by rfl)) ?_) | (refine wl_value rfl (exec_fad0 rfl (by rfl)) ?_) | (refine wl_value rfl (exec_ld rfl (by rfl) (ldPb s0)) ?_) | (refine wl_value rfl (exec_subW (i := M) (m := 40) (q := N) rfl (by rfl) (by rfl) HNN.out (by have := HNN.out; omega)) ?_))
      go_ret
      exact ⟨by first | rfl | (rw [hr]; rfl), hBy⟩
    · have hqi : ¬ (N : Int) ≤ 65535 := by omega
      rw [decide_eq_false (by omega)] at hr
      clear hN
      go_wp2_with (first | (refine wl_value rfl (exec_fpk 0 (by decide) rfl (by rfl)) ?_) | (refine wl_value rfl (exec_fad0 rfl (by rfl)) ?_) | (refine wl_value rfl (exec_ld rfl (by rfl) (ldPb s0)) ?_) | (refine wl_value rfl (exec_subW (i := M) (m := 40) (q := N) rfl (by rfl) (by rfl) HNN.out (by have := HNN.out; omega)) ?_))
      go_ret
      exact ⟨by first | rfl | (rw [hr]; rfl), hBy⟩
end Go.Proofs.YtojekoakgpkkdaaDoor

