/-
  Own text. What a packet's message is, echoes, problems, what is told of a path: the code's functions.
-/
import Derived.Test.YtojekoakgpkkdabDoorJF5
import Derived.Test.YtojekoakgpkkdabDoorJF3
import Derived.Test.YtojekoakgpkkdabDoorJF4
namespace Go.Proofs.YtojekoakgpkkdabDoor
open Go.RowKit Go.Proofs
set_option maxRecDepth 100000
/-- What is asked of a packet's sizes. -/
structure PkB (P : Pk) : Prop where
  ok : PkOk P
  ne : P.exts.length < 4611686018427387904
  be : ∀ x ∈ P.exts, x.body.size ≤ 140737488355328
  bp : P.pay.size ≤ 140737488355328
theorem tou_bel {g n : Nat} {u u' : World} (h : Touch (fun x => x = g) u u') (hg : n ≤ g) (hn : n ≤ u.heap.size) : Below n u u' := ⟨h.os, h.tape, h.output, h.size, fun k hk => h.block k (by omega) (by omega)⟩
theorem exec_bdPk {a : Act} {o : Oper} {w : World} {x0 x1 x2 x3 x13 : Operand} (ho : o.op = .build 39 #[(0, x0), (1, x1), (2, x2), (3, x3), (13, x13)]) {v1 : Bool} {b1 : Nat → Int} {v2 : Bool} {b2 : Nat → Int} {n : Int} {s : ByteArray} (h0 : a.eval x0 = .agg (SC 17 (adV v1 b1))) (h1 : a.eval x1 = .agg (SC 17 (adV v2 b2))) (h2 : a.eval x2 = .int .i64 n) (h3 : a.eval x3 = .int .i64 64) (h13 : a.eval x13 = .string s) :
    (execOp a.eval o).run Tryd.prog w = .ok (.value (.agg (SC 46 (pkV ⟨v1, b1, v2, b2, n, 64, 0, 0, 0, false, false, ByteArray.empty, 0, [], false, s⟩ (.slice none 0 0))))) w := by
  unfold execOp
  simp only [ho, List.map_toArray, List.map_cons, List.map_nil, h0, h1, h2, h3, h13, Sem.run_bind, run_bdPo, Result.andThen_ok, Sem.run_pure]
def ansM (P : Pk) : Bool := decide (P.off ≤ 0) && oneB P.sv P.sb && !groupF P.dv P.db && ansB P
def quoB (P : Pk) : Bool := decide (bldE P = 0)
def quoS (P : Pk) : ByteArray := if bldE P = 0 then quoT P else ByteArray.empty
theorem bld_ok {P : Pk} : bldE P = 0 ↔ rgtP P = true ∧ fitP P = true := by
  unfold bldE
  constructor
  · intro h
    split at h
    · rename_i h1
      split at h
      · rename_i h2; exact ⟨h1, h2⟩
      · cases h
    · cases h
  · rintro ⟨h1, h2⟩
    rw [if_pos h1, if_pos h2]
theorem build_four {P : Pk} (h : bldE P = 0) (hv : P.sv = false) : (bldT P).size = 20 + P.opts.size + P.pay.size ∧ (bldT P).size ≤ 65535 := by
  obtain ⟨h1, h2⟩ := bld_ok.1 h
  have hs : (bldT P).size = 20 + P.opts.size + P.pay.size := by
    rw [bldT_of h1 h2, hv, if_neg (by decide)]
    rw [four_size h1 hv]
    unfold headP
    rw [hv, if_neg (by decide)]
  refine ⟨hs, ?_⟩
  unfold fitP headP at h2
  rw [hv, if_neg (by decide), if_neg (by decide), decide_eq_true_eq] at h2
  omega
theorem quo_four {P : Pk} (h : bldE P = 0) (hv : P.sv = false) : quoS P = (bldT P).extract 0 (min ((bldT P).size - P.pay.size + 8) (bldT P).size) := by
  unfold quoS quoT quoN
  rw [if_pos h, hv, if_neg (by decide), show 20 + P.opts.size + 8 = (bldT P).size - P.pay.size + 8 by have := (build_four h hv).1; omega]
theorem quo_six {P : Pk} (h : bldE P = 0) (hv : P.sv = true) : quoS P = (bldT P).extract 0 (min 1232 (bldT P).size) := by
  unfold quoS quoT quoN
  rw [if_pos h, if_pos hv]
theorem en_ip_Right (args : Array Value) (w : World) : (callFunc 34 args).run Tryd.prog w = .ok (.enter 34 args) w := by kernel_rfl
theorem en_icmp_versionOf (args : Array Value) (w : World) : (callFunc 17 args).run Tryd.prog w = .ok (.enter 17 args) w := by kernel_rfl
theorem en_icmp_Parse (args : Array Value) (w : World) : (callFunc 35 args).run Tryd.prog w = .ok (.enter 35 args) w := by kernel_rfl
theorem en_icmp_Build (args : Array Value) (w : World) : (callFunc 20 args).run Tryd.prog w = .ok (.enter 20 args) w := by kernel_rfl
theorem en_icmp_isOne (args : Array Value) (w : World) : (callFunc 22 args).run Tryd.prog w = .ok (.enter 22 args) w := by kernel_rfl
theorem en_icmp_isError (args : Array Value) (w : World) : (callFunc 38 args).run Tryd.prog w = .ok (.enter 38 args) w := by kernel_rfl
theorem en_ip_Build (args : Array Value) (w : World) : (callFunc 39 args).run Tryd.prog w = .ok (.enter 39 args) w := by kernel_rfl
theorem en_icmp_messageOf (args : Array Value) (w : World) : (callFunc 21 args).run Tryd.prog w = .ok (.enter 21 args) w := by kernel_rfl
theorem en_icmp_packetOf (args : Array Value) (w : World) : (callFunc 23 args).run Tryd.prog w = .ok (.enter 23 args) w := by kernel_rfl
theorem en_icmp_isKind (args : Array Value) (w : World) : (callFunc 24 args).run Tryd.prog w = .ok (.enter 24 args) w := by kernel_rfl
theorem en_icmp_mayBeAnswered (args : Array Value) (w : World) : (callFunc 25 args).run Tryd.prog w = .ok (.enter 25 args) w := by kernel_rfl
theorem en_icmp_quoted (args : Array Value) (w : World) : (callFunc 27 args).run Tryd.prog w = .ok (.enter 27 args) w := by kernel_rfl
def erK (j : Nat) : Int := ([3, 4, 5, 11, 12] : List Int).getD j 0
theorem isA5 : IsSt 93 5 := ⟨_, Tryd.underlying93, rfl, by kernel_rfl⟩
theorem exec_ld5 {a : Act} {o : Oper} {w : World} (hE : Env w) (ho : o.op = .load 93 (.global 2)) : (execOp a.eval o).run Tryd.prog w = .ok (.value (.agg (SC 5 (fun j => .int .u8 (erK j))))) w := exec_ld (x := .global 2) ho (by rfl) (ld_cells isA5 hE.2.2)
theorem run_ix50 (w : World) : (Instr.index 93 (.agg (SC 5 (fun j => .int .u8 (erK j)))) (.int .i64 0)).run Tryd.prog w = .ok (.int .u8 (erK 0)) w := by kernel_rfl
theorem run_ix51 (w : World) : (Instr.index 93 (.agg (SC 5 (fun j => .int .u8 (erK j)))) (.int .i64 1)).run Tryd.prog w = .ok (.int .u8 (erK 1)) w := by kernel_rfl
theorem run_ix52 (w : World) : (Instr.index 93 (.agg (SC 5 (fun j => .int .u8 (erK j)))) (.int .i64 2)).run Tryd.prog w = .ok (.int .u8 (erK 2)) w := by kernel_rfl
theorem run_ix53 (w : World) : (Instr.index 93 (.agg (SC 5 (fun j => .int .u8 (erK j)))) (.int .i64 3)).run Tryd.prog w = .ok (.int .u8 (erK 3)) w := by kernel_rfl
theorem run_ix54 (w : World) : (Instr.index 93 (.agg (SC 5 (fun j => .int .u8 (erK j)))) (.int .i64 4)).run Tryd.prog w = .ok (.int .u8 (erK 4)) w := by kernel_rfl
theorem run_ix5 (k : Nat) (hk : k < 5) (w : World) : (Instr.index 93 (.agg (SC 5 (fun j => .int .u8 (erK j)))) (.int .i64 (k : Int))).run Tryd.prog w = .ok (.int .u8 (erK k)) w := by
  match k, hk with
  | 0, _ => exact run_ix50 w
  | 1, _ => exact run_ix51 w
  | 2, _ => exact run_ix52 w
  | 3, _ => exact run_ix53 w
  | 4, _ => exact run_ix54 w
theorem exec_ix5 {a : Act} {o : Oper} {w : World} {x y : Operand} {k : Nat} (ho : o.op = .index 93 x y) (hx : a.eval x = .agg (SC 5 (fun j => .int .u8 (erK j)))) (hy : a.eval y = .int .i64 (k : Int)) (hk : k < 5) : (execOp a.eval o).run Tryd.prog w = .ok (.value (.int .u8 (erK k))) w := by
  unfold execOp
  simp only [ho, hx, hy, Sem.run_bind, run_ix5 k hk, Result.andThen_ok, Sem.run_pure]
theorem err_iff (t : Int) : errB false t = true ↔ ∃ k, k < 5 ∧ t = erK k := by
  unfold errB
  rw [if_neg (by decide)]
  simp only [Bool.or_eq_true, decide_eq_true_eq]
  constructor
  · rintro ((((h | h) | h) | h) | h)
    · exact ⟨0, by decide, h⟩
    · exact ⟨1, by decide, h⟩
    · exact ⟨2, by decide, h⟩
    · exact ⟨3, by decide, h⟩
    · exact ⟨4, by decide, h⟩
  · rintro ⟨k, hk, rfl⟩
    match k, hk with
    | 0, _ => decide
    | 1, _ => decide
    | 2, _ => decide
    | 3, _ => decide
    | 4, _ => decide
set_option maxHeartbeats 4000000 in
theorem isErr4_run (t : Int) (w : World) (he : Env w) : Calls Tryd.prog 38 #[.bool false, .int .u8 t] w fun e w' => e = .returned (.bool (errB false t)) ∧ Below w.heap.size w w' := by
  have HI := Hid.mk (err_iff t)
  generalize errB false t = r at *
  have HE := Hid.mk he
  clear he
  go_enter Tryd.func38, Tryd.ntmps38
  go_wp2_with (refine wl_value rfl (exec_ld5 HE.out rfl) ?_; refine Hid.out ?_)
  refine Hid.mk ?_
  go_wp2_with fail
  go_loopg [11] (5 : Nat) (fun gm iv z => ∃ k : Nat, gm = 5 - k ∧ k ≤ 5 ∧ iv = .int .i64 (k : Int) ∧ Hid (∀ i, i < k → t ≠ erK i) ∧ z = w)
  case atStart => exact ⟨0, rfl, by omega, rfl, Hid.mk (fun i h1 => by omega), rfl⟩
  case round =>
    obtain ⟨k, hgm, hk, rfl, HZ, rfl⟩ := hrel
    by_cases hlt : k < 5
    · have hki : (k : Int) < 5 := by omega
      go_wp2_with (refine wl_value rfl (exec_ix5 (k := k) rfl rfl rfl hlt) ?_; refine Hid.out ?_)
      refine Hid.mk ?_
      by_cases hz : t = erK k
      · have hr : r = true := HI.out.2 ⟨k, hlt, hz⟩
        generalize erK k = c at hz
        subst hz
        go_wp2_with fail
        go_ret
        exact ⟨by rw [hr]; rfl, Below.refl _ _⟩
      · have HF : Hid (∀ i, i < k + 1 → t ≠ erK i) := Hid.mk (fun i h1 => by
          by_cases e : i = k
          · subst e; exact hz
          · exact HZ.out i (by omega))
        generalize erK k = c at hz
        go_wp2_with fail
        go_roundg (5 - (k + 1))
        case rel => exact ⟨k + 1, rfl, by omega, by go_num, HF, rfl⟩
        case measure => omega
    · obtain rfl : k = 5 := by omega
      have hr : r = false := by
        cases hr : r
        · rfl
        · obtain ⟨i, hi, e⟩ := HI.out.1 hr
          exact absurd e (HZ.out i hi)
      go_wp2_with fail
      go_ret
      exact ⟨by rw [hr]; rfl, Below.refl _ _⟩
theorem isErr6_run (t : Int) (w : World) : Calls Tryd.prog 38 #[.bool true, .int .u8 t] w fun e w' => e = .returned (.bool (errB true t)) ∧ Below w.heap.size w w' := by
  go_enter Tryd.func38, Tryd.ntmps38
  go_wp2_with fail
  go_ret
  exact ⟨rfl, Below.refl _ _⟩
theorem isErr_run (v : Bool) (t : Int) (w : World) (he : Env w) : Calls Tryd.prog 38 #[.bool v, .int .u8 t] w fun e w' => e = .returned (.bool (errB v t)) ∧ Below w.heap.size w w' := by
  cases v
  · exact isErr4_run t w he
  · exact isErr6_run t w
set_option linter.unusedSimpArgs false in
set_option maxHeartbeats 4000000 in
theorem versionOf_run (v : Bool) (b : Nat → Int) (w : World) (he : Env w) : Calls Tryd.prog 17 #[.agg (SC 17 (adV v b))] w fun e w' => e = .returned (.agg (SC 28 (verV v))) ∧ Below w.heap.size w w' := by
  generalize hRV : (.agg (SC 28 (verV v)) : Value) = RV
  have HRV := Hid.mk hRV
  clear hRV
  have HE := Hid.mk he
  clear he
  go_enter Tryd.func17, Tryd.ntmps17
  go_wp2_with (refine wl_boxO (V := adV v b) rfl rfl isAddr rfl ?_; intro g1 w1 hg1 s1 hB1; refine Hid.out ?_)
  refine Hid.mk ?_
  have hz2 : w.heap.size ≤ g1 := by omega
  have hbt3 := hB1
  clear hB1 hg1
  go_wp2_with (refine wl_alO (V := fun j => if j = 1 then .int .u8 0 else if j < 7 then .int .i64 0 else if j % 3 = 0 then .int .u32 0 else .int .i64 0) rfl rfl zeroVe ?_; intro g4 w4 hg4 s4 hB4; refine Hid.out ?_)
  refine Hid.mk ?_
  have hn5 : g1 ≠ g4 := by have := s1.lt; omega
  have hz6 : w.heap.size ≤ g4 := by have := hbt3.size; omega
  have s7 := s1.kept hB4
  clear s1
  have hbt8 := hbt3.trans (hB4.mono hbt3.size)
  clear hbt3
  clear hB4 hg4
  go_wp2_with (refine wl_value rfl (exec_fad0 rfl rfl) ?_; refine Hid.out ?_)
  refine Hid.mk ?_
  rcases Bool.eq_false_or_eq_true (v) with hb9 | hb9
  · have Hhb9 := Hid.mk hb9
    clear hb9
    go_wp2_with (refine wl_value rfl (kn_ (c := true) Hhb9 (exec_ld rfl rfl (ldB (SAt.at s7 0 (by decide))))) ?_; refine Hid.out ?_)
    refine Hid.mk ?_
    go_wp2_with (refine wl_value rfl (exec_ldV6 (Env.kept HE.out hbt8) rfl) ?_; refine Hid.out ?_)
    refine Hid.mk ?_
    go_wp2_with (refine st_stO (V := verV true) (g := g4) rfl rfl isVe (verV_one _) s4 rfl rfl ?_; intro w10 s10 ho10; refine Hid.out ?_)
    refine Hid.mk ?_
    clear s4
    have s11 := s7.only ho10 hn5
    clear s7
    have hbt12 := hbt8.trans (ho10.below hz6)
    clear hbt8
    clear ho10
    go_wp2_with fail
    refine bodyPost_ret (res_st rfl isVe s10 (by rfl)) rfl ?_
    exact ⟨Eq.trans (rfl : _ = Ending.returned (.agg (SC 28 (verV true)))) (by rw [← HRV.out, Hhb9.out]), hbt12⟩
  · have Hhb9 := Hid.mk hb9
    clear hb9
    go_wp2_with (refine wl_value rfl (kn_ (c := false) Hhb9 (exec_ld rfl rfl (ldB (SAt.at s7 0 (by decide))))) ?_; refine Hid.out ?_)
    refine Hid.mk ?_
    go_wp2_with (refine wl_value rfl (exec_ldV4 (Env.kept HE.out hbt8) rfl) ?_; refine Hid.out ?_)
    refine Hid.mk ?_
    go_wp2_with (refine st_stO (V := verV false) (g := g4) rfl rfl isVe (verV_one _) s4 rfl rfl ?_; intro w13 s13 ho13; refine Hid.out ?_)
    refine Hid.mk ?_
    clear s4
    have s14 := s7.only ho13 hn5
    clear s7
    have hbt15 := hbt8.trans (ho13.below hz6)
    clear hbt8
    clear ho13
    go_wp2_with fail
    refine bodyPost_ret (res_st rfl isVe s13 (by rfl)) rfl ?_
    exact ⟨Eq.trans (rfl : _ = Ending.returned (.agg (SC 28 (verV false)))) (by rw [← HRV.out, Hhb9.out]), hbt15⟩
set_option linter.unusedSimpArgs false in
set_option maxHeartbeats 4000000 in
theorem messageOf_run (P : Pk) (vx : Value) (w : World) (he : Env w) (hx : ExAt w vx P.exts) (hp : PkB P) : Calls Tryd.prog 21 #[.agg (SC 46 (pkV P vx))] w fun e w' => e = .returned (.tuple #[.agg (SC 4 (msV (msgM P))), .bool (msgB P)]) ∧ Below w.heap.size w w' := by
  generalize hRV : (.tuple #[.agg (SC 4 (msV (msgM P))), .bool (msgB P)] : Value) = RV
  have HRV := Hid.mk hRV
  clear hRV
  have HE := Hid.mk he
  clear he
  have HX := Hid.mk hx
  have HP := Hid.mk hp
  clear hx hp
  go_enter Tryd.func21, Tryd.ntmps21
  go_wp2_with (refine wl_boxO (V := pkV P vx) rfl rfl isPk rfl ?_; intro g1 w1 hg1 s1 hB1; refine Hid.out ?_)
  refine Hid.mk ?_
  have hz2 : w.heap.size ≤ g1 := by omega
  have hbt3 := hB1
  clear hB1 hg1
  go_wp2_with (refine wl_alO (V := msV ms0) rfl rfl zeroMs ?_; intro g4 w4 hg4 s4 hB4; refine Hid.out ?_)
  refine Hid.mk ?_
  have hn5 : g1 ≠ g4 := by have := s1.lt; omega
  have hz6 : w.heap.size ≤ g4 := by have := hbt3.size; omega
  have s7 := s1.kept hB4
  clear s1
  have hbt8 := hbt3.trans (hB4.mono hbt3.size)
  clear hbt3
  clear hB4 hg4
  rcases Bool.eq_false_or_eq_true (rgtP P) with hb9 | hb9
  · have Hhb9 := Hid.mk hb9
    clear hb9
    rcases Bool.eq_false_or_eq_true (P.more) with hb10 | hb10
    · have Hhb10 := Hid.mk hb10
      clear hb10
      go_upto_region 1 with fail
      refine wp_region3 (Below w4.heap.size w4) w4.heap.size
          ([] : List (Nat × Cont))
          [kv (.agg (SC 46 (pkV P vx))), kv (.bool true), kv (.bool false), kv (.bool false), kv (.pointer (some ⟨g1, 39, none⟩)), kv (.bool true), kv (.bool true), kv (.bool true), kv (undef), kv (undef), kv (undef), kv (.bool true), kv (.bool true), kv (undef), kv (undef), kv (undef), kv (undef), kv (undef), kv (undef), kv (undef), kv (.bool true)]
          [.none, .none, .none, .none, .none, .none, .none, .none, .none, .none, .none, .none, .none, .none, .none, .none, .none, .none, .none, .none, .none]
          [some 6, some 7, some 8, some 9, some 10, some 11, some 12, some 13, some 14, some 15, some 16, some 17, some 18, some 19, some 20, some 21, some 22, some 23, some 24, some 25, some 26]
          [(1, .pointer (some ⟨g1, 0, none⟩))]
          [[], [.slot 0], [.slot 1], [.slot 2], [.slot 3], [.slot 3, .slot 4], [.slot 3, .slot 5], [.slot 6], [.slot 7], [.slot 7], [.slot 7], [.slot 7, .slot 10], [.slot 11], [.slot 12], [.slot 12], [.slot 12], [.slot 12], [.slot 12], [.slot 12], [.slot 12], [.slot 12, .slot 19]]
          [.slot 20] [6, 7, 8, 9, 10, 11, 12, 13, 14, 15, 16, 17, 18, 19, 20, 21, 22, 23, 24, 25, 26]
          rfl (by kernel_rfl) ⟨rfl, trivial⟩ ((Below.refl _ w4).drew) (Nat.le_refl _) trivial trivial (below_GcW (Nat.le_refl _))
          ⟨
          (fun QQ aa ww own hS hBg fr kn => .inl ⟨trivial, fun K hK => wp_value (look_st rfl isPk (SAt.kept s7 hS) fr.1) (hK _ _ ⟨Touch.refl _ _, rfl⟩)⟩),
          (fun QQ aa ww own hS hBg fr kn => .inl ⟨trivial, fun K hK => stepc en_ip_Right rfl (args1 kn.1) (by have h := Right_run P vx ww (ExAt.kept (ExAt.kept HX.out hbt8) hS) HP.out.ne HP.out.be; rw [Hhb9.out] at h; exact h) (fun w' hb => hK _ _ ⟨touch_below hb, rfl⟩)⟩),
          (fun QQ aa ww own hS hBg fr kn => .inl ⟨trivial, fun K hK => wp_value (exec_notB rfl kn.1) (hK _ _ ⟨Touch.refl _ _, rfl⟩)⟩),
          (fun QQ aa ww own hS hBg fr kn => .inl ⟨trivial, fun K hK => wp_value (exec_move rfl kn.1) (hK _ _ ⟨Touch.refl _ _, rfl⟩)⟩),
          (fun QQ aa ww own hS hBg fr kn => .inl ⟨kn.1, fun K hK => wp_value (exec_fpk 7 (by decide) rfl fr.1) (hK _ _ ⟨Touch.refl _ _, rfl⟩)⟩),
          (fun QQ aa ww own hS hBg fr kn => .inl ⟨kn.1, fun K hK => wp_value (kn_ (c := true) Hhb10 (exec_ld rfl kn.2.1 (ldPb (pk_more (SAt.kept s7 hS))))) (hK _ _ ⟨Touch.refl _ _, rfl⟩)⟩),
          (fun QQ aa ww own hS hBg fr kn => .inl ⟨trivial, fun K hK => wp_value (exec_pickF (v := .bool true) rfl kn.1 kn.2.1) (hK _ _ ⟨Touch.refl _ _, rfl⟩)⟩),
          (fun QQ aa ww own hS hBg fr kn => .inl ⟨trivial, fun K hK => wp_value (exec_move rfl kn.1) (hK _ _ ⟨Touch.refl _ _, rfl⟩)⟩),
          (fun QQ aa ww own hS hBg fr kn => .inr ⟨.inl kn.1, Touch.refl _ _, rfl⟩),
          (fun QQ aa ww own hS hBg fr kn => .inr ⟨.inl kn.1, Touch.refl _ _, rfl⟩),
          (fun QQ aa ww own hS hBg fr kn => .inr ⟨.inl kn.1, Touch.refl _ _, rfl⟩),
          (fun QQ aa ww own hS hBg fr kn => .inl ⟨trivial, fun K hK => wp_value (exec_pick (v := .bool true) rfl kn.1 rfl) (hK _ _ ⟨Touch.refl _ _, rfl⟩)⟩),
          (fun QQ aa ww own hS hBg fr kn => .inl ⟨trivial, fun K hK => wp_value (exec_move rfl kn.1) (hK _ _ ⟨Touch.refl _ _, rfl⟩)⟩),
          (fun QQ aa ww own hS hBg fr kn => .inr ⟨.inl kn.1, Touch.refl _ _, rfl⟩),
          (fun QQ aa ww own hS hBg fr kn => .inr ⟨.inl kn.1, Touch.refl _ _, rfl⟩),
          (fun QQ aa ww own hS hBg fr kn => .inr ⟨.inl kn.1, Touch.refl _ _, rfl⟩),
          (fun QQ aa ww own hS hBg fr kn => .inr ⟨.inl kn.1, Touch.refl _ _, rfl⟩),
          (fun QQ aa ww own hS hBg fr kn => .inr ⟨.inl kn.1, Touch.refl _ _, rfl⟩),
          (fun QQ aa ww own hS hBg fr kn => .inr ⟨.inl kn.1, Touch.refl _ _, rfl⟩),
          (fun QQ aa ww own hS hBg fr kn => .inr ⟨.inl kn.1, Touch.refl _ _, rfl⟩),
          (fun QQ aa ww own hS hBg fr kn => .inl ⟨trivial, fun K hK => wp_value (exec_pick (v := .bool true) rfl kn.1 rfl) (hK _ _ ⟨Touch.refl _ _, rfl⟩)⟩),
          trivial⟩ ?_
      intro vs own w11 hB11 hsz kn inj
      have e26 : vs 26 = .bool true := kn.1
      clear kn inj hsz
      simp only [putAll, Act.put, List.setIfInBounds_toArray, List.set_cons_zero, List.set_cons_succ, e26]
      clear e26
      have s12 := s7.kept hB11
      clear s7
      have s13 := s4.kept hB11
      clear s4
      have hbt14 := hbt8.trans (hB11.mono hbt8.size)
      clear hbt8
      clear hB11
      go_wp2_with (refine wl_value rfl (exec_bdMs0 rfl) ?_; refine Hid.out ?_)
      refine Hid.mk ?_
      go_wp2_with (refine st_stO (V := msV ms0) (g := g4) rfl rfl isMs (msV_one _) s13 rfl rfl ?_; intro w15 s15 ho15; refine Hid.out ?_)
      refine Hid.mk ?_
      clear s13
      have s16 := s12.only ho15 hn5
      clear s12
      have hbt17 := hbt14.trans (ho15.below hz6)
      clear hbt14
      clear ho15
      go_wp2_with fail
      have hC : msgC P = false := by unfold msgC; simp [Hhb9.out, Hhb10.out]
      have hB : msgB P = false := by unfold msgB; rw [hC]; rfl
      have hM : msgM P = ms0 := by unfold msgM; rw [if_neg (by rw [hC]; decide)]
      refine bodyPost_ret (res_ct rfl isMs s15 (by rfl) (by rfl)) rfl ?_
      exact ⟨Eq.trans (rfl : _ = Ending.returned (.tuple #[.agg (SC 4 (msV ms0)), .bool false])) (by rw [← HRV.out, hB, hM]), hbt17⟩
    · have Hhb10 := Hid.mk hb10
      clear hb10
      rcases Bool.eq_false_or_eq_true (decide (P.off = 0)) with hb18 | hb18
      · have Hhb18 := Hid.mk hb18
        clear hb18
        have HDhb18 := Hid.mk (of_decide_eq_true Hhb18.out)
        rcases Bool.eq_false_or_eq_true (decide (P.proto = protoK P.sv)) with hb19 | hb19
        · have Hhb19 := Hid.mk hb19
          clear hb19
          have HDhb19 := Hid.mk (of_decide_eq_true Hhb19.out)
          go_upto_region 1 with fail
          refine wp_region3 (Below w4.heap.size w4) w4.heap.size
              ([] : List (Nat × Cont))
              [kv (.agg (SC 46 (pkV P vx))), kv (.bool true), kv (.bool false), kv (.bool false), kv (.pointer (some ⟨g1, 39, none⟩)), kv (.bool false), kv (.bool false), kv (.bool false), kv (.pointer (some ⟨g1, 38, none⟩)), kv (.int .i64 P.off), kv (.bool false), kv (.bool false), kv (.bool false), kv (.pointer (some ⟨g1, 34, none⟩)), kv (.int .i64 P.proto), kv (.pointer (some ⟨g1, 0, none⟩)), kv (.agg (SC 17 (adV P.sv P.sb))), kv (.agg (SC 28 (verV P.sv))), kv (.int .i64 (protoK P.sv)), kv (.bool false), kv (.bool false)]
              [.none, .none, .none, .none, .none, .none, .none, .none, .none, .none, .none, .none, .none, .none, .none, .none, .none, .none, .none, .none, .none]
              [some 6, some 7, some 8, some 9, some 10, some 11, some 12, some 13, some 14, some 15, some 16, some 17, some 18, some 19, some 20, some 21, some 22, some 23, some 24, some 25, some 26]
              [(1, .pointer (some ⟨g1, 0, none⟩))]
              [[], [.slot 0], [.slot 1], [.slot 2], [.slot 3], [.slot 3, .slot 4], [.slot 3, .slot 5], [.slot 6], [.slot 7], [.slot 7, .slot 8], [.slot 7, .slot 9], [.slot 7, .slot 10], [.slot 11], [.slot 12], [.slot 12, .slot 13], [.slot 12], [.slot 12, .slot 15], [.slot 12, .slot 16], [.slot 12, .slot 17], [.slot 12, .slot 14, .slot 18], [.slot 12, .slot 19]]
              [.slot 20] [6, 7, 8, 9, 10, 11, 12, 13, 14, 15, 16, 17, 18, 19, 20, 21, 22, 23, 24, 25, 26]
              rfl (by kernel_rfl) ⟨rfl, trivial⟩ ((Below.refl _ w4).drew) (Nat.le_refl _) trivial trivial (below_GcW (Nat.le_refl _))
              ⟨
              (fun QQ aa ww own hS hBg fr kn => .inl ⟨trivial, fun K hK => wp_value (look_st rfl isPk (SAt.kept s7 hS) fr.1) (hK _ _ ⟨Touch.refl _ _, rfl⟩)⟩),
              (fun QQ aa ww own hS hBg fr kn => .inl ⟨trivial, fun K hK => stepc en_ip_Right rfl (args1 kn.1) (by have h := Right_run P vx ww (ExAt.kept (ExAt.kept HX.out hbt8) hS) HP.out.ne HP.out.be; rw [Hhb9.out] at h; exact h) (fun w' hb => hK _ _ ⟨touch_below hb, rfl⟩)⟩),
              (fun QQ aa ww own hS hBg fr kn => .inl ⟨trivial, fun K hK => wp_value (exec_notB rfl kn.1) (hK _ _ ⟨Touch.refl _ _, rfl⟩)⟩),
              (fun QQ aa ww own hS hBg fr kn => .inl ⟨trivial, fun K hK => wp_value (exec_move rfl kn.1) (hK _ _ ⟨Touch.refl _ _, rfl⟩)⟩),
              (fun QQ aa ww own hS hBg fr kn => .inl ⟨kn.1, fun K hK => wp_value (exec_fpk 7 (by decide) rfl fr.1) (hK _ _ ⟨Touch.refl _ _, rfl⟩)⟩),
              (fun QQ aa ww own hS hBg fr kn => .inl ⟨kn.1, fun K hK => wp_value (kn_ (c := false) Hhb10 (exec_ld rfl kn.2.1 (ldPb (pk_more (SAt.kept s7 hS))))) (hK _ _ ⟨Touch.refl _ _, rfl⟩)⟩),
              (fun QQ aa ww own hS hBg fr kn => .inl ⟨trivial, fun K hK => wp_value (exec_pickF (v := .bool false) rfl kn.1 kn.2.1) (hK _ _ ⟨Touch.refl _ _, rfl⟩)⟩),
              (fun QQ aa ww own hS hBg fr kn => .inl ⟨trivial, fun K hK => wp_value (exec_move rfl kn.1) (hK _ _ ⟨Touch.refl _ _, rfl⟩)⟩),
              (fun QQ aa ww own hS hBg fr kn => .inl ⟨kn.1, fun K hK => wp_value (exec_fpk 6 (by decide) rfl fr.1) (hK _ _ ⟨Touch.refl _ _, rfl⟩)⟩),
              (fun QQ aa ww own hS hBg fr kn => .inl ⟨kn.1, fun K hK => wp_value (exec_ld rfl kn.2.1 (ldP (pk_off (SAt.kept s7 hS)))) (hK _ _ ⟨Touch.refl _ _, rfl⟩)⟩),
              (fun QQ aa ww own hS hBg fr kn => .inl ⟨kn.1, fun K hK => wp_value (kn_n (c := false) Hhb18 (cmp_ne (m := P.off) (n := 0) rfl kn.2.1 rfl)) (hK _ _ ⟨Touch.refl _ _, rfl⟩)⟩),
              (fun QQ aa ww own hS hBg fr kn => .inl ⟨trivial, fun K hK => wp_value (exec_pickF (v := .bool false) rfl kn.1 kn.2.1) (hK _ _ ⟨Touch.refl _ _, rfl⟩)⟩),
              (fun QQ aa ww own hS hBg fr kn => .inl ⟨trivial, fun K hK => wp_value (exec_move rfl kn.1) (hK _ _ ⟨Touch.refl _ _, rfl⟩)⟩),
              (fun QQ aa ww own hS hBg fr kn => .inl ⟨kn.1, fun K hK => wp_value (exec_fpk 2 (by decide) rfl fr.1) (hK _ _ ⟨Touch.refl _ _, rfl⟩)⟩),
              (fun QQ aa ww own hS hBg fr kn => .inl ⟨kn.1, fun K hK => wp_value (exec_ld rfl kn.2.1 (ldP (pk_proto (SAt.kept s7 hS)))) (hK _ _ ⟨Touch.refl _ _, rfl⟩)⟩),
              (fun QQ aa ww own hS hBg fr kn => .inl ⟨kn.1, fun K hK => wp_value (exec_fpk 0 (by decide) rfl fr.1) (hK _ _ ⟨Touch.refl _ _, rfl⟩)⟩),
              (fun QQ aa ww own hS hBg fr kn => .inl ⟨kn.1, fun K hK => wp_value (exec_ld rfl kn.2.1 (ld_src (SAt.kept s7 hS))) (hK _ _ ⟨Touch.refl _ _, rfl⟩)⟩),
              (fun QQ aa ww own hS hBg fr kn => .inl ⟨kn.1, fun K hK => stepc en_icmp_versionOf rfl (args1 kn.2.1) (versionOf_run P.sv P.sb ww (Env.kept (Env.kept HE.out hbt8) hS)) (fun w' hb => hK _ _ ⟨touch_below hb, rfl⟩)⟩),
              (fun QQ aa ww own hS hBg fr kn => .inl ⟨kn.1, fun K hK => wp_value (exec_fv0 rfl kn.2.1) (hK _ _ ⟨Touch.refl _ _, rfl⟩)⟩),
              (fun QQ aa ww own hS hBg fr kn => .inl ⟨kn.1, fun K hK => wp_value (kn_n (c := false) Hhb19 (cmp_ne (m := P.proto) (n := protoK P.sv) rfl kn.2.1 kn.2.2.1)) (hK _ _ ⟨Touch.refl _ _, rfl⟩)⟩),
              (fun QQ aa ww own hS hBg fr kn => .inl ⟨trivial, fun K hK => wp_value (exec_pickF (v := .bool false) rfl kn.1 kn.2.1) (hK _ _ ⟨Touch.refl _ _, rfl⟩)⟩),
              trivial⟩ ?_
          intro vs own w20 hB20 hsz kn inj
          have e26 : vs 26 = .bool false := kn.1
          clear kn inj hsz
          simp only [putAll, Act.put, List.setIfInBounds_toArray, List.set_cons_zero, List.set_cons_succ, e26]
          clear e26
          have s21 := s7.kept hB20
          clear s7
          have s22 := s4.kept hB20
          clear s4
          have hbt23 := hbt8.trans (hB20.mono hbt8.size)
          clear hbt8
          clear hB20
          go_wp2_with (refine wl_value rfl (exec_fpk 0 (by decide) rfl rfl) ?_; refine Hid.out ?_)
          refine Hid.mk ?_
          go_wp2_with (refine wl_value rfl (exec_ld rfl rfl (ld_src s21)) ?_; refine Hid.out ?_)
          refine Hid.mk ?_
          go_wp2_with (refine wl_value rfl (exec_fpk 1 (by decide) rfl rfl) ?_; refine Hid.out ?_)
          refine Hid.mk ?_
          go_wp2_with (refine wl_value rfl (exec_ld rfl rfl (ld_dst s21)) ?_; refine Hid.out ?_)
          refine Hid.mk ?_
          go_wp2_with (refine wl_value rfl (exec_fpk 13 (by decide) rfl rfl) ?_; refine Hid.out ?_)
          refine Hid.mk ?_
          go_wp2_with (refine wl_value rfl (exec_ld rfl rfl (ldPs (pk_pay s21))) ?_; refine Hid.out ?_)
          refine Hid.mk ?_
          have HC24 : Hid (Calls Tryd.prog 35 #[.agg (SC 17 (adV P.sv P.sb)), .agg (SC 17 (adV P.dv P.db)), .string P.pay] w20 fun e w' => e = .returned (.tuple #[.agg (SC 4 (msV (mRdM P.sv P.sb P.dv P.db P.pay))), .int .i64 (mRdE P.sv P.sb P.dv P.db P.pay)]) ∧ Below w20.heap.size w20 w') := Hid.mk (iParse_run P.sv P.sb P.dv P.db P.pay w20 HP.out.ok.sb HP.out.ok.db (by have := HP.out.bp; omega))
          go_wp2_with (refine wl_cal en_icmp_Parse HC24 rfl rfl (args3 rfl rfl rfl) ?_; intro w25 hB25; refine Hid.out ?_)
          refine Hid.mk ?_
          clear HC24
          have s26 := s21.kept hB25
          clear s21
          have s27 := s22.kept hB25
          clear s22
          have hbt28 := hbt23.trans (hB25.mono hbt23.size)
          clear hbt23
          clear hB25
          go_wp2_with (refine wl_alO (V := msV ms0) rfl rfl zeroMs ?_; intro g29 w29 hg29 s29 hB29; refine Hid.out ?_)
          refine Hid.mk ?_
          have hn30 : g1 ≠ g29 := by have := s26.lt; omega
          have hn31 : g4 ≠ g29 := by have := s27.lt; omega
          have hz32 : w.heap.size ≤ g29 := by have := hbt28.size; omega
          have s33 := s26.kept hB29
          clear s26
          have s34 := s27.kept hB29
          clear s27
          have hbt35 := hbt28.trans (hB29.mono hbt28.size)
          clear hbt28
          clear hB29 hg29
          go_wp2_with (refine st_stO (V := msV (mRdM P.sv P.sb P.dv P.db P.pay)) (g := g29) rfl rfl isMs (msV_one _) s29 rfl rfl ?_; intro w36 s36 ho36; refine Hid.out ?_)
          refine Hid.mk ?_
          clear s29
          have s37 := s33.only ho36 hn30
          clear s33
          have s38 := s34.only ho36 hn31
          clear s34
          have hbt39 := hbt35.trans (ho36.below hz32)
          clear hbt35
          clear ho36
          go_wp2_with (refine wl_value rfl (look_st rfl isMs s36 rfl) ?_; refine Hid.out ?_)
          refine Hid.mk ?_
          rcases Bool.eq_false_or_eq_true (decide (mRdE P.sv P.sb P.dv P.db P.pay = 0)) with hb40 | hb40
          · have Hhb40 := Hid.mk hb40
            clear hb40
            have HDhb40 := Hid.mk (of_decide_eq_true Hhb40.out)
            go_wp2_with (refine wl_value rfl (kn_ (c := true) Hhb40 (cmp_eqE (m := mRdE P.sv P.sb P.dv P.db P.pay) (n := 0) rfl rfl rfl)) ?_; refine Hid.out ?_)
            refine Hid.mk ?_
            go_wp2_with (refine st_stO (V := msV (mRdM P.sv P.sb P.dv P.db P.pay)) (g := g4) rfl rfl isMs (msV_one _) s38 rfl rfl ?_; intro w41 s41 ho41; refine Hid.out ?_)
            refine Hid.mk ?_
            clear s38
            have s42 := s37.only ho41 hn5
            clear s37
            have s43 := s36.only ho41 hn31.symm
            clear s36
            have hbt44 := hbt39.trans (ho41.below hz6)
            clear hbt39
            clear ho41
            go_wp2_with fail
            have hC : msgC P = true := by unfold msgC; simp [Hhb9.out, Hhb10.out, Hhb18.out, Hhb19.out, Hhb40.out]
            have hB : msgB P = true := by unfold msgB msgE; rw [hC, Hhb40.out]; rfl
            have hM : msgM P = mRdM P.sv P.sb P.dv P.db P.pay := by unfold msgM; rw [if_pos hC]
            refine bodyPost_ret (res_ct rfl isMs s41 (by rfl) (by rfl)) rfl ?_
            exact ⟨Eq.trans (rfl : _ = Ending.returned (.tuple #[.agg (SC 4 (msV (mRdM P.sv P.sb P.dv P.db P.pay))), .bool true])) (by rw [← HRV.out, hB, hM]), hbt44⟩
          · have Hhb40 := Hid.mk hb40
            clear hb40
            have HDhb40 := Hid.mk (of_decide_eq_false Hhb40.out)
            go_wp2_with (refine wl_value rfl (kn_ (c := false) Hhb40 (cmp_eqE (m := mRdE P.sv P.sb P.dv P.db P.pay) (n := 0) rfl rfl rfl)) ?_; refine Hid.out ?_)
            refine Hid.mk ?_
            go_wp2_with (refine st_stO (V := msV (mRdM P.sv P.sb P.dv P.db P.pay)) (g := g4) rfl rfl isMs (msV_one _) s38 rfl rfl ?_; intro w45 s45 ho45; refine Hid.out ?_)
            refine Hid.mk ?_
            clear s38
            have s46 := s37.only ho45 hn5
            clear s37
            have s47 := s36.only ho45 hn31.symm
            clear s36
            have hbt48 := hbt39.trans (ho45.below hz6)
            clear hbt39
            clear ho45
            go_wp2_with fail
            have hC : msgC P = true := by unfold msgC; simp [Hhb9.out, Hhb10.out, Hhb18.out, Hhb19.out, Hhb40.out]
            have hB : msgB P = false := by unfold msgB msgE; rw [hC, Hhb40.out]; rfl
            have hM : msgM P = mRdM P.sv P.sb P.dv P.db P.pay := by unfold msgM; rw [if_pos hC]
            refine bodyPost_ret (res_ct rfl isMs s45 (by rfl) (by rfl)) rfl ?_
            exact ⟨Eq.trans (rfl : _ = Ending.returned (.tuple #[.agg (SC 4 (msV (mRdM P.sv P.sb P.dv P.db P.pay))), .bool false])) (by rw [← HRV.out, hB, hM]), hbt48⟩
        · have Hhb19 := Hid.mk hb19
          clear hb19
          have HDhb19 := Hid.mk (of_decide_eq_false Hhb19.out)
          go_upto_region 1 with fail
          refine wp_region3 (Below w4.heap.size w4) w4.heap.size
              ([] : List (Nat × Cont))
              [kv (.agg (SC 46 (pkV P vx))), kv (.bool true), kv (.bool false), kv (.bool false), kv (.pointer (some ⟨g1, 39, none⟩)), kv (.bool false), kv (.bool false), kv (.bool false), kv (.pointer (some ⟨g1, 38, none⟩)), kv (.int .i64 P.off), kv (.bool false), kv (.bool false), kv (.bool false), kv (.pointer (some ⟨g1, 34, none⟩)), kv (.int .i64 P.proto), kv (.pointer (some ⟨g1, 0, none⟩)), kv (.agg (SC 17 (adV P.sv P.sb))), kv (.agg (SC 28 (verV P.sv))), kv (.int .i64 (protoK P.sv)), kv (.bool true), kv (.bool true)]
              [.none, .none, .none, .none, .none, .none, .none, .none, .none, .none, .none, .none, .none, .none, .none, .none, .none, .none, .none, .none, .none]
              [some 6, some 7, some 8, some 9, some 10, some 11, some 12, some 13, some 14, some 15, some 16, some 17, some 18, some 19, some 20, some 21, some 22, some 23, some 24, some 25, some 26]
              [(1, .pointer (some ⟨g1, 0, none⟩))]
              [[], [.slot 0], [.slot 1], [.slot 2], [.slot 3], [.slot 3, .slot 4], [.slot 3, .slot 5], [.slot 6], [.slot 7], [.slot 7, .slot 8], [.slot 7, .slot 9], [.slot 7, .slot 10], [.slot 11], [.slot 12], [.slot 12, .slot 13], [.slot 12], [.slot 12, .slot 15], [.slot 12, .slot 16], [.slot 12, .slot 17], [.slot 12, .slot 14, .slot 18], [.slot 12, .slot 19]]
              [.slot 20] [6, 7, 8, 9, 10, 11, 12, 13, 14, 15, 16, 17, 18, 19, 20, 21, 22, 23, 24, 25, 26]
              rfl (by kernel_rfl) ⟨rfl, trivial⟩ ((Below.refl _ w4).drew) (Nat.le_refl _) trivial trivial (below_GcW (Nat.le_refl _))
              ⟨
              (fun QQ aa ww own hS hBg fr kn => .inl ⟨trivial, fun K hK => wp_value (look_st rfl isPk (SAt.kept s7 hS) fr.1) (hK _ _ ⟨Touch.refl _ _, rfl⟩)⟩),
              (fun QQ aa ww own hS hBg fr kn => .inl ⟨trivial, fun K hK => stepc en_ip_Right rfl (args1 kn.1) (by have h := Right_run P vx ww (ExAt.kept (ExAt.kept HX.out hbt8) hS) HP.out.ne HP.out.be; rw [Hhb9.out] at h; exact h) (fun w' hb => hK _ _ ⟨touch_below hb, rfl⟩)⟩),
              (fun QQ aa ww own hS hBg fr kn => .inl ⟨trivial, fun K hK => wp_value (exec_notB rfl kn.1) (hK _ _ ⟨Touch.refl _ _, rfl⟩)⟩),
              (fun QQ aa ww own hS hBg fr kn => .inl ⟨trivial, fun K hK => wp_value (exec_move rfl kn.1) (hK _ _ ⟨Touch.refl _ _, rfl⟩)⟩),
              (fun QQ aa ww own hS hBg fr kn => .inl ⟨kn.1, fun K hK => wp_value (exec_fpk 7 (by decide) rfl fr.1) (hK _ _ ⟨Touch.refl _ _, rfl⟩)⟩),
              (fun QQ aa ww own hS hBg fr kn => .inl ⟨kn.1, fun K hK => wp_value (kn_ (c := false) Hhb10 (exec_ld rfl kn.2.1 (ldPb (pk_more (SAt.kept s7 hS))))) (hK _ _ ⟨Touch.refl _ _, rfl⟩)⟩),
              (fun QQ aa ww own hS hBg fr kn => .inl ⟨trivial, fun K hK => wp_value (exec_pickF (v := .bool false) rfl kn.1 kn.2.1) (hK _ _ ⟨Touch.refl _ _, rfl⟩)⟩),
              (fun QQ aa ww own hS hBg fr kn => .inl ⟨trivial, fun K hK => wp_value (exec_move rfl kn.1) (hK _ _ ⟨Touch.refl _ _, rfl⟩)⟩),
              (fun QQ aa ww own hS hBg fr kn => .inl ⟨kn.1, fun K hK => wp_value (exec_fpk 6 (by decide) rfl fr.1) (hK _ _ ⟨Touch.refl _ _, rfl⟩)⟩),
              (fun QQ aa ww own hS hBg fr kn => .inl ⟨kn.1, fun K hK => wp_value (exec_ld rfl kn.2.1 (ldP (pk_off (SAt.kept s7 hS)))) (hK _ _ ⟨Touch.refl _ _, rfl⟩)⟩),
              (fun QQ aa ww own hS hBg fr kn => .inl ⟨kn.1, fun K hK => wp_value (kn_n (c := false) Hhb18 (cmp_ne (m := P.off) (n := 0) rfl kn.2.1 rfl)) (hK _ _ ⟨Touch.refl _ _, rfl⟩)⟩),
              (fun QQ aa ww own hS hBg fr kn => .inl ⟨trivial, fun K hK => wp_value (exec_pickF (v := .bool false) rfl kn.1 kn.2.1) (hK _ _ ⟨Touch.refl _ _, rfl⟩)⟩),
              (fun QQ aa ww own hS hBg fr kn => .inl ⟨trivial, fun K hK => wp_value (exec_move rfl kn.1) (hK _ _ ⟨Touch.refl _ _, rfl⟩)⟩),
              (fun QQ aa ww own hS hBg fr kn => .inl ⟨kn.1, fun K hK => wp_value (exec_fpk 2 (by decide) rfl fr.1) (hK _ _ ⟨Touch.refl _ _, rfl⟩)⟩),
              (fun QQ aa ww own hS hBg fr kn => .inl ⟨kn.1, fun K hK => wp_value (exec_ld rfl kn.2.1 (ldP (pk_proto (SAt.kept s7 hS)))) (hK _ _ ⟨Touch.refl _ _, rfl⟩)⟩),
              (fun QQ aa ww own hS hBg fr kn => .inl ⟨kn.1, fun K hK => wp_value (exec_fpk 0 (by decide) rfl fr.1) (hK _ _ ⟨Touch.refl _ _, rfl⟩)⟩),
              (fun QQ aa ww own hS hBg fr kn => .inl ⟨kn.1, fun K hK => wp_value (exec_ld rfl kn.2.1 (ld_src (SAt.kept s7 hS))) (hK _ _ ⟨Touch.refl _ _, rfl⟩)⟩),
              (fun QQ aa ww own hS hBg fr kn => .inl ⟨kn.1, fun K hK => stepc en_icmp_versionOf rfl (args1 kn.2.1) (versionOf_run P.sv P.sb ww (Env.kept (Env.kept HE.out hbt8) hS)) (fun w' hb => hK _ _ ⟨touch_below hb, rfl⟩)⟩),
              (fun QQ aa ww own hS hBg fr kn => .inl ⟨kn.1, fun K hK => wp_value (exec_fv0 rfl kn.2.1) (hK _ _ ⟨Touch.refl _ _, rfl⟩)⟩),
              (fun QQ aa ww own hS hBg fr kn => .inl ⟨kn.1, fun K hK => wp_value (kn_n (c := true) Hhb19 (cmp_ne (m := P.proto) (n := protoK P.sv) rfl kn.2.1 kn.2.2.1)) (hK _ _ ⟨Touch.refl _ _, rfl⟩)⟩),
              (fun QQ aa ww own hS hBg fr kn => .inl ⟨trivial, fun K hK => wp_value (exec_pickF (v := .bool true) rfl kn.1 kn.2.1) (hK _ _ ⟨Touch.refl _ _, rfl⟩)⟩),
              trivial⟩ ?_
          intro vs own w49 hB49 hsz kn inj
          have e26 : vs 26 = .bool true := kn.1
          clear kn inj hsz
          simp only [putAll, Act.put, List.setIfInBounds_toArray, List.set_cons_zero, List.set_cons_succ, e26]
          clear e26
          have s50 := s7.kept hB49
          clear s7
          have s51 := s4.kept hB49
          clear s4
          have hbt52 := hbt8.trans (hB49.mono hbt8.size)
          clear hbt8
          clear hB49
          go_wp2_with (refine wl_value rfl (exec_bdMs0 rfl) ?_; refine Hid.out ?_)
          refine Hid.mk ?_
          go_wp2_with (refine st_stO (V := msV ms0) (g := g4) rfl rfl isMs (msV_one _) s51 rfl rfl ?_; intro w53 s53 ho53; refine Hid.out ?_)
          refine Hid.mk ?_
          clear s51
          have s54 := s50.only ho53 hn5
          clear s50
          have hbt55 := hbt52.trans (ho53.below hz6)
          clear hbt52
          clear ho53
          go_wp2_with fail
          have hC : msgC P = false := by unfold msgC; simp [Hhb9.out, Hhb10.out, Hhb18.out, Hhb19.out]
          have hB : msgB P = false := by unfold msgB; rw [hC]; rfl
          have hM : msgM P = ms0 := by unfold msgM; rw [if_neg (by rw [hC]; decide)]
          refine bodyPost_ret (res_ct rfl isMs s53 (by rfl) (by rfl)) rfl ?_
          exact ⟨Eq.trans (rfl : _ = Ending.returned (.tuple #[.agg (SC 4 (msV ms0)), .bool false])) (by rw [← HRV.out, hB, hM]), hbt55⟩
      · have Hhb18 := Hid.mk hb18
        clear hb18
        have HDhb18 := Hid.mk (of_decide_eq_false Hhb18.out)
        go_upto_region 1 with fail
        refine wp_region3 (Below w4.heap.size w4) w4.heap.size
            ([] : List (Nat × Cont))
            [kv (.agg (SC 46 (pkV P vx))), kv (.bool true), kv (.bool false), kv (.bool false), kv (.pointer (some ⟨g1, 39, none⟩)), kv (.bool false), kv (.bool false), kv (.bool false), kv (.pointer (some ⟨g1, 38, none⟩)), kv (.int .i64 P.off), kv (.bool true), kv (.bool true), kv (.bool true), kv (undef), kv (undef), kv (undef), kv (undef), kv (undef), kv (undef), kv (undef), kv (.bool true)]
            [.none, .none, .none, .none, .none, .none, .none, .none, .none, .none, .none, .none, .none, .none, .none, .none, .none, .none, .none, .none, .none]
            [some 6, some 7, some 8, some 9, some 10, some 11, some 12, some 13, some 14, some 15, some 16, some 17, some 18, some 19, some 20, some 21, some 22, some 23, some 24, some 25, some 26]
            [(1, .pointer (some ⟨g1, 0, none⟩))]
            [[], [.slot 0], [.slot 1], [.slot 2], [.slot 3], [.slot 3, .slot 4], [.slot 3, .slot 5], [.slot 6], [.slot 7], [.slot 7, .slot 8], [.slot 7, .slot 9], [.slot 7, .slot 10], [.slot 11], [.slot 12], [.slot 12], [.slot 12], [.slot 12], [.slot 12], [.slot 12], [.slot 12], [.slot 12, .slot 19]]
            [.slot 20] [6, 7, 8, 9, 10, 11, 12, 13, 14, 15, 16, 17, 18, 19, 20, 21, 22, 23, 24, 25, 26]
            rfl (by kernel_rfl) ⟨rfl, trivial⟩ ((Below.refl _ w4).drew) (Nat.le_refl _) trivial trivial (below_GcW (Nat.le_refl _))
            ⟨
            (fun QQ aa ww own hS hBg fr kn => .inl ⟨trivial, fun K hK => wp_value (look_st rfl isPk (SAt.kept s7 hS) fr.1) (hK _ _ ⟨Touch.refl _ _, rfl⟩)⟩),
            (fun QQ aa ww own hS hBg fr kn => .inl ⟨trivial, fun K hK => stepc en_ip_Right rfl (args1 kn.1) (by have h := Right_run P vx ww (ExAt.kept (ExAt.kept HX.out hbt8) hS) HP.out.ne HP.out.be; rw [Hhb9.out] at h; exact h) (fun w' hb => hK _ _ ⟨touch_below hb, rfl⟩)⟩),
            (fun QQ aa ww own hS hBg fr kn => .inl ⟨trivial, fun K hK => wp_value (exec_notB rfl kn.1) (hK _ _ ⟨Touch.refl _ _, rfl⟩)⟩),
            (fun QQ aa ww own hS hBg fr kn => .inl ⟨trivial, fun K hK => wp_value (exec_move rfl kn.1) (hK _ _ ⟨Touch.refl _ _, rfl⟩)⟩),
            (fun QQ aa ww own hS hBg fr kn => .inl ⟨kn.1, fun K hK => wp_value (exec_fpk 7 (by decide) rfl fr.1) (hK _ _ ⟨Touch.refl _ _, rfl⟩)⟩),
            (fun QQ aa ww own hS hBg fr kn => .inl ⟨kn.1, fun K hK => wp_value (kn_ (c := false) Hhb10 (exec_ld rfl kn.2.1 (ldPb (pk_more (SAt.kept s7 hS))))) (hK _ _ ⟨Touch.refl _ _, rfl⟩)⟩),
            (fun QQ aa ww own hS hBg fr kn => .inl ⟨trivial, fun K hK => wp_value (exec_pickF (v := .bool false) rfl kn.1 kn.2.1) (hK _ _ ⟨Touch.refl _ _, rfl⟩)⟩),
            (fun QQ aa ww own hS hBg fr kn => .inl ⟨trivial, fun K hK => wp_value (exec_move rfl kn.1) (hK _ _ ⟨Touch.refl _ _, rfl⟩)⟩),
            (fun QQ aa ww own hS hBg fr kn => .inl ⟨kn.1, fun K hK => wp_value (exec_fpk 6 (by decide) rfl fr.1) (hK _ _ ⟨Touch.refl _ _, rfl⟩)⟩),
            (fun QQ aa ww own hS hBg fr kn => .inl ⟨kn.1, fun K hK => wp_value (exec_ld rfl kn.2.1 (ldP (pk_off (SAt.kept s7 hS)))) (hK _ _ ⟨Touch.refl _ _, rfl⟩)⟩),
            (fun QQ aa ww own hS hBg fr kn => .inl ⟨kn.1, fun K hK => wp_value (kn_n (c := true) Hhb18 (cmp_ne (m := P.off) (n := 0) rfl kn.2.1 rfl)) (hK _ _ ⟨Touch.refl _ _, rfl⟩)⟩),
            (fun QQ aa ww own hS hBg fr kn => .inl ⟨trivial, fun K hK => wp_value (exec_pickF (v := .bool true) rfl kn.1 kn.2.1) (hK _ _ ⟨Touch.refl _ _, rfl⟩)⟩),
            (fun QQ aa ww own hS hBg fr kn => .inl ⟨trivial, fun K hK => wp_value (exec_move rfl kn.1) (hK _ _ ⟨Touch.refl _ _, rfl⟩)⟩),
            (fun QQ aa ww own hS hBg fr kn => .inr ⟨.inl kn.1, Touch.refl _ _, rfl⟩),
            (fun QQ aa ww own hS hBg fr kn => .inr ⟨.inl kn.1, Touch.refl _ _, rfl⟩),
            (fun QQ aa ww own hS hBg fr kn => .inr ⟨.inl kn.1, Touch.refl _ _, rfl⟩),
            (fun QQ aa ww own hS hBg fr kn => .inr ⟨.inl kn.1, Touch.refl _ _, rfl⟩),
            (fun QQ aa ww own hS hBg fr kn => .inr ⟨.inl kn.1, Touch.refl _ _, rfl⟩),
            (fun QQ aa ww own hS hBg fr kn => .inr ⟨.inl kn.1, Touch.refl _ _, rfl⟩),
            (fun QQ aa ww own hS hBg fr kn => .inr ⟨.inl kn.1, Touch.refl _ _, rfl⟩),
            (fun QQ aa ww own hS hBg fr kn => .inl ⟨trivial, fun K hK => wp_value (exec_pick (v := .bool true) rfl kn.1 rfl) (hK _ _ ⟨Touch.refl _ _, rfl⟩)⟩),
            trivial⟩ ?_
        intro vs own w56 hB56 hsz kn inj
        have e26 : vs 26 = .bool true := kn.1
        clear kn inj hsz
        simp only [putAll, Act.put, List.setIfInBounds_toArray, List.set_cons_zero, List.set_cons_succ, e26]
        clear e26
        have s57 := s7.kept hB56
        clear s7
        have s58 := s4.kept hB56
        clear s4
        have hbt59 := hbt8.trans (hB56.mono hbt8.size)
        clear hbt8
        clear hB56
        go_wp2_with (refine wl_value rfl (exec_bdMs0 rfl) ?_; refine Hid.out ?_)
        refine Hid.mk ?_
        go_wp2_with (refine st_stO (V := msV ms0) (g := g4) rfl rfl isMs (msV_one _) s58 rfl rfl ?_; intro w60 s60 ho60; refine Hid.out ?_)
        refine Hid.mk ?_
        clear s58
        have s61 := s57.only ho60 hn5
        clear s57
        have hbt62 := hbt59.trans (ho60.below hz6)
        clear hbt59
        clear ho60
        go_wp2_with fail
        have hC : msgC P = false := by unfold msgC; simp [Hhb9.out, Hhb10.out, Hhb18.out]
        have hB : msgB P = false := by unfold msgB; rw [hC]; rfl
        have hM : msgM P = ms0 := by unfold msgM; rw [if_neg (by rw [hC]; decide)]
        refine bodyPost_ret (res_ct rfl isMs s60 (by rfl) (by rfl)) rfl ?_
        exact ⟨Eq.trans (rfl : _ = Ending.returned (.tuple #[.agg (SC 4 (msV ms0)), .bool false])) (by rw [← HRV.out, hB, hM]), hbt62⟩
  · have Hhb9 := Hid.mk hb9
    clear hb9
    go_upto_region 1 with fail
    refine wp_region3 (Below w4.heap.size w4) w4.heap.size
        ([] : List (Nat × Cont))
        [kv (.agg (SC 46 (pkV P vx))), kv (.bool false), kv (.bool true), kv (.bool true), kv (undef), kv (undef), kv (.bool true), kv (.bool true), kv (undef), kv (undef), kv (undef), kv (.bool true), kv (.bool true), kv (undef), kv (undef), kv (undef), kv (undef), kv (undef), kv (undef), kv (undef), kv (.bool true)]
        [.none, .none, .none, .none, .none, .none, .none, .none, .none, .none, .none, .none, .none, .none, .none, .none, .none, .none, .none, .none, .none]
        [some 6, some 7, some 8, some 9, some 10, some 11, some 12, some 13, some 14, some 15, some 16, some 17, some 18, some 19, some 20, some 21, some 22, some 23, some 24, some 25, some 26]
        [(1, .pointer (some ⟨g1, 0, none⟩))]
        [[], [.slot 0], [.slot 1], [.slot 2], [.slot 3], [.slot 3], [.slot 3, .slot 5], [.slot 6], [.slot 7], [.slot 7], [.slot 7], [.slot 7, .slot 10], [.slot 11], [.slot 12], [.slot 12], [.slot 12], [.slot 12], [.slot 12], [.slot 12], [.slot 12], [.slot 12, .slot 19]]
        [.slot 20] [6, 7, 8, 9, 10, 11, 12, 13, 14, 15, 16, 17, 18, 19, 20, 21, 22, 23, 24, 25, 26]
        rfl (by kernel_rfl) ⟨rfl, trivial⟩ ((Below.refl _ w4).drew) (Nat.le_refl _) trivial trivial (below_GcW (Nat.le_refl _))
        ⟨
        (fun QQ aa ww own hS hBg fr kn => .inl ⟨trivial, fun K hK => wp_value (look_st rfl isPk (SAt.kept s7 hS) fr.1) (hK _ _ ⟨Touch.refl _ _, rfl⟩)⟩),
        (fun QQ aa ww own hS hBg fr kn => .inl ⟨trivial, fun K hK => stepc en_ip_Right rfl (args1 kn.1) (by have h := Right_run P vx ww (ExAt.kept (ExAt.kept HX.out hbt8) hS) HP.out.ne HP.out.be; rw [Hhb9.out] at h; exact h) (fun w' hb => hK _ _ ⟨touch_below hb, rfl⟩)⟩),
        (fun QQ aa ww own hS hBg fr kn => .inl ⟨trivial, fun K hK => wp_value (exec_notB rfl kn.1) (hK _ _ ⟨Touch.refl _ _, rfl⟩)⟩),
        (fun QQ aa ww own hS hBg fr kn => .inl ⟨trivial, fun K hK => wp_value (exec_move rfl kn.1) (hK _ _ ⟨Touch.refl _ _, rfl⟩)⟩),
        (fun QQ aa ww own hS hBg fr kn => .inr ⟨.inl kn.1, Touch.refl _ _, rfl⟩),
        (fun QQ aa ww own hS hBg fr kn => .inr ⟨.inl kn.1, Touch.refl _ _, rfl⟩),
        (fun QQ aa ww own hS hBg fr kn => .inl ⟨trivial, fun K hK => wp_value (exec_pick (v := .bool true) rfl kn.1 rfl) (hK _ _ ⟨Touch.refl _ _, rfl⟩)⟩),
        (fun QQ aa ww own hS hBg fr kn => .inl ⟨trivial, fun K hK => wp_value (exec_move rfl kn.1) (hK _ _ ⟨Touch.refl _ _, rfl⟩)⟩),
        (fun QQ aa ww own hS hBg fr kn => .inr ⟨.inl kn.1, Touch.refl _ _, rfl⟩),
        (fun QQ aa ww own hS hBg fr kn => .inr ⟨.inl kn.1, Touch.refl _ _, rfl⟩),
        (fun QQ aa ww own hS hBg fr kn => .inr ⟨.inl kn.1, Touch.refl _ _, rfl⟩),
        (fun QQ aa ww own hS hBg fr kn => .inl ⟨trivial, fun K hK => wp_value (exec_pick (v := .bool true) rfl kn.1 rfl) (hK _ _ ⟨Touch.refl _ _, rfl⟩)⟩),
        (fun QQ aa ww own hS hBg fr kn => .inl ⟨trivial, fun K hK => wp_value (exec_move rfl kn.1) (hK _ _ ⟨Touch.refl _ _, rfl⟩)⟩),
        (fun QQ aa ww own hS hBg fr kn => .inr ⟨.inl kn.1, Touch.refl _ _, rfl⟩),
        (fun QQ aa ww own hS hBg fr kn => .inr ⟨.inl kn.1, Touch.refl _ _, rfl⟩),
        (fun QQ aa ww own hS hBg fr kn => .inr ⟨.inl kn.1, Touch.refl _ _, rfl⟩),
        (fun QQ aa ww own hS hBg fr kn => .inr ⟨.inl kn.1, Touch.refl _ _, rfl⟩),
        (fun QQ aa ww own hS hBg fr kn => .inr ⟨.inl kn.1, Touch.refl _ _, rfl⟩),
        (fun QQ aa ww own hS hBg fr kn => .inr ⟨.inl kn.1, Touch.refl _ _, rfl⟩),
        (fun QQ aa ww own hS hBg fr kn => .inr ⟨.inl kn.1, Touch.refl _ _, rfl⟩),
        (fun QQ aa ww own hS hBg fr kn => .inl ⟨trivial, fun K hK => wp_value (exec_pick (v := .bool true) rfl kn.1 rfl) (hK _ _ ⟨Touch.refl _ _, rfl⟩)⟩),
        trivial⟩ ?_
    intro vs own w63 hB63 hsz kn inj
    have e26 : vs 26 = .bool true := kn.1
    clear kn inj hsz
    simp only [putAll, Act.put, List.setIfInBounds_toArray, List.set_cons_zero, List.set_cons_succ, e26]
    clear e26
    have s64 := s7.kept hB63
    clear s7
    have s65 := s4.kept hB63
    clear s4
    have hbt66 := hbt8.trans (hB63.mono hbt8.size)
    clear hbt8
    clear hB63
    go_wp2_with (refine wl_value rfl (exec_bdMs0 rfl) ?_; refine Hid.out ?_)
    refine Hid.mk ?_
    go_wp2_with (refine st_stO (V := msV ms0) (g := g4) rfl rfl isMs (msV_one _) s65 rfl rfl ?_; intro w67 s67 ho67; refine Hid.out ?_)
    refine Hid.mk ?_
    clear s65
    have s68 := s64.only ho67 hn5
    clear s64
    have hbt69 := hbt66.trans (ho67.below hz6)
    clear hbt66
    clear ho67
    go_wp2_with fail
    have hC : msgC P = false := by unfold msgC; simp [Hhb9.out]
    have hB : msgB P = false := by unfold msgB; rw [hC]; rfl
    have hM : msgM P = ms0 := by unfold msgM; rw [if_neg (by rw [hC]; decide)]
    refine bodyPost_ret (res_ct rfl isMs s67 (by rfl) (by rfl)) rfl ?_
    exact ⟨Eq.trans (rfl : _ = Ending.returned (.tuple #[.agg (SC 4 (msV ms0)), .bool false])) (by rw [← HRV.out, hB, hM]), hbt69⟩
set_option linter.unusedSimpArgs false in
set_option maxHeartbeats 4000000 in
theorem packetOf_run (v1 : Bool) (b1 : Nat → Int) (v2 : Bool) (b2 : Nat → Int) (m : Ms) (w : World) (he : Env w) (hb1 : Byts 16 b1) (hb2 : Byts 16 b2) (hr : m.rest < 4294967296) : Calls Tryd.prog 23 #[.agg (SC 17 (adV v1 b1)), .agg (SC 17 (adV v2 b2)), .agg (SC 4 (msV m))] w fun e w' => e = .returned (.agg (SC 46 (pkV (pkOf v1 b1 v2 b2 m) (.slice none 0 0)))) ∧ Below w.heap.size w w' := by
  generalize hRV : (.agg (SC 46 (pkV (pkOf v1 b1 v2 b2 m) (.slice none 0 0))) : Value) = RV
  have HRV := Hid.mk hRV
  clear hRV
  have HE := Hid.mk he
  clear he
  have HR := Hid.mk hr
  clear hr
  go_enter Tryd.func23, Tryd.ntmps23
  go_wp2_with (refine wl_boxO (V := adV v1 b1) rfl rfl isAddr rfl ?_; intro g1 w1 hg1 s1 hB1; refine Hid.out ?_)
  refine Hid.mk ?_
  have hz2 : w.heap.size ≤ g1 := by omega
  have hbt3 := hB1
  clear hB1 hg1
  go_wp2_with (refine wl_boxO (V := adV v2 b2) rfl rfl isAddr rfl ?_; intro g4 w4 hg4 s4 hB4; refine Hid.out ?_)
  refine Hid.mk ?_
  have hn5 : g1 ≠ g4 := by have := s1.lt; omega
  have hz6 : w.heap.size ≤ g4 := by have := hbt3.size; omega
  have s7 := s1.kept hB4
  clear s1
  have hbt8 := hbt3.trans (hB4.mono hbt3.size)
  clear hbt3
  clear hB4 hg4
  go_wp2_with (refine wl_boxO (V := msV m) rfl rfl isMs rfl ?_; intro g9 w9 hg9 s9 hB9; refine Hid.out ?_)
  refine Hid.mk ?_
  have hn10 : g1 ≠ g9 := by have := s7.lt; omega
  have hn11 : g4 ≠ g9 := by have := s4.lt; omega
  have hz12 : w.heap.size ≤ g9 := by have := hbt8.size; omega
  have s13 := s7.kept hB9
  clear s7
  have s14 := s4.kept hB9
  clear s4
  have hbt15 := hbt8.trans (hB9.mono hbt8.size)
  clear hbt8
  clear hB9 hg9
  go_wp2_with (refine wl_alO (V := pkV zeroP (.slice none 0 0)) rfl rfl zeroPk ?_; intro g16 w16 hg16 s16 hB16; refine Hid.out ?_)
  refine Hid.mk ?_
  have hn17 : g1 ≠ g16 := by have := s13.lt; omega
  have hn18 : g4 ≠ g16 := by have := s14.lt; omega
  have hn19 : g9 ≠ g16 := by have := s9.lt; omega
  have hz20 : w.heap.size ≤ g16 := by have := hbt15.size; omega
  have s21 := s13.kept hB16
  clear s13
  have s22 := s14.kept hB16
  clear s14
  have s23 := s9.kept hB16
  clear s9
  have hbt24 := hbt15.trans (hB16.mono hbt15.size)
  clear hbt15
  clear hB16 hg16
  go_wp2_with (refine wl_value rfl (look_st rfl isAddr s21 rfl) ?_; refine Hid.out ?_)
  refine Hid.mk ?_
  go_wp2_with (refine wl_value rfl (look_st rfl isAddr s22 rfl) ?_; refine Hid.out ?_)
  refine Hid.mk ?_
  go_wp2_with (refine wl_value rfl (look_st rfl isMs s23 rfl) ?_; refine Hid.out ?_)
  refine Hid.mk ?_
  have HC25 : Hid (Calls Tryd.prog 20 #[.agg (SC 17 (adV v1 b1)), .agg (SC 17 (adV v2 b2)), .agg (SC 4 (msV m))] w16 fun e w' => e = .returned (.tuple #[.string (mBldT v1 b1 v2 b2 m), .int .i64 (mBldE v1 b1 v2 b2 m)]) ∧ Below w16.heap.size w16 w') := Hid.mk (iBuild_run v1 b1 v2 b2 m w16 hb1 hb2 HR.out)
  go_wp2_with (refine wl_cal en_icmp_Build HC25 rfl rfl (args3 rfl rfl rfl) ?_; intro w26 hB26; refine Hid.out ?_)
  refine Hid.mk ?_
  clear HC25
  have s27 := s21.kept hB26
  clear s21
  have s28 := s22.kept hB26
  clear s22
  have s29 := s23.kept hB26
  clear s23
  have s30 := s16.kept hB26
  clear s16
  have hbt31 := hbt24.trans (hB26.mono hbt24.size)
  clear hbt24
  clear hB26
  go_upto_region 2 with fail
  refine wp_region_cut 6 rfl (by kernel_rfl) (any_steps (Below w26.heap.size w26) (fun v v' => Below v.heap.size v v') (fun j vv _ => vv = ([.agg (SC 17 (adV v1 b1)), .agg (SC 17 (adV v2 b2)), .agg (SC 17 (adV v1 b1)), .agg (SC 28 (verV v1)), .int .i64 (protoK v1), .string (mBldT v1 b1 v2 b2 m)] : List Value).getD j undef)
      [16, 17, 18, 19, 20, 21]
      [(3, .pointer (some ⟨g1, 0, none⟩)), (4, .pointer (some ⟨g4, 0, none⟩)), (7, .string (mBldT v1 b1 v2 b2 m))]
      [[], [], [], [2], [3], []]
      (by kernel_rfl) ⟨rfl, rfl, rfl, trivial⟩ (Below.drew (Below.refl _ _)) (fun v v' h hb => h.trans (hb.mono h.size)) (fun _ _ _ _ h _ => h)
      ⟨
      (fun QQ aa ww hS fr kn => ⟨trivial, fun K hK => wp_value (look_st rfl isAddr (SAt.kept s27 hS) fr.1) (hK _ _ rfl (Below.refl _ _))⟩),
      (fun QQ aa ww hS fr kn => ⟨trivial, fun K hK => wp_value (look_st rfl isAddr (SAt.kept s28 hS) fr.2.1) (hK _ _ rfl (Below.refl _ _))⟩),
      (fun QQ aa ww hS fr kn => ⟨trivial, fun K hK => wp_value (look_st rfl isAddr (SAt.kept s27 hS) fr.1) (hK _ _ rfl (Below.refl _ _))⟩),
      (fun QQ aa ww hS fr kn => ⟨trivial, fun K hK => stepc en_icmp_versionOf rfl (args1 kn.1) (versionOf_run v1 b1 ww (Env.kept (Env.kept HE.out hbt31) hS)) (fun w' hb => hK _ _ rfl hb)⟩),
      (fun QQ aa ww hS fr kn => ⟨trivial, fun K hK => wp_value (exec_fv0 rfl kn.1) (hK _ _ rfl (Below.refl _ _))⟩),
      (fun QQ aa ww hS fr kn => ⟨trivial, fun K hK => wp_value (exec_move rfl fr.2.2.1) (hK _ _ rfl (Below.refl _ _))⟩),
      trivial⟩ ?_)
  intro vs w32 hB32 kn
  have e16 : vs 16 = .agg (SC 17 (adV v1 b1)) := kn 0 (by decide)
  have e17 : vs 17 = .agg (SC 17 (adV v2 b2)) := kn 1 (by decide)
  have e20 : vs 20 = .int .i64 (protoK v1) := kn 4 (by decide)
  have e21 : vs 21 = .string (mBldT v1 b1 v2 b2 m) := kn 5 (by decide)
  clear kn
  show wpList Tryd.prog _ _ (_ :: _ :: []) _ _
  simp only [putAll, Act.put, List.setIfInBounds_toArray, List.set_cons_zero, List.set_cons_succ, e16, e17, e20, e21]
  clear e16 e17 e20 e21
  have s33 := s27.kept hB32
  clear s27
  have s34 := s28.kept hB32
  clear s28
  have s35 := s29.kept hB32
  clear s29
  have s36 := s30.kept hB32
  clear s30
  have hbt37 := hbt31.trans (hB32.mono hbt31.size)
  clear hbt31
  clear hB32
  go_wp2_with (refine wl_value rfl (exec_bdPk rfl rfl rfl rfl rfl rfl) ?_; refine Hid.out ?_)
  refine Hid.mk ?_
  go_wp2_with (refine st_stO (V := pkV (⟨v1, b1, v2, b2, protoK v1, 64, 0, 0, 0, false, false, ByteArray.empty, 0, [], false, mBldT v1 b1 v2 b2 m⟩) (.slice none 0 0)) (g := g16) rfl rfl isPk (pkV_one rfl) s36 rfl rfl ?_; intro w38 s38 ho38; refine Hid.out ?_)
  refine Hid.mk ?_
  clear s36
  have s39 := s33.only ho38 hn17
  clear s33
  have s40 := s34.only ho38 hn18
  clear s34
  have s41 := s35.only ho38 hn19
  clear s35
  have hbt42 := hbt37.trans (ho38.below hz20)
  clear hbt37
  clear ho38
  go_wp2_with fail
  refine bodyPost_ret (res_st rfl isPk s38 (by rfl)) rfl ?_
  exact ⟨Eq.trans (rfl : _ = Ending.returned (.agg (SC 46 (pkV (⟨v1, b1, v2, b2, protoK v1, 64, 0, 0, 0, false, false, ByteArray.empty, 0, [], false, mBldT v1 b1 v2 b2 m⟩) (.slice none 0 0))))) (by rw [← HRV.out] <;> rfl), hbt42⟩
theorem ne_size {s : ByteArray} (h : s ≠ ByteArray.empty) : 0 < s.size := by
  rcases Nat.eq_zero_or_pos s.size with e | e
  · exact absurd (ByteArray.ext (Array.eq_empty_of_size_eq_zero e)) h
  · exact e
theorem off_le {n : Int} : decide (n ≤ 0) = !decide (0 < n) := by
  by_cases h : n ≤ 0
  · rw [decide_eq_true h, decide_eq_false (by omega)]; rfl
  · rw [decide_eq_false h, decide_eq_true (by omega)]; rfl
theorem pay_ne {s : ByteArray} : decide (s.size ≠ 0) = !decide (s = ByteArray.empty) := by
  by_cases h : s = ByteArray.empty
  · subst h; rfl
  · have := ne_size h
    rw [decide_eq_true (by omega), decide_eq_false h]
    rfl
set_option linter.unusedSimpArgs false in
set_option maxHeartbeats 4000000 in
theorem may_run (P : Pk) (vx : Value) (w : World) (he : Env w) : Calls Tryd.prog 25 #[.agg (SC 46 (pkV P vx))] w fun e w' => e = .returned (.bool (ansM P)) ∧ Below w.heap.size w w' := by
  generalize hRV : (.bool (ansM P) : Value) = RV
  have HRV := Hid.mk hRV
  clear hRV
  have HE := Hid.mk he
  clear he
  go_enter Tryd.func25, Tryd.ntmps25
  go_wp2_with (refine wl_boxO (V := pkV P vx) rfl rfl isPk rfl ?_; intro g1 w1 hg1 s1 hB1; refine Hid.out ?_)
  refine Hid.mk ?_
  have hz2 : w.heap.size ≤ g1 := by omega
  have hbt3 := hB1
  clear hB1 hg1
  go_wp2_with (refine wl_value rfl (exec_fpk 6 (by decide) rfl rfl) ?_; refine Hid.out ?_)
  refine Hid.mk ?_
  go_wp2_with (refine wl_value rfl (exec_ld rfl rfl (ldP (pk_off s1))) ?_; refine Hid.out ?_)
  refine Hid.mk ?_
  rcases Bool.eq_false_or_eq_true (decide (0 < P.off)) with hb4 | hb4
  · have Hhb4 := Hid.mk hb4
    clear hb4
    have HDhb4 := Hid.mk (of_decide_eq_true Hhb4.out)
    go_wp2_with (refine wl_value rfl (kn_ (c := true) Hhb4 (cmp_gt (m := P.off) (n := 0) rfl rfl rfl)) ?_; refine Hid.out ?_)
    refine Hid.mk ?_
    go_wp2_with fail
    have hv : ansM P = false := by unfold ansM ansB; rw [off_le, pay_ne]; simp [Hhb4.out]
    go_ret
    exact ⟨Eq.trans (rfl : _ = Ending.returned (.bool false)) (by rw [← HRV.out, hv]), hbt3⟩
  · have Hhb4 := Hid.mk hb4
    clear hb4
    have HDhb4 := Hid.mk (of_decide_eq_false Hhb4.out)
    go_wp2_with (refine wl_value rfl (kn_ (c := false) Hhb4 (cmp_gt (m := P.off) (n := 0) rfl rfl rfl)) ?_; refine Hid.out ?_)
    refine Hid.mk ?_
    go_wp2_with (refine wl_value rfl (exec_fpk 0 (by decide) rfl rfl) ?_; refine Hid.out ?_)
    refine Hid.mk ?_
    go_wp2_with (refine wl_value rfl (exec_ld rfl rfl (ld_src s1)) ?_; refine Hid.out ?_)
    refine Hid.mk ?_
    rcases Bool.eq_false_or_eq_true (oneB P.sv P.sb) with hb5 | hb5
    · have Hhb5 := Hid.mk hb5
      clear hb5
      have HC6 : Hid (Calls Tryd.prog 22 #[.agg (SC 17 (adV P.sv P.sb))] w1 fun e w' => e = .returned (.bool true) ∧ Below w1.heap.size w1 w') := Hid.mk (by have h := isOne_run P.sv P.sb w1; rw [Hhb5.out] at h; exact h)
      go_wp2_with (refine wl_cal en_icmp_isOne HC6 rfl rfl (args1 rfl) ?_; intro w7 hB7; refine Hid.out ?_)
      refine Hid.mk ?_
      clear HC6
      have s8 := s1.kept hB7
      clear s1
      have hbt9 := hbt3.trans (hB7.mono hbt3.size)
      clear hbt3
      clear hB7
      go_wp2_with (refine wl_value rfl (exec_fpk 1 (by decide) rfl rfl) ?_; refine Hid.out ?_)
      refine Hid.mk ?_
      go_wp2_with (refine wl_value rfl (exec_ld rfl rfl (ld_dst s8)) ?_; refine Hid.out ?_)
      refine Hid.mk ?_
      rcases Bool.eq_false_or_eq_true (groupF P.dv P.db) with hb10 | hb10
      · have Hhb10 := Hid.mk hb10
        clear hb10
        have HC11 : Hid (Calls Tryd.prog 37 #[.agg (SC 17 (adV P.dv P.db))] w7 fun e w' => e = .returned (.bool true) ∧ Below w7.heap.size w7 w') := Hid.mk (by have h := Group_run P.dv P.db w7; rw [Hhb10.out] at h; exact h)
        go_wp2_with (refine wl_cal en_wire_Group HC11 rfl rfl (args1 rfl) ?_; intro w12 hB12; refine Hid.out ?_)
        refine Hid.mk ?_
        clear HC11
        have s13 := s8.kept hB12
        clear s8
        have hbt14 := hbt9.trans (hB12.mono hbt9.size)
        clear hbt9
        clear hB12
        go_wp2_with fail
        have hv : ansM P = false := by unfold ansM ansB; rw [off_le, pay_ne]; simp [Hhb4.out, Hhb5.out, Hhb10.out]
        go_ret
        exact ⟨Eq.trans (rfl : _ = Ending.returned (.bool false)) (by rw [← HRV.out, hv]), hbt14⟩
      · have Hhb10 := Hid.mk hb10
        clear hb10
        have HC15 : Hid (Calls Tryd.prog 37 #[.agg (SC 17 (adV P.dv P.db))] w7 fun e w' => e = .returned (.bool false) ∧ Below w7.heap.size w7 w') := Hid.mk (by have h := Group_run P.dv P.db w7; rw [Hhb10.out] at h; exact h)
        go_wp2_with (refine wl_cal en_wire_Group HC15 rfl rfl (args1 rfl) ?_; intro w16 hB16; refine Hid.out ?_)
        refine Hid.mk ?_
        clear HC15
        have s17 := s8.kept hB16
        clear s8
        have hbt18 := hbt9.trans (hB16.mono hbt9.size)
        clear hbt9
        clear hB16
        go_upto_region 3 with fail
        refine wp_region_cut 6 rfl (by kernel_rfl) (any_steps (Below w16.heap.size w16) (fun v v' => Below v.heap.size v v') (fun j vv _ => vv = ([.pointer (some ⟨g1, 34, none⟩), .int .i64 P.proto, .pointer (some ⟨g1, 0, none⟩), .agg (SC 17 (adV P.sv P.sb)), .agg (SC 28 (verV P.sv)), .int .i64 (protoK P.sv)] : List Value).getD j undef)
            [17, 18, 19, 20, 21, 22]
            [(1, .pointer (some ⟨g1, 0, none⟩))]
            [[], [0], [], [2], [3], [4]]
            (by kernel_rfl) ⟨rfl, trivial⟩ (Below.drew (Below.refl _ _)) (fun v v' h hb => h.trans (hb.mono h.size)) (fun _ _ _ _ h _ => h)
            ⟨
            (fun QQ aa ww hS fr kn => ⟨trivial, fun K hK => wp_value (exec_fpk 2 (by decide) rfl fr.1) (hK _ _ rfl (Below.refl _ _))⟩),
            (fun QQ aa ww hS fr kn => ⟨trivial, fun K hK => wp_value (exec_ld rfl kn.1 (ldP (pk_proto (SAt.kept s17 hS)))) (hK _ _ rfl (Below.refl _ _))⟩),
            (fun QQ aa ww hS fr kn => ⟨trivial, fun K hK => wp_value (exec_fpk 0 (by decide) rfl fr.1) (hK _ _ rfl (Below.refl _ _))⟩),
            (fun QQ aa ww hS fr kn => ⟨trivial, fun K hK => wp_value (exec_ld rfl kn.1 (ld_src (SAt.kept s17 hS))) (hK _ _ rfl (Below.refl _ _))⟩),
            (fun QQ aa ww hS fr kn => ⟨trivial, fun K hK => stepc en_icmp_versionOf rfl (args1 kn.1) (versionOf_run P.sv P.sb ww (Env.kept (Env.kept HE.out hbt18) hS)) (fun w' hb => hK _ _ rfl hb)⟩),
            (fun QQ aa ww hS fr kn => ⟨trivial, fun K hK => wp_value (exec_fv0 rfl kn.1) (hK _ _ rfl (Below.refl _ _))⟩),
            trivial⟩ ?_)
        intro vs w19 hB19 kn
        have e18 : vs 18 = .int .i64 P.proto := kn 1 (by decide)
        have e22 : vs 22 = .int .i64 (protoK P.sv) := kn 5 (by decide)
        clear kn
        show wpList Tryd.prog _ _ (_ :: []) _ _
        simp only [putAll, Act.put, List.setIfInBounds_toArray, List.set_cons_zero, List.set_cons_succ, e18, e22]
        clear e18 e22
        have s20 := s17.kept hB19
        clear s17
        have hbt21 := hbt18.trans (hB19.mono hbt18.size)
        clear hbt18
        clear hB19
        rcases Bool.eq_false_or_eq_true (decide (P.proto = protoK P.sv)) with hb22 | hb22
        · have Hhb22 := Hid.mk hb22
          clear hb22
          have HDhb22 := Hid.mk (of_decide_eq_true Hhb22.out)
          go_wp2_with (refine wl_value rfl (kn_n (c := false) Hhb22 (cmp_ne (m := P.proto) (n := protoK P.sv) rfl rfl rfl)) ?_; refine Hid.out ?_)
          refine Hid.mk ?_
          rcases Bool.eq_false_or_eq_true (decide (P.pay = ByteArray.empty)) with hb23 | hb23
          · have Hhb23 := Hid.mk hb23
            clear hb23
            have HDhb23 := Hid.mk (of_decide_eq_true Hhb23.out)
            go_upto_region 5 with fail
            refine wp_region3 (Below w19.heap.size w19) w19.heap.size
                ([] : List (Nat × Cont))
                [kv (.pointer (some ⟨g1, 45, none⟩)), kv (.string P.pay), kv (.bool false), kv (.bool false), kv (undef), kv (undef), kv (undef), kv (undef), kv (undef), kv (undef), kv (undef), kv (undef), kv (.bool false), kv (.bool false)]
                [.none, .none, .none, .none, .none, .none, .none, .none, .none, .none, .none, .none, .none, .none]
                [some 24, some 25, some 26, some 27, some 28, some 29, some 30, some 31, some 32, some 33, some 34, some 35, some 36, some 2]
                [(1, .pointer (some ⟨g1, 0, none⟩))]
                [[], [.slot 0], [.slot 1], [.slot 2], [.slot 3], [.slot 3], [.slot 3], [.slot 3], [.slot 3], [.slot 3], [.slot 3], [.slot 3], [.slot 3, .slot 11], [.slot 12]]
                [.slot 13] [24, 25, 26, 27, 28, 29, 30, 31, 32, 33, 34, 35, 36, 2]
                rfl (by kernel_rfl) ⟨rfl, trivial⟩ ((Below.refl _ w19).drew) (Nat.le_refl _) trivial trivial (below_GcW (Nat.le_refl _))
                ⟨
                (fun QQ aa ww own hS hBg fr kn => .inl ⟨trivial, fun K hK => wp_value (exec_fpk 13 (by decide) rfl fr.1) (hK _ _ ⟨Touch.refl _ _, rfl⟩)⟩),
                (fun QQ aa ww own hS hBg fr kn => .inl ⟨trivial, fun K hK => wp_value (exec_ld rfl kn.1 (ldPs (pk_pay (SAt.kept s20 hS)))) (hK _ _ ⟨Touch.refl _ _, rfl⟩)⟩),
                (fun QQ aa ww own hS hBg fr kn => .inl ⟨trivial, fun K hK => wp_value (kn_n (c := false) Hhb23 (cmp_neS (s := P.pay) (t := ByteArray.empty) rfl kn.1 rfl)) (hK _ _ ⟨Touch.refl _ _, rfl⟩)⟩),
                (fun QQ aa ww own hS hBg fr kn => .inl ⟨trivial, fun K hK => wp_value (exec_move rfl kn.1) (hK _ _ ⟨Touch.refl _ _, rfl⟩)⟩),
                (fun QQ aa ww own hS hBg fr kn => .inr ⟨.inl kn.1, Touch.refl _ _, rfl⟩),
                (fun QQ aa ww own hS hBg fr kn => .inr ⟨.inl kn.1, Touch.refl _ _, rfl⟩),
                (fun QQ aa ww own hS hBg fr kn => .inr ⟨.inl kn.1, Touch.refl _ _, rfl⟩),
                (fun QQ aa ww own hS hBg fr kn => .inr ⟨.inl kn.1, Touch.refl _ _, rfl⟩),
                (fun QQ aa ww own hS hBg fr kn => .inr ⟨.inl kn.1, Touch.refl _ _, rfl⟩),
                (fun QQ aa ww own hS hBg fr kn => .inr ⟨.inl kn.1, Touch.refl _ _, rfl⟩),
                (fun QQ aa ww own hS hBg fr kn => .inr ⟨.inl kn.1, Touch.refl _ _, rfl⟩),
                (fun QQ aa ww own hS hBg fr kn => .inr ⟨.inl kn.1, Touch.refl _ _, rfl⟩),
                (fun QQ aa ww own hS hBg fr kn => .inl ⟨trivial, fun K hK => wp_value (exec_pickF (v := .bool false) rfl kn.1 rfl) (hK _ _ ⟨Touch.refl _ _, rfl⟩)⟩),
                (fun QQ aa ww own hS hBg fr kn => .inl ⟨trivial, fun K hK => wp_value (exec_assign rfl kn.1) (hK _ _ ⟨Touch.refl _ _, rfl⟩)⟩),
                trivial⟩ ?_
            intro vs own w24 hB24 hsz kn inj
            have e2 : vs 2 = .bool false := kn.1
            clear kn inj hsz
            simp only [putAll, Act.put, List.setIfInBounds_toArray, List.set_cons_zero, List.set_cons_succ, e2]
            clear e2
            have s25 := s20.kept hB24
            clear s20
            have hbt26 := hbt21.trans (hB24.mono hbt21.size)
            clear hbt21
            clear hB24
            go_wp2_with fail
            have hv : ansM P = false := by unfold ansM ansB; rw [off_le, pay_ne]; simp [Hhb4.out, Hhb5.out, Hhb10.out, Hhb22.out, Hhb23.out]
            go_ret
            exact ⟨Eq.trans (rfl : _ = Ending.returned (.bool false)) (by rw [← HRV.out, hv]), hbt26⟩
          · have Hhb23 := Hid.mk hb23
            clear hb23
            have HDhb23 := Hid.mk (of_decide_eq_false Hhb23.out)
            have HPZ := Hid.mk (ne_size (of_decide_eq_false Hhb23.out))
            rcases Bool.eq_false_or_eq_true (P.sv) with hb27 | hb27
            · have Hhb27 := Hid.mk hb27
              clear hb27
              rcases Bool.eq_false_or_eq_true (errB true (txt P.pay 0)) with hb28 | hb28
              · have Hhb28 := Hid.mk hb28
                clear hb28
                go_upto_region 5 with fail
                refine wp_region3 (Below w19.heap.size w19) w19.heap.size
                    ([] : List (Nat × Cont))
                    [kv (.pointer (some ⟨g1, 45, none⟩)), kv (.string P.pay), kv (.bool true), kv (.bool true), kv (.pointer (some ⟨g1, 0, none⟩)), kv (.pointer (some ⟨g1, 0, none⟩)), kv (.bool true), kv (.pointer (some ⟨g1, 45, none⟩)), kv (.string P.pay), kv (.int .u8 (txt P.pay 0)), kv (.bool true), kv (.bool false), kv (.bool false), kv (.bool false)]
                    [.none, .none, .none, .none, .none, .none, .none, .none, .none, .none, .none, .none, .none, .none]
                    [some 24, some 25, some 26, some 27, some 28, some 29, some 30, some 31, some 32, some 33, some 34, some 35, some 36, some 2]
                    [(1, .pointer (some ⟨g1, 0, none⟩))]
                    [[], [.slot 0], [.slot 1], [.slot 2], [.slot 3], [.slot 3, .slot 4], [.slot 3, .slot 5], [.slot 3], [.slot 3, .slot 7], [.slot 3, .slot 8], [.slot 3, .slot 6, .slot 9], [.slot 3, .slot 10], [.slot 3, .slot 11], [.slot 12]]
                    [.slot 13] [24, 25, 26, 27, 28, 29, 30, 31, 32, 33, 34, 35, 36, 2]
                    rfl (by kernel_rfl) ⟨rfl, trivial⟩ ((Below.refl _ w19).drew) (Nat.le_refl _) trivial trivial (below_GcW (Nat.le_refl _))
                    ⟨
                    (fun QQ aa ww own hS hBg fr kn => .inl ⟨trivial, fun K hK => wp_value (exec_fpk 13 (by decide) rfl fr.1) (hK _ _ ⟨Touch.refl _ _, rfl⟩)⟩),
                    (fun QQ aa ww own hS hBg fr kn => .inl ⟨trivial, fun K hK => wp_value (exec_ld rfl kn.1 (ldPs (pk_pay (SAt.kept s20 hS)))) (hK _ _ ⟨Touch.refl _ _, rfl⟩)⟩),
                    (fun QQ aa ww own hS hBg fr kn => .inl ⟨trivial, fun K hK => wp_value (kn_n (c := true) Hhb23 (cmp_neS (s := P.pay) (t := ByteArray.empty) rfl kn.1 rfl)) (hK _ _ ⟨Touch.refl _ _, rfl⟩)⟩),
                    (fun QQ aa ww own hS hBg fr kn => .inl ⟨trivial, fun K hK => wp_value (exec_move rfl kn.1) (hK _ _ ⟨Touch.refl _ _, rfl⟩)⟩),
                    (fun QQ aa ww own hS hBg fr kn => .inl ⟨kn.1, fun K hK => wp_value (exec_fpk 0 (by decide) rfl fr.1) (hK _ _ ⟨Touch.refl _ _, rfl⟩)⟩),
                    (fun QQ aa ww own hS hBg fr kn => .inl ⟨kn.1, fun K hK => wp_value (exec_fad0 rfl kn.2.1) (hK _ _ ⟨Touch.refl _ _, rfl⟩)⟩),
                    (fun QQ aa ww own hS hBg fr kn => .inl ⟨kn.1, fun K hK => wp_value (kn_ (c := true) Hhb27 (exec_ld rfl kn.2.1 (ldB (SAt.at (SAt.kept s20 hS) 0 (by decide))))) (hK _ _ ⟨Touch.refl _ _, rfl⟩)⟩),
                    (fun QQ aa ww own hS hBg fr kn => .inl ⟨kn.1, fun K hK => wp_value (exec_fpk 13 (by decide) rfl fr.1) (hK _ _ ⟨Touch.refl _ _, rfl⟩)⟩),
                    (fun QQ aa ww own hS hBg fr kn => .inl ⟨kn.1, fun K hK => wp_value (exec_ld rfl kn.2.1 (ldPs (pk_pay (SAt.kept s20 hS)))) (hK _ _ ⟨Touch.refl _ _, rfl⟩)⟩),
                    (fun QQ aa ww own hS hBg fr kn => .inl ⟨kn.1, fun K hK => wp_value (exec_ixs (j := 0) rfl kn.2.1 rfl (by have := HDhb4.out; have := HDhb22.out; have := HDhb23.out; have := HPZ.out; omega)) (hK _ _ ⟨Touch.refl _ _, rfl⟩)⟩),
                    (fun QQ aa ww own hS hBg fr kn => .inl ⟨kn.1, fun K hK => stepc en_icmp_isError rfl (args2 kn.2.1 kn.2.2.1) (by have h := isErr_run true (txt P.pay 0) ww (Env.kept (Env.kept HE.out hbt21) hS); rw [Hhb28.out] at h; exact h) (fun w' hb => hK _ _ ⟨touch_below hb, rfl⟩)⟩),
                    (fun QQ aa ww own hS hBg fr kn => .inl ⟨kn.1, fun K hK => wp_value (exec_notB rfl kn.2.1) (hK _ _ ⟨Touch.refl _ _, rfl⟩)⟩),
                    (fun QQ aa ww own hS hBg fr kn => .inl ⟨trivial, fun K hK => wp_value (exec_pick (v := .bool false) rfl kn.1 kn.2.1) (hK _ _ ⟨Touch.refl _ _, rfl⟩)⟩),
                    (fun QQ aa ww own hS hBg fr kn => .inl ⟨trivial, fun K hK => wp_value (exec_assign rfl kn.1) (hK _ _ ⟨Touch.refl _ _, rfl⟩)⟩),
                    trivial⟩ ?_
                intro vs own w29 hB29 hsz kn inj
                have e2 : vs 2 = .bool false := kn.1
                clear kn inj hsz
                simp only [putAll, Act.put, List.setIfInBounds_toArray, List.set_cons_zero, List.set_cons_succ, e2]
                clear e2
                have s30 := s20.kept hB29
                clear s20
                have hbt31 := hbt21.trans (hB29.mono hbt21.size)
                clear hbt21
                clear hB29
                go_wp2_with fail
                have hv : ansM P = false := by unfold ansM ansB; rw [off_le, pay_ne]; (try simp only [Hhb4.out, Hhb5.out, Hhb10.out, Hhb22.out, Hhb23.out, Hhb28.out]) <;> simp [Hhb4.out, Hhb5.out, Hhb10.out, Hhb22.out, Hhb23.out, Hhb28.out, Hhb27.out]
                go_ret
                exact ⟨Eq.trans (rfl : _ = Ending.returned (.bool false)) (by rw [← HRV.out, hv]), hbt31⟩
              · have Hhb28 := Hid.mk hb28
                clear hb28
                go_upto_region 5 with fail
                refine wp_region3 (Below w19.heap.size w19) w19.heap.size
                    ([] : List (Nat × Cont))
                    [kv (.pointer (some ⟨g1, 45, none⟩)), kv (.string P.pay), kv (.bool true), kv (.bool true), kv (.pointer (some ⟨g1, 0, none⟩)), kv (.pointer (some ⟨g1, 0, none⟩)), kv (.bool true), kv (.pointer (some ⟨g1, 45, none⟩)), kv (.string P.pay), kv (.int .u8 (txt P.pay 0)), kv (.bool false), kv (.bool true), kv (.bool true), kv (.bool true)]
                    [.none, .none, .none, .none, .none, .none, .none, .none, .none, .none, .none, .none, .none, .none]
                    [some 24, some 25, some 26, some 27, some 28, some 29, some 30, some 31, some 32, some 33, some 34, some 35, some 36, some 2]
                    [(1, .pointer (some ⟨g1, 0, none⟩))]
                    [[], [.slot 0], [.slot 1], [.slot 2], [.slot 3], [.slot 3, .slot 4], [.slot 3, .slot 5], [.slot 3], [.slot 3, .slot 7], [.slot 3, .slot 8], [.slot 3, .slot 6, .slot 9], [.slot 3, .slot 10], [.slot 3, .slot 11], [.slot 12]]
                    [.slot 13] [24, 25, 26, 27, 28, 29, 30, 31, 32, 33, 34, 35, 36, 2]
                    rfl (by kernel_rfl) ⟨rfl, trivial⟩ ((Below.refl _ w19).drew) (Nat.le_refl _) trivial trivial (below_GcW (Nat.le_refl _))
                    ⟨
                    (fun QQ aa ww own hS hBg fr kn => .inl ⟨trivial, fun K hK => wp_value (exec_fpk 13 (by decide) rfl fr.1) (hK _ _ ⟨Touch.refl _ _, rfl⟩)⟩),
                    (fun QQ aa ww own hS hBg fr kn => .inl ⟨trivial, fun K hK => wp_value (exec_ld rfl kn.1 (ldPs (pk_pay (SAt.kept s20 hS)))) (hK _ _ ⟨Touch.refl _ _, rfl⟩)⟩),
                    (fun QQ aa ww own hS hBg fr kn => .inl ⟨trivial, fun K hK => wp_value (kn_n (c := true) Hhb23 (cmp_neS (s := P.pay) (t := ByteArray.empty) rfl kn.1 rfl)) (hK _ _ ⟨Touch.refl _ _, rfl⟩)⟩),
                    (fun QQ aa ww own hS hBg fr kn => .inl ⟨trivial, fun K hK => wp_value (exec_move rfl kn.1) (hK _ _ ⟨Touch.refl _ _, rfl⟩)⟩),
                    (fun QQ aa ww own hS hBg fr kn => .inl ⟨kn.1, fun K hK => wp_value (exec_fpk 0 (by decide) rfl fr.1) (hK _ _ ⟨Touch.refl _ _, rfl⟩)⟩),
                    (fun QQ aa ww own hS hBg fr kn => .inl ⟨kn.1, fun K hK => wp_value (exec_fad0 rfl kn.2.1) (hK _ _ ⟨Touch.refl _ _, rfl⟩)⟩),
                    (fun QQ aa ww own hS hBg fr kn => .inl ⟨kn.1, fun K hK => wp_value (kn_ (c := true) Hhb27 (exec_ld rfl kn.2.1 (ldB (SAt.at (SAt.kept s20 hS) 0 (by decide))))) (hK _ _ ⟨Touch.refl _ _, rfl⟩)⟩),
                    (fun QQ aa ww own hS hBg fr kn => .inl ⟨kn.1, fun K hK => wp_value (exec_fpk 13 (by decide) rfl fr.1) (hK _ _ ⟨Touch.refl _ _, rfl⟩)⟩),
                    (fun QQ aa ww own hS hBg fr kn => .inl ⟨kn.1, fun K hK => wp_value (exec_ld rfl kn.2.1 (ldPs (pk_pay (SAt.kept s20 hS)))) (hK _ _ ⟨Touch.refl _ _, rfl⟩)⟩),
                    (fun QQ aa ww own hS hBg fr kn => .inl ⟨kn.1, fun K hK => wp_value (exec_ixs (j := 0) rfl kn.2.1 rfl (by have := HDhb4.out; have := HDhb22.out; have := HDhb23.out; have := HPZ.out; omega)) (hK _ _ ⟨Touch.refl _ _, rfl⟩)⟩),
                    (fun QQ aa ww own hS hBg fr kn => .inl ⟨kn.1, fun K hK => stepc en_icmp_isError rfl (args2 kn.2.1 kn.2.2.1) (by have h := isErr_run true (txt P.pay 0) ww (Env.kept (Env.kept HE.out hbt21) hS); rw [Hhb28.out] at h; exact h) (fun w' hb => hK _ _ ⟨touch_below hb, rfl⟩)⟩),
                    (fun QQ aa ww own hS hBg fr kn => .inl ⟨kn.1, fun K hK => wp_value (exec_notB rfl kn.2.1) (hK _ _ ⟨Touch.refl _ _, rfl⟩)⟩),
                    (fun QQ aa ww own hS hBg fr kn => .inl ⟨trivial, fun K hK => wp_value (exec_pick (v := .bool true) rfl kn.1 kn.2.1) (hK _ _ ⟨Touch.refl _ _, rfl⟩)⟩),
                    (fun QQ aa ww own hS hBg fr kn => .inl ⟨trivial, fun K hK => wp_value (exec_assign rfl kn.1) (hK _ _ ⟨Touch.refl _ _, rfl⟩)⟩),
                    trivial⟩ ?_
                intro vs own w32 hB32 hsz kn inj
                have e2 : vs 2 = .bool true := kn.1
                clear kn inj hsz
                simp only [putAll, Act.put, List.setIfInBounds_toArray, List.set_cons_zero, List.set_cons_succ, e2]
                clear e2
                have s33 := s20.kept hB32
                clear s20
                have hbt34 := hbt21.trans (hB32.mono hbt21.size)
                clear hbt21
                clear hB32
                go_wp2_with fail
                have hv : ansM P = true := by unfold ansM ansB; rw [off_le, pay_ne]; (try simp only [Hhb4.out, Hhb5.out, Hhb10.out, Hhb22.out, Hhb23.out, Hhb28.out]) <;> simp [Hhb4.out, Hhb5.out, Hhb10.out, Hhb22.out, Hhb23.out, Hhb28.out, Hhb27.out]
                go_ret
                exact ⟨Eq.trans (rfl : _ = Ending.returned (.bool true)) (by rw [← HRV.out, hv]), hbt34⟩
            · have Hhb27 := Hid.mk hb27
              clear hb27
              rcases Bool.eq_false_or_eq_true (errB false (txt P.pay 0)) with hb35 | hb35
              · have Hhb35 := Hid.mk hb35
                clear hb35
                go_upto_region 5 with fail
                refine wp_region3 (Below w19.heap.size w19) w19.heap.size
                    ([] : List (Nat × Cont))
                    [kv (.pointer (some ⟨g1, 45, none⟩)), kv (.string P.pay), kv (.bool true), kv (.bool true), kv (.pointer (some ⟨g1, 0, none⟩)), kv (.pointer (some ⟨g1, 0, none⟩)), kv (.bool false), kv (.pointer (some ⟨g1, 45, none⟩)), kv (.string P.pay), kv (.int .u8 (txt P.pay 0)), kv (.bool true), kv (.bool false), kv (.bool false), kv (.bool false)]
                    [.none, .none, .none, .none, .none, .none, .none, .none, .none, .none, .none, .none, .none, .none]
                    [some 24, some 25, some 26, some 27, some 28, some 29, some 30, some 31, some 32, some 33, some 34, some 35, some 36, some 2]
                    [(1, .pointer (some ⟨g1, 0, none⟩))]
                    [[], [.slot 0], [.slot 1], [.slot 2], [.slot 3], [.slot 3, .slot 4], [.slot 3, .slot 5], [.slot 3], [.slot 3, .slot 7], [.slot 3, .slot 8], [.slot 3, .slot 6, .slot 9], [.slot 3, .slot 10], [.slot 3, .slot 11], [.slot 12]]
                    [.slot 13] [24, 25, 26, 27, 28, 29, 30, 31, 32, 33, 34, 35, 36, 2]
                    rfl (by kernel_rfl) ⟨rfl, trivial⟩ ((Below.refl _ w19).drew) (Nat.le_refl _) trivial trivial (below_GcW (Nat.le_refl _))
                    ⟨
                    (fun QQ aa ww own hS hBg fr kn => .inl ⟨trivial, fun K hK => wp_value (exec_fpk 13 (by decide) rfl fr.1) (hK _ _ ⟨Touch.refl _ _, rfl⟩)⟩),
                    (fun QQ aa ww own hS hBg fr kn => .inl ⟨trivial, fun K hK => wp_value (exec_ld rfl kn.1 (ldPs (pk_pay (SAt.kept s20 hS)))) (hK _ _ ⟨Touch.refl _ _, rfl⟩)⟩),
                    (fun QQ aa ww own hS hBg fr kn => .inl ⟨trivial, fun K hK => wp_value (kn_n (c := true) Hhb23 (cmp_neS (s := P.pay) (t := ByteArray.empty) rfl kn.1 rfl)) (hK _ _ ⟨Touch.refl _ _, rfl⟩)⟩),
                    (fun QQ aa ww own hS hBg fr kn => .inl ⟨trivial, fun K hK => wp_value (exec_move rfl kn.1) (hK _ _ ⟨Touch.refl _ _, rfl⟩)⟩),
                    (fun QQ aa ww own hS hBg fr kn => .inl ⟨kn.1, fun K hK => wp_value (exec_fpk 0 (by decide) rfl fr.1) (hK _ _ ⟨Touch.refl _ _, rfl⟩)⟩),
                    (fun QQ aa ww own hS hBg fr kn => .inl ⟨kn.1, fun K hK => wp_value (exec_fad0 rfl kn.2.1) (hK _ _ ⟨Touch.refl _ _, rfl⟩)⟩),
                    (fun QQ aa ww own hS hBg fr kn => .inl ⟨kn.1, fun K hK => wp_value (kn_ (c := false) Hhb27 (exec_ld rfl kn.2.1 (ldB (SAt.at (SAt.kept s20 hS) 0 (by decide))))) (hK _ _ ⟨Touch.refl _ _, rfl⟩)⟩),
                    (fun QQ aa ww own hS hBg fr kn => .inl ⟨kn.1, fun K hK => wp_value (exec_fpk 13 (by decide) rfl fr.1) (hK _ _ ⟨Touch.refl _ _, rfl⟩)⟩),
                    (fun QQ aa ww own hS hBg fr kn => .inl ⟨kn.1, fun K hK => wp_value (exec_ld rfl kn.2.1 (ldPs (pk_pay (SAt.kept s20 hS)))) (hK _ _ ⟨Touch.refl _ _, rfl⟩)⟩),
                    (fun QQ aa ww own hS hBg fr kn => .inl ⟨kn.1, fun K hK => wp_value (exec_ixs (j := 0) rfl kn.2.1 rfl (by have := HDhb4.out; have := HDhb22.out; have := HDhb23.out; have := HPZ.out; omega)) (hK _ _ ⟨Touch.refl _ _, rfl⟩)⟩),
                    (fun QQ aa ww own hS hBg fr kn => .inl ⟨kn.1, fun K hK => stepc en_icmp_isError rfl (args2 kn.2.1 kn.2.2.1) (by have h := isErr_run false (txt P.pay 0) ww (Env.kept (Env.kept HE.out hbt21) hS); rw [Hhb35.out] at h; exact h) (fun w' hb => hK _ _ ⟨touch_below hb, rfl⟩)⟩),
                    (fun QQ aa ww own hS hBg fr kn => .inl ⟨kn.1, fun K hK => wp_value (exec_notB rfl kn.2.1) (hK _ _ ⟨Touch.refl _ _, rfl⟩)⟩),
                    (fun QQ aa ww own hS hBg fr kn => .inl ⟨trivial, fun K hK => wp_value (exec_pick (v := .bool false) rfl kn.1 kn.2.1) (hK _ _ ⟨Touch.refl _ _, rfl⟩)⟩),
                    (fun QQ aa ww own hS hBg fr kn => .inl ⟨trivial, fun K hK => wp_value (exec_assign rfl kn.1) (hK _ _ ⟨Touch.refl _ _, rfl⟩)⟩),
                    trivial⟩ ?_
                intro vs own w36 hB36 hsz kn inj
                have e2 : vs 2 = .bool false := kn.1
                clear kn inj hsz
                simp only [putAll, Act.put, List.setIfInBounds_toArray, List.set_cons_zero, List.set_cons_succ, e2]
                clear e2
                have s37 := s20.kept hB36
                clear s20
                have hbt38 := hbt21.trans (hB36.mono hbt21.size)
                clear hbt21
                clear hB36
                go_wp2_with fail
                have hv : ansM P = false := by unfold ansM ansB; rw [off_le, pay_ne]; (try simp only [Hhb4.out, Hhb5.out, Hhb10.out, Hhb22.out, Hhb23.out, Hhb35.out]) <;> simp [Hhb4.out, Hhb5.out, Hhb10.out, Hhb22.out, Hhb23.out, Hhb35.out, Hhb27.out]
                go_ret
                exact ⟨Eq.trans (rfl : _ = Ending.returned (.bool false)) (by rw [← HRV.out, hv]), hbt38⟩
              · have Hhb35 := Hid.mk hb35
                clear hb35
                go_upto_region 5 with fail
                refine wp_region3 (Below w19.heap.size w19) w19.heap.size
                    ([] : List (Nat × Cont))
                    [kv (.pointer (some ⟨g1, 45, none⟩)), kv (.string P.pay), kv (.bool true), kv (.bool true), kv (.pointer (some ⟨g1, 0, none⟩)), kv (.pointer (some ⟨g1, 0, none⟩)), kv (.bool false), kv (.pointer (some ⟨g1, 45, none⟩)), kv (.string P.pay), kv (.int .u8 (txt P.pay 0)), kv (.bool false), kv (.bool true), kv (.bool true), kv (.bool true)]
                    [.none, .none, .none, .none, .none, .none, .none, .none, .none, .none, .none, .none, .none, .none]
                    [some 24, some 25, some 26, some 27, some 28, some 29, some 30, some 31, some 32, some 33, some 34, some 35, some 36, some 2]
                    [(1, .pointer (some ⟨g1, 0, none⟩))]
                    [[], [.slot 0], [.slot 1], [.slot 2], [.slot 3], [.slot 3, .slot 4], [.slot 3, .slot 5], [.slot 3], [.slot 3, .slot 7], [.slot 3, .slot 8], [.slot 3, .slot 6, .slot 9], [.slot 3, .slot 10], [.slot 3, .slot 11], [.slot 12]]
                    [.slot 13] [24, 25, 26, 27, 28, 29, 30, 31, 32, 33, 34, 35, 36, 2]
                    rfl (by kernel_rfl) ⟨rfl, trivial⟩ ((Below.refl _ w19).drew) (Nat.le_refl _) trivial trivial (below_GcW (Nat.le_refl _))
                    ⟨
                    (fun QQ aa ww own hS hBg fr kn => .inl ⟨trivial, fun K hK => wp_value (exec_fpk 13 (by decide) rfl fr.1) (hK _ _ ⟨Touch.refl _ _, rfl⟩)⟩),
                    (fun QQ aa ww own hS hBg fr kn => .inl ⟨trivial, fun K hK => wp_value (exec_ld rfl kn.1 (ldPs (pk_pay (SAt.kept s20 hS)))) (hK _ _ ⟨Touch.refl _ _, rfl⟩)⟩),
                    (fun QQ aa ww own hS hBg fr kn => .inl ⟨trivial, fun K hK => wp_value (kn_n (c := true) Hhb23 (cmp_neS (s := P.pay) (t := ByteArray.empty) rfl kn.1 rfl)) (hK _ _ ⟨Touch.refl _ _, rfl⟩)⟩),
                    (fun QQ aa ww own hS hBg fr kn => .inl ⟨trivial, fun K hK => wp_value (exec_move rfl kn.1) (hK _ _ ⟨Touch.refl _ _, rfl⟩)⟩),
                    (fun QQ aa ww own hS hBg fr kn => .inl ⟨kn.1, fun K hK => wp_value (exec_fpk 0 (by decide) rfl fr.1) (hK _ _ ⟨Touch.refl _ _, rfl⟩)⟩),
                    (fun QQ aa ww own hS hBg fr kn => .inl ⟨kn.1, fun K hK => wp_value (exec_fad0 rfl kn.2.1) (hK _ _ ⟨Touch.refl _ _, rfl⟩)⟩),
                    (fun QQ aa ww own hS hBg fr kn => .inl ⟨kn.1, fun K hK => wp_value (kn_ (c := false) Hhb27 (exec_ld rfl kn.2.1 (ldB (SAt.at (SAt.kept s20 hS) 0 (by decide))))) (hK _ _ ⟨Touch.refl _ _, rfl⟩)⟩),
                    (fun QQ aa ww own hS hBg fr kn => .inl ⟨kn.1, fun K hK => wp_value (exec_fpk 13 (by decide) rfl fr.1) (hK _ _ ⟨Touch.refl _ _, rfl⟩)⟩),
                    (fun QQ aa ww own hS hBg fr kn => .inl ⟨kn.1, fun K hK => wp_value (exec_ld rfl kn.2.1 (ldPs (pk_pay (SAt.kept s20 hS)))) (hK _ _ ⟨Touch.refl _ _, rfl⟩)⟩),
                    (fun QQ aa ww own hS hBg fr kn => .inl ⟨kn.1, fun K hK => wp_value (exec_ixs (j := 0) rfl kn.2.1 rfl (by have := HDhb4.out; have := HDhb22.out; have := HDhb23.out; have := HPZ.out; omega)) (hK _ _ ⟨Touch.refl _ _, rfl⟩)⟩),
                    (fun QQ aa ww own hS hBg fr kn => .inl ⟨kn.1, fun K hK => stepc en_icmp_isError rfl (args2 kn.2.1 kn.2.2.1) (by have h := isErr_run false (txt P.pay 0) ww (Env.kept (Env.kept HE.out hbt21) hS); rw [Hhb35.out] at h; exact h) (fun w' hb => hK _ _ ⟨touch_below hb, rfl⟩)⟩),
                    (fun QQ aa ww own hS hBg fr kn => .inl ⟨kn.1, fun K hK => wp_value (exec_notB rfl kn.2.1) (hK _ _ ⟨Touch.refl _ _, rfl⟩)⟩),
                    (fun QQ aa ww own hS hBg fr kn => .inl ⟨trivial, fun K hK => wp_value (exec_pick (v := .bool true) rfl kn.1 kn.2.1) (hK _ _ ⟨Touch.refl _ _, rfl⟩)⟩),
                    (fun QQ aa ww own hS hBg fr kn => .inl ⟨trivial, fun K hK => wp_value (exec_assign rfl kn.1) (hK _ _ ⟨Touch.refl _ _, rfl⟩)⟩),
                    trivial⟩ ?_
                intro vs own w39 hB39 hsz kn inj
                have e2 : vs 2 = .bool true := kn.1
                clear kn inj hsz
                simp only [putAll, Act.put, List.setIfInBounds_toArray, List.set_cons_zero, List.set_cons_succ, e2]
                clear e2
                have s40 := s20.kept hB39
                clear s20
                have hbt41 := hbt21.trans (hB39.mono hbt21.size)
                clear hbt21
                clear hB39
                go_wp2_with fail
                have hv : ansM P = true := by unfold ansM ansB; rw [off_le, pay_ne]; (try simp only [Hhb4.out, Hhb5.out, Hhb10.out, Hhb22.out, Hhb23.out, Hhb35.out]) <;> simp [Hhb4.out, Hhb5.out, Hhb10.out, Hhb22.out, Hhb23.out, Hhb35.out, Hhb27.out]
                go_ret
                exact ⟨Eq.trans (rfl : _ = Ending.returned (.bool true)) (by rw [← HRV.out, hv]), hbt41⟩
        · have Hhb22 := Hid.mk hb22
          clear hb22
          have HDhb22 := Hid.mk (of_decide_eq_false Hhb22.out)
          go_wp2_with (refine wl_value rfl (kn_n (c := true) Hhb22 (cmp_ne (m := P.proto) (n := protoK P.sv) rfl rfl rfl)) ?_; refine Hid.out ?_)
          refine Hid.mk ?_
          go_wp2_with fail
          have hv : ansM P = true := by unfold ansM ansB; rw [off_le, pay_ne]; simp [Hhb4.out, Hhb5.out, Hhb10.out, Hhb22.out]
          go_ret
          exact ⟨Eq.trans (rfl : _ = Ending.returned (.bool true)) (by rw [← HRV.out, hv]), hbt21⟩
    · have Hhb5 := Hid.mk hb5
      clear hb5
      have HC42 : Hid (Calls Tryd.prog 22 #[.agg (SC 17 (adV P.sv P.sb))] w1 fun e w' => e = .returned (.bool false) ∧ Below w1.heap.size w1 w') := Hid.mk (by have h := isOne_run P.sv P.sb w1; rw [Hhb5.out] at h; exact h)
      go_wp2_with (refine wl_cal en_icmp_isOne HC42 rfl rfl (args1 rfl) ?_; intro w43 hB43; refine Hid.out ?_)
      refine Hid.mk ?_
      clear HC42
      have s44 := s1.kept hB43
      clear s1
      have hbt45 := hbt3.trans (hB43.mono hbt3.size)
      clear hbt3
      clear hB43
      go_wp2_with fail
      have hv : ansM P = false := by unfold ansM ansB; rw [off_le, pay_ne]; simp [Hhb4.out, Hhb5.out]
      go_ret
      exact ⟨Eq.trans (rfl : _ = Ending.returned (.bool false)) (by rw [← HRV.out, hv]), hbt45⟩
set_option linter.unusedSimpArgs false in
set_option maxHeartbeats 4000000 in
theorem quoted_run (P : Pk) (vx : Value) (w : World) (hx : ExAt w vx P.exts) (hp : PkB P) : Calls Tryd.prog 27 #[.agg (SC 46 (pkV P vx))] w fun e w' => e = .returned (.tuple #[.string (quoS P), .bool (quoB P)]) ∧ Below w.heap.size w w' := by
  generalize hRV : (.tuple #[.string (quoS P), .bool (quoB P)] : Value) = RV
  have HRV := Hid.mk hRV
  clear hRV
  have HX := Hid.mk hx
  have HP := Hid.mk hp
  clear hx hp
  go_enter Tryd.func27, Tryd.ntmps27
  go_wp2_with (refine wl_boxO (V := pkV P vx) rfl rfl isPk rfl ?_; intro g1 w1 hg1 s1 hB1; refine Hid.out ?_)
  refine Hid.mk ?_
  have hz2 : w.heap.size ≤ g1 := by omega
  have hbt3 := hB1
  clear hB1 hg1
  go_wp2_with (refine wl_value rfl (look_st rfl isPk s1 rfl) ?_; refine Hid.out ?_)
  refine Hid.mk ?_
  have HC4 : Hid (Calls Tryd.prog 39 #[.agg (SC 46 (pkV P vx))] w1 fun e w' => e = .returned (.tuple #[.string (bldT P), .int .i64 (bldE P)]) ∧ Below w1.heap.size w1 w') := Hid.mk (Build_run P vx w1 (ExAt.kept HX.out hbt3) HP.out.ok HP.out.ne HP.out.be HP.out.bp)
  go_wp2_with (refine wl_cal en_ip_Build HC4 rfl rfl (args1 rfl) ?_; intro w5 hB5; refine Hid.out ?_)
  refine Hid.mk ?_
  clear HC4
  have s6 := s1.kept hB5
  clear s1
  have hbt7 := hbt3.trans (hB5.mono hbt3.size)
  clear hbt3
  clear hB5
  rcases Bool.eq_false_or_eq_true (decide (bldE P = 0)) with hb8 | hb8
  · have Hhb8 := Hid.mk hb8
    clear hb8
    have HDhb8 := Hid.mk (of_decide_eq_true Hhb8.out)
    go_wp2_with (refine wl_value rfl (kn_n (c := false) Hhb8 (cmp_neE (m := bldE P) (n := 0) rfl rfl rfl)) ?_; refine Hid.out ?_)
    refine Hid.mk ?_
    go_wp2_with (refine wl_value rfl (exec_fpk 0 (by decide) rfl rfl) ?_; refine Hid.out ?_)
    refine Hid.mk ?_
    go_wp2_with (refine wl_value rfl (exec_fad0 rfl rfl) ?_; refine Hid.out ?_)
    refine Hid.mk ?_
    rcases Bool.eq_false_or_eq_true (P.sv) with hb9 | hb9
    · have Hhb9 := Hid.mk hb9
      clear hb9
      go_wp2_with (refine wl_value rfl (kn_ (c := true) Hhb9 (exec_ld rfl rfl (ldB (SAt.at s6 0 (by decide))))) ?_; refine Hid.out ?_)
      refine Hid.mk ?_
      go_wp2_with (refine wl_value rfl (exec_lenS rfl rfl) ?_; refine Hid.out ?_)
      refine Hid.mk ?_
      go_wp2_with (refine wl_value rfl (exec_minI (m := 1232) (n := (bldT P).size) rfl rfl rfl) ?_; refine Hid.out ?_)
      refine Hid.mk ?_
      go_wp2_with (refine wl_value rfl (exec_slH (v := .string (bldT P)) (u := .int .i64 (min 1232 ((bldT P).size) : Nat)) rfl rfl rfl (strH (bldT P) (min 1232 ((bldT P).size)) _ (by have := HDhb8.out; omega))) ?_; refine Hid.out ?_)
      refine Hid.mk ?_
      have HZ10 := Hid.mk (cutP_size (bldT P) 0 (min 1232 ((bldT P).size)) (by have := HDhb8.out; omega))
      go_wp2_with fail
      have hB : quoB P = true := Hhb8.out
      have hS := quo_six (of_decide_eq_true Hhb8.out) Hhb9.out
      refine bodyPost_ret (results_two rfl (by rfl) (by rfl)) rfl ?_
      exact ⟨Eq.trans (rfl : _ = Ending.returned (.tuple #[.string ((bldT P).extract 0 (min 1232 ((bldT P).size))), .bool true])) (by rw [← HRV.out, hB, hS]), hbt7⟩
    · have Hhb9 := Hid.mk hb9
      clear hb9
      have HQ4 := Hid.mk (build_four (of_decide_eq_true Hhb8.out) Hhb9.out)
      go_wp2_with (refine wl_value rfl (kn_ (c := false) Hhb9 (exec_ld rfl rfl (ldB (SAt.at s6 0 (by decide))))) ?_; refine Hid.out ?_)
      refine Hid.mk ?_
      go_wp2_with (refine wl_value rfl (exec_lenS rfl rfl) ?_; refine Hid.out ?_)
      refine Hid.mk ?_
      go_wp2_with (refine wl_value rfl (exec_fpk 13 (by decide) rfl rfl) ?_; refine Hid.out ?_)
      refine Hid.mk ?_
      go_wp2_with (refine wl_value rfl (exec_ld rfl rfl (ldPs (pk_pay s6))) ?_; refine Hid.out ?_)
      refine Hid.mk ?_
      go_wp2_with (refine wl_value rfl (exec_lenS rfl rfl) ?_; refine Hid.out ?_)
      refine Hid.mk ?_
      go_wp2_with (refine wl_value rfl (exec_subW (i := (bldT P).size) (m := P.pay.size) (q := ((bldT P).size) - P.pay.size) rfl rfl rfl (by have := HDhb8.out; have := HQ4.out; omega) (by have := HDhb8.out; have := HQ4.out; omega)) ?_; refine Hid.out ?_)
      refine Hid.mk ?_
      go_wp2_with (refine wl_value rfl (exec_addW (i := ((bldT P).size) - P.pay.size) (m := 8) rfl rfl rfl rfl (by have := HDhb8.out; have := HQ4.out; omega)) ?_; refine Hid.out ?_)
      refine Hid.mk ?_
      go_wp2_with (refine wl_value rfl (exec_lenS rfl rfl) ?_; refine Hid.out ?_)
      refine Hid.mk ?_
      go_wp2_with (refine wl_value rfl (exec_minI (m := (((bldT P).size) - P.pay.size) + 8) (n := (bldT P).size) rfl rfl rfl) ?_; refine Hid.out ?_)
      refine Hid.mk ?_
      go_wp2_with (refine wl_value rfl (exec_slH (v := .string (bldT P)) (u := .int .i64 (min ((((bldT P).size) - P.pay.size) + 8) ((bldT P).size) : Nat)) rfl rfl rfl (strH (bldT P) (min ((((bldT P).size) - P.pay.size) + 8) ((bldT P).size)) _ (by have := HDhb8.out; have := HQ4.out; omega))) ?_; refine Hid.out ?_)
      refine Hid.mk ?_
      have HZ11 := Hid.mk (cutP_size (bldT P) 0 (min ((((bldT P).size) - P.pay.size) + 8) ((bldT P).size)) (by have := HDhb8.out; have := HQ4.out; omega))
      go_wp2_with fail
      have hB : quoB P = true := Hhb8.out
      have hS := quo_four (of_decide_eq_true Hhb8.out) Hhb9.out
      refine bodyPost_ret (results_two rfl (by rfl) (by rfl)) rfl ?_
      exact ⟨Eq.trans (rfl : _ = Ending.returned (.tuple #[.string ((bldT P).extract 0 (min ((((bldT P).size) - P.pay.size) + 8) ((bldT P).size))), .bool true])) (by rw [← HRV.out, hB, hS]), hbt7⟩
  · have Hhb8 := Hid.mk hb8
    clear hb8
    have HDhb8 := Hid.mk (of_decide_eq_false Hhb8.out)
    go_wp2_with (refine wl_value rfl (kn_n (c := true) Hhb8 (cmp_neE (m := bldE P) (n := 0) rfl rfl rfl)) ?_; refine Hid.out ?_)
    refine Hid.mk ?_
    go_wp2_with fail
    have hB : quoB P = false := Hhb8.out
    have hS : quoS P = ByteArray.empty := by unfold quoS; rw [if_neg (of_decide_eq_false Hhb8.out)]
    refine bodyPost_ret (results_two rfl (by rfl) (by rfl)) rfl ?_
    exact ⟨Eq.trans (rfl : _ = Ending.returned (.tuple #[.string ByteArray.empty, .bool false])) (by rw [← HRV.out, hB, hS]), hbt7⟩
set_option linter.unusedSimpArgs false in
set_option maxHeartbeats 4000000 in
theorem Echo_run (P : Pk) (vx : Value) (w : World) (he : Env w) (hx : ExAt w vx P.exts) (hp : PkB P) : Calls Tryd.prog 13 #[.agg (SC 46 (pkV P vx))] w fun e w' => e = .returned (.tuple #[.agg (SC 46 (pkV (echoP P) (.slice none 0 0))), .bool (echoB P)]) ∧ Below w.heap.size w w' := by
  generalize hRV : (.tuple #[.agg (SC 46 (pkV (echoP P) (.slice none 0 0))), .bool (echoB P)] : Value) = RV
  have HRV := Hid.mk hRV
  clear hRV
  have HE := Hid.mk he
  clear he
  have HX := Hid.mk hx
  have HP := Hid.mk hp
  clear hx hp
  go_enter Tryd.func13, Tryd.ntmps13
  go_wp2_with (refine wl_boxO (V := pkV P vx) rfl rfl isPk rfl ?_; intro g1 w1 hg1 s1 hB1; refine Hid.out ?_)
  refine Hid.mk ?_
  have hz2 : w.heap.size ≤ g1 := by omega
  have hbt3 := hB1
  clear hB1 hg1
  go_wp2_with (refine wl_alO (V := pkV zeroP (.slice none 0 0)) rfl rfl zeroPk ?_; intro g4 w4 hg4 s4 hB4; refine Hid.out ?_)
  refine Hid.mk ?_
  have hn5 : g1 ≠ g4 := by have := s1.lt; omega
  have hz6 : w.heap.size ≤ g4 := by have := hbt3.size; omega
  have s7 := s1.kept hB4
  clear s1
  have hbt8 := hbt3.trans (hB4.mono hbt3.size)
  clear hbt3
  clear hB4 hg4
  go_wp2_with (refine wl_value rfl (look_st rfl isPk s7 rfl) ?_; refine Hid.out ?_)
  refine Hid.mk ?_
  rcases Bool.eq_false_or_eq_true (msgB P) with hb9 | hb9
  · have Hhb9 := Hid.mk hb9
    clear hb9
    have HC10 : Hid (Calls Tryd.prog 21 #[.agg (SC 46 (pkV P vx))] w4 fun e w' => e = .returned (.tuple #[.agg (SC 4 (msV (msgM P))), .bool true]) ∧ Below w4.heap.size w4 w') := Hid.mk (by have h := messageOf_run P vx w4 (Env.kept HE.out hbt8) (ExAt.kept HX.out hbt8) HP.out; rw [Hhb9.out] at h; exact h)
    go_wp2_with (refine wl_cal en_icmp_messageOf HC10 rfl rfl (args1 rfl) ?_; intro w11 hB11; refine Hid.out ?_)
    refine Hid.mk ?_
    clear HC10
    have s12 := s7.kept hB11
    clear s7
    have s13 := s4.kept hB11
    clear s4
    have hbt14 := hbt8.trans (hB11.mono hbt8.size)
    clear hbt8
    clear hB11
    go_wp2_with (refine wl_alO (V := msV ms0) rfl rfl zeroMs ?_; intro g15 w15 hg15 s15 hB15; refine Hid.out ?_)
    refine Hid.mk ?_
    have hn16 : g1 ≠ g15 := by have := s12.lt; omega
    have hn17 : g4 ≠ g15 := by have := s13.lt; omega
    have hz18 : w.heap.size ≤ g15 := by have := hbt14.size; omega
    have s19 := s12.kept hB15
    clear s12
    have s20 := s13.kept hB15
    clear s13
    have hbt21 := hbt14.trans (hB15.mono hbt14.size)
    clear hbt14
    clear hB15 hg15
    go_wp2_with (refine st_stO (V := msV (msgM P)) (g := g15) rfl rfl isMs (msV_one _) s15 rfl rfl ?_; intro w22 s22 ho22; refine Hid.out ?_)
    refine Hid.mk ?_
    clear s15
    have s23 := s19.only ho22 hn16
    clear s19
    have s24 := s20.only ho22 hn17
    clear s20
    have hbt25 := hbt21.trans (ho22.below hz18)
    clear hbt21
    clear ho22
    go_wp2_with (refine wl_value rfl (exec_fpk 0 (by decide) rfl rfl) ?_; refine Hid.out ?_)
    refine Hid.mk ?_
    go_wp2_with (refine wl_value rfl (exec_ld rfl rfl (ld_src s23)) ?_; refine Hid.out ?_)
    refine Hid.mk ?_
    have HC26 : Hid (Calls Tryd.prog 17 #[.agg (SC 17 (adV P.sv P.sb))] w22 fun e w' => e = .returned (.agg (SC 28 (verV P.sv))) ∧ Below w22.heap.size w22 w') := Hid.mk (versionOf_run P.sv P.sb w22 (Env.kept HE.out hbt25))
    go_wp2_with (refine wl_cal en_icmp_versionOf HC26 rfl rfl (args1 rfl) ?_; intro w27 hB27; refine Hid.out ?_)
    refine Hid.mk ?_
    clear HC26
    have s28 := s23.kept hB27
    clear s23
    have s29 := s24.kept hB27
    clear s24
    have s30 := s22.kept hB27
    clear s22
    have hbt31 := hbt25.trans (hB27.mono hbt25.size)
    clear hbt25
    clear hB27
    go_wp2_with (refine wl_alO (V := fun j => if j = 1 then .int .u8 0 else if j < 7 then .int .i64 0 else if j % 3 = 0 then .int .u32 0 else .int .i64 0) rfl rfl zeroVe ?_; intro g32 w32 hg32 s32 hB32; refine Hid.out ?_)
    refine Hid.mk ?_
    have hn33 : g1 ≠ g32 := by have := s28.lt; omega
    have hn34 : g4 ≠ g32 := by have := s29.lt; omega
    have hn35 : g15 ≠ g32 := by have := s30.lt; omega
    have hz36 : w.heap.size ≤ g32 := by have := hbt31.size; omega
    have s37 := s28.kept hB32
    clear s28
    have s38 := s29.kept hB32
    clear s29
    have s39 := s30.kept hB32
    clear s30
    have hbt40 := hbt31.trans (hB32.mono hbt31.size)
    clear hbt31
    clear hB32 hg32
    go_wp2_with (refine st_stO (V := verV P.sv) (g := g32) rfl rfl isVe (verV_one _) s32 rfl rfl ?_; intro w41 s41 ho41; refine Hid.out ?_)
    refine Hid.mk ?_
    clear s32
    have s42 := s37.only ho41 hn33
    clear s37
    have s43 := s38.only ho41 hn34
    clear s38
    have s44 := s39.only ho41 hn35
    clear s39
    have hbt45 := hbt40.trans (ho41.below hz36)
    clear hbt40
    clear ho41
    go_wp2_with (refine wl_value rfl (exec_fpk 0 (by decide) rfl rfl) ?_; refine Hid.out ?_)
    refine Hid.mk ?_
    go_wp2_with (refine wl_value rfl (exec_ld rfl rfl (ld_src s42)) ?_; refine Hid.out ?_)
    refine Hid.mk ?_
    rcases Bool.eq_false_or_eq_true (oneB P.sv P.sb) with hb46 | hb46
    · have Hhb46 := Hid.mk hb46
      clear hb46
      have HC47 : Hid (Calls Tryd.prog 22 #[.agg (SC 17 (adV P.sv P.sb))] w41 fun e w' => e = .returned (.bool true) ∧ Below w41.heap.size w41 w') := Hid.mk (by have h := isOne_run P.sv P.sb w41; rw [Hhb46.out] at h; exact h)
      go_wp2_with (refine wl_cal en_icmp_isOne HC47 rfl rfl (args1 rfl) ?_; intro w48 hB48; refine Hid.out ?_)
      refine Hid.mk ?_
      clear HC47
      have s49 := s42.kept hB48
      clear s42
      have s50 := s43.kept hB48
      clear s43
      have s51 := s44.kept hB48
      clear s44
      have s52 := s41.kept hB48
      clear s41
      have hbt53 := hbt45.trans (hB48.mono hbt45.size)
      clear hbt45
      clear hB48
      go_wp2_with (refine wl_value rfl (exec_fpk 1 (by decide) rfl rfl) ?_; refine Hid.out ?_)
      refine Hid.mk ?_
      go_wp2_with (refine wl_value rfl (exec_ld rfl rfl (ld_dst s49)) ?_; refine Hid.out ?_)
      refine Hid.mk ?_
      rcases Bool.eq_false_or_eq_true (oneB P.dv P.db) with hb54 | hb54
      · have Hhb54 := Hid.mk hb54
        clear hb54
        have HC55 : Hid (Calls Tryd.prog 22 #[.agg (SC 17 (adV P.dv P.db))] w48 fun e w' => e = .returned (.bool true) ∧ Below w48.heap.size w48 w') := Hid.mk (by have h := isOne_run P.dv P.db w48; rw [Hhb54.out] at h; exact h)
        go_wp2_with (refine wl_cal en_icmp_isOne HC55 rfl rfl (args1 rfl) ?_; intro w56 hB56; refine Hid.out ?_)
        refine Hid.mk ?_
        clear HC55
        have s57 := s49.kept hB56
        clear s49
        have s58 := s50.kept hB56
        clear s50
        have s59 := s51.kept hB56
        clear s51
        have s60 := s52.kept hB56
        clear s52
        have hbt61 := hbt53.trans (hB56.mono hbt53.size)
        clear hbt53
        clear hB56
        go_wp2_with (refine wl_value rfl (exec_fms 0 (by decide) rfl rfl) ?_; refine Hid.out ?_)
        refine Hid.mk ?_
        go_wp2_with (refine wl_value rfl (exec_ld rfl rfl (ldI (SAt.at s59 0 (by decide)))) ?_; refine Hid.out ?_)
        refine Hid.mk ?_
        go_wp2_with (refine wl_value rfl (exec_fve 5 (by decide) rfl rfl) ?_; refine Hid.out ?_)
        refine Hid.mk ?_
        go_wp2_with (refine wl_value rfl (exec_ld rfl rfl (ldI (n := askK P.sv) (SAt.at s60 5 (by decide)))) ?_; refine Hid.out ?_)
        refine Hid.mk ?_
        rcases Bool.eq_false_or_eq_true (decide ((msgM P).typ = askK P.sv)) with hb62 | hb62
        · have Hhb62 := Hid.mk hb62
          clear hb62
          have HDhb62 := Hid.mk (of_decide_eq_true Hhb62.out)
          go_wp2_with (refine wl_value rfl (kn_n (c := false) Hhb62 (cmp_ne (m := (msgM P).typ) (n := askK P.sv) rfl rfl rfl)) ?_; refine Hid.out ?_)
          refine Hid.mk ?_
          go_wp2_with (refine wl_value rfl (exec_fms 1 (by decide) rfl rfl) ?_; refine Hid.out ?_)
          refine Hid.mk ?_
          go_wp2_with (refine wl_value rfl (exec_ld rfl rfl (ldI (SAt.at s59 1 (by decide)))) ?_; refine Hid.out ?_)
          refine Hid.mk ?_
          rcases Bool.eq_false_or_eq_true (decide ((msgM P).code = 0)) with hb63 | hb63
          · have Hhb63 := Hid.mk hb63
            clear hb63
            have HDhb63 := Hid.mk (of_decide_eq_true Hhb63.out)
            go_wp2_with (refine wl_value rfl (kn_n (c := false) Hhb63 (cmp_ne (m := (msgM P).code) (n := 0) rfl rfl rfl)) ?_; refine Hid.out ?_)
            refine Hid.mk ?_
            go_wp2_with (refine wl_value rfl (exec_fve 6 (by decide) rfl rfl) ?_; refine Hid.out ?_)
            refine Hid.mk ?_
            go_wp2_with (refine wl_value rfl (exec_ld rfl rfl (ldI (n := sayK P.sv) (SAt.at s60 6 (by decide)))) ?_; refine Hid.out ?_)
            refine Hid.mk ?_
            go_wp2_with (refine wl_value rfl (exec_fms 0 (by decide) rfl rfl) ?_; refine Hid.out ?_)
            refine Hid.mk ?_
            go_wp2_with (refine wl_sF (n := 4) (z := .int .i64 (sayK P.sv)) (V' := msV (⟨sayK P.sv, (msgM P).code, (msgM P).rest, (msgM P).body⟩)) rfl rfl rfl rfl (by decide) (sI (sayK P.sv)) s59 (up4 ⟨rfl, rfl, rfl, rfl⟩) ?_; intro w64 s64 ho64; refine Hid.out ?_)
            refine Hid.mk ?_
            clear s59
            have s65 := s57.only ho64 hn16
            clear s57
            have s66 := s58.only ho64 hn17
            clear s58
            have s67 := s60.only ho64 hn35.symm
            clear s60
            have hbt68 := hbt61.trans (ho64.below hz18)
            clear hbt61
            clear ho64
            go_wp2_with (refine wl_value rfl (exec_fpk 1 (by decide) rfl rfl) ?_; refine Hid.out ?_)
            refine Hid.mk ?_
            go_wp2_with (refine wl_value rfl (exec_ld rfl rfl (ld_dst s65)) ?_; refine Hid.out ?_)
            refine Hid.mk ?_
            go_wp2_with (refine wl_value rfl (exec_fpk 0 (by decide) rfl rfl) ?_; refine Hid.out ?_)
            refine Hid.mk ?_
            go_wp2_with (refine wl_value rfl (exec_ld rfl rfl (ld_src s65)) ?_; refine Hid.out ?_)
            refine Hid.mk ?_
            go_wp2_with (refine wl_value rfl (look_st rfl isMs s64 rfl) ?_; refine Hid.out ?_)
            refine Hid.mk ?_
            have HC69 : Hid (Calls Tryd.prog 23 #[.agg (SC 17 (adV P.dv P.db)), .agg (SC 17 (adV P.sv P.sb)), .agg (SC 4 (msV (⟨sayK P.sv, (msgM P).code, (msgM P).rest, (msgM P).body⟩)))] w64 fun e w' => e = .returned (.agg (SC 46 (pkV (pkOf P.dv P.db P.sv P.sb (⟨sayK P.sv, (msgM P).code, (msgM P).rest, (msgM P).body⟩)) (.slice none 0 0)))) ∧ Below w64.heap.size w64 w') := Hid.mk (packetOf_run P.dv P.db P.sv P.sb (⟨sayK P.sv, (msgM P).code, (msgM P).rest, (msgM P).body⟩) w64 (Env.kept HE.out hbt68) HP.out.ok.db HP.out.ok.sb (msg_rest Hhb9.out))
            go_wp2_with (refine wl_cal en_icmp_packetOf HC69 rfl rfl (args3 rfl rfl rfl) ?_; intro w70 hB70; refine Hid.out ?_)
            refine Hid.mk ?_
            clear HC69
            have s71 := s65.kept hB70
            clear s65
            have s72 := s66.kept hB70
            clear s66
            have s73 := s64.kept hB70
            clear s64
            have s74 := s67.kept hB70
            clear s67
            have hbt75 := hbt68.trans (hB70.mono hbt68.size)
            clear hbt68
            clear hB70
            go_wp2_with (refine st_stO (V := pkV (pkOf P.dv P.db P.sv P.sb (⟨sayK P.sv, (msgM P).code, (msgM P).rest, (msgM P).body⟩)) (.slice none 0 0)) (g := g4) rfl rfl isPk (pkV_one rfl) s72 rfl rfl ?_; intro w76 s76 ho76; refine Hid.out ?_)
            refine Hid.mk ?_
            clear s72
            have s77 := s71.only ho76 hn5
            clear s71
            have s78 := s73.only ho76 hn17.symm
            clear s73
            have s79 := s74.only ho76 hn34.symm
            clear s74
            have hbt80 := hbt75.trans (ho76.below hz6)
            clear hbt75
            clear ho76
            go_wp2_with fail
            have hB : echoB P = true := by unfold echoB; simp [Hhb9.out, Hhb46.out, Hhb54.out, Hhb62.out, Hhb63.out]
            have hE : echoP P = pkOf P.dv P.db P.sv P.sb ⟨sayK P.sv, (msgM P).code, (msgM P).rest, (msgM P).body⟩ := by unfold echoP; rw [if_pos hB, of_decide_eq_true Hhb63.out]
            refine bodyPost_ret (res_ct rfl isPk s76 (by rfl) (by rfl)) rfl ?_
            exact ⟨Eq.trans (rfl : _ = Ending.returned (.tuple #[.agg (SC 46 (pkV (pkOf P.dv P.db P.sv P.sb (⟨sayK P.sv, (msgM P).code, (msgM P).rest, (msgM P).body⟩)) (.slice none 0 0))), .bool true])) (by rw [← HRV.out, hB, hE]), hbt80⟩
          · have Hhb63 := Hid.mk hb63
            clear hb63
            have HDhb63 := Hid.mk (of_decide_eq_false Hhb63.out)
            go_wp2_with (refine wl_value rfl (kn_n (c := true) Hhb63 (cmp_ne (m := (msgM P).code) (n := 0) rfl rfl rfl)) ?_; refine Hid.out ?_)
            refine Hid.mk ?_
            go_wp2_with (refine wl_value rfl (exec_pk0 rfl) ?_; refine Hid.out ?_)
            refine Hid.mk ?_
            go_wp2_with (refine st_stO (V := pkV zeroP (.slice none 0 0)) (g := g4) rfl rfl isPk (pkV_one rfl) s58 rfl rfl ?_; intro w81 s81 ho81; refine Hid.out ?_)
            refine Hid.mk ?_
            clear s58
            have s82 := s57.only ho81 hn5
            clear s57
            have s83 := s59.only ho81 hn17.symm
            clear s59
            have s84 := s60.only ho81 hn34.symm
            clear s60
            have hbt85 := hbt61.trans (ho81.below hz6)
            clear hbt61
            clear ho81
            go_wp2_with fail
            have hB : echoB P = false := by unfold echoB; simp [Hhb9.out, Hhb46.out, Hhb54.out, Hhb62.out, Hhb63.out]
            have hE : echoP P = zeroP := by unfold echoP; rw [if_neg (by rw [hB]; decide)]
            refine bodyPost_ret (res_ct rfl isPk s81 (by rfl) (by rfl)) rfl ?_
            exact ⟨Eq.trans (rfl : _ = Ending.returned (.tuple #[.agg (SC 46 (pkV zeroP (.slice none 0 0))), .bool false])) (by rw [← HRV.out, hB, hE]), hbt85⟩
        · have Hhb62 := Hid.mk hb62
          clear hb62
          have HDhb62 := Hid.mk (of_decide_eq_false Hhb62.out)
          go_wp2_with (refine wl_value rfl (kn_n (c := true) Hhb62 (cmp_ne (m := (msgM P).typ) (n := askK P.sv) rfl rfl rfl)) ?_; refine Hid.out ?_)
          refine Hid.mk ?_
          go_wp2_with (refine wl_value rfl (exec_pk0 rfl) ?_; refine Hid.out ?_)
          refine Hid.mk ?_
          go_wp2_with (refine st_stO (V := pkV zeroP (.slice none 0 0)) (g := g4) rfl rfl isPk (pkV_one rfl) s58 rfl rfl ?_; intro w86 s86 ho86; refine Hid.out ?_)
          refine Hid.mk ?_
          clear s58
          have s87 := s57.only ho86 hn5
          clear s57
          have s88 := s59.only ho86 hn17.symm
          clear s59
          have s89 := s60.only ho86 hn34.symm
          clear s60
          have hbt90 := hbt61.trans (ho86.below hz6)
          clear hbt61
          clear ho86
          go_wp2_with fail
          have hB : echoB P = false := by unfold echoB; simp [Hhb9.out, Hhb46.out, Hhb54.out, Hhb62.out]
          have hE : echoP P = zeroP := by unfold echoP; rw [if_neg (by rw [hB]; decide)]
          refine bodyPost_ret (res_ct rfl isPk s86 (by rfl) (by rfl)) rfl ?_
          exact ⟨Eq.trans (rfl : _ = Ending.returned (.tuple #[.agg (SC 46 (pkV zeroP (.slice none 0 0))), .bool false])) (by rw [← HRV.out, hB, hE]), hbt90⟩
      · have Hhb54 := Hid.mk hb54
        clear hb54
        have HC91 : Hid (Calls Tryd.prog 22 #[.agg (SC 17 (adV P.dv P.db))] w48 fun e w' => e = .returned (.bool false) ∧ Below w48.heap.size w48 w') := Hid.mk (by have h := isOne_run P.dv P.db w48; rw [Hhb54.out] at h; exact h)
        go_wp2_with (refine wl_cal en_icmp_isOne HC91 rfl rfl (args1 rfl) ?_; intro w92 hB92; refine Hid.out ?_)
        refine Hid.mk ?_
        clear HC91
        have s93 := s49.kept hB92
        clear s49
        have s94 := s50.kept hB92
        clear s50
        have s95 := s51.kept hB92
        clear s51
        have s96 := s52.kept hB92
        clear s52
        have hbt97 := hbt53.trans (hB92.mono hbt53.size)
        clear hbt53
        clear hB92
        go_wp2_with (refine wl_value rfl (exec_pk0 rfl) ?_; refine Hid.out ?_)
        refine Hid.mk ?_
        go_wp2_with (refine st_stO (V := pkV zeroP (.slice none 0 0)) (g := g4) rfl rfl isPk (pkV_one rfl) s94 rfl rfl ?_; intro w98 s98 ho98; refine Hid.out ?_)
        refine Hid.mk ?_
        clear s94
        have s99 := s93.only ho98 hn5
        clear s93
        have s100 := s95.only ho98 hn17.symm
        clear s95
        have s101 := s96.only ho98 hn34.symm
        clear s96
        have hbt102 := hbt97.trans (ho98.below hz6)
        clear hbt97
        clear ho98
        go_wp2_with fail
        have hB : echoB P = false := by unfold echoB; simp [Hhb9.out, Hhb46.out, Hhb54.out]
        have hE : echoP P = zeroP := by unfold echoP; rw [if_neg (by rw [hB]; decide)]
        refine bodyPost_ret (res_ct rfl isPk s98 (by rfl) (by rfl)) rfl ?_
        exact ⟨Eq.trans (rfl : _ = Ending.returned (.tuple #[.agg (SC 46 (pkV zeroP (.slice none 0 0))), .bool false])) (by rw [← HRV.out, hB, hE]), hbt102⟩
    · have Hhb46 := Hid.mk hb46
      clear hb46
      have HC103 : Hid (Calls Tryd.prog 22 #[.agg (SC 17 (adV P.sv P.sb))] w41 fun e w' => e = .returned (.bool false) ∧ Below w41.heap.size w41 w') := Hid.mk (by have h := isOne_run P.sv P.sb w41; rw [Hhb46.out] at h; exact h)
      go_wp2_with (refine wl_cal en_icmp_isOne HC103 rfl rfl (args1 rfl) ?_; intro w104 hB104; refine Hid.out ?_)
      refine Hid.mk ?_
      clear HC103
      have s105 := s42.kept hB104
      clear s42
      have s106 := s43.kept hB104
      clear s43
      have s107 := s44.kept hB104
      clear s44
      have s108 := s41.kept hB104
      clear s41
      have hbt109 := hbt45.trans (hB104.mono hbt45.size)
      clear hbt45
      clear hB104
      go_wp2_with (refine wl_value rfl (exec_pk0 rfl) ?_; refine Hid.out ?_)
      refine Hid.mk ?_
      go_wp2_with (refine st_stO (V := pkV zeroP (.slice none 0 0)) (g := g4) rfl rfl isPk (pkV_one rfl) s106 rfl rfl ?_; intro w110 s110 ho110; refine Hid.out ?_)
      refine Hid.mk ?_
      clear s106
      have s111 := s105.only ho110 hn5
      clear s105
      have s112 := s107.only ho110 hn17.symm
      clear s107
      have s113 := s108.only ho110 hn34.symm
      clear s108
      have hbt114 := hbt109.trans (ho110.below hz6)
      clear hbt109
      clear ho110
      go_wp2_with fail
      have hB : echoB P = false := by unfold echoB; simp [Hhb9.out, Hhb46.out]
      have hE : echoP P = zeroP := by unfold echoP; rw [if_neg (by rw [hB]; decide)]
      refine bodyPost_ret (res_ct rfl isPk s110 (by rfl) (by rfl)) rfl ?_
      exact ⟨Eq.trans (rfl : _ = Ending.returned (.tuple #[.agg (SC 46 (pkV zeroP (.slice none 0 0))), .bool false])) (by rw [← HRV.out, hB, hE]), hbt114⟩
  · have Hhb9 := Hid.mk hb9
    clear hb9
    have HC115 : Hid (Calls Tryd.prog 21 #[.agg (SC 46 (pkV P vx))] w4 fun e w' => e = .returned (.tuple #[.agg (SC 4 (msV (msgM P))), .bool false]) ∧ Below w4.heap.size w4 w') := Hid.mk (by have h := messageOf_run P vx w4 (Env.kept HE.out hbt8) (ExAt.kept HX.out hbt8) HP.out; rw [Hhb9.out] at h; exact h)
    go_wp2_with (refine wl_cal en_icmp_messageOf HC115 rfl rfl (args1 rfl) ?_; intro w116 hB116; refine Hid.out ?_)
    refine Hid.mk ?_
    clear HC115
    have s117 := s7.kept hB116
    clear s7
    have s118 := s4.kept hB116
    clear s4
    have hbt119 := hbt8.trans (hB116.mono hbt8.size)
    clear hbt8
    clear hB116
    go_wp2_with (refine wl_alO (V := msV ms0) rfl rfl zeroMs ?_; intro g120 w120 hg120 s120 hB120; refine Hid.out ?_)
    refine Hid.mk ?_
    have hn121 : g1 ≠ g120 := by have := s117.lt; omega
    have hn122 : g4 ≠ g120 := by have := s118.lt; omega
    have hz123 : w.heap.size ≤ g120 := by have := hbt119.size; omega
    have s124 := s117.kept hB120
    clear s117
    have s125 := s118.kept hB120
    clear s118
    have hbt126 := hbt119.trans (hB120.mono hbt119.size)
    clear hbt119
    clear hB120 hg120
    go_wp2_with (refine st_stO (V := msV (msgM P)) (g := g120) rfl rfl isMs (msV_one _) s120 rfl rfl ?_; intro w127 s127 ho127; refine Hid.out ?_)
    refine Hid.mk ?_
    clear s120
    have s128 := s124.only ho127 hn121
    clear s124
    have s129 := s125.only ho127 hn122
    clear s125
    have hbt130 := hbt126.trans (ho127.below hz123)
    clear hbt126
    clear ho127
    go_wp2_with (refine wl_value rfl (exec_fpk 0 (by decide) rfl rfl) ?_; refine Hid.out ?_)
    refine Hid.mk ?_
    go_wp2_with (refine wl_value rfl (exec_ld rfl rfl (ld_src s128)) ?_; refine Hid.out ?_)
    refine Hid.mk ?_
    have HC131 : Hid (Calls Tryd.prog 17 #[.agg (SC 17 (adV P.sv P.sb))] w127 fun e w' => e = .returned (.agg (SC 28 (verV P.sv))) ∧ Below w127.heap.size w127 w') := Hid.mk (versionOf_run P.sv P.sb w127 (Env.kept HE.out hbt130))
    go_wp2_with (refine wl_cal en_icmp_versionOf HC131 rfl rfl (args1 rfl) ?_; intro w132 hB132; refine Hid.out ?_)
    refine Hid.mk ?_
    clear HC131
    have s133 := s128.kept hB132
    clear s128
    have s134 := s129.kept hB132
    clear s129
    have s135 := s127.kept hB132
    clear s127
    have hbt136 := hbt130.trans (hB132.mono hbt130.size)
    clear hbt130
    clear hB132
    go_wp2_with (refine wl_alO (V := fun j => if j = 1 then .int .u8 0 else if j < 7 then .int .i64 0 else if j % 3 = 0 then .int .u32 0 else .int .i64 0) rfl rfl zeroVe ?_; intro g137 w137 hg137 s137 hB137; refine Hid.out ?_)
    refine Hid.mk ?_
    have hn138 : g1 ≠ g137 := by have := s133.lt; omega
    have hn139 : g4 ≠ g137 := by have := s134.lt; omega
    have hn140 : g120 ≠ g137 := by have := s135.lt; omega
    have hz141 : w.heap.size ≤ g137 := by have := hbt136.size; omega
    have s142 := s133.kept hB137
    clear s133
    have s143 := s134.kept hB137
    clear s134
    have s144 := s135.kept hB137
    clear s135
    have hbt145 := hbt136.trans (hB137.mono hbt136.size)
    clear hbt136
    clear hB137 hg137
    go_wp2_with (refine st_stO (V := verV P.sv) (g := g137) rfl rfl isVe (verV_one _) s137 rfl rfl ?_; intro w146 s146 ho146; refine Hid.out ?_)
    refine Hid.mk ?_
    clear s137
    have s147 := s142.only ho146 hn138
    clear s142
    have s148 := s143.only ho146 hn139
    clear s143
    have s149 := s144.only ho146 hn140
    clear s144
    have hbt150 := hbt145.trans (ho146.below hz141)
    clear hbt145
    clear ho146
    go_wp2_with (refine wl_value rfl (exec_pk0 rfl) ?_; refine Hid.out ?_)
    refine Hid.mk ?_
    go_wp2_with (refine st_stO (V := pkV zeroP (.slice none 0 0)) (g := g4) rfl rfl isPk (pkV_one rfl) s148 rfl rfl ?_; intro w151 s151 ho151; refine Hid.out ?_)
    refine Hid.mk ?_
    clear s148
    have s152 := s147.only ho151 hn5
    clear s147
    have s153 := s149.only ho151 hn122.symm
    clear s149
    have s154 := s146.only ho151 hn139.symm
    clear s146
    have hbt155 := hbt150.trans (ho151.below hz6)
    clear hbt150
    clear ho151
    go_wp2_with fail
    have hB : echoB P = false := by unfold echoB; simp [Hhb9.out]
    have hE : echoP P = zeroP := by unfold echoP; rw [if_neg (by rw [hB]; decide)]
    refine bodyPost_ret (res_ct rfl isPk s151 (by rfl) (by rfl)) rfl ?_
    exact ⟨Eq.trans (rfl : _ = Ending.returned (.tuple #[.agg (SC 46 (pkV zeroP (.slice none 0 0))), .bool false])) (by rw [← HRV.out, hB, hE]), hbt155⟩
theorem msg_body {P : Pk} (h : msgB P = true) : (msgM P).body.size ≤ 65515 := by
  have := msgM_ok h
  rw [this.1]
  show (P.pay.extract 8 P.pay.size).size ≤ _
  rw [cutP_size P.pay 8 _ (Nat.le_refl _)]
  omega
theorem prob_split (k : Int) (fv : Bool) (fb : Nat → Int) (P : Pk) (mtu : Int) : probB k fv fb P mtu = (upB (k - 1) 5 && oneB fv fb && (fv == P.sv) && ansM P && upB mtu 65535 && quoB P) := by
  have hq : quoB P = (rgtP P && fitP P) := by
    unfold quoB
    rcases Bool.eq_false_or_eq_true (rgtP P && fitP P) with h | h
    · rw [h]
      exact decide_eq_true (bld_ok.2 (by simpa using h))
    · rw [h]
      refine decide_eq_false (fun e => ?_)
      have := bld_ok.1 e
      simp [this.1, this.2] at h
  rw [hq]
  unfold probB ansM
  cases upB (k - 1) 5 <;> cases oneB fv fb <;> cases (fv == P.sv) <;> cases rgtP P <;> cases fitP P <;> cases oneB P.sv P.sb <;> cases groupF P.dv P.db <;> cases decide (P.off ≤ 0) <;> cases ansB P <;> cases upB mtu 65535 <;> rfl
theorem quo_S {P : Pk} (h : quoB P = true) : quoT P = quoS P := by
  unfold quoS
  rw [if_pos (of_decide_eq_true h)]
theorem prob_at4 {K : Nat} {fv : Bool} {fb : Nat → Int} {P : Pk} {mtu : Int} (hB : probB (K : Int) fv fb P mtu = true) (_hK : 1 ≤ K) (hq : quoB P = true) (h4 : (K : Int) = 4) : probP (K : Int) fv fb P mtu = pkOf fv fb P.sv P.sb ⟨if K = 0 then 0 else codT fv (K : Int), if K = 0 then 0 else codC fv (K : Int), mtu.toNat, quoS P⟩ := by
  have hv : fv = P.sv := (prob_is hB).2.2.1
  unfold probP
  rw [if_pos hB]
  unfold probM
  have hK0 : ¬ K = 0 := by omega
  simp only [quo_S hq, hK0, if_false, h4, if_true, hv]
theorem prob_ato {K : Nat} {fv : Bool} {fb : Nat → Int} {P : Pk} {mtu : Int} (hB : probB (K : Int) fv fb P mtu = true) (hK : 1 ≤ K) (hq : quoB P = true) (h4 : ¬ (K : Int) = 4) : probP (K : Int) fv fb P mtu = pkOf fv fb P.sv P.sb ⟨if K = 0 then 0 else codT fv (K : Int), if K = 0 then 0 else codC fv (K : Int), (if K = 6 ∧ fv = true then 6 else 0), quoS P⟩ := by
  have hv : fv = P.sv := (prob_is hB).2.2.1
  have h6 : ((K : Int) = 6 ∧ P.sv = true) = (K = 6 ∧ P.sv = true) := propext ⟨fun h => ⟨by omega, h.2⟩, fun h => ⟨by omega, h.2⟩⟩
  unfold probP
  rw [if_pos hB]
  unfold probM
  have hK0 : ¬ K = 0 := by omega
  simp only [quo_S hq, hK0, if_false, h4, hv, h6]
set_option linter.unusedSimpArgs false in
set_option maxHeartbeats 4000000 in
theorem Problem_kn (K : Nat) (hK : 1 ≤ K ∧ K ≤ 6) (fv : Bool) (fb : Nat → Int) (P : Pk) (vx : Value) (mtu : Int) (w : World) (he : Env w) (hx : ExAt w vx P.exts) (hp : PkB P) (hfb : Byts 16 fb) : Calls Tryd.prog 14 #[.int .i64 ((K : Nat) : Int), .agg (SC 17 (adV fv fb)), .agg (SC 46 (pkV P vx)), .int .i64 mtu] w fun e w' => e = .returned (.tuple #[.agg (SC 46 (pkV (probP ((K : Nat) : Int) fv fb P mtu) (.slice none 0 0))), .bool (probB ((K : Nat) : Int) fv fb P mtu)]) ∧ Below w.heap.size w w' := by
  generalize hRV : (.tuple #[.agg (SC 46 (pkV (probP ((K : Nat) : Int) fv fb P mtu) (.slice none 0 0))), .bool (probB ((K : Nat) : Int) fv fb P mtu)] : Value) = RV
  have HRV := Hid.mk hRV
  clear hRV
  have HE := Hid.mk he
  clear he
  have HX := Hid.mk hx
  have HP := Hid.mk hp
  clear hx hp
  have HK := Hid.mk hK
  clear hK
  have HKB : Hid (upB (((K : Nat) : Int) - 1) 5 = true) := Hid.mk (upB_iff.2 (by have := HK.out; omega))
  go_enter Tryd.func14, Tryd.ntmps14
  go_wp2_with (refine wl_boxO (V := adV fv fb) rfl rfl isAddr rfl ?_; intro g1 w1 hg1 s1 hB1; refine Hid.out ?_)
  refine Hid.mk ?_
  have hz2 : w.heap.size ≤ g1 := by omega
  have hbt3 := hB1
  clear hB1 hg1
  go_wp2_with (refine wl_boxO (V := pkV P vx) rfl rfl isPk rfl ?_; intro g4 w4 hg4 s4 hB4; refine Hid.out ?_)
  refine Hid.mk ?_
  have hn5 : g1 ≠ g4 := by have := s1.lt; omega
  have hz6 : w.heap.size ≤ g4 := by have := hbt3.size; omega
  have s7 := s1.kept hB4
  clear s1
  have hbt8 := hbt3.trans (hB4.mono hbt3.size)
  clear hbt3
  clear hB4 hg4
  go_wp2_with (refine wl_alO (V := pkV zeroP (.slice none 0 0)) rfl rfl zeroPk ?_; intro g9 w9 hg9 s9 hB9; refine Hid.out ?_)
  refine Hid.mk ?_
  have hn10 : g1 ≠ g9 := by have := s7.lt; omega
  have hn11 : g4 ≠ g9 := by have := s4.lt; omega
  have hz12 : w.heap.size ≤ g9 := by have := hbt8.size; omega
  have s13 := s7.kept hB9
  clear s7
  have s14 := s4.kept hB9
  clear s4
  have hbt15 := hbt8.trans (hB9.mono hbt8.size)
  clear hbt8
  clear hB9 hg9
  have HC16 : Hid (Calls Tryd.prog 24 #[.int .i64 ((K : Nat) : Int)] w9 fun e w' => e = .returned (.bool true) ∧ Below w9.heap.size w9 w') := Hid.mk (by have h := isKind_run ((K : Nat) : Int) w9; rw [HKB.out] at h; exact h)
  go_wp2_with (refine wl_cal en_icmp_isKind HC16 rfl rfl (args1 rfl) ?_; intro w17 hB17; refine Hid.out ?_)
  refine Hid.mk ?_
  clear HC16
  have s18 := s13.kept hB17
  clear s13
  have s19 := s14.kept hB17
  clear s14
  have s20 := s9.kept hB17
  clear s9
  have hbt21 := hbt15.trans (hB17.mono hbt15.size)
  clear hbt15
  clear hB17
  go_wp2_with (refine wl_value rfl (look_st rfl isAddr s18 rfl) ?_; refine Hid.out ?_)
  refine Hid.mk ?_
  rcases Bool.eq_false_or_eq_true (oneB fv fb) with hb22 | hb22
  · have Hhb22 := Hid.mk hb22
    clear hb22
    have HC23 : Hid (Calls Tryd.prog 22 #[.agg (SC 17 (adV fv fb))] w17 fun e w' => e = .returned (.bool true) ∧ Below w17.heap.size w17 w') := Hid.mk (by have h := isOne_run fv fb w17; rw [Hhb22.out] at h; exact h)
    go_wp2_with (refine wl_cal en_icmp_isOne HC23 rfl rfl (args1 rfl) ?_; intro w24 hB24; refine Hid.out ?_)
    refine Hid.mk ?_
    clear HC23
    have s25 := s18.kept hB24
    clear s18
    have s26 := s19.kept hB24
    clear s19
    have s27 := s20.kept hB24
    clear s20
    have hbt28 := hbt21.trans (hB24.mono hbt21.size)
    clear hbt21
    clear hB24
    go_wp2_with (refine wl_value rfl (exec_fad0 rfl rfl) ?_; refine Hid.out ?_)
    refine Hid.mk ?_
    rcases Bool.eq_false_or_eq_true (fv) with hb29 | hb29
    · have Hhb29 := Hid.mk hb29
      clear hb29
      go_wp2_with (refine wl_value rfl (kn_ (c := true) Hhb29 (exec_ld rfl rfl (ldB (SAt.at s25 0 (by decide))))) ?_; refine Hid.out ?_)
      refine Hid.mk ?_
      go_wp2_with (refine wl_value rfl (exec_fpk 0 (by decide) rfl rfl) ?_; refine Hid.out ?_)
      refine Hid.mk ?_
      go_wp2_with (refine wl_value rfl (exec_fad0 rfl rfl) ?_; refine Hid.out ?_)
      refine Hid.mk ?_
      rcases Bool.eq_false_or_eq_true (P.sv) with hb30 | hb30
      · have Hhb30 := Hid.mk hb30
        clear hb30
        go_wp2_with (refine wl_value rfl (kn_ (c := true) Hhb30 (exec_ld rfl rfl (ldB (SAt.at s26 0 (by decide))))) ?_; refine Hid.out ?_)
        refine Hid.mk ?_
        have HK31 : Hid ((true == true) = true) := Hid.mk rfl
        go_wp2_with (refine wl_value rfl (kn_n (c := false) HK31 (cmp_neB (m := true) (n := true) rfl rfl rfl)) ?_; refine Hid.out ?_)
        refine Hid.mk ?_
        go_wp2_with (refine wl_value rfl (look_st rfl isPk s26 rfl) ?_; refine Hid.out ?_)
        refine Hid.mk ?_
        rcases Bool.eq_false_or_eq_true (ansM P) with hb32 | hb32
        · have Hhb32 := Hid.mk hb32
          clear hb32
          have HC33 : Hid (Calls Tryd.prog 25 #[.agg (SC 46 (pkV P vx))] w24 fun e w' => e = .returned (.bool true) ∧ Below w24.heap.size w24 w') := Hid.mk (by have h := may_run P vx w24 (Env.kept HE.out hbt28); rw [Hhb32.out] at h; exact h)
          go_wp2_with (refine wl_cal en_icmp_mayBeAnswered HC33 rfl rfl (args1 rfl) ?_; intro w34 hB34; refine Hid.out ?_)
          refine Hid.mk ?_
          clear HC33
          have s35 := s25.kept hB34
          clear s25
          have s36 := s26.kept hB34
          clear s26
          have s37 := s27.kept hB34
          clear s27
          have hbt38 := hbt28.trans (hB34.mono hbt28.size)
          clear hbt28
          clear hB34
          rcases Bool.eq_false_or_eq_true (upB mtu 65535) with hb39 | hb39
          · have Hhb39 := Hid.mk hb39
            clear hb39
            have HMT := Hid.mk (upB_iff.1 Hhb39.out)
            have HC40 : Hid (Calls Tryd.prog 26 #[.int .i64 mtu, .int .i64 65535] w34 fun e w' => e = .returned (.bool true) ∧ Below w34.heap.size w34 w') := Hid.mk (by have h := iUpTo_run mtu 65535 w34; rw [Hhb39.out] at h; exact h)
            go_wp2_with (refine wl_cal en_icmp_upTo HC40 rfl rfl (args2 rfl rfl) ?_; intro w41 hB41; refine Hid.out ?_)
            refine Hid.mk ?_
            clear HC40
            have s42 := s35.kept hB41
            clear s35
            have s43 := s36.kept hB41
            clear s36
            have s44 := s37.kept hB41
            clear s37
            have hbt45 := hbt38.trans (hB41.mono hbt38.size)
            clear hbt38
            clear hB41
            go_wp2_with (refine wl_value rfl (look_st rfl isPk s43 rfl) ?_; refine Hid.out ?_)
            refine Hid.mk ?_
            rcases Bool.eq_false_or_eq_true (quoB P) with hb46 | hb46
            · have Hhb46 := Hid.mk hb46
              clear hb46
              have HC47 : Hid (Calls Tryd.prog 27 #[.agg (SC 46 (pkV P vx))] w41 fun e w' => e = .returned (.tuple #[.string (quoS P), .bool true]) ∧ Below w41.heap.size w41 w') := Hid.mk (by have h := quoted_run P vx w41 (ExAt.kept HX.out hbt45) HP.out; rw [Hhb46.out] at h; exact h)
              go_wp2_with (refine wl_cal en_icmp_quoted HC47 rfl rfl (args1 rfl) ?_; intro w48 hB48; refine Hid.out ?_)
              refine Hid.mk ?_
              clear HC47
              have s49 := s42.kept hB48
              clear s42
              have s50 := s43.kept hB48
              clear s43
              have s51 := s44.kept hB48
              clear s44
              have hbt52 := hbt45.trans (hB48.mono hbt45.size)
              clear hbt45
              clear hB48
              go_wp2_with (refine wl_value rfl (look_st rfl isAddr s49 rfl) ?_; refine Hid.out ?_)
              refine Hid.mk ?_
              have HC53 : Hid (Calls Tryd.prog 17 #[.agg (SC 17 (adV fv fb))] w48 fun e w' => e = .returned (.agg (SC 28 (verV fv))) ∧ Below w48.heap.size w48 w') := Hid.mk (versionOf_run fv fb w48 (Env.kept HE.out hbt52))
              go_wp2_with (refine wl_cal en_icmp_versionOf HC53 rfl rfl (args1 rfl) ?_; intro w54 hB54; refine Hid.out ?_)
              refine Hid.mk ?_
              clear HC53
              have s55 := s49.kept hB54
              clear s49
              have s56 := s50.kept hB54
              clear s50
              have s57 := s51.kept hB54
              clear s51
              have hbt58 := hbt52.trans (hB54.mono hbt52.size)
              clear hbt52
              clear hB54
              go_wp2_with (refine wl_value rfl (exec_fv7 rfl rfl) ?_; refine Hid.out ?_)
              refine Hid.mk ?_
              go_wp2_with (refine wl_value rfl (exec_ixv (k := K) rfl rfl rfl (by have := HK.out; have := HMT.out; omega)) ?_; refine Hid.out ?_)
              refine Hid.mk ?_
              go_wp2_with (refine wl_alO (V := erV false 0) rfl rfl zeroEr ?_; intro g59 w59 hg59 s59 hB59; refine Hid.out ?_)
              refine Hid.mk ?_
              have hn60 : g1 ≠ g59 := by have := s55.lt; omega
              have hn61 : g4 ≠ g59 := by have := s56.lt; omega
              have hn62 : g9 ≠ g59 := by have := s57.lt; omega
              have hz63 : w.heap.size ≤ g59 := by have := hbt58.size; omega
              have s64 := s55.kept hB59
              clear s55
              have s65 := s56.kept hB59
              clear s56
              have s66 := s57.kept hB59
              clear s57
              have hbt67 := hbt58.trans (hB59.mono hbt58.size)
              clear hbt58
              clear hB59 hg59
              go_wp2_with (refine st_stO (V := erV fv K) (g := g59) rfl rfl isEr (erV_one _ _) s59 rfl rfl ?_; intro w68 s68 ho68; refine Hid.out ?_)
              refine Hid.mk ?_
              clear s59
              have s69 := s64.only ho68 hn60
              clear s64
              have s70 := s65.only ho68 hn61
              clear s65
              have s71 := s66.only ho68 hn62
              clear s66
              have hbt72 := hbt67.trans (ho68.below hz63)
              clear hbt67
              clear ho68
              go_wp2_with (refine wl_value rfl (exec_fer 0 (by decide) rfl rfl) ?_; refine Hid.out ?_)
              refine Hid.mk ?_
              obtain ⟨N73, hN73⟩ : ∃ n : Int, n = if K = 0 then 0 else codT fv (K : Int) := ⟨_, rfl⟩
              have HN73 := Hid.mk hN73
              clear hN73
              go_wp2_with (refine wl_value rfl (exec_ld rfl rfl (ldI (n := N73) (by rw [HN73.out]; exact SAt.at s68 0 (by decide)))) ?_; refine Hid.out ?_)
              refine Hid.mk ?_
              go_wp2_with (refine wl_value rfl (exec_fer 1 (by decide) rfl rfl) ?_; refine Hid.out ?_)
              refine Hid.mk ?_
              obtain ⟨N74, hN74⟩ : ∃ n : Int, n = if K = 0 then 0 else codC fv (K : Int) := ⟨_, rfl⟩
              have HN74 := Hid.mk hN74
              clear hN74
              go_wp2_with (refine wl_value rfl (exec_ld rfl rfl (ldI (n := N74) (by rw [HN74.out]; exact SAt.at s68 1 (by decide)))) ?_; refine Hid.out ?_)
              refine Hid.mk ?_
              go_wp2_with (refine wl_value rfl (exec_fer 2 (by decide) rfl rfl) ?_; refine Hid.out ?_)
              refine Hid.mk ?_
              obtain ⟨N75, hN75⟩ : ∃ n : Nat, n = (if K = 6 ∧ fv = true then 6 else 0) := ⟨_, rfl⟩
              have HN75 := Hid.mk hN75
              clear hN75
              go_wp2_with (refine wl_value rfl (exec_ld rfl rfl (ld32 (n := ((N75 : Nat) : Int)) (by rw [HN75.out]; exact SAt.at s68 2 (by decide)))) ?_; refine Hid.out ?_)
              refine Hid.mk ?_
              go_wp2_with (refine wl_value rfl (exec_bdMs ⟨N73, N74, N75, quoS P⟩ rfl rfl rfl rfl rfl) ?_; refine Hid.out ?_)
              refine Hid.mk ?_
              go_wp2_with (refine wl_alO (V := msV ms0) rfl rfl zeroMs ?_; intro g76 w76 hg76 s76 hB76; refine Hid.out ?_)
              refine Hid.mk ?_
              have hn77 : g1 ≠ g76 := by have := s69.lt; omega
              have hn78 : g4 ≠ g76 := by have := s70.lt; omega
              have hn79 : g9 ≠ g76 := by have := s71.lt; omega
              have hn80 : g59 ≠ g76 := by have := s68.lt; omega
              have hz81 : w.heap.size ≤ g76 := by have := hbt72.size; omega
              have s82 := s69.kept hB76
              clear s69
              have s83 := s70.kept hB76
              clear s70
              have s84 := s71.kept hB76
              clear s71
              have s85 := s68.kept hB76
              clear s68
              have hbt86 := hbt72.trans (hB76.mono hbt72.size)
              clear hbt72
              clear hB76 hg76
              go_wp2_with (refine st_stO (V := msV (⟨N73, N74, N75, quoS P⟩)) (g := g76) rfl rfl isMs (msV_one _) s76 rfl rfl ?_; intro w87 s87 ho87; refine Hid.out ?_)
              refine Hid.mk ?_
              clear s76
              have s88 := s82.only ho87 hn77
              clear s82
              have s89 := s83.only ho87 hn78
              clear s83
              have s90 := s84.only ho87 hn79
              clear s84
              have s91 := s85.only ho87 hn80
              clear s85
              have hbt92 := hbt86.trans (ho87.below hz81)
              clear hbt86
              clear ho87
              rcases Bool.eq_false_or_eq_true (decide (((K : Nat) : Int) = 4)) with hb93 | hb93
              · have Hhb93 := Hid.mk hb93
                clear hb93
                have HDhb93 := Hid.mk (of_decide_eq_true Hhb93.out)
                go_wp2_with (refine wl_value rfl (kn_ (c := true) Hhb93 (cmp_eq (m := ((K : Nat) : Int)) (n := 4) rfl rfl rfl)) ?_; refine Hid.out ?_)
                refine Hid.mk ?_
                obtain ⟨N94, hN94⟩ : ∃ n : Nat, n = mtu.toNat := ⟨_, rfl⟩
                have HN94 := Hid.mk hN94
                clear hN94
                go_wp2_with (refine wl_value rfl (cvN HN94 (exec_cvI32 (m := mtu) rfl rfl (by have := HK.out; have := HMT.out; have := HDhb93.out; have := HN94.out; omega) (by have := HK.out; have := HMT.out; have := HDhb93.out; have := HN94.out; omega))) ?_; refine Hid.out ?_)
                refine Hid.mk ?_
                go_wp2_with (refine wl_value rfl (exec_fms 2 (by decide) rfl rfl) ?_; refine Hid.out ?_)
                refine Hid.mk ?_
                go_wp2_with (refine wl_sF (n := 4) (z := .int .u32 ((N94 : Nat) : Int)) (V' := msV (⟨N73, N74, N94, quoS P⟩)) rfl rfl rfl rfl (by decide) (s32 ((N94 : Nat) : Int)) s87 (up4 ⟨rfl, rfl, rfl, rfl⟩) ?_; intro w95 s95 ho95; refine Hid.out ?_)
                refine Hid.mk ?_
                clear s87
                have s96 := s88.only ho95 hn77
                clear s88
                have s97 := s89.only ho95 hn78
                clear s89
                have s98 := s90.only ho95 hn79
                clear s90
                have s99 := s91.only ho95 hn80
                clear s91
                have hbt100 := hbt92.trans (ho95.below hz81)
                clear hbt92
                clear ho95
                go_wp2_with (refine wl_value rfl (look_st rfl isAddr s96 rfl) ?_; refine Hid.out ?_)
                refine Hid.mk ?_
                go_wp2_with (refine wl_value rfl (exec_fpk 0 (by decide) rfl rfl) ?_; refine Hid.out ?_)
                refine Hid.mk ?_
                go_wp2_with (refine wl_value rfl (exec_ld rfl rfl (ld_src s97)) ?_; refine Hid.out ?_)
                refine Hid.mk ?_
                go_wp2_with (refine wl_value rfl (look_st rfl isMs s95 rfl) ?_; refine Hid.out ?_)
                refine Hid.mk ?_
                have HC101 : Hid (Calls Tryd.prog 23 #[.agg (SC 17 (adV fv fb)), .agg (SC 17 (adV P.sv P.sb)), .agg (SC 4 (msV (⟨N73, N74, N94, quoS P⟩)))] w95 fun e w' => e = .returned (.agg (SC 46 (pkV (pkOf fv fb P.sv P.sb (⟨N73, N74, N94, quoS P⟩)) (.slice none 0 0)))) ∧ Below w95.heap.size w95 w') := Hid.mk (packetOf_run fv fb P.sv P.sb (⟨N73, N74, N94, quoS P⟩) w95 (Env.kept HE.out hbt100) hfb HP.out.ok.sb (show N94 < 4294967296 from (by have := HK.out; have := HMT.out; have := HDhb93.out; have := HN94.out; omega)))
                go_wp2_with (refine wl_cal en_icmp_packetOf HC101 rfl rfl (args3 rfl rfl rfl) ?_; intro w102 hB102; refine Hid.out ?_)
                refine Hid.mk ?_
                clear HC101
                have s103 := s96.kept hB102
                clear s96
                have s104 := s97.kept hB102
                clear s97
                have s105 := s98.kept hB102
                clear s98
                have s106 := s99.kept hB102
                clear s99
                have s107 := s95.kept hB102
                clear s95
                have hbt108 := hbt100.trans (hB102.mono hbt100.size)
                clear hbt100
                clear hB102
                go_wp2_with (refine st_stO (V := pkV (pkOf fv fb P.sv P.sb (⟨N73, N74, N94, quoS P⟩)) (.slice none 0 0)) (g := g9) rfl rfl isPk (pkV_one rfl) s105 rfl rfl ?_; intro w109 s109 ho109; refine Hid.out ?_)
                refine Hid.mk ?_
                clear s105
                have s110 := s103.only ho109 hn10
                clear s103
                have s111 := s104.only ho109 hn11
                clear s104
                have s112 := s106.only ho109 hn62.symm
                clear s106
                have s113 := s107.only ho109 hn79.symm
                clear s107
                have hbt114 := hbt108.trans (ho109.below hz12)
                clear hbt108
                clear ho109
                go_wp2_with fail
                have hpq : probB ((K : Nat) : Int) fv fb P mtu = (upB (((K : Nat) : Int) - 1) 5 && oneB fv fb && (fv == P.sv) && ansM P && upB mtu 65535 && quoB P) := prob_split _ _ _ _ _
                have hB : probB ((K : Nat) : Int) fv fb P mtu = true := by rw [hpq]; (try simp only [HKB.out, Hhb22.out, HK31.out, Hhb32.out, Hhb39.out, Hhb46.out, Hhb93.out]) <;> simp [HKB.out, Hhb22.out, HK31.out, Hhb32.out, Hhb39.out, Hhb46.out, Hhb93.out, Hhb29.out, Hhb30.out]
                have hq0 : (K : Int) ≠ 0 := (by have := HK.out; have := HMT.out; have := HDhb93.out; have := HN94.out; omega)
                have hP : probP ((K : Nat) : Int) fv fb P mtu = pkOf fv fb P.sv P.sb (⟨N73, N74, N94, quoS P⟩) := by have hs := HN73.out; subst hs; have hs := HN74.out; subst hs; have hs := HN75.out; subst hs; have hs := HN94.out; subst hs; exact prob_at4 hB HK.out.1 Hhb46.out (of_decide_eq_true Hhb93.out)
                refine bodyPost_ret (res_ct rfl isPk s109 (by rfl) (by rfl)) rfl ?_
                exact ⟨Eq.trans (rfl : _ = Ending.returned (.tuple #[.agg (SC 46 (pkV (pkOf fv fb P.sv P.sb (⟨N73, N74, N94, quoS P⟩)) (.slice none 0 0))), .bool true])) (by have hsub := HN73.out; subst hsub; have hsub := HN74.out; subst hsub; have hsub := HN75.out; subst hsub; have hsub := HN94.out; subst hsub; rw [← HRV.out, hB, hP]), hbt114⟩
              · have Hhb93 := Hid.mk hb93
                clear hb93
                have HDhb93 := Hid.mk (of_decide_eq_false Hhb93.out)
                go_wp2_with (refine wl_value rfl (kn_ (c := false) Hhb93 (cmp_eq (m := ((K : Nat) : Int)) (n := 4) rfl rfl rfl)) ?_; refine Hid.out ?_)
                refine Hid.mk ?_
                go_wp2_with (refine wl_value rfl (look_st rfl isAddr s88 rfl) ?_; refine Hid.out ?_)
                refine Hid.mk ?_
                go_wp2_with (refine wl_value rfl (exec_fpk 0 (by decide) rfl rfl) ?_; refine Hid.out ?_)
                refine Hid.mk ?_
                go_wp2_with (refine wl_value rfl (exec_ld rfl rfl (ld_src s89)) ?_; refine Hid.out ?_)
                refine Hid.mk ?_
                go_wp2_with (refine wl_value rfl (look_st rfl isMs s87 rfl) ?_; refine Hid.out ?_)
                refine Hid.mk ?_
                have HC115 : Hid (Calls Tryd.prog 23 #[.agg (SC 17 (adV fv fb)), .agg (SC 17 (adV P.sv P.sb)), .agg (SC 4 (msV (⟨N73, N74, N75, quoS P⟩)))] w87 fun e w' => e = .returned (.agg (SC 46 (pkV (pkOf fv fb P.sv P.sb (⟨N73, N74, N75, quoS P⟩)) (.slice none 0 0)))) ∧ Below w87.heap.size w87 w') := Hid.mk (packetOf_run fv fb P.sv P.sb (⟨N73, N74, N75, quoS P⟩) w87 (Env.kept HE.out hbt92) hfb HP.out.ok.sb (by show N75 < 4294967296; rw [HN75.out]; split <;> decide))
                go_wp2_with (refine wl_cal en_icmp_packetOf HC115 rfl rfl (args3 rfl rfl rfl) ?_; intro w116 hB116; refine Hid.out ?_)
                refine Hid.mk ?_
                clear HC115
                have s117 := s88.kept hB116
                clear s88
                have s118 := s89.kept hB116
                clear s89
                have s119 := s90.kept hB116
                clear s90
                have s120 := s91.kept hB116
                clear s91
                have s121 := s87.kept hB116
                clear s87
                have hbt122 := hbt92.trans (hB116.mono hbt92.size)
                clear hbt92
                clear hB116
                go_wp2_with (refine st_stO (V := pkV (pkOf fv fb P.sv P.sb (⟨N73, N74, N75, quoS P⟩)) (.slice none 0 0)) (g := g9) rfl rfl isPk (pkV_one rfl) s119 rfl rfl ?_; intro w123 s123 ho123; refine Hid.out ?_)
                refine Hid.mk ?_
                clear s119
                have s124 := s117.only ho123 hn10
                clear s117
                have s125 := s118.only ho123 hn11
                clear s118
                have s126 := s120.only ho123 hn62.symm
                clear s120
                have s127 := s121.only ho123 hn79.symm
                clear s121
                have hbt128 := hbt122.trans (ho123.below hz12)
                clear hbt122
                clear ho123
                go_wp2_with fail
                have hpq : probB ((K : Nat) : Int) fv fb P mtu = (upB (((K : Nat) : Int) - 1) 5 && oneB fv fb && (fv == P.sv) && ansM P && upB mtu 65535 && quoB P) := prob_split _ _ _ _ _
                have hB : probB ((K : Nat) : Int) fv fb P mtu = true := by rw [hpq]; (try simp only [HKB.out, Hhb22.out, HK31.out, Hhb32.out, Hhb39.out, Hhb46.out, Hhb93.out]) <;> simp [HKB.out, Hhb22.out, HK31.out, Hhb32.out, Hhb39.out, Hhb46.out, Hhb93.out, Hhb29.out, Hhb30.out]
                have hq0 : (K : Int) ≠ 0 := (by have := HK.out; have := HMT.out; have := HDhb93.out; omega)
                have hP : probP ((K : Nat) : Int) fv fb P mtu = pkOf fv fb P.sv P.sb (⟨N73, N74, N75, quoS P⟩) := by have hs := HN73.out; subst hs; have hs := HN74.out; subst hs; have hs := HN75.out; subst hs; exact prob_ato hB HK.out.1 Hhb46.out (of_decide_eq_false Hhb93.out)
                refine bodyPost_ret (res_ct rfl isPk s123 (by rfl) (by rfl)) rfl ?_
                exact ⟨Eq.trans (rfl : _ = Ending.returned (.tuple #[.agg (SC 46 (pkV (pkOf fv fb P.sv P.sb (⟨N73, N74, N75, quoS P⟩)) (.slice none 0 0))), .bool true])) (by have hsub := HN73.out; subst hsub; have hsub := HN74.out; subst hsub; have hsub := HN75.out; subst hsub; rw [← HRV.out, hB, hP]), hbt128⟩
            · have Hhb46 := Hid.mk hb46
              clear hb46
              have HC129 : Hid (Calls Tryd.prog 27 #[.agg (SC 46 (pkV P vx))] w41 fun e w' => e = .returned (.tuple #[.string (quoS P), .bool false]) ∧ Below w41.heap.size w41 w') := Hid.mk (by have h := quoted_run P vx w41 (ExAt.kept HX.out hbt45) HP.out; rw [Hhb46.out] at h; exact h)
              go_wp2_with (refine wl_cal en_icmp_quoted HC129 rfl rfl (args1 rfl) ?_; intro w130 hB130; refine Hid.out ?_)
              refine Hid.mk ?_
              clear HC129
              have s131 := s42.kept hB130
              clear s42
              have s132 := s43.kept hB130
              clear s43
              have s133 := s44.kept hB130
              clear s44
              have hbt134 := hbt45.trans (hB130.mono hbt45.size)
              clear hbt45
              clear hB130
              go_wp2_with (refine wl_value rfl (exec_pk0 rfl) ?_; refine Hid.out ?_)
              refine Hid.mk ?_
              go_wp2_with (refine st_stO (V := pkV zeroP (.slice none 0 0)) (g := g9) rfl rfl isPk (pkV_one rfl) s133 rfl rfl ?_; intro w135 s135 ho135; refine Hid.out ?_)
              refine Hid.mk ?_
              clear s133
              have s136 := s131.only ho135 hn10
              clear s131
              have s137 := s132.only ho135 hn11
              clear s132
              have hbt138 := hbt134.trans (ho135.below hz12)
              clear hbt134
              clear ho135
              go_wp2_with fail
              have hpq : probB ((K : Nat) : Int) fv fb P mtu = (upB (((K : Nat) : Int) - 1) 5 && oneB fv fb && (fv == P.sv) && ansM P && upB mtu 65535 && quoB P) := prob_split _ _ _ _ _
              have hB : probB ((K : Nat) : Int) fv fb P mtu = false := by rw [hpq]; (try simp only [HKB.out, Hhb22.out, HK31.out, Hhb32.out, Hhb39.out, Hhb46.out]) <;> simp [HKB.out, Hhb22.out, HK31.out, Hhb32.out, Hhb39.out, Hhb46.out, Hhb29.out, Hhb30.out]
              have hP : probP ((K : Nat) : Int) fv fb P mtu = zeroP := by unfold probP; rw [if_neg (by rw [hB]; decide)]
              refine bodyPost_ret (res_ct rfl isPk s135 (by rfl) (by rfl)) rfl ?_
              exact ⟨Eq.trans (rfl : _ = Ending.returned (.tuple #[.agg (SC 46 (pkV zeroP (.slice none 0 0))), .bool false])) (by rw [← HRV.out, hB, hP]), hbt138⟩
          · have Hhb39 := Hid.mk hb39
            clear hb39
            have HC139 : Hid (Calls Tryd.prog 26 #[.int .i64 mtu, .int .i64 65535] w34 fun e w' => e = .returned (.bool false) ∧ Below w34.heap.size w34 w') := Hid.mk (by have h := iUpTo_run mtu 65535 w34; rw [Hhb39.out] at h; exact h)
            go_wp2_with (refine wl_cal en_icmp_upTo HC139 rfl rfl (args2 rfl rfl) ?_; intro w140 hB140; refine Hid.out ?_)
            refine Hid.mk ?_
            clear HC139
            have s141 := s35.kept hB140
            clear s35
            have s142 := s36.kept hB140
            clear s36
            have s143 := s37.kept hB140
            clear s37
            have hbt144 := hbt38.trans (hB140.mono hbt38.size)
            clear hbt38
            clear hB140
            go_wp2_with (refine wl_value rfl (exec_pk0 rfl) ?_; refine Hid.out ?_)
            refine Hid.mk ?_
            go_wp2_with (refine st_stO (V := pkV zeroP (.slice none 0 0)) (g := g9) rfl rfl isPk (pkV_one rfl) s143 rfl rfl ?_; intro w145 s145 ho145; refine Hid.out ?_)
            refine Hid.mk ?_
            clear s143
            have s146 := s141.only ho145 hn10
            clear s141
            have s147 := s142.only ho145 hn11
            clear s142
            have hbt148 := hbt144.trans (ho145.below hz12)
            clear hbt144
            clear ho145
            go_wp2_with fail
            have hpq : probB ((K : Nat) : Int) fv fb P mtu = (upB (((K : Nat) : Int) - 1) 5 && oneB fv fb && (fv == P.sv) && ansM P && upB mtu 65535 && quoB P) := prob_split _ _ _ _ _
            have hB : probB ((K : Nat) : Int) fv fb P mtu = false := by rw [hpq]; (try simp only [HKB.out, Hhb22.out, HK31.out, Hhb32.out, Hhb39.out]) <;> simp [HKB.out, Hhb22.out, HK31.out, Hhb32.out, Hhb39.out, Hhb29.out, Hhb30.out]
            have hP : probP ((K : Nat) : Int) fv fb P mtu = zeroP := by unfold probP; rw [if_neg (by rw [hB]; decide)]
            refine bodyPost_ret (res_ct rfl isPk s145 (by rfl) (by rfl)) rfl ?_
            exact ⟨Eq.trans (rfl : _ = Ending.returned (.tuple #[.agg (SC 46 (pkV zeroP (.slice none 0 0))), .bool false])) (by rw [← HRV.out, hB, hP]), hbt148⟩
        · have Hhb32 := Hid.mk hb32
          clear hb32
          have HC149 : Hid (Calls Tryd.prog 25 #[.agg (SC 46 (pkV P vx))] w24 fun e w' => e = .returned (.bool false) ∧ Below w24.heap.size w24 w') := Hid.mk (by have h := may_run P vx w24 (Env.kept HE.out hbt28); rw [Hhb32.out] at h; exact h)
          go_wp2_with (refine wl_cal en_icmp_mayBeAnswered HC149 rfl rfl (args1 rfl) ?_; intro w150 hB150; refine Hid.out ?_)
          refine Hid.mk ?_
          clear HC149
          have s151 := s25.kept hB150
          clear s25
          have s152 := s26.kept hB150
          clear s26
          have s153 := s27.kept hB150
          clear s27
          have hbt154 := hbt28.trans (hB150.mono hbt28.size)
          clear hbt28
          clear hB150
          go_wp2_with (refine wl_value rfl (exec_pk0 rfl) ?_; refine Hid.out ?_)
          refine Hid.mk ?_
          go_wp2_with (refine st_stO (V := pkV zeroP (.slice none 0 0)) (g := g9) rfl rfl isPk (pkV_one rfl) s153 rfl rfl ?_; intro w155 s155 ho155; refine Hid.out ?_)
          refine Hid.mk ?_
          clear s153
          have s156 := s151.only ho155 hn10
          clear s151
          have s157 := s152.only ho155 hn11
          clear s152
          have hbt158 := hbt154.trans (ho155.below hz12)
          clear hbt154
          clear ho155
          go_wp2_with fail
          have hpq : probB ((K : Nat) : Int) fv fb P mtu = (upB (((K : Nat) : Int) - 1) 5 && oneB fv fb && (fv == P.sv) && ansM P && upB mtu 65535 && quoB P) := prob_split _ _ _ _ _
          have hB : probB ((K : Nat) : Int) fv fb P mtu = false := by rw [hpq]; (try simp only [HKB.out, Hhb22.out, HK31.out, Hhb32.out]) <;> simp [HKB.out, Hhb22.out, HK31.out, Hhb32.out, Hhb29.out, Hhb30.out]
          have hP : probP ((K : Nat) : Int) fv fb P mtu = zeroP := by unfold probP; rw [if_neg (by rw [hB]; decide)]
          refine bodyPost_ret (res_ct rfl isPk s155 (by rfl) (by rfl)) rfl ?_
          exact ⟨Eq.trans (rfl : _ = Ending.returned (.tuple #[.agg (SC 46 (pkV zeroP (.slice none 0 0))), .bool false])) (by rw [← HRV.out, hB, hP]), hbt158⟩
      · have Hhb30 := Hid.mk hb30
        clear hb30
        go_wp2_with (refine wl_value rfl (kn_ (c := false) Hhb30 (exec_ld rfl rfl (ldB (SAt.at s26 0 (by decide))))) ?_; refine Hid.out ?_)
        refine Hid.mk ?_
        have HK159 : Hid ((true == false) = false) := Hid.mk rfl
        go_wp2_with (refine wl_value rfl (kn_n (c := true) HK159 (cmp_neB (m := true) (n := false) rfl rfl rfl)) ?_; refine Hid.out ?_)
        refine Hid.mk ?_
        go_wp2_with (refine wl_value rfl (exec_pk0 rfl) ?_; refine Hid.out ?_)
        refine Hid.mk ?_
        go_wp2_with (refine st_stO (V := pkV zeroP (.slice none 0 0)) (g := g9) rfl rfl isPk (pkV_one rfl) s27 rfl rfl ?_; intro w160 s160 ho160; refine Hid.out ?_)
        refine Hid.mk ?_
        clear s27
        have s161 := s25.only ho160 hn10
        clear s25
        have s162 := s26.only ho160 hn11
        clear s26
        have hbt163 := hbt28.trans (ho160.below hz12)
        clear hbt28
        clear ho160
        go_wp2_with fail
        have hpq : probB ((K : Nat) : Int) fv fb P mtu = (upB (((K : Nat) : Int) - 1) 5 && oneB fv fb && (fv == P.sv) && ansM P && upB mtu 65535 && quoB P) := prob_split _ _ _ _ _
        have hB : probB ((K : Nat) : Int) fv fb P mtu = false := by rw [hpq]; (try simp only [HKB.out, Hhb22.out, HK159.out]) <;> simp [HKB.out, Hhb22.out, HK159.out, Hhb29.out, Hhb30.out]
        have hP : probP ((K : Nat) : Int) fv fb P mtu = zeroP := by unfold probP; rw [if_neg (by rw [hB]; decide)]
        refine bodyPost_ret (res_ct rfl isPk s160 (by rfl) (by rfl)) rfl ?_
        exact ⟨Eq.trans (rfl : _ = Ending.returned (.tuple #[.agg (SC 46 (pkV zeroP (.slice none 0 0))), .bool false])) (by rw [← HRV.out, hB, hP]), hbt163⟩
    · have Hhb29 := Hid.mk hb29
      clear hb29
      go_wp2_with (refine wl_value rfl (kn_ (c := false) Hhb29 (exec_ld rfl rfl (ldB (SAt.at s25 0 (by decide))))) ?_; refine Hid.out ?_)
      refine Hid.mk ?_
      go_wp2_with (refine wl_value rfl (exec_fpk 0 (by decide) rfl rfl) ?_; refine Hid.out ?_)
      refine Hid.mk ?_
      go_wp2_with (refine wl_value rfl (exec_fad0 rfl rfl) ?_; refine Hid.out ?_)
      refine Hid.mk ?_
      rcases Bool.eq_false_or_eq_true (P.sv) with hb164 | hb164
      · have Hhb164 := Hid.mk hb164
        clear hb164
        go_wp2_with (refine wl_value rfl (kn_ (c := true) Hhb164 (exec_ld rfl rfl (ldB (SAt.at s26 0 (by decide))))) ?_; refine Hid.out ?_)
        refine Hid.mk ?_
        have HK165 : Hid ((false == true) = false) := Hid.mk rfl
        go_wp2_with (refine wl_value rfl (kn_n (c := true) HK165 (cmp_neB (m := false) (n := true) rfl rfl rfl)) ?_; refine Hid.out ?_)
        refine Hid.mk ?_
        go_wp2_with (refine wl_value rfl (exec_pk0 rfl) ?_; refine Hid.out ?_)
        refine Hid.mk ?_
        go_wp2_with (refine st_stO (V := pkV zeroP (.slice none 0 0)) (g := g9) rfl rfl isPk (pkV_one rfl) s27 rfl rfl ?_; intro w166 s166 ho166; refine Hid.out ?_)
        refine Hid.mk ?_
        clear s27
        have s167 := s25.only ho166 hn10
        clear s25
        have s168 := s26.only ho166 hn11
        clear s26
        have hbt169 := hbt28.trans (ho166.below hz12)
        clear hbt28
        clear ho166
        go_wp2_with fail
        have hpq : probB ((K : Nat) : Int) fv fb P mtu = (upB (((K : Nat) : Int) - 1) 5 && oneB fv fb && (fv == P.sv) && ansM P && upB mtu 65535 && quoB P) := prob_split _ _ _ _ _
        have hB : probB ((K : Nat) : Int) fv fb P mtu = false := by rw [hpq]; (try simp only [HKB.out, Hhb22.out, HK165.out]) <;> simp [HKB.out, Hhb22.out, HK165.out, Hhb29.out, Hhb164.out]
        have hP : probP ((K : Nat) : Int) fv fb P mtu = zeroP := by unfold probP; rw [if_neg (by rw [hB]; decide)]
        refine bodyPost_ret (res_ct rfl isPk s166 (by rfl) (by rfl)) rfl ?_
        exact ⟨Eq.trans (rfl : _ = Ending.returned (.tuple #[.agg (SC 46 (pkV zeroP (.slice none 0 0))), .bool false])) (by rw [← HRV.out, hB, hP]), hbt169⟩
      · have Hhb164 := Hid.mk hb164
        clear hb164
        go_wp2_with (refine wl_value rfl (kn_ (c := false) Hhb164 (exec_ld rfl rfl (ldB (SAt.at s26 0 (by decide))))) ?_; refine Hid.out ?_)
        refine Hid.mk ?_
        have HK170 : Hid ((false == false) = true) := Hid.mk rfl
        go_wp2_with (refine wl_value rfl (kn_n (c := false) HK170 (cmp_neB (m := false) (n := false) rfl rfl rfl)) ?_; refine Hid.out ?_)
        refine Hid.mk ?_
        go_wp2_with (refine wl_value rfl (look_st rfl isPk s26 rfl) ?_; refine Hid.out ?_)
        refine Hid.mk ?_
        rcases Bool.eq_false_or_eq_true (ansM P) with hb171 | hb171
        · have Hhb171 := Hid.mk hb171
          clear hb171
          have HC172 : Hid (Calls Tryd.prog 25 #[.agg (SC 46 (pkV P vx))] w24 fun e w' => e = .returned (.bool true) ∧ Below w24.heap.size w24 w') := Hid.mk (by have h := may_run P vx w24 (Env.kept HE.out hbt28); rw [Hhb171.out] at h; exact h)
          go_wp2_with (refine wl_cal en_icmp_mayBeAnswered HC172 rfl rfl (args1 rfl) ?_; intro w173 hB173; refine Hid.out ?_)
          refine Hid.mk ?_
          clear HC172
          have s174 := s25.kept hB173
          clear s25
          have s175 := s26.kept hB173
          clear s26
          have s176 := s27.kept hB173
          clear s27
          have hbt177 := hbt28.trans (hB173.mono hbt28.size)
          clear hbt28
          clear hB173
          rcases Bool.eq_false_or_eq_true (upB mtu 65535) with hb178 | hb178
          · have Hhb178 := Hid.mk hb178
            clear hb178
            have HMT := Hid.mk (upB_iff.1 Hhb178.out)
            have HC179 : Hid (Calls Tryd.prog 26 #[.int .i64 mtu, .int .i64 65535] w173 fun e w' => e = .returned (.bool true) ∧ Below w173.heap.size w173 w') := Hid.mk (by have h := iUpTo_run mtu 65535 w173; rw [Hhb178.out] at h; exact h)
            go_wp2_with (refine wl_cal en_icmp_upTo HC179 rfl rfl (args2 rfl rfl) ?_; intro w180 hB180; refine Hid.out ?_)
            refine Hid.mk ?_
            clear HC179
            have s181 := s174.kept hB180
            clear s174
            have s182 := s175.kept hB180
            clear s175
            have s183 := s176.kept hB180
            clear s176
            have hbt184 := hbt177.trans (hB180.mono hbt177.size)
            clear hbt177
            clear hB180
            go_wp2_with (refine wl_value rfl (look_st rfl isPk s182 rfl) ?_; refine Hid.out ?_)
            refine Hid.mk ?_
            rcases Bool.eq_false_or_eq_true (quoB P) with hb185 | hb185
            · have Hhb185 := Hid.mk hb185
              clear hb185
              have HC186 : Hid (Calls Tryd.prog 27 #[.agg (SC 46 (pkV P vx))] w180 fun e w' => e = .returned (.tuple #[.string (quoS P), .bool true]) ∧ Below w180.heap.size w180 w') := Hid.mk (by have h := quoted_run P vx w180 (ExAt.kept HX.out hbt184) HP.out; rw [Hhb185.out] at h; exact h)
              go_wp2_with (refine wl_cal en_icmp_quoted HC186 rfl rfl (args1 rfl) ?_; intro w187 hB187; refine Hid.out ?_)
              refine Hid.mk ?_
              clear HC186
              have s188 := s181.kept hB187
              clear s181
              have s189 := s182.kept hB187
              clear s182
              have s190 := s183.kept hB187
              clear s183
              have hbt191 := hbt184.trans (hB187.mono hbt184.size)
              clear hbt184
              clear hB187
              go_wp2_with (refine wl_value rfl (look_st rfl isAddr s188 rfl) ?_; refine Hid.out ?_)
              refine Hid.mk ?_
              have HC192 : Hid (Calls Tryd.prog 17 #[.agg (SC 17 (adV fv fb))] w187 fun e w' => e = .returned (.agg (SC 28 (verV fv))) ∧ Below w187.heap.size w187 w') := Hid.mk (versionOf_run fv fb w187 (Env.kept HE.out hbt191))
              go_wp2_with (refine wl_cal en_icmp_versionOf HC192 rfl rfl (args1 rfl) ?_; intro w193 hB193; refine Hid.out ?_)
              refine Hid.mk ?_
              clear HC192
              have s194 := s188.kept hB193
              clear s188
              have s195 := s189.kept hB193
              clear s189
              have s196 := s190.kept hB193
              clear s190
              have hbt197 := hbt191.trans (hB193.mono hbt191.size)
              clear hbt191
              clear hB193
              go_wp2_with (refine wl_value rfl (exec_fv7 rfl rfl) ?_; refine Hid.out ?_)
              refine Hid.mk ?_
              go_wp2_with (refine wl_value rfl (exec_ixv (k := K) rfl rfl rfl (by have := HK.out; have := HMT.out; omega)) ?_; refine Hid.out ?_)
              refine Hid.mk ?_
              go_wp2_with (refine wl_alO (V := erV false 0) rfl rfl zeroEr ?_; intro g198 w198 hg198 s198 hB198; refine Hid.out ?_)
              refine Hid.mk ?_
              have hn199 : g1 ≠ g198 := by have := s194.lt; omega
              have hn200 : g4 ≠ g198 := by have := s195.lt; omega
              have hn201 : g9 ≠ g198 := by have := s196.lt; omega
              have hz202 : w.heap.size ≤ g198 := by have := hbt197.size; omega
              have s203 := s194.kept hB198
              clear s194
              have s204 := s195.kept hB198
              clear s195
              have s205 := s196.kept hB198
              clear s196
              have hbt206 := hbt197.trans (hB198.mono hbt197.size)
              clear hbt197
              clear hB198 hg198
              go_wp2_with (refine st_stO (V := erV fv K) (g := g198) rfl rfl isEr (erV_one _ _) s198 rfl rfl ?_; intro w207 s207 ho207; refine Hid.out ?_)
              refine Hid.mk ?_
              clear s198
              have s208 := s203.only ho207 hn199
              clear s203
              have s209 := s204.only ho207 hn200
              clear s204
              have s210 := s205.only ho207 hn201
              clear s205
              have hbt211 := hbt206.trans (ho207.below hz202)
              clear hbt206
              clear ho207
              go_wp2_with (refine wl_value rfl (exec_fer 0 (by decide) rfl rfl) ?_; refine Hid.out ?_)
              refine Hid.mk ?_
              obtain ⟨N212, hN212⟩ : ∃ n : Int, n = if K = 0 then 0 else codT fv (K : Int) := ⟨_, rfl⟩
              have HN212 := Hid.mk hN212
              clear hN212
              go_wp2_with (refine wl_value rfl (exec_ld rfl rfl (ldI (n := N212) (by rw [HN212.out]; exact SAt.at s207 0 (by decide)))) ?_; refine Hid.out ?_)
              refine Hid.mk ?_
              go_wp2_with (refine wl_value rfl (exec_fer 1 (by decide) rfl rfl) ?_; refine Hid.out ?_)
              refine Hid.mk ?_
              obtain ⟨N213, hN213⟩ : ∃ n : Int, n = if K = 0 then 0 else codC fv (K : Int) := ⟨_, rfl⟩
              have HN213 := Hid.mk hN213
              clear hN213
              go_wp2_with (refine wl_value rfl (exec_ld rfl rfl (ldI (n := N213) (by rw [HN213.out]; exact SAt.at s207 1 (by decide)))) ?_; refine Hid.out ?_)
              refine Hid.mk ?_
              go_wp2_with (refine wl_value rfl (exec_fer 2 (by decide) rfl rfl) ?_; refine Hid.out ?_)
              refine Hid.mk ?_
              obtain ⟨N214, hN214⟩ : ∃ n : Nat, n = (if K = 6 ∧ fv = true then 6 else 0) := ⟨_, rfl⟩
              have HN214 := Hid.mk hN214
              clear hN214
              go_wp2_with (refine wl_value rfl (exec_ld rfl rfl (ld32 (n := ((N214 : Nat) : Int)) (by rw [HN214.out]; exact SAt.at s207 2 (by decide)))) ?_; refine Hid.out ?_)
              refine Hid.mk ?_
              go_wp2_with (refine wl_value rfl (exec_bdMs ⟨N212, N213, N214, quoS P⟩ rfl rfl rfl rfl rfl) ?_; refine Hid.out ?_)
              refine Hid.mk ?_
              go_wp2_with (refine wl_alO (V := msV ms0) rfl rfl zeroMs ?_; intro g215 w215 hg215 s215 hB215; refine Hid.out ?_)
              refine Hid.mk ?_
              have hn216 : g1 ≠ g215 := by have := s208.lt; omega
              have hn217 : g4 ≠ g215 := by have := s209.lt; omega
              have hn218 : g9 ≠ g215 := by have := s210.lt; omega
              have hn219 : g198 ≠ g215 := by have := s207.lt; omega
              have hz220 : w.heap.size ≤ g215 := by have := hbt211.size; omega
              have s221 := s208.kept hB215
              clear s208
              have s222 := s209.kept hB215
              clear s209
              have s223 := s210.kept hB215
              clear s210
              have s224 := s207.kept hB215
              clear s207
              have hbt225 := hbt211.trans (hB215.mono hbt211.size)
              clear hbt211
              clear hB215 hg215
              go_wp2_with (refine st_stO (V := msV (⟨N212, N213, N214, quoS P⟩)) (g := g215) rfl rfl isMs (msV_one _) s215 rfl rfl ?_; intro w226 s226 ho226; refine Hid.out ?_)
              refine Hid.mk ?_
              clear s215
              have s227 := s221.only ho226 hn216
              clear s221
              have s228 := s222.only ho226 hn217
              clear s222
              have s229 := s223.only ho226 hn218
              clear s223
              have s230 := s224.only ho226 hn219
              clear s224
              have hbt231 := hbt225.trans (ho226.below hz220)
              clear hbt225
              clear ho226
              rcases Bool.eq_false_or_eq_true (decide (((K : Nat) : Int) = 4)) with hb232 | hb232
              · have Hhb232 := Hid.mk hb232
                clear hb232
                have HDhb232 := Hid.mk (of_decide_eq_true Hhb232.out)
                go_wp2_with (refine wl_value rfl (kn_ (c := true) Hhb232 (cmp_eq (m := ((K : Nat) : Int)) (n := 4) rfl rfl rfl)) ?_; refine Hid.out ?_)
                refine Hid.mk ?_
                obtain ⟨N233, hN233⟩ : ∃ n : Nat, n = mtu.toNat := ⟨_, rfl⟩
                have HN233 := Hid.mk hN233
                clear hN233
                go_wp2_with (refine wl_value rfl (cvN HN233 (exec_cvI32 (m := mtu) rfl rfl (by have := HK.out; have := HMT.out; have := HDhb232.out; have := HN233.out; omega) (by have := HK.out; have := HMT.out; have := HDhb232.out; have := HN233.out; omega))) ?_; refine Hid.out ?_)
                refine Hid.mk ?_
                go_wp2_with (refine wl_value rfl (exec_fms 2 (by decide) rfl rfl) ?_; refine Hid.out ?_)
                refine Hid.mk ?_
                go_wp2_with (refine wl_sF (n := 4) (z := .int .u32 ((N233 : Nat) : Int)) (V' := msV (⟨N212, N213, N233, quoS P⟩)) rfl rfl rfl rfl (by decide) (s32 ((N233 : Nat) : Int)) s226 (up4 ⟨rfl, rfl, rfl, rfl⟩) ?_; intro w234 s234 ho234; refine Hid.out ?_)
                refine Hid.mk ?_
                clear s226
                have s235 := s227.only ho234 hn216
                clear s227
                have s236 := s228.only ho234 hn217
                clear s228
                have s237 := s229.only ho234 hn218
                clear s229
                have s238 := s230.only ho234 hn219
                clear s230
                have hbt239 := hbt231.trans (ho234.below hz220)
                clear hbt231
                clear ho234
                go_wp2_with (refine wl_value rfl (look_st rfl isAddr s235 rfl) ?_; refine Hid.out ?_)
                refine Hid.mk ?_
                go_wp2_with (refine wl_value rfl (exec_fpk 0 (by decide) rfl rfl) ?_; refine Hid.out ?_)
                refine Hid.mk ?_
                go_wp2_with (refine wl_value rfl (exec_ld rfl rfl (ld_src s236)) ?_; refine Hid.out ?_)
                refine Hid.mk ?_
                go_wp2_with (refine wl_value rfl (look_st rfl isMs s234 rfl) ?_; refine Hid.out ?_)
                refine Hid.mk ?_
                have HC240 : Hid (Calls Tryd.prog 23 #[.agg (SC 17 (adV fv fb)), .agg (SC 17 (adV P.sv P.sb)), .agg (SC 4 (msV (⟨N212, N213, N233, quoS P⟩)))] w234 fun e w' => e = .returned (.agg (SC 46 (pkV (pkOf fv fb P.sv P.sb (⟨N212, N213, N233, quoS P⟩)) (.slice none 0 0)))) ∧ Below w234.heap.size w234 w') := Hid.mk (packetOf_run fv fb P.sv P.sb (⟨N212, N213, N233, quoS P⟩) w234 (Env.kept HE.out hbt239) hfb HP.out.ok.sb (show N233 < 4294967296 from (by have := HK.out; have := HMT.out; have := HDhb232.out; have := HN233.out; omega)))
                go_wp2_with (refine wl_cal en_icmp_packetOf HC240 rfl rfl (args3 rfl rfl rfl) ?_; intro w241 hB241; refine Hid.out ?_)
                refine Hid.mk ?_
                clear HC240
                have s242 := s235.kept hB241
                clear s235
                have s243 := s236.kept hB241
                clear s236
                have s244 := s237.kept hB241
                clear s237
                have s245 := s238.kept hB241
                clear s238
                have s246 := s234.kept hB241
                clear s234
                have hbt247 := hbt239.trans (hB241.mono hbt239.size)
                clear hbt239
                clear hB241
                go_wp2_with (refine st_stO (V := pkV (pkOf fv fb P.sv P.sb (⟨N212, N213, N233, quoS P⟩)) (.slice none 0 0)) (g := g9) rfl rfl isPk (pkV_one rfl) s244 rfl rfl ?_; intro w248 s248 ho248; refine Hid.out ?_)
                refine Hid.mk ?_
                clear s244
                have s249 := s242.only ho248 hn10
                clear s242
                have s250 := s243.only ho248 hn11
                clear s243
                have s251 := s245.only ho248 hn201.symm
                clear s245
                have s252 := s246.only ho248 hn218.symm
                clear s246
                have hbt253 := hbt247.trans (ho248.below hz12)
                clear hbt247
                clear ho248
                go_wp2_with fail
                have hpq : probB ((K : Nat) : Int) fv fb P mtu = (upB (((K : Nat) : Int) - 1) 5 && oneB fv fb && (fv == P.sv) && ansM P && upB mtu 65535 && quoB P) := prob_split _ _ _ _ _
                have hB : probB ((K : Nat) : Int) fv fb P mtu = true := by rw [hpq]; (try simp only [HKB.out, Hhb22.out, HK170.out, Hhb171.out, Hhb178.out, Hhb185.out, Hhb232.out]) <;> simp [HKB.out, Hhb22.out, HK170.out, Hhb171.out, Hhb178.out, Hhb185.out, Hhb232.out, Hhb29.out, Hhb164.out]
                have hq0 : (K : Int) ≠ 0 := (by have := HK.out; have := HMT.out; have := HDhb232.out; have := HN233.out; omega)
                have hP : probP ((K : Nat) : Int) fv fb P mtu = pkOf fv fb P.sv P.sb (⟨N212, N213, N233, quoS P⟩) := by have hs := HN212.out; subst hs; have hs := HN213.out; subst hs; have hs := HN214.out; subst hs; have hs := HN233.out; subst hs; exact prob_at4 hB HK.out.1 Hhb185.out (of_decide_eq_true Hhb232.out)
                refine bodyPost_ret (res_ct rfl isPk s248 (by rfl) (by rfl)) rfl ?_
                exact ⟨Eq.trans (rfl : _ = Ending.returned (.tuple #[.agg (SC 46 (pkV (pkOf fv fb P.sv P.sb (⟨N212, N213, N233, quoS P⟩)) (.slice none 0 0))), .bool true])) (by have hsub := HN212.out; subst hsub; have hsub := HN213.out; subst hsub; have hsub := HN214.out; subst hsub; have hsub := HN233.out; subst hsub; rw [← HRV.out, hB, hP]), hbt253⟩
              · have Hhb232 := Hid.mk hb232
                clear hb232
                have HDhb232 := Hid.mk (of_decide_eq_false Hhb232.out)
                go_wp2_with (refine wl_value rfl (kn_ (c := false) Hhb232 (cmp_eq (m := ((K : Nat) : Int)) (n := 4) rfl rfl rfl)) ?_; refine Hid.out ?_)
                refine Hid.mk ?_
                go_wp2_with (refine wl_value rfl (look_st rfl isAddr s227 rfl) ?_; refine Hid.out ?_)
                refine Hid.mk ?_
                go_wp2_with (refine wl_value rfl (exec_fpk 0 (by decide) rfl rfl) ?_; refine Hid.out ?_)
                refine Hid.mk ?_
                go_wp2_with (refine wl_value rfl (exec_ld rfl rfl (ld_src s228)) ?_; refine Hid.out ?_)
                refine Hid.mk ?_
                go_wp2_with (refine wl_value rfl (look_st rfl isMs s226 rfl) ?_; refine Hid.out ?_)
                refine Hid.mk ?_
                have HC254 : Hid (Calls Tryd.prog 23 #[.agg (SC 17 (adV fv fb)), .agg (SC 17 (adV P.sv P.sb)), .agg (SC 4 (msV (⟨N212, N213, N214, quoS P⟩)))] w226 fun e w' => e = .returned (.agg (SC 46 (pkV (pkOf fv fb P.sv P.sb (⟨N212, N213, N214, quoS P⟩)) (.slice none 0 0)))) ∧ Below w226.heap.size w226 w') := Hid.mk (packetOf_run fv fb P.sv P.sb (⟨N212, N213, N214, quoS P⟩) w226 (Env.kept HE.out hbt231) hfb HP.out.ok.sb (by show N214 < 4294967296; rw [HN214.out]; split <;> decide))
                go_wp2_with (refine wl_cal en_icmp_packetOf HC254 rfl rfl (args3 rfl rfl rfl) ?_; intro w255 hB255; refine Hid.out ?_)
                refine Hid.mk ?_
                clear HC254
                have s256 := s227.kept hB255
                clear s227
                have s257 := s228.kept hB255
                clear s228
                have s258 := s229.kept hB255
                clear s229
                have s259 := s230.kept hB255
                clear s230
                have s260 := s226.kept hB255
                clear s226
                have hbt261 := hbt231.trans (hB255.mono hbt231.size)
                clear hbt231
                clear hB255
                go_wp2_with (refine st_stO (V := pkV (pkOf fv fb P.sv P.sb (⟨N212, N213, N214, quoS P⟩)) (.slice none 0 0)) (g := g9) rfl rfl isPk (pkV_one rfl) s258 rfl rfl ?_; intro w262 s262 ho262; refine Hid.out ?_)
                refine Hid.mk ?_
                clear s258
                have s263 := s256.only ho262 hn10
                clear s256
                have s264 := s257.only ho262 hn11
                clear s257
                have s265 := s259.only ho262 hn201.symm
                clear s259
                have s266 := s260.only ho262 hn218.symm
                clear s260
                have hbt267 := hbt261.trans (ho262.below hz12)
                clear hbt261
                clear ho262
                go_wp2_with fail
                have hpq : probB ((K : Nat) : Int) fv fb P mtu = (upB (((K : Nat) : Int) - 1) 5 && oneB fv fb && (fv == P.sv) && ansM P && upB mtu 65535 && quoB P) := prob_split _ _ _ _ _
                have hB : probB ((K : Nat) : Int) fv fb P mtu = true := by rw [hpq]; (try simp only [HKB.out, Hhb22.out, HK170.out, Hhb171.out, Hhb178.out, Hhb185.out, Hhb232.out]) <;> simp [HKB.out, Hhb22.out, HK170.out, Hhb171.out, Hhb178.out, Hhb185.out, Hhb232.out, Hhb29.out, Hhb164.out]
                have hq0 : (K : Int) ≠ 0 := (by have := HK.out; have := HMT.out; have := HDhb232.out; omega)
                have hP : probP ((K : Nat) : Int) fv fb P mtu = pkOf fv fb P.sv P.sb (⟨N212, N213, N214, quoS P⟩) := by have hs := HN212.out; subst hs; have hs := HN213.out; subst hs; have hs := HN214.out; subst hs; exact prob_ato hB HK.out.1 Hhb185.out (of_decide_eq_false Hhb232.out)
                refine bodyPost_ret (res_ct rfl isPk s262 (by rfl) (by rfl)) rfl ?_
                exact ⟨Eq.trans (rfl : _ = Ending.returned (.tuple #[.agg (SC 46 (pkV (pkOf fv fb P.sv P.sb (⟨N212, N213, N214, quoS P⟩)) (.slice none 0 0))), .bool true])) (by have hsub := HN212.out; subst hsub; have hsub := HN213.out; subst hsub; have hsub := HN214.out; subst hsub; rw [← HRV.out, hB, hP]), hbt267⟩
            · have Hhb185 := Hid.mk hb185
              clear hb185
              have HC268 : Hid (Calls Tryd.prog 27 #[.agg (SC 46 (pkV P vx))] w180 fun e w' => e = .returned (.tuple #[.string (quoS P), .bool false]) ∧ Below w180.heap.size w180 w') := Hid.mk (by have h := quoted_run P vx w180 (ExAt.kept HX.out hbt184) HP.out; rw [Hhb185.out] at h; exact h)
              go_wp2_with (refine wl_cal en_icmp_quoted HC268 rfl rfl (args1 rfl) ?_; intro w269 hB269; refine Hid.out ?_)
              refine Hid.mk ?_
              clear HC268
              have s270 := s181.kept hB269
              clear s181
              have s271 := s182.kept hB269
              clear s182
              have s272 := s183.kept hB269
              clear s183
              have hbt273 := hbt184.trans (hB269.mono hbt184.size)
              clear hbt184
              clear hB269
              go_wp2_with (refine wl_value rfl (exec_pk0 rfl) ?_; refine Hid.out ?_)
              refine Hid.mk ?_
              go_wp2_with (refine st_stO (V := pkV zeroP (.slice none 0 0)) (g := g9) rfl rfl isPk (pkV_one rfl) s272 rfl rfl ?_; intro w274 s274 ho274; refine Hid.out ?_)
              refine Hid.mk ?_
              clear s272
              have s275 := s270.only ho274 hn10
              clear s270
              have s276 := s271.only ho274 hn11
              clear s271
              have hbt277 := hbt273.trans (ho274.below hz12)
              clear hbt273
              clear ho274
              go_wp2_with fail
              have hpq : probB ((K : Nat) : Int) fv fb P mtu = (upB (((K : Nat) : Int) - 1) 5 && oneB fv fb && (fv == P.sv) && ansM P && upB mtu 65535 && quoB P) := prob_split _ _ _ _ _
              have hB : probB ((K : Nat) : Int) fv fb P mtu = false := by rw [hpq]; (try simp only [HKB.out, Hhb22.out, HK170.out, Hhb171.out, Hhb178.out, Hhb185.out]) <;> simp [HKB.out, Hhb22.out, HK170.out, Hhb171.out, Hhb178.out, Hhb185.out, Hhb29.out, Hhb164.out]
              have hP : probP ((K : Nat) : Int) fv fb P mtu = zeroP := by unfold probP; rw [if_neg (by rw [hB]; decide)]
              refine bodyPost_ret (res_ct rfl isPk s274 (by rfl) (by rfl)) rfl ?_
              exact ⟨Eq.trans (rfl : _ = Ending.returned (.tuple #[.agg (SC 46 (pkV zeroP (.slice none 0 0))), .bool false])) (by rw [← HRV.out, hB, hP]), hbt277⟩
          · have Hhb178 := Hid.mk hb178
            clear hb178
            have HC278 : Hid (Calls Tryd.prog 26 #[.int .i64 mtu, .int .i64 65535] w173 fun e w' => e = .returned (.bool false) ∧ Below w173.heap.size w173 w') := Hid.mk (by have h := iUpTo_run mtu 65535 w173; rw [Hhb178.out] at h; exact h)
            go_wp2_with (refine wl_cal en_icmp_upTo HC278 rfl rfl (args2 rfl rfl) ?_; intro w279 hB279; refine Hid.out ?_)
            refine Hid.mk ?_
            clear HC278
            have s280 := s174.kept hB279
            clear s174
            have s281 := s175.kept hB279
            clear s175
            have s282 := s176.kept hB279
            clear s176
            have hbt283 := hbt177.trans (hB279.mono hbt177.size)
            clear hbt177
            clear hB279
            go_wp2_with (refine wl_value rfl (exec_pk0 rfl) ?_; refine Hid.out ?_)
            refine Hid.mk ?_
            go_wp2_with (refine st_stO (V := pkV zeroP (.slice none 0 0)) (g := g9) rfl rfl isPk (pkV_one rfl) s282 rfl rfl ?_; intro w284 s284 ho284; refine Hid.out ?_)
            refine Hid.mk ?_
            clear s282
            have s285 := s280.only ho284 hn10
            clear s280
            have s286 := s281.only ho284 hn11
            clear s281
            have hbt287 := hbt283.trans (ho284.below hz12)
            clear hbt283
            clear ho284
            go_wp2_with fail
            have hpq : probB ((K : Nat) : Int) fv fb P mtu = (upB (((K : Nat) : Int) - 1) 5 && oneB fv fb && (fv == P.sv) && ansM P && upB mtu 65535 && quoB P) := prob_split _ _ _ _ _
            have hB : probB ((K : Nat) : Int) fv fb P mtu = false := by rw [hpq]; (try simp only [HKB.out, Hhb22.out, HK170.out, Hhb171.out, Hhb178.out]) <;> simp [HKB.out, Hhb22.out, HK170.out, Hhb171.out, Hhb178.out, Hhb29.out, Hhb164.out]
            have hP : probP ((K : Nat) : Int) fv fb P mtu = zeroP := by unfold probP; rw [if_neg (by rw [hB]; decide)]
            refine bodyPost_ret (res_ct rfl isPk s284 (by rfl) (by rfl)) rfl ?_
            exact ⟨Eq.trans (rfl : _ = Ending.returned (.tuple #[.agg (SC 46 (pkV zeroP (.slice none 0 0))), .bool false])) (by rw [← HRV.out, hB, hP]), hbt287⟩
        · have Hhb171 := Hid.mk hb171
          clear hb171
          have HC288 : Hid (Calls Tryd.prog 25 #[.agg (SC 46 (pkV P vx))] w24 fun e w' => e = .returned (.bool false) ∧ Below w24.heap.size w24 w') := Hid.mk (by have h := may_run P vx w24 (Env.kept HE.out hbt28); rw [Hhb171.out] at h; exact h)
          go_wp2_with (refine wl_cal en_icmp_mayBeAnswered HC288 rfl rfl (args1 rfl) ?_; intro w289 hB289; refine Hid.out ?_)
          refine Hid.mk ?_
          clear HC288
          have s290 := s25.kept hB289
          clear s25
          have s291 := s26.kept hB289
          clear s26
          have s292 := s27.kept hB289
          clear s27
          have hbt293 := hbt28.trans (hB289.mono hbt28.size)
          clear hbt28
          clear hB289
          go_wp2_with (refine wl_value rfl (exec_pk0 rfl) ?_; refine Hid.out ?_)
          refine Hid.mk ?_
          go_wp2_with (refine st_stO (V := pkV zeroP (.slice none 0 0)) (g := g9) rfl rfl isPk (pkV_one rfl) s292 rfl rfl ?_; intro w294 s294 ho294; refine Hid.out ?_)
          refine Hid.mk ?_
          clear s292
          have s295 := s290.only ho294 hn10
          clear s290
          have s296 := s291.only ho294 hn11
          clear s291
          have hbt297 := hbt293.trans (ho294.below hz12)
          clear hbt293
          clear ho294
          go_wp2_with fail
          have hpq : probB ((K : Nat) : Int) fv fb P mtu = (upB (((K : Nat) : Int) - 1) 5 && oneB fv fb && (fv == P.sv) && ansM P && upB mtu 65535 && quoB P) := prob_split _ _ _ _ _
          have hB : probB ((K : Nat) : Int) fv fb P mtu = false := by rw [hpq]; (try simp only [HKB.out, Hhb22.out, HK170.out, Hhb171.out]) <;> simp [HKB.out, Hhb22.out, HK170.out, Hhb171.out, Hhb29.out, Hhb164.out]
          have hP : probP ((K : Nat) : Int) fv fb P mtu = zeroP := by unfold probP; rw [if_neg (by rw [hB]; decide)]
          refine bodyPost_ret (res_ct rfl isPk s294 (by rfl) (by rfl)) rfl ?_
          exact ⟨Eq.trans (rfl : _ = Ending.returned (.tuple #[.agg (SC 46 (pkV zeroP (.slice none 0 0))), .bool false])) (by rw [← HRV.out, hB, hP]), hbt297⟩
  · have Hhb22 := Hid.mk hb22
    clear hb22
    have HC298 : Hid (Calls Tryd.prog 22 #[.agg (SC 17 (adV fv fb))] w17 fun e w' => e = .returned (.bool false) ∧ Below w17.heap.size w17 w') := Hid.mk (by have h := isOne_run fv fb w17; rw [Hhb22.out] at h; exact h)
    go_wp2_with (refine wl_cal en_icmp_isOne HC298 rfl rfl (args1 rfl) ?_; intro w299 hB299; refine Hid.out ?_)
    refine Hid.mk ?_
    clear HC298
    have s300 := s18.kept hB299
    clear s18
    have s301 := s19.kept hB299
    clear s19
    have s302 := s20.kept hB299
    clear s20
    have hbt303 := hbt21.trans (hB299.mono hbt21.size)
    clear hbt21
    clear hB299
    go_wp2_with (refine wl_value rfl (exec_pk0 rfl) ?_; refine Hid.out ?_)
    refine Hid.mk ?_
    go_wp2_with (refine st_stO (V := pkV zeroP (.slice none 0 0)) (g := g9) rfl rfl isPk (pkV_one rfl) s302 rfl rfl ?_; intro w304 s304 ho304; refine Hid.out ?_)
    refine Hid.mk ?_
    clear s302
    have s305 := s300.only ho304 hn10
    clear s300
    have s306 := s301.only ho304 hn11
    clear s301
    have hbt307 := hbt303.trans (ho304.below hz12)
    clear hbt303
    clear ho304
    go_wp2_with fail
    have hpq : probB ((K : Nat) : Int) fv fb P mtu = (upB (((K : Nat) : Int) - 1) 5 && oneB fv fb && (fv == P.sv) && ansM P && upB mtu 65535 && quoB P) := prob_split _ _ _ _ _
    have hB : probB ((K : Nat) : Int) fv fb P mtu = false := by rw [hpq]; simp [HKB.out, Hhb22.out]
    have hP : probP ((K : Nat) : Int) fv fb P mtu = zeroP := by unfold probP; rw [if_neg (by rw [hB]; decide)]
    refine bodyPost_ret (res_ct rfl isPk s304 (by rfl) (by rfl)) rfl ?_
    exact ⟨Eq.trans (rfl : _ = Ending.returned (.tuple #[.agg (SC 46 (pkV zeroP (.slice none 0 0))), .bool false])) (by rw [← HRV.out, hB, hP]), hbt307⟩
set_option linter.unusedSimpArgs false in
set_option maxHeartbeats 4000000 in
theorem Problem_no (k : Int) (hK : upB (k - 1) 5 = false) (fv : Bool) (fb : Nat → Int) (P : Pk) (vx : Value) (mtu : Int) (w : World) (_he : Env w) (_hx : ExAt w vx P.exts) (_hp : PkB P) (_hfb : Byts 16 fb) : Calls Tryd.prog 14 #[.int .i64 k, .agg (SC 17 (adV fv fb)), .agg (SC 46 (pkV P vx)), .int .i64 mtu] w fun e w' => e = .returned (.tuple #[.agg (SC 46 (pkV (probP k fv fb P mtu) (.slice none 0 0))), .bool (probB k fv fb P mtu)]) ∧ Below w.heap.size w w' := by
  generalize hRV : (.tuple #[.agg (SC 46 (pkV (probP k fv fb P mtu) (.slice none 0 0))), .bool (probB k fv fb P mtu)] : Value) = RV
  have HRV := Hid.mk hRV
  clear hRV
  have HKB := Hid.mk hK
  clear hK
  go_enter Tryd.func14, Tryd.ntmps14
  go_wp2_with (refine wl_boxO (V := adV fv fb) rfl rfl isAddr rfl ?_; intro g1 w1 hg1 s1 hB1; refine Hid.out ?_)
  refine Hid.mk ?_
  have hz2 : w.heap.size ≤ g1 := by omega
  have hbt3 := hB1
  clear hB1 hg1
  go_wp2_with (refine wl_boxO (V := pkV P vx) rfl rfl isPk rfl ?_; intro g4 w4 hg4 s4 hB4; refine Hid.out ?_)
  refine Hid.mk ?_
  have hn5 : g1 ≠ g4 := by have := s1.lt; omega
  have hz6 : w.heap.size ≤ g4 := by have := hbt3.size; omega
  have s7 := s1.kept hB4
  clear s1
  have hbt8 := hbt3.trans (hB4.mono hbt3.size)
  clear hbt3
  clear hB4 hg4
  go_wp2_with (refine wl_alO (V := pkV zeroP (.slice none 0 0)) rfl rfl zeroPk ?_; intro g9 w9 hg9 s9 hB9; refine Hid.out ?_)
  refine Hid.mk ?_
  have hn10 : g1 ≠ g9 := by have := s7.lt; omega
  have hn11 : g4 ≠ g9 := by have := s4.lt; omega
  have hz12 : w.heap.size ≤ g9 := by have := hbt8.size; omega
  have s13 := s7.kept hB9
  clear s7
  have s14 := s4.kept hB9
  clear s4
  have hbt15 := hbt8.trans (hB9.mono hbt8.size)
  clear hbt8
  clear hB9 hg9
  have HC16 : Hid (Calls Tryd.prog 24 #[.int .i64 k] w9 fun e w' => e = .returned (.bool false) ∧ Below w9.heap.size w9 w') := Hid.mk (by have h := isKind_run k w9; rw [HKB.out] at h; exact h)
  go_wp2_with (refine wl_cal en_icmp_isKind HC16 rfl rfl (args1 rfl) ?_; intro w17 hB17; refine Hid.out ?_)
  refine Hid.mk ?_
  clear HC16
  have s18 := s13.kept hB17
  clear s13
  have s19 := s14.kept hB17
  clear s14
  have s20 := s9.kept hB17
  clear s9
  have hbt21 := hbt15.trans (hB17.mono hbt15.size)
  clear hbt15
  clear hB17
  go_wp2_with (refine wl_value rfl (exec_pk0 rfl) ?_; refine Hid.out ?_)
  refine Hid.mk ?_
  go_wp2_with (refine st_stO (V := pkV zeroP (.slice none 0 0)) (g := g9) rfl rfl isPk (pkV_one rfl) s20 rfl rfl ?_; intro w22 s22 ho22; refine Hid.out ?_)
  refine Hid.mk ?_
  clear s20
  have s23 := s18.only ho22 hn10
  clear s18
  have s24 := s19.only ho22 hn11
  clear s19
  have hbt25 := hbt21.trans (ho22.below hz12)
  clear hbt21
  clear ho22
  go_wp2_with fail
  have hB : probB k fv fb P mtu = false := by rw [prob_split, HKB.out]; rfl
  have hP : probP k fv fb P mtu = zeroP := by unfold probP; rw [if_neg (by rw [hB]; decide)]
  refine bodyPost_ret (res_ct rfl isPk s22 (by rfl) (by rfl)) rfl ?_
  exact ⟨Eq.trans (rfl : _ = Ending.returned (.tuple #[.agg (SC 46 (pkV zeroP (.slice none 0 0))), .bool false])) (by rw [← HRV.out, hB, hP]), hbt25⟩
theorem Problem_run (k : Int) (fv : Bool) (fb : Nat → Int) (P : Pk) (vx : Value) (mtu : Int) (w : World) (he : Env w) (hx : ExAt w vx P.exts) (hp : PkB P) (hfb : Byts 16 fb) : Calls Tryd.prog 14 #[.int .i64 k, .agg (SC 17 (adV fv fb)), .agg (SC 46 (pkV P vx)), .int .i64 mtu] w fun e w' => e = .returned (.tuple #[.agg (SC 46 (pkV (probP k fv fb P mtu) (.slice none 0 0))), .bool (probB k fv fb P mtu)]) ∧ Below w.heap.size w w' := by
  rcases Bool.eq_false_or_eq_true (upB (k - 1) 5) with h | h
  · have hk := upB_iff.1 h
    obtain ⟨K, rfl⟩ : ∃ K : Nat, k = (K : Int) := ⟨k.toNat, by omega⟩
    exact Problem_kn K (by omega) fv fb P vx mtu w he hx hp hfb
  · exact Problem_no k h fv fb P vx mtu w he hx hp hfb
end Go.Proofs.YtojekoakgpkkdabDoor

