/-
  Own text. The document's side: a packet's message, packets of messages, echoes.
-/
import Derived.Test.YtojekoakgpkkdaaDoorJE10
import Derived.Test.YtojekoakgpkkdaaDoorJE9
namespace Go.Proofs.YtojekoakgpkkdaaDoor
open Go.RowKit Go.Proofs
set_option maxRecDepth 100000
theorem en_aditref12_None (args : Array Value) (w : World) : (callFunc 73 args).run Tryd.prog w = .ok (.enter 73 args) w := by kernel_rfl
theorem en_aditref12_Group (args : Array Value) (w : World) : (callFunc 74 args).run Tryd.prog w = .ok (.enter 74 args) w := by kernel_rfl
theorem en_aditref13_Right (args : Array Value) (w : World) : (callFunc 71 args).run Tryd.prog w = .ok (.enter 71 args) w := by kernel_rfl
theorem en_aditref15_proto (args : Array Value) (w : World) : (callFunc 72 args).run Tryd.prog w = .ok (.enter 72 args) w := by kernel_rfl
theorem en_aditref15_Parse (args : Array Value) (w : World) : (callFunc 12 args).run Tryd.prog w = .ok (.enter 12 args) w := by kernel_rfl
theorem en_aditref15_Build (args : Array Value) (w : World) : (callFunc 10 args).run Tryd.prog w = .ok (.enter 10 args) w := by kernel_rfl
theorem en_aditref15_message (args : Array Value) (w : World) : (callFunc 44 args).run Tryd.prog w = .ok (.enter 44 args) w := by kernel_rfl
theorem en_aditref15_usual (args : Array Value) (w : World) : (callFunc 45 args).run Tryd.prog w = .ok (.enter 45 args) w := by kernel_rfl
theorem en_aditref15_made (args : Array Value) (w : World) : (callFunc 46 args).run Tryd.prog w = .ok (.enter 46 args) w := by kernel_rfl
theorem rgt_off {P : Pk} (h : rgtP P = true) : 0 ≤ P.off := by
  unfold rgtP at h
  simp only [Bool.and_eq_true] at h
  exact (upB_iff.1 h.1.1.2).1
theorem off_eq {P : Pk} (h : rgtP P = true) : decide (P.off = 0) = !decide (0 < P.off) := by
  have := rgt_off h
  by_cases e : P.off = 0
  · rw [decide_eq_true e, decide_eq_false (by omega)]; rfl
  · rw [decide_eq_false e, decide_eq_true (by omega)]; rfl
def usuB (v : Bool) (b : Nat → Int) : Bool := !noneF b && !groupF v b
theorem one_usu (v : Bool) (b : Nat → Int) : oneB v b = (validF v b && usuB v b) := by
  unfold oneB usuB
  rw [Bool.and_assoc]
set_option linter.unusedSimpArgs false in
set_option maxHeartbeats 4000000 in
theorem dproto_true (w : World) : Calls Tryd.prog 72 #[.bool true] w fun e w' => e = .returned (.int .i64 (protoK true)) ∧ Below w.heap.size w w' := by
  generalize hRV : (.int .i64 (protoK true) : Value) = RV
  have HRV := Hid.mk hRV
  clear hRV
  go_enter Tryd.func72, Tryd.ntmps72
  go_wp2_with fail
  go_ret
  exact ⟨Eq.trans (rfl : _ = Ending.returned (.int .i64 58)) (by rw [← HRV.out] <;> rfl), (Below.refl _ _)⟩
set_option linter.unusedSimpArgs false in
set_option maxHeartbeats 4000000 in
theorem dproto_false (w : World) : Calls Tryd.prog 72 #[.bool false] w fun e w' => e = .returned (.int .i64 (protoK false)) ∧ Below w.heap.size w w' := by
  generalize hRV : (.int .i64 (protoK false) : Value) = RV
  have HRV := Hid.mk hRV
  clear hRV
  go_enter Tryd.func72, Tryd.ntmps72
  go_wp2_with fail
  go_ret
  exact ⟨Eq.trans (rfl : _ = Ending.returned (.int .i64 1)) (by rw [← HRV.out] <;> rfl), (Below.refl _ _)⟩
theorem dproto_run (v : Bool) (w : World) : Calls Tryd.prog 72 #[.bool v] w fun e w' => e = .returned (.int .i64 (protoK v)) ∧ Below w.heap.size w w' := by
  cases v
  · exact dproto_false w
  · exact dproto_true w
set_option linter.unusedSimpArgs false in
set_option maxHeartbeats 4000000 in
theorem dusual_run (v : Bool) (b : Nat → Int) (w : World) : Calls Tryd.prog 45 #[.agg (SC 17 (adV v b))] w fun e w' => e = .returned (.bool (usuB v b)) ∧ Below w.heap.size w w' := by
  generalize hRV : (.bool (usuB v b) : Value) = RV
  have HRV := Hid.mk hRV
  clear hRV
  go_enter Tryd.func45, Tryd.ntmps45
  go_wp2_with (refine wl_boxO (V := adV v b) rfl rfl isAddr rfl ?_; intro g1 w1 hg1 s1 hB1; refine Hid.out ?_)
  refine Hid.mk ?_
  have hz2 : w.heap.size ≤ g1 := by omega
  have hbt3 := hB1
  clear hB1 hg1
  go_wp2_with (refine wl_value rfl (look_st rfl isAddr s1 rfl) ?_; refine Hid.out ?_)
  refine Hid.mk ?_
  rcases Bool.eq_false_or_eq_true (noneF b) with hb4 | hb4
  · have Hhb4 := Hid.mk hb4
    clear hb4
    have HC5 : Hid (Calls Tryd.prog 73 #[.agg (SC 17 (adV v b))] w1 fun e w' => e = .returned (.bool true) ∧ Below w1.heap.size w1 w') := Hid.mk (by have h := rNone_run v b w1; rw [Hhb4.out] at h; exact h)
    go_wp2_with (refine wl_cal en_aditref12_None HC5 rfl rfl (args1 rfl) ?_; intro w6 hB6; refine Hid.out ?_)
    refine Hid.mk ?_
    clear HC5
    have s7 := s1.kept hB6
    clear s1
    have hbt8 := hbt3.trans (hB6.mono hbt3.size)
    clear hbt3
    clear hB6
    go_wp2_with (refine wl_value rfl (look_st rfl isAddr s7 rfl) ?_; refine Hid.out ?_)
    refine Hid.mk ?_
    rcases Bool.eq_false_or_eq_true (groupF v b) with hb9 | hb9
    · have Hhb9 := Hid.mk hb9
      clear hb9
      have HC10 : Hid (Calls Tryd.prog 74 #[.agg (SC 17 (adV v b))] w6 fun e w' => e = .returned (.bool true) ∧ Below w6.heap.size w6 w') := Hid.mk (by have h := rGroup_run v b w6; rw [Hhb9.out] at h; exact h)
      go_wp2_with (refine wl_cal en_aditref12_Group HC10 rfl rfl (args1 rfl) ?_; intro w11 hB11; refine Hid.out ?_)
      refine Hid.mk ?_
      clear HC10
      have s12 := s7.kept hB11
      clear s7
      have hbt13 := hbt8.trans (hB11.mono hbt8.size)
      clear hbt8
      clear hB11
      go_wp2_with fail
      have hv : (usuB v b) = false := by simp [usuB, Hhb4.out, Hhb9.out]
      go_ret
      exact ⟨Eq.trans (rfl : _ = Ending.returned (.bool false)) (by rw [← HRV.out, hv]), hbt13⟩
    · have Hhb9 := Hid.mk hb9
      clear hb9
      have HC14 : Hid (Calls Tryd.prog 74 #[.agg (SC 17 (adV v b))] w6 fun e w' => e = .returned (.bool false) ∧ Below w6.heap.size w6 w') := Hid.mk (by have h := rGroup_run v b w6; rw [Hhb9.out] at h; exact h)
      go_wp2_with (refine wl_cal en_aditref12_Group HC14 rfl rfl (args1 rfl) ?_; intro w15 hB15; refine Hid.out ?_)
      refine Hid.mk ?_
      clear HC14
      have s16 := s7.kept hB15
      clear s7
      have hbt17 := hbt8.trans (hB15.mono hbt8.size)
      clear hbt8
      clear hB15
      go_wp2_with fail
      have hv : (usuB v b) = false := by simp [usuB, Hhb4.out, Hhb9.out]
      go_ret
      exact ⟨Eq.trans (rfl : _ = Ending.returned (.bool false)) (by rw [← HRV.out, hv]), hbt17⟩
  · have Hhb4 := Hid.mk hb4
    clear hb4
    have HC18 : Hid (Calls Tryd.prog 73 #[.agg (SC 17 (adV v b))] w1 fun e w' => e = .returned (.bool false) ∧ Below w1.heap.size w1 w') := Hid.mk (by have h := rNone_run v b w1; rw [Hhb4.out] at h; exact h)
    go_wp2_with (refine wl_cal en_aditref12_None HC18 rfl rfl (args1 rfl) ?_; intro w19 hB19; refine Hid.out ?_)
    refine Hid.mk ?_
    clear HC18
    have s20 := s1.kept hB19
    clear s1
    have hbt21 := hbt3.trans (hB19.mono hbt3.size)
    clear hbt3
    clear hB19
    go_wp2_with (refine wl_value rfl (look_st rfl isAddr s20 rfl) ?_; refine Hid.out ?_)
    refine Hid.mk ?_
    rcases Bool.eq_false_or_eq_true (groupF v b) with hb22 | hb22
    · have Hhb22 := Hid.mk hb22
      clear hb22
      have HC23 : Hid (Calls Tryd.prog 74 #[.agg (SC 17 (adV v b))] w19 fun e w' => e = .returned (.bool true) ∧ Below w19.heap.size w19 w') := Hid.mk (by have h := rGroup_run v b w19; rw [Hhb22.out] at h; exact h)
      go_wp2_with (refine wl_cal en_aditref12_Group HC23 rfl rfl (args1 rfl) ?_; intro w24 hB24; refine Hid.out ?_)
      refine Hid.mk ?_
      clear HC23
      have s25 := s20.kept hB24
      clear s20
      have hbt26 := hbt21.trans (hB24.mono hbt21.size)
      clear hbt21
      clear hB24
      go_wp2_with fail
      have hv : (usuB v b) = false := by simp [usuB, Hhb4.out, Hhb22.out]
      go_ret
      exact ⟨Eq.trans (rfl : _ = Ending.returned (.bool false)) (by rw [← HRV.out, hv]), hbt26⟩
    · have Hhb22 := Hid.mk hb22
      clear hb22
      have HC27 : Hid (Calls Tryd.prog 74 #[.agg (SC 17 (adV v b))] w19 fun e w' => e = .returned (.bool false) ∧ Below w19.heap.size w19 w') := Hid.mk (by have h := rGroup_run v b w19; rw [Hhb22.out] at h; exact h)
      go_wp2_with (refine wl_cal en_aditref12_Group HC27 rfl rfl (args1 rfl) ?_; intro w28 hB28; refine Hid.out ?_)
      refine Hid.mk ?_
      clear HC27
      have s29 := s20.kept hB28
      clear s20
      have hbt30 := hbt21.trans (hB28.mono hbt21.size)
      clear hbt21
      clear hB28
      go_wp2_with fail
      have hv : (usuB v b) = true := by simp [usuB, Hhb4.out, Hhb22.out]
      go_ret
      exact ⟨Eq.trans (rfl : _ = Ending.returned (.bool true)) (by rw [← HRV.out, hv]), hbt30⟩
set_option linter.unusedSimpArgs false in
set_option maxHeartbeats 4000000 in
theorem dmsg_run (P : Pk) (vx : Value) (w : World) (hx : ExAt w vx P.exts) (hp : PkB P) : Calls Tryd.prog 44 #[.agg (SC 46 (pkV P vx))] w fun e w' => e = .returned (.tuple #[.agg (SC 4 (msV (msgM P))), .bool (msgB P)]) ∧ Below w.heap.size w w' := by
  generalize hRV : (.tuple #[.agg (SC 4 (msV (msgM P))), .bool (msgB P)] : Value) = RV
  have HRV := Hid.mk hRV
  clear hRV
  have HX := Hid.mk hx
  have HP := Hid.mk hp
  clear hx hp
  go_enter Tryd.func44, Tryd.ntmps44
  go_wp2_with (refine wl_boxO (V := pkV P vx) rfl rfl isPk rfl ?_; intro g1 w1 hg1 s1 hB1; refine Hid.out ?_)
  refine Hid.mk ?_
  have hz2 : w.heap.size ≤ g1 := by omega
  have hbt3 := hB1
  clear hB1 hg1
  go_wp2_with (refine wl_alO (V := msV ms0) rfl rfl zeroMs ?_; intro g4 w4 hg4 s4 hB4; refine Hid.out ?_)
  refine Hid.mk ?_
  have hn5 : g1 ≠ g4 := by have := s1.lt; omega
  have hz6 : w.heap.size ≤ g4 := by have := hbt3.size; omega
  have s7 := s1.kept hB4
  clear s1
  have hbt8 := hbt3.trans (hB4.mono hbt3.size)
  clear hbt3
  clear hB4 hg4
  go_wp2_with (refine wl_value rfl (look_st rfl isPk s7 rfl) ?_; refine Hid.out ?_)
  refine Hid.mk ?_
  rcases Bool.eq_false_or_eq_true (rgtP P) with hb9 | hb9
  · have Hhb9 := Hid.mk hb9
    clear hb9
    have HC10 : Hid (Calls Tryd.prog 71 #[.agg (SC 46 (pkV P vx))] w4 fun e w' => e = .returned (.bool true) ∧ Below w4.heap.size w4 w') := Hid.mk (by have h := rRight_run P vx w4 (ExAt.kept HX.out hbt8) HP.out.ne HP.out.be; rw [Hhb9.out] at h; exact h)
    go_wp2_with (refine wl_cal en_aditref13_Right HC10 rfl rfl (args1 rfl) ?_; intro w11 hB11; refine Hid.out ?_)
    refine Hid.mk ?_
    clear HC10
    have s12 := s7.kept hB11
    clear s7
    have s13 := s4.kept hB11
    clear s4
    have hbt14 := hbt8.trans (hB11.mono hbt8.size)
    clear hbt8
    clear hB11
    rcases Bool.eq_false_or_eq_true (P.more) with hb15 | hb15
    · have Hhb15 := Hid.mk hb15
      clear hb15
      go_upto_region 2 with fail
      refine wp_region3 (Below w11.heap.size w11) w11.heap.size
          ([] : List (Nat × Cont))
          [kv (.bool true), kv (.bool false), kv (.bool false), kv (.pointer (some ⟨g1, 39, none⟩)), kv (.bool true), kv (.bool true), kv (.bool true), kv (undef), kv (undef), kv (undef), kv (.bool true), kv (.bool true), kv (undef), kv (undef), kv (undef), kv (undef), kv (undef), kv (undef), kv (undef), kv (.bool true)]
          [.none, .none, .none, .none, .none, .none, .none, .none, .none, .none, .none, .none, .none, .none, .none, .none, .none, .none, .none, .none]
          [some 9, some 10, some 11, some 12, some 13, some 14, some 15, some 16, some 17, some 18, some 19, some 20, some 21, some 22, some 23, some 24, some 25, some 26, some 27, some 28]
          [(4, .bool true), (1, .pointer (some ⟨g1, 0, none⟩))]
          [[], [.slot 0], [.slot 1], [.slot 2], [.slot 2, .slot 3], [.slot 2, .slot 4], [.slot 5], [.slot 6], [.slot 6], [.slot 6], [.slot 6, .slot 9], [.slot 10], [.slot 11], [.slot 11], [.slot 11], [.slot 11], [.slot 11], [.slot 11], [.slot 11], [.slot 11, .slot 18]]
          [.slot 19] [9, 10, 11, 12, 13, 14, 15, 16, 17, 18, 19, 20, 21, 22, 23, 24, 25, 26, 27, 28]
          rfl (by kernel_rfl) ⟨rfl, rfl, trivial⟩ ((Below.refl _ w11).drew) (Nat.le_refl _) trivial trivial (below_GcW (Nat.le_refl _))
          ⟨
          (fun QQ aa ww own hS hBg fr kn => .inl ⟨trivial, fun K hK => wp_value (exec_move rfl fr.1) (hK _ _ ⟨Touch.refl _ _, rfl⟩)⟩),
          (fun QQ aa ww own hS hBg fr kn => .inl ⟨trivial, fun K hK => wp_value (exec_notB rfl kn.1) (hK _ _ ⟨Touch.refl _ _, rfl⟩)⟩),
          (fun QQ aa ww own hS hBg fr kn => .inl ⟨trivial, fun K hK => wp_value (exec_move rfl kn.1) (hK _ _ ⟨Touch.refl _ _, rfl⟩)⟩),
          (fun QQ aa ww own hS hBg fr kn => .inl ⟨kn.1, fun K hK => wp_value (exec_fpk 7 (by decide) rfl fr.2.1) (hK _ _ ⟨Touch.refl _ _, rfl⟩)⟩),
          (fun QQ aa ww own hS hBg fr kn => .inl ⟨kn.1, fun K hK => wp_value (kn_ (c := true) Hhb15 (exec_ld rfl kn.2.1 (ldPb (pk_more (SAt.kept s12 hS))))) (hK _ _ ⟨Touch.refl _ _, rfl⟩)⟩),
          (fun QQ aa ww own hS hBg fr kn => .inl ⟨trivial, fun K hK => wp_value (exec_pickF (v := .bool true) rfl kn.1 kn.2.1) (hK _ _ ⟨Touch.refl _ _, rfl⟩)⟩),
          (fun QQ aa ww own hS hBg fr kn => .inl ⟨trivial, fun K hK => wp_value (exec_move rfl kn.1) (hK _ _ ⟨Touch.refl _ _, rfl⟩)⟩),
          (fun QQ aa ww own hS hBg fr kn => .inr ⟨.inl kn.1, Touch.refl _ _, rfl⟩),
          (fun QQ aa ww own hS hBg fr kn => .inr ⟨.inl kn.1, Touch.refl _ _, rfl⟩),
          (fun QQ aa ww own hS hBg fr kn => .inr ⟨.inl kn.1, Touch.refl _ _, rfl⟩),
          (fun QQ aa ww own hS hBg fr kn => .inl ⟨trivial, fun K hK => wp_value (exec_pick (v := .bool true) rfl kn.1 rfl) (hK _ _ ⟨Touch.refl _ _, rfl⟩)⟩),
          (fun QQ aa ww own hS hBg fr kn => .inl ⟨trivial, fun K hK => wp_value (exec_move rfl kn.1) (hK _ _ ⟨Touch.refl _ _, rfl⟩)⟩),
          (fun QQ aa ww own hS hBg fr kn => .inr ⟨.inl kn.1, Touch.refl _ _, rfl⟩),
          (fun QQ aa ww own hS hBg fr kn => .inr ⟨.inl kn.1, Touch.refl _ _, rfl⟩),
          (fun QQ aa ww own hS hBg fr kn => .inr ⟨.inl kn.1, Touch.refl _ _, rfl⟩),
          (fun QQ aa ww own hS hBg fr kn => .inr ⟨.inl kn.1, Touch.refl _ _, rfl⟩),
          (fun QQ aa ww own hS hBg fr kn => .inr ⟨.inl kn.1, Touch.refl _ _, rfl⟩),
          (fun QQ aa ww own hS hBg fr kn => .inr ⟨.inl kn.1, Touch.refl _ _, rfl⟩),
          (fun QQ aa ww own hS hBg fr kn => .inr ⟨.inl kn.1, Touch.refl _ _, rfl⟩),
          (fun QQ aa ww own hS hBg fr kn => .inl ⟨trivial, fun K hK => wp_value (exec_pick (v := .bool true) rfl kn.1 rfl) (hK _ _ ⟨Touch.refl _ _, rfl⟩)⟩),
          trivial⟩ ?_
      intro vs own w16 hB16 hsz kn inj
      have e28 : vs 28 = .bool true := kn.1
      clear kn inj hsz
      simp only [putAll, Act.put, List.setIfInBounds_toArray, List.set_cons_zero, List.set_cons_succ, e28]
      clear e28
      have s17 := s12.kept hB16
      clear s12
      have s18 := s13.kept hB16
      clear s13
      have hbt19 := hbt14.trans (hB16.mono hbt14.size)
      clear hbt14
      clear hB16
      go_wp2_with (refine wl_value rfl (exec_bdMs0 rfl) ?_; refine Hid.out ?_)
      refine Hid.mk ?_
      go_wp2_with (refine st_stO (V := msV ms0) (g := g4) rfl rfl isMs (msV_one _) s18 rfl rfl ?_; intro w20 s20 ho20; refine Hid.out ?_)
      refine Hid.mk ?_
      clear s18
      have s21 := s17.only ho20 hn5
      clear s17
      have hbt22 := hbt19.trans (ho20.below hz6)
      clear hbt19
      clear ho20
      go_wp2_with fail
      have hC : msgC P = false := by unfold msgC; rw [off_eq Hhb9.out]; (try simp only [Hhb9.out]) <;> simp [Hhb9.out, Hhb15.out]
      have hB : msgB P = false := by unfold msgB; rw [hC]; rfl
      have hM : msgM P = ms0 := by unfold msgM; rw [if_neg (by rw [hC]; decide)]
      refine bodyPost_ret (res_ct rfl isMs s20 (by rfl) (by rfl)) rfl ?_
      exact ⟨Eq.trans (rfl : _ = Ending.returned (.tuple #[.agg (SC 4 (msV ms0)), .bool false])) (by rw [← HRV.out, hB, hM]), hbt22⟩
    · have Hhb15 := Hid.mk hb15
      clear hb15
      rcases Bool.eq_false_or_eq_true (decide (0 < P.off)) with hb23 | hb23
      · have Hhb23 := Hid.mk hb23
        clear hb23
        have HDhb23 := Hid.mk (of_decide_eq_true Hhb23.out)
        go_upto_region 2 with fail
        refine wp_region3 (Below w11.heap.size w11) w11.heap.size
            ([] : List (Nat × Cont))
            [kv (.bool true), kv (.bool false), kv (.bool false), kv (.pointer (some ⟨g1, 39, none⟩)), kv (.bool false), kv (.bool false), kv (.bool false), kv (.pointer (some ⟨g1, 38, none⟩)), kv (.int .i64 P.off), kv (.bool true), kv (.bool true), kv (.bool true), kv (undef), kv (undef), kv (undef), kv (undef), kv (undef), kv (undef), kv (undef), kv (.bool true)]
            [.none, .none, .none, .none, .none, .none, .none, .none, .none, .none, .none, .none, .none, .none, .none, .none, .none, .none, .none, .none]
            [some 9, some 10, some 11, some 12, some 13, some 14, some 15, some 16, some 17, some 18, some 19, some 20, some 21, some 22, some 23, some 24, some 25, some 26, some 27, some 28]
            [(4, .bool true), (1, .pointer (some ⟨g1, 0, none⟩))]
            [[], [.slot 0], [.slot 1], [.slot 2], [.slot 2, .slot 3], [.slot 2, .slot 4], [.slot 5], [.slot 6], [.slot 6, .slot 7], [.slot 6, .slot 8], [.slot 6, .slot 9], [.slot 10], [.slot 11], [.slot 11], [.slot 11], [.slot 11], [.slot 11], [.slot 11], [.slot 11], [.slot 11, .slot 18]]
            [.slot 19] [9, 10, 11, 12, 13, 14, 15, 16, 17, 18, 19, 20, 21, 22, 23, 24, 25, 26, 27, 28]
            rfl (by kernel_rfl) ⟨rfl, rfl, trivial⟩ ((Below.refl _ w11).drew) (Nat.le_refl _) trivial trivial (below_GcW (Nat.le_refl _))
            ⟨
            (fun QQ aa ww own hS hBg fr kn => .inl ⟨trivial, fun K hK => wp_value (exec_move rfl fr.1) (hK _ _ ⟨Touch.refl _ _, rfl⟩)⟩),
            (fun QQ aa ww own hS hBg fr kn => .inl ⟨trivial, fun K hK => wp_value (exec_notB rfl kn.1) (hK _ _ ⟨Touch.refl _ _, rfl⟩)⟩),
            (fun QQ aa ww own hS hBg fr kn => .inl ⟨trivial, fun K hK => wp_value (exec_move rfl kn.1) (hK _ _ ⟨Touch.refl _ _, rfl⟩)⟩),
            (fun QQ aa ww own hS hBg fr kn => .inl ⟨kn.1, fun K hK => wp_value (exec_fpk 7 (by decide) rfl fr.2.1) (hK _ _ ⟨Touch.refl _ _, rfl⟩)⟩),
            (fun QQ aa ww own hS hBg fr kn => .inl ⟨kn.1, fun K hK => wp_value (kn_ (c := false) Hhb15 (exec_ld rfl kn.2.1 (ldPb (pk_more (SAt.kept s12 hS))))) (hK _ _ ⟨Touch.refl _ _, rfl⟩)⟩),
            (fun QQ aa ww own hS hBg fr kn => .inl ⟨trivial, fun K hK => wp_value (exec_pickF (v := .bool false) rfl kn.1 kn.2.1) (hK _ _ ⟨Touch.refl _ _, rfl⟩)⟩),
            (fun QQ aa ww own hS hBg fr kn => .inl ⟨trivial, fun K hK => wp_value (exec_move rfl kn.1) (hK _ _ ⟨Touch.refl _ _, rfl⟩)⟩),
            (fun QQ aa ww own hS hBg fr kn => .inl ⟨kn.1, fun K hK => wp_value (exec_fpk 6 (by decide) rfl fr.2.1) (hK _ _ ⟨Touch.refl _ _, rfl⟩)⟩),
            (fun QQ aa ww own hS hBg fr kn => .inl ⟨kn.1, fun K hK => wp_value (exec_ld rfl kn.2.1 (ldP (pk_off (SAt.kept s12 hS)))) (hK _ _ ⟨Touch.refl _ _, rfl⟩)⟩),
            (fun QQ aa ww own hS hBg fr kn => .inl ⟨kn.1, fun K hK => wp_value (kn_ (c := true) Hhb23 (cmp_gt (m := P.off) (n := 0) rfl kn.2.1 rfl)) (hK _ _ ⟨Touch.refl _ _, rfl⟩)⟩),
            (fun QQ aa ww own hS hBg fr kn => .inl ⟨trivial, fun K hK => wp_value (exec_pickF (v := .bool true) rfl kn.1 kn.2.1) (hK _ _ ⟨Touch.refl _ _, rfl⟩)⟩),
            (fun QQ aa ww own hS hBg fr kn => .inl ⟨trivial, fun K hK => wp_value (exec_move rfl kn.1) (hK _ _ ⟨Touch.refl _ _, rfl⟩)⟩),
            (fun QQ aa ww own hS hBg fr kn => .inr ⟨.inl kn.1, Touch.refl _ _, rfl⟩),
            (fun QQ aa ww own hS hBg fr kn => .inr ⟨.inl kn.1, Touch.refl _ _, rfl⟩),
            (fun QQ aa ww own hS hBg fr kn => .inr ⟨.inl kn.1, Touch.refl _ _, rfl⟩),
            (fun QQ aa ww own hS hBg fr kn => .inr ⟨.inl kn.1, Touch.refl _ _, rfl⟩),
            (fun QQ aa ww own hS hBg fr kn => .inr ⟨.inl kn.1, Touch.refl _ _, rfl⟩),
            (fun QQ aa ww own hS hBg fr kn => .inr ⟨.inl kn.1, Touch.refl _ _, rfl⟩),
            (fun QQ aa ww own hS hBg fr kn => .inr ⟨.inl kn.1, Touch.refl _ _, rfl⟩),
            (fun QQ aa ww own hS hBg fr kn => .inl ⟨trivial, fun K hK => wp_value (exec_pick (v := .bool true) rfl kn.1 rfl) (hK _ _ ⟨Touch.refl _ _, rfl⟩)⟩),
            trivial⟩ ?_
        intro vs own w24 hB24 hsz kn inj
        have e28 : vs 28 = .bool true := kn.1
        clear kn inj hsz
        simp only [putAll, Act.put, List.setIfInBounds_toArray, List.set_cons_zero, List.set_cons_succ, e28]
        clear e28
        have s25 := s12.kept hB24
        clear s12
        have s26 := s13.kept hB24
        clear s13
        have hbt27 := hbt14.trans (hB24.mono hbt14.size)
        clear hbt14
        clear hB24
        go_wp2_with (refine wl_value rfl (exec_bdMs0 rfl) ?_; refine Hid.out ?_)
        refine Hid.mk ?_
        go_wp2_with (refine st_stO (V := msV ms0) (g := g4) rfl rfl isMs (msV_one _) s26 rfl rfl ?_; intro w28 s28 ho28; refine Hid.out ?_)
        refine Hid.mk ?_
        clear s26
        have s29 := s25.only ho28 hn5
        clear s25
        have hbt30 := hbt27.trans (ho28.below hz6)
        clear hbt27
        clear ho28
        go_wp2_with fail
        have hC : msgC P = false := by unfold msgC; rw [off_eq Hhb9.out]; (try simp only [Hhb9.out, Hhb23.out]) <;> simp [Hhb9.out, Hhb23.out, Hhb15.out]
        have hB : msgB P = false := by unfold msgB; rw [hC]; rfl
        have hM : msgM P = ms0 := by unfold msgM; rw [if_neg (by rw [hC]; decide)]
        refine bodyPost_ret (res_ct rfl isMs s28 (by rfl) (by rfl)) rfl ?_
        exact ⟨Eq.trans (rfl : _ = Ending.returned (.tuple #[.agg (SC 4 (msV ms0)), .bool false])) (by rw [← HRV.out, hB, hM]), hbt30⟩
      · have Hhb23 := Hid.mk hb23
        clear hb23
        have HDhb23 := Hid.mk (of_decide_eq_false Hhb23.out)
        rcases Bool.eq_false_or_eq_true (P.sv) with hb31 | hb31
        · have Hhb31 := Hid.mk hb31
          clear hb31
          rcases Bool.eq_false_or_eq_true (decide (P.proto = protoK true)) with hb32 | hb32
          · have Hhb32 := Hid.mk hb32
            clear hb32
            have HDhb32 := Hid.mk (of_decide_eq_true Hhb32.out)
            go_upto_region 2 with fail
            refine wp_region3 (Below w11.heap.size w11) w11.heap.size
                ([] : List (Nat × Cont))
                [kv (.bool true), kv (.bool false), kv (.bool false), kv (.pointer (some ⟨g1, 39, none⟩)), kv (.bool false), kv (.bool false), kv (.bool false), kv (.pointer (some ⟨g1, 38, none⟩)), kv (.int .i64 P.off), kv (.bool false), kv (.bool false), kv (.bool false), kv (.pointer (some ⟨g1, 34, none⟩)), kv (.int .i64 P.proto), kv (.pointer (some ⟨g1, 0, none⟩)), kv (.pointer (some ⟨g1, 0, none⟩)), kv (.bool true), kv (.int .i64 (protoK true)), kv (.bool false), kv (.bool false)]
                [.none, .none, .none, .none, .none, .none, .none, .none, .none, .none, .none, .none, .none, .none, .none, .none, .none, .none, .none, .none]
                [some 9, some 10, some 11, some 12, some 13, some 14, some 15, some 16, some 17, some 18, some 19, some 20, some 21, some 22, some 23, some 24, some 25, some 26, some 27, some 28]
                [(4, .bool true), (1, .pointer (some ⟨g1, 0, none⟩))]
                [[], [.slot 0], [.slot 1], [.slot 2], [.slot 2, .slot 3], [.slot 2, .slot 4], [.slot 5], [.slot 6], [.slot 6, .slot 7], [.slot 6, .slot 8], [.slot 6, .slot 9], [.slot 10], [.slot 11], [.slot 11, .slot 12], [.slot 11], [.slot 11, .slot 14], [.slot 11, .slot 15], [.slot 11, .slot 16], [.slot 11, .slot 13, .slot 17], [.slot 11, .slot 18]]
                [.slot 19] [9, 10, 11, 12, 13, 14, 15, 16, 17, 18, 19, 20, 21, 22, 23, 24, 25, 26, 27, 28]
                rfl (by kernel_rfl) ⟨rfl, rfl, trivial⟩ ((Below.refl _ w11).drew) (Nat.le_refl _) trivial trivial (below_GcW (Nat.le_refl _))
                ⟨
                (fun QQ aa ww own hS hBg fr kn => .inl ⟨trivial, fun K hK => wp_value (exec_move rfl fr.1) (hK _ _ ⟨Touch.refl _ _, rfl⟩)⟩),
                (fun QQ aa ww own hS hBg fr kn => .inl ⟨trivial, fun K hK => wp_value (exec_notB rfl kn.1) (hK _ _ ⟨Touch.refl _ _, rfl⟩)⟩),
                (fun QQ aa ww own hS hBg fr kn => .inl ⟨trivial, fun K hK => wp_value (exec_move rfl kn.1) (hK _ _ ⟨Touch.refl _ _, rfl⟩)⟩),
                (fun QQ aa ww own hS hBg fr kn => .inl ⟨kn.1, fun K hK => wp_value (exec_fpk 7 (by decide) rfl fr.2.1) (hK _ _ ⟨Touch.refl _ _, rfl⟩)⟩),
                (fun QQ aa ww own hS hBg fr kn => .inl ⟨kn.1, fun K hK => wp_value (kn_ (c := false) Hhb15 (exec_ld rfl kn.2.1 (ldPb (pk_more (SAt.kept s12 hS))))) (hK _ _ ⟨Touch.refl _ _, rfl⟩)⟩),
                (fun QQ aa ww own hS hBg fr kn => .inl ⟨trivial, fun K hK => wp_value (exec_pickF (v := .bool false) rfl kn.1 kn.2.1) (hK _ _ ⟨Touch.refl _ _, rfl⟩)⟩),
                (fun QQ aa ww own hS hBg fr kn => .inl ⟨trivial, fun K hK => wp_value (exec_move rfl kn.1) (hK _ _ ⟨Touch.refl _ _, rfl⟩)⟩),
                (fun QQ aa ww own hS hBg fr kn => .inl ⟨kn.1, fun K hK => wp_value (exec_fpk 6 (by decide) rfl fr.2.1) (hK _ _ ⟨Touch.refl _ _, rfl⟩)⟩),
                (fun QQ aa ww own hS hBg fr kn => .inl ⟨kn.1, fun K hK => wp_value (exec_ld rfl kn.2.1 (ldP (pk_off (SAt.kept s12 hS)))) (hK _ _ ⟨Touch.refl _ _, rfl⟩)⟩),
                (fun QQ aa ww own hS hBg fr kn => .inl ⟨kn.1, fun K hK => wp_value (kn_ (c := false) Hhb23 (cmp_gt (m := P.off) (n := 0) rfl kn.2.1 rfl)) (hK _ _ ⟨Touch.refl _ _, rfl⟩)⟩),
                (fun QQ aa ww own hS hBg fr kn => .inl ⟨trivial, fun K hK => wp_value (exec_pickF (v := .bool false) rfl kn.1 kn.2.1) (hK _ _ ⟨Touch.refl _ _, rfl⟩)⟩),
                (fun QQ aa ww own hS hBg fr kn => .inl ⟨trivial, fun K hK => wp_value (exec_move rfl kn.1) (hK _ _ ⟨Touch.refl _ _, rfl⟩)⟩),
                (fun QQ aa ww own hS hBg fr kn => .inl ⟨kn.1, fun K hK => wp_value (exec_fpk 2 (by decide) rfl fr.2.1) (hK _ _ ⟨Touch.refl _ _, rfl⟩)⟩),
                (fun QQ aa ww own hS hBg fr kn => .inl ⟨kn.1, fun K hK => wp_value (exec_ld rfl kn.2.1 (ldP (pk_proto (SAt.kept s12 hS)))) (hK _ _ ⟨Touch.refl _ _, rfl⟩)⟩),
                (fun QQ aa ww own hS hBg fr kn => .inl ⟨kn.1, fun K hK => wp_value (exec_fpk 0 (by decide) rfl fr.2.1) (hK _ _ ⟨Touch.refl _ _, rfl⟩)⟩),
                (fun QQ aa ww own hS hBg fr kn => .inl ⟨kn.1, fun K hK => wp_value (exec_fad0 rfl kn.2.1) (hK _ _ ⟨Touch.refl _ _, rfl⟩)⟩),
                (fun QQ aa ww own hS hBg fr kn => .inl ⟨kn.1, fun K hK => wp_value (kn_ (c := true) Hhb31 (exec_ld rfl kn.2.1 (ldB (SAt.at (SAt.kept s12 hS) 0 (by decide))))) (hK _ _ ⟨Touch.refl _ _, rfl⟩)⟩),
                (fun QQ aa ww own hS hBg fr kn => .inl ⟨kn.1, fun K hK => stepc en_aditref15_proto rfl (args1 kn.2.1) (dproto_run true ww) (fun w' hb => hK _ _ ⟨touch_below hb, rfl⟩)⟩),
                (fun QQ aa ww own hS hBg fr kn => .inl ⟨kn.1, fun K hK => wp_value (kn_n (c := false) Hhb32 (cmp_ne (m := P.proto) (n := protoK true) rfl kn.2.1 kn.2.2.1)) (hK _ _ ⟨Touch.refl _ _, rfl⟩)⟩),
                (fun QQ aa ww own hS hBg fr kn => .inl ⟨trivial, fun K hK => wp_value (exec_pickF (v := .bool false) rfl kn.1 kn.2.1) (hK _ _ ⟨Touch.refl _ _, rfl⟩)⟩),
                trivial⟩ ?_
            intro vs own w33 hB33 hsz kn inj
            have e28 : vs 28 = .bool false := kn.1
            clear kn inj hsz
            simp only [putAll, Act.put, List.setIfInBounds_toArray, List.set_cons_zero, List.set_cons_succ, e28]
            clear e28
            have s34 := s12.kept hB33
            clear s12
            have s35 := s13.kept hB33
            clear s13
            have hbt36 := hbt14.trans (hB33.mono hbt14.size)
            clear hbt14
            clear hB33
            go_wp2_with (refine wl_value rfl (exec_fpk 0 (by decide) rfl rfl) ?_; refine Hid.out ?_)
            refine Hid.mk ?_
            go_wp2_with (refine wl_value rfl (exec_ld rfl rfl (ld_src s34)) ?_; refine Hid.out ?_)
            refine Hid.mk ?_
            go_wp2_with (refine wl_value rfl (exec_fpk 1 (by decide) rfl rfl) ?_; refine Hid.out ?_)
            refine Hid.mk ?_
            go_wp2_with (refine wl_value rfl (exec_ld rfl rfl (ld_dst s34)) ?_; refine Hid.out ?_)
            refine Hid.mk ?_
            go_wp2_with (refine wl_value rfl (exec_fpk 13 (by decide) rfl rfl) ?_; refine Hid.out ?_)
            refine Hid.mk ?_
            go_wp2_with (refine wl_value rfl (exec_ld rfl rfl (ldPs (pk_pay s34))) ?_; refine Hid.out ?_)
            refine Hid.mk ?_
            have HC37 : Hid (Calls Tryd.prog 12 #[.agg (SC 17 (adV P.sv P.sb)), .agg (SC 17 (adV P.dv P.db)), .string P.pay] w33 fun e w' => e = .returned (.tuple #[.agg (SC 4 (msV (mRdM P.sv P.sb P.dv P.db P.pay))), .int .i64 (mRdE P.sv P.sb P.dv P.db P.pay)]) ∧ Below w33.heap.size w33 w') := Hid.mk (dParse_run P.sv P.sb P.dv P.db P.pay w33 HP.out.ok.sb HP.out.ok.db (by have := HP.out.bp; omega))
            go_wp2_with (refine wl_cal en_aditref15_Parse HC37 rfl rfl (args3 rfl rfl rfl) ?_; intro w38 hB38; refine Hid.out ?_)
            refine Hid.mk ?_
            clear HC37
            have s39 := s34.kept hB38
            clear s34
            have s40 := s35.kept hB38
            clear s35
            have hbt41 := hbt36.trans (hB38.mono hbt36.size)
            clear hbt36
            clear hB38
            go_wp2_with (refine wl_alO (V := msV ms0) rfl rfl zeroMs ?_; intro g42 w42 hg42 s42 hB42; refine Hid.out ?_)
            refine Hid.mk ?_
            have hn43 : g1 ≠ g42 := by have := s39.lt; omega
            have hn44 : g4 ≠ g42 := by have := s40.lt; omega
            have hz45 : w.heap.size ≤ g42 := by have := hbt41.size; omega
            have s46 := s39.kept hB42
            clear s39
            have s47 := s40.kept hB42
            clear s40
            have hbt48 := hbt41.trans (hB42.mono hbt41.size)
            clear hbt41
            clear hB42 hg42
            go_wp2_with (refine st_stO (V := msV (mRdM P.sv P.sb P.dv P.db P.pay)) (g := g42) rfl rfl isMs (msV_one _) s42 rfl rfl ?_; intro w49 s49 ho49; refine Hid.out ?_)
            refine Hid.mk ?_
            clear s42
            have s50 := s46.only ho49 hn43
            clear s46
            have s51 := s47.only ho49 hn44
            clear s47
            have hbt52 := hbt48.trans (ho49.below hz45)
            clear hbt48
            clear ho49
            go_wp2_with (refine wl_value rfl (look_st rfl isMs s49 rfl) ?_; refine Hid.out ?_)
            refine Hid.mk ?_
            rcases Bool.eq_false_or_eq_true (decide (mRdE P.sv P.sb P.dv P.db P.pay = 0)) with hb53 | hb53
            · have Hhb53 := Hid.mk hb53
              clear hb53
              have HDhb53 := Hid.mk (of_decide_eq_true Hhb53.out)
              go_wp2_with (refine wl_value rfl (kn_ (c := true) Hhb53 (cmp_eqE (m := mRdE P.sv P.sb P.dv P.db P.pay) (n := 0) rfl rfl rfl)) ?_; refine Hid.out ?_)
              refine Hid.mk ?_
              go_wp2_with (refine st_stO (V := msV (mRdM P.sv P.sb P.dv P.db P.pay)) (g := g4) rfl rfl isMs (msV_one _) s51 rfl rfl ?_; intro w54 s54 ho54; refine Hid.out ?_)
              refine Hid.mk ?_
              clear s51
              have s55 := s50.only ho54 hn5
              clear s50
              have s56 := s49.only ho54 hn44.symm
              clear s49
              have hbt57 := hbt52.trans (ho54.below hz6)
              clear hbt52
              clear ho54
              go_wp2_with fail
              have hC : msgC P = true := by unfold msgC; rw [off_eq Hhb9.out]; (try simp only [Hhb9.out, Hhb23.out, Hhb32.out, Hhb53.out]) <;> simp [Hhb9.out, Hhb23.out, Hhb32.out, Hhb53.out, Hhb15.out, Hhb31.out]
              have hB : msgB P = true := by unfold msgB msgE; rw [hC, Hhb53.out]; rfl
              have hM : msgM P = mRdM P.sv P.sb P.dv P.db P.pay := by unfold msgM; rw [if_pos hC]
              refine bodyPost_ret (res_ct rfl isMs s54 (by rfl) (by rfl)) rfl ?_
              exact ⟨Eq.trans (rfl : _ = Ending.returned (.tuple #[.agg (SC 4 (msV (mRdM P.sv P.sb P.dv P.db P.pay))), .bool true])) (by rw [← HRV.out, hB, hM]), hbt57⟩
            · have Hhb53 := Hid.mk hb53
              clear hb53
              have HDhb53 := Hid.mk (of_decide_eq_false Hhb53.out)
              go_wp2_with (refine wl_value rfl (kn_ (c := false) Hhb53 (cmp_eqE (m := mRdE P.sv P.sb P.dv P.db P.pay) (n := 0) rfl rfl rfl)) ?_; refine Hid.out ?_)
              refine Hid.mk ?_
              go_wp2_with (refine st_stO (V := msV (mRdM P.sv P.sb P.dv P.db P.pay)) (g := g4) rfl rfl isMs (msV_one _) s51 rfl rfl ?_; intro w58 s58 ho58; refine Hid.out ?_)
              refine Hid.mk ?_
              clear s51
              have s59 := s50.only ho58 hn5
              clear s50
              have s60 := s49.only ho58 hn44.symm
              clear s49
              have hbt61 := hbt52.trans (ho58.below hz6)
              clear hbt52
              clear ho58
              go_wp2_with fail
              have hC : msgC P = true := by unfold msgC; rw [off_eq Hhb9.out]; (try simp only [Hhb9.out, Hhb23.out, Hhb32.out, Hhb53.out]) <;> simp [Hhb9.out, Hhb23.out, Hhb32.out, Hhb53.out, Hhb15.out, Hhb31.out]
              have hB : msgB P = false := by unfold msgB msgE; rw [hC, Hhb53.out]; rfl
              have hM : msgM P = mRdM P.sv P.sb P.dv P.db P.pay := by unfold msgM; rw [if_pos hC]
              refine bodyPost_ret (res_ct rfl isMs s58 (by rfl) (by rfl)) rfl ?_
              exact ⟨Eq.trans (rfl : _ = Ending.returned (.tuple #[.agg (SC 4 (msV (mRdM P.sv P.sb P.dv P.db P.pay))), .bool false])) (by rw [← HRV.out, hB, hM]), hbt61⟩
          · have Hhb32 := Hid.mk hb32
            clear hb32
            have HDhb32 := Hid.mk (of_decide_eq_false Hhb32.out)
            go_upto_region 2 with fail
            refine wp_region3 (Below w11.heap.size w11) w11.heap.size
                ([] : List (Nat × Cont))
                [kv (.bool true), kv (.bool false), kv (.bool false), kv (.pointer (some ⟨g1, 39, none⟩)), kv (.bool false), kv (.bool false), kv (.bool false), kv (.pointer (some ⟨g1, 38, none⟩)), kv (.int .i64 P.off), kv (.bool false), kv (.bool false), kv (.bool false), kv (.pointer (some ⟨g1, 34, none⟩)), kv (.int .i64 P.proto), kv (.pointer (some ⟨g1, 0, none⟩)), kv (.pointer (some ⟨g1, 0, none⟩)), kv (.bool true), kv (.int .i64 (protoK true)), kv (.bool true), kv (.bool true)]
                [.none, .none, .none, .none, .none, .none, .none, .none, .none, .none, .none, .none, .none, .none, .none, .none, .none, .none, .none, .none]
                [some 9, some 10, some 11, some 12, some 13, some 14, some 15, some 16, some 17, some 18, some 19, some 20, some 21, some 22, some 23, some 24, some 25, some 26, some 27, some 28]
                [(4, .bool true), (1, .pointer (some ⟨g1, 0, none⟩))]
                [[], [.slot 0], [.slot 1], [.slot 2], [.slot 2, .slot 3], [.slot 2, .slot 4], [.slot 5], [.slot 6], [.slot 6, .slot 7], [.slot 6, .slot 8], [.slot 6, .slot 9], [.slot 10], [.slot 11], [.slot 11, .slot 12], [.slot 11], [.slot 11, .slot 14], [.slot 11, .slot 15], [.slot 11, .slot 16], [.slot 11, .slot 13, .slot 17], [.slot 11, .slot 18]]
                [.slot 19] [9, 10, 11, 12, 13, 14, 15, 16, 17, 18, 19, 20, 21, 22, 23, 24, 25, 26, 27, 28]
                rfl (by kernel_rfl) ⟨rfl, rfl, trivial⟩ ((Below.refl _ w11).drew) (Nat.le_refl _) trivial trivial (below_GcW (Nat.le_refl _))
                ⟨
                (fun QQ aa ww own hS hBg fr kn => .inl ⟨trivial, fun K hK => wp_value (exec_move rfl fr.1) (hK _ _ ⟨Touch.refl _ _, rfl⟩)⟩),
                (fun QQ aa ww own hS hBg fr kn => .inl ⟨trivial, fun K hK => wp_value (exec_notB rfl kn.1) (hK _ _ ⟨Touch.refl _ _, rfl⟩)⟩),
                (fun QQ aa ww own hS hBg fr kn => .inl ⟨trivial, fun K hK => wp_value (exec_move rfl kn.1) (hK _ _ ⟨Touch.refl _ _, rfl⟩)⟩),
                (fun QQ aa ww own hS hBg fr kn => .inl ⟨kn.1, fun K hK => wp_value (exec_fpk 7 (by decide) rfl fr.2.1) (hK _ _ ⟨Touch.refl _ _, rfl⟩)⟩),
                (fun QQ aa ww own hS hBg fr kn => .inl ⟨kn.1, fun K hK => wp_value (kn_ (c := false) Hhb15 (exec_ld rfl kn.2.1 (ldPb (pk_more (SAt.kept s12 hS))))) (hK _ _ ⟨Touch.refl _ _, rfl⟩)⟩),
                (fun QQ aa ww own hS hBg fr kn => .inl ⟨trivial, fun K hK => wp_value (exec_pickF (v := .bool false) rfl kn.1 kn.2.1) (hK _ _ ⟨Touch.refl _ _, rfl⟩)⟩),
                (fun QQ aa ww own hS hBg fr kn => .inl ⟨trivial, fun K hK => wp_value (exec_move rfl kn.1) (hK _ _ ⟨Touch.refl _ _, rfl⟩)⟩),
                (fun QQ aa ww own hS hBg fr kn => .inl ⟨kn.1, fun K hK => wp_value (exec_fpk 6 (by decide) rfl fr.2.1) (hK _ _ ⟨Touch.refl _ _, rfl⟩)⟩),
                (fun QQ aa ww own hS hBg fr kn => .inl ⟨kn.1, fun K hK => wp_value (exec_ld rfl kn.2.1 (ldP (pk_off (SAt.kept s12 hS)))) (hK _ _ ⟨Touch.refl _ _, rfl⟩)⟩),
                (fun QQ aa ww own hS hBg fr kn => .inl ⟨kn.1, fun K hK => wp_value (kn_ (c := false) Hhb23 (cmp_gt (m := P.off) (n := 0) rfl kn.2.1 rfl)) (hK _ _ ⟨Touch.refl _ _, rfl⟩)⟩),
                (fun QQ aa ww own hS hBg fr kn => .inl ⟨trivial, fun K hK => wp_value (exec_pickF (v := .bool false) rfl kn.1 kn.2.1) (hK _ _ ⟨Touch.refl _ _, rfl⟩)⟩),
                (fun QQ aa ww own hS hBg fr kn => .inl ⟨trivial, fun K hK => wp_value (exec_move rfl kn.1) (hK _ _ ⟨Touch.refl _ _, rfl⟩)⟩),
                (fun QQ aa ww own hS hBg fr kn => .inl ⟨kn.1, fun K hK => wp_value (exec_fpk 2 (by decide) rfl fr.2.1) (hK _ _ ⟨Touch.refl _ _, rfl⟩)⟩),
                (fun QQ aa ww own hS hBg fr kn => .inl ⟨kn.1, fun K hK => wp_value (exec_ld rfl kn.2.1 (ldP (pk_proto (SAt.kept s12 hS)))) (hK _ _ ⟨Touch.refl _ _, rfl⟩)⟩),
                (fun QQ aa ww own hS hBg fr kn => .inl ⟨kn.1, fun K hK => wp_value (exec_fpk 0 (by decide) rfl fr.2.1) (hK _ _ ⟨Touch.refl _ _, rfl⟩)⟩),
                (fun QQ aa ww own hS hBg fr kn => .inl ⟨kn.1, fun K hK => wp_value (exec_fad0 rfl kn.2.1) (hK _ _ ⟨Touch.refl _ _, rfl⟩)⟩),
                (fun QQ aa ww own hS hBg fr kn => .inl ⟨kn.1, fun K hK => wp_value (kn_ (c := true) Hhb31 (exec_ld rfl kn.2.1 (ldB (SAt.at (SAt.kept s12 hS) 0 (by decide))))) (hK _ _ ⟨Touch.refl _ _, rfl⟩)⟩),
                (fun QQ aa ww own hS hBg fr kn => .inl ⟨kn.1, fun K hK => stepc en_aditref15_proto rfl (args1 kn.2.1) (dproto_run true ww) (fun w' hb => hK _ _ ⟨touch_below hb, rfl⟩)⟩),
                (fun QQ aa ww own hS hBg fr kn => .inl ⟨kn.1, fun K hK => wp_value (kn_n (c := true) Hhb32 (cmp_ne (m := P.proto) (n := protoK true) rfl kn.2.1 kn.2.2.1)) (hK _ _ ⟨Touch.refl _ _, rfl⟩)⟩),
                (fun QQ aa ww own hS hBg fr kn => .inl ⟨trivial, fun K hK => wp_value (exec_pickF (v := .bool true) rfl kn.1 kn.2.1) (hK _ _ ⟨Touch.refl _ _, rfl⟩)⟩),
                trivial⟩ ?_
            intro vs own w62 hB62 hsz kn inj
            have e28 : vs 28 = .bool true := kn.1
            clear kn inj hsz
            simp only [putAll, Act.put, List.setIfInBounds_toArray, List.set_cons_zero, List.set_cons_succ, e28]
            clear e28
            have s63 := s12.kept hB62
            clear s12
            have s64 := s13.kept hB62
            clear s13
            have hbt65 := hbt14.trans (hB62.mono hbt14.size)
            clear hbt14
            clear hB62
            go_wp2_with (refine wl_value rfl (exec_bdMs0 rfl) ?_; refine Hid.out ?_)
            refine Hid.mk ?_
            go_wp2_with (refine st_stO (V := msV ms0) (g := g4) rfl rfl isMs (msV_one _) s64 rfl rfl ?_; intro w66 s66 ho66; refine Hid.out ?_)
            refine Hid.mk ?_
            clear s64
            have s67 := s63.only ho66 hn5
            clear s63
            have hbt68 := hbt65.trans (ho66.below hz6)
            clear hbt65
            clear ho66
            go_wp2_with fail
            have hC : msgC P = false := by unfold msgC; rw [off_eq Hhb9.out]; (try simp only [Hhb9.out, Hhb23.out, Hhb32.out]) <;> simp [Hhb9.out, Hhb23.out, Hhb32.out, Hhb15.out, Hhb31.out]
            have hB : msgB P = false := by unfold msgB; rw [hC]; rfl
            have hM : msgM P = ms0 := by unfold msgM; rw [if_neg (by rw [hC]; decide)]
            refine bodyPost_ret (res_ct rfl isMs s66 (by rfl) (by rfl)) rfl ?_
            exact ⟨Eq.trans (rfl : _ = Ending.returned (.tuple #[.agg (SC 4 (msV ms0)), .bool false])) (by rw [← HRV.out, hB, hM]), hbt68⟩
        · have Hhb31 := Hid.mk hb31
          clear hb31
          rcases Bool.eq_false_or_eq_true (decide (P.proto = protoK false)) with hb69 | hb69
          · have Hhb69 := Hid.mk hb69
            clear hb69
            have HDhb69 := Hid.mk (of_decide_eq_true Hhb69.out)
            go_upto_region 2 with fail
            refine wp_region3 (Below w11.heap.size w11) w11.heap.size
                ([] : List (Nat × Cont))
                [kv (.bool true), kv (.bool false), kv (.bool false), kv (.pointer (some ⟨g1, 39, none⟩)), kv (.bool false), kv (.bool false), kv (.bool false), kv (.pointer (some ⟨g1, 38, none⟩)), kv (.int .i64 P.off), kv (.bool false), kv (.bool false), kv (.bool false), kv (.pointer (some ⟨g1, 34, none⟩)), kv (.int .i64 P.proto), kv (.pointer (some ⟨g1, 0, none⟩)), kv (.pointer (some ⟨g1, 0, none⟩)), kv (.bool false), kv (.int .i64 (protoK false)), kv (.bool false), kv (.bool false)]
                [.none, .none, .none, .none, .none, .none, .none, .none, .none, .none, .none, .none, .none, .none, .none, .none, .none, .none, .none, .none]
                [some 9, some 10, some 11, some 12, some 13, some 14, some 15, some 16, some 17, some 18, some 19, some 20, some 21, some 22, some 23, some 24, some 25, some 26, some 27, some 28]
                [(4, .bool true), (1, .pointer (some ⟨g1, 0, none⟩))]
                [[], [.slot 0], [.slot 1], [.slot 2], [.slot 2, .slot 3], [.slot 2, .slot 4], [.slot 5], [.slot 6], [.slot 6, .slot 7], [.slot 6, .slot 8], [.slot 6, .slot 9], [.slot 10], [.slot 11], [.slot 11, .slot 12], [.slot 11], [.slot 11, .slot 14], [.slot 11, .slot 15], [.slot 11, .slot 16], [.slot 11, .slot 13, .slot 17], [.slot 11, .slot 18]]
                [.slot 19] [9, 10, 11, 12, 13, 14, 15, 16, 17, 18, 19, 20, 21, 22, 23, 24, 25, 26, 27, 28]
                rfl (by kernel_rfl) ⟨rfl, rfl, trivial⟩ ((Below.refl _ w11).drew) (Nat.le_refl _) trivial trivial (below_GcW (Nat.le_refl _))
                ⟨
                (fun QQ aa ww own hS hBg fr kn => .inl ⟨trivial, fun K hK => wp_value (exec_move rfl fr.1) (hK _ _ ⟨Touch.refl _ _, rfl⟩)⟩),
                (fun QQ aa ww own hS hBg fr kn => .inl ⟨trivial, fun K hK => wp_value (exec_notB rfl kn.1) (hK _ _ ⟨Touch.refl _ _, rfl⟩)⟩),
                (fun QQ aa ww own hS hBg fr kn => .inl ⟨trivial, fun K hK => wp_value (exec_move rfl kn.1) (hK _ _ ⟨Touch.refl _ _, rfl⟩)⟩),
                (fun QQ aa ww own hS hBg fr kn => .inl ⟨kn.1, fun K hK => wp_value (exec_fpk 7 (by decide) rfl fr.2.1) (hK _ _ ⟨Touch.refl _ _, rfl⟩)⟩),
                (fun QQ aa ww own hS hBg fr kn => .inl ⟨kn.1, fun K hK => wp_value (kn_ (c := false) Hhb15 (exec_ld rfl kn.2.1 (ldPb (pk_more (SAt.kept s12 hS))))) (hK _ _ ⟨Touch.refl _ _, rfl⟩)⟩),
                (fun QQ aa ww own hS hBg fr kn => .inl ⟨trivial, fun K hK => wp_value (exec_pickF (v := .bool false) rfl kn.1 kn.2.1) (hK _ _ ⟨Touch.refl _ _, rfl⟩)⟩),
                (fun QQ aa ww own hS hBg fr kn => .inl ⟨trivial, fun K hK => wp_value (exec_move rfl kn.1) (hK _ _ ⟨Touch.refl _ _, rfl⟩)⟩),
                (fun QQ aa ww own hS hBg fr kn => .inl ⟨kn.1, fun K hK => wp_value (exec_fpk 6 (by decide) rfl fr.2.1) (hK _ _ ⟨Touch.refl _ _, rfl⟩)⟩),
                (fun QQ aa ww own hS hBg fr kn => .inl ⟨kn.1, fun K hK => wp_value (exec_ld rfl kn.2.1 (ldP (pk_off (SAt.kept s12 hS)))) (hK _ _ ⟨Touch.refl _ _, rfl⟩)⟩),
                (fun QQ aa ww own hS hBg fr kn => .inl ⟨kn.1, fun K hK => wp_value (kn_ (c := false) Hhb23 (cmp_gt (m := P.off) (n := 0) rfl kn.2.1 rfl)) (hK _ _ ⟨Touch.refl _ _, rfl⟩)⟩),
                (fun QQ aa ww own hS hBg fr kn => .inl ⟨trivial, fun K hK => wp_value (exec_pickF (v := .bool false) rfl kn.1 kn.2.1) (hK _ _ ⟨Touch.refl _ _, rfl⟩)⟩),
                (fun QQ aa ww own hS hBg fr kn => .inl ⟨trivial, fun K hK => wp_value (exec_move rfl kn.1) (hK _ _ ⟨Touch.refl _ _, rfl⟩)⟩),
                (fun QQ aa ww own hS hBg fr kn => .inl ⟨kn.1, fun K hK => wp_value (exec_fpk 2 (by decide) rfl fr.2.1) (hK _ _ ⟨Touch.refl _ _, rfl⟩)⟩),
                (fun QQ aa ww own hS hBg fr kn => .inl ⟨kn.1, fun K hK => wp_value (exec_ld rfl kn.2.1 (ldP (pk_proto (SAt.kept s12 hS)))) (hK _ _ ⟨Touch.refl _ _, rfl⟩)⟩),
                (fun QQ aa ww own hS hBg fr kn => .inl ⟨kn.1, fun K hK => wp_value (exec_fpk 0 (by decide) rfl fr.2.1) (hK _ _ ⟨Touch.refl _ _, rfl⟩)⟩),
                (fun QQ aa ww own hS hBg fr kn => .inl ⟨kn.1, fun K hK => wp_value (exec_fad0 rfl kn.2.1) (hK _ _ ⟨Touch.refl _ _, rfl⟩)⟩),
                (fun QQ aa ww own hS hBg fr kn => .inl ⟨kn.1, fun K hK => wp_value (kn_ (c := false) Hhb31 (exec_ld rfl kn.2.1 (ldB (SAt.at (SAt.kept s12 hS) 0 (by decide))))) (hK _ _ ⟨Touch.refl _ _, rfl⟩)⟩),
                (fun QQ aa ww own hS hBg fr kn => .inl ⟨kn.1, fun K hK => stepc en_aditref15_proto rfl (args1 kn.2.1) (dproto_run false ww) (fun w' hb => hK _ _ ⟨touch_below hb, rfl⟩)⟩),
                (fun QQ aa ww own hS hBg fr kn => .inl ⟨kn.1, fun K hK => wp_value (kn_n (c := false) Hhb69 (cmp_ne (m := P.proto) (n := protoK false) rfl kn.2.1 kn.2.2.1)) (hK _ _ ⟨Touch.refl _ _, rfl⟩)⟩),
                (fun QQ aa ww own hS hBg fr kn => .inl ⟨trivial, fun K hK => wp_value (exec_pickF (v := .bool false) rfl kn.1 kn.2.1) (hK _ _ ⟨Touch.refl _ _, rfl⟩)⟩),
                trivial⟩ ?_
            intro vs own w70 hB70 hsz kn inj
            have e28 : vs 28 = .bool false := kn.1
            clear kn inj hsz
            simp only [putAll, Act.put, List.setIfInBounds_toArray, List.set_cons_zero, List.set_cons_succ, e28]
            clear e28
            have s71 := s12.kept hB70
            clear s12
            have s72 := s13.kept hB70
            clear s13
            have hbt73 := hbt14.trans (hB70.mono hbt14.size)
            clear hbt14
            clear hB70
            go_wp2_with (refine wl_value rfl (exec_fpk 0 (by decide) rfl rfl) ?_; refine Hid.out ?_)
            refine Hid.mk ?_
            go_wp2_with (refine wl_value rfl (exec_ld rfl rfl (ld_src s71)) ?_; refine Hid.out ?_)
            refine Hid.mk ?_
            go_wp2_with (refine wl_value rfl (exec_fpk 1 (by decide) rfl rfl) ?_; refine Hid.out ?_)
            refine Hid.mk ?_
            go_wp2_with (refine wl_value rfl (exec_ld rfl rfl (ld_dst s71)) ?_; refine Hid.out ?_)
            refine Hid.mk ?_
            go_wp2_with (refine wl_value rfl (exec_fpk 13 (by decide) rfl rfl) ?_; refine Hid.out ?_)
            refine Hid.mk ?_
            go_wp2_with (refine wl_value rfl (exec_ld rfl rfl (ldPs (pk_pay s71))) ?_; refine Hid.out ?_)
            refine Hid.mk ?_
            have HC74 : Hid (Calls Tryd.prog 12 #[.agg (SC 17 (adV P.sv P.sb)), .agg (SC 17 (adV P.dv P.db)), .string P.pay] w70 fun e w' => e = .returned (.tuple #[.agg (SC 4 (msV (mRdM P.sv P.sb P.dv P.db P.pay))), .int .i64 (mRdE P.sv P.sb P.dv P.db P.pay)]) ∧ Below w70.heap.size w70 w') := Hid.mk (dParse_run P.sv P.sb P.dv P.db P.pay w70 HP.out.ok.sb HP.out.ok.db (by have := HP.out.bp; omega))
            go_wp2_with (refine wl_cal en_aditref15_Parse HC74 rfl rfl (args3 rfl rfl rfl) ?_; intro w75 hB75; refine Hid.out ?_)
            refine Hid.mk ?_
            clear HC74
            have s76 := s71.kept hB75
            clear s71
            have s77 := s72.kept hB75
            clear s72
            have hbt78 := hbt73.trans (hB75.mono hbt73.size)
            clear hbt73
            clear hB75
            go_wp2_with (refine wl_alO (V := msV ms0) rfl rfl zeroMs ?_; intro g79 w79 hg79 s79 hB79; refine Hid.out ?_)
            refine Hid.mk ?_
            have hn80 : g1 ≠ g79 := by have := s76.lt; omega
            have hn81 : g4 ≠ g79 := by have := s77.lt; omega
            have hz82 : w.heap.size ≤ g79 := by have := hbt78.size; omega
            have s83 := s76.kept hB79
            clear s76
            have s84 := s77.kept hB79
            clear s77
            have hbt85 := hbt78.trans (hB79.mono hbt78.size)
            clear hbt78
            clear hB79 hg79
            go_wp2_with (refine st_stO (V := msV (mRdM P.sv P.sb P.dv P.db P.pay)) (g := g79) rfl rfl isMs (msV_one _) s79 rfl rfl ?_; intro w86 s86 ho86; refine Hid.out ?_)
            refine Hid.mk ?_
            clear s79
            have s87 := s83.only ho86 hn80
            clear s83
            have s88 := s84.only ho86 hn81
            clear s84
            have hbt89 := hbt85.trans (ho86.below hz82)
            clear hbt85
            clear ho86
            go_wp2_with (refine wl_value rfl (look_st rfl isMs s86 rfl) ?_; refine Hid.out ?_)
            refine Hid.mk ?_
            rcases Bool.eq_false_or_eq_true (decide (mRdE P.sv P.sb P.dv P.db P.pay = 0)) with hb90 | hb90
            · have Hhb90 := Hid.mk hb90
              clear hb90
              have HDhb90 := Hid.mk (of_decide_eq_true Hhb90.out)
              go_wp2_with (refine wl_value rfl (kn_ (c := true) Hhb90 (cmp_eqE (m := mRdE P.sv P.sb P.dv P.db P.pay) (n := 0) rfl rfl rfl)) ?_; refine Hid.out ?_)
              refine Hid.mk ?_
              go_wp2_with (refine st_stO (V := msV (mRdM P.sv P.sb P.dv P.db P.pay)) (g := g4) rfl rfl isMs (msV_one _) s88 rfl rfl ?_; intro w91 s91 ho91; refine Hid.out ?_)
              refine Hid.mk ?_
              clear s88
              have s92 := s87.only ho91 hn5
              clear s87
              have s93 := s86.only ho91 hn81.symm
              clear s86
              have hbt94 := hbt89.trans (ho91.below hz6)
              clear hbt89
              clear ho91
              go_wp2_with fail
              have hC : msgC P = true := by unfold msgC; rw [off_eq Hhb9.out]; (try simp only [Hhb9.out, Hhb23.out, Hhb69.out, Hhb90.out]) <;> simp [Hhb9.out, Hhb23.out, Hhb69.out, Hhb90.out, Hhb15.out, Hhb31.out]
              have hB : msgB P = true := by unfold msgB msgE; rw [hC, Hhb90.out]; rfl
              have hM : msgM P = mRdM P.sv P.sb P.dv P.db P.pay := by unfold msgM; rw [if_pos hC]
              refine bodyPost_ret (res_ct rfl isMs s91 (by rfl) (by rfl)) rfl ?_
              exact ⟨Eq.trans (rfl : _ = Ending.returned (.tuple #[.agg (SC 4 (msV (mRdM P.sv P.sb P.dv P.db P.pay))), .bool true])) (by rw [← HRV.out, hB, hM]), hbt94⟩
            · have Hhb90 := Hid.mk hb90
              clear hb90
              have HDhb90 := Hid.mk (of_decide_eq_false Hhb90.out)
              go_wp2_with (refine wl_value rfl (kn_ (c := false) Hhb90 (cmp_eqE (m := mRdE P.sv P.sb P.dv P.db P.pay) (n := 0) rfl rfl rfl)) ?_; refine Hid.out ?_)
              refine Hid.mk ?_
              go_wp2_with (refine st_stO (V := msV (mRdM P.sv P.sb P.dv P.db P.pay)) (g := g4) rfl rfl isMs (msV_one _) s88 rfl rfl ?_; intro w95 s95 ho95; refine Hid.out ?_)
              refine Hid.mk ?_
              clear s88
              have s96 := s87.only ho95 hn5
              clear s87
              have s97 := s86.only ho95 hn81.symm
              clear s86
              have hbt98 := hbt89.trans (ho95.below hz6)
              clear hbt89
              clear ho95
              go_wp2_with fail
              have hC : msgC P = true := by unfold msgC; rw [off_eq Hhb9.out]; (try simp only [Hhb9.out, Hhb23.out, Hhb69.out, Hhb90.out]) <;> simp [Hhb9.out, Hhb23.out, Hhb69.out, Hhb90.out, Hhb15.out, Hhb31.out]
              have hB : msgB P = false := by unfold msgB msgE; rw [hC, Hhb90.out]; rfl
              have hM : msgM P = mRdM P.sv P.sb P.dv P.db P.pay := by unfold msgM; rw [if_pos hC]
              refine bodyPost_ret (res_ct rfl isMs s95 (by rfl) (by rfl)) rfl ?_
              exact ⟨Eq.trans (rfl : _ = Ending.returned (.tuple #[.agg (SC 4 (msV (mRdM P.sv P.sb P.dv P.db P.pay))), .bool false])) (by rw [← HRV.out, hB, hM]), hbt98⟩
          · have Hhb69 := Hid.mk hb69
            clear hb69
            have HDhb69 := Hid.mk (of_decide_eq_false Hhb69.out)
            go_upto_region 2 with fail
            refine wp_region3 (Below w11.heap.size w11) w11.heap.size
                ([] : List (Nat × Cont))
                [kv (.bool true), kv (.bool false), kv (.bool false), kv (.pointer (some ⟨g1, 39, none⟩)), kv (.bool false), kv (.bool false), kv (.bool false), kv (.pointer (some ⟨g1, 38, none⟩)), kv (.int .i64 P.off), kv (.bool false), kv (.bool false), kv (.bool false), kv (.pointer (some ⟨g1, 34, none⟩)), kv (.int .i64 P.proto), kv (.pointer (some ⟨g1, 0, none⟩)), kv (.pointer (some ⟨g1, 0, none⟩)), kv (.bool false), kv (.int .i64 (protoK false)), kv (.bool true), kv (.bool true)]
                [.none, .none, .none, .none, .none, .none, .none, .none, .none, .none, .none, .none, .none, .none, .none, .none, .none, .none, .none, .none]
                [some 9, some 10, some 11, some 12, some 13, some 14, some 15, some 16, some 17, some 18, some 19, some 20, some 21, some 22, some 23, some 24, some 25, some 26, some 27, some 28]
                [(4, .bool true), (1, .pointer (some ⟨g1, 0, none⟩))]
                [[], [.slot 0], [.slot 1], [.slot 2], [.slot 2, .slot 3], [.slot 2, .slot 4], [.slot 5], [.slot 6], [.slot 6, .slot 7], [.slot 6, .slot 8], [.slot 6, .slot 9], [.slot 10], [.slot 11], [.slot 11, .slot 12], [.slot 11], [.slot 11, .slot 14], [.slot 11, .slot 15], [.slot 11, .slot 16], [.slot 11, .slot 13, .slot 17], [.slot 11, .slot 18]]
                [.slot 19] [9, 10, 11, 12, 13, 14, 15, 16, 17, 18, 19, 20, 21, 22, 23, 24, 25, 26, 27, 28]
                rfl (by kernel_rfl) ⟨rfl, rfl, trivial⟩ ((Below.refl _ w11).drew) (Nat.le_refl _) trivial trivial (below_GcW (Nat.le_refl _))
                ⟨
                (fun QQ aa ww own hS hBg fr kn => .inl ⟨trivial, fun K hK => wp_value (exec_move rfl fr.1) (hK _ _ ⟨Touch.refl _ _, rfl⟩)⟩),
                (fun QQ aa ww own hS hBg fr kn => .inl ⟨trivial, fun K hK => wp_value (exec_notB rfl kn.1) (hK _ _ ⟨Touch.refl _ _, rfl⟩)⟩),
                (fun QQ aa ww own hS hBg fr kn => .inl ⟨trivial, fun K hK => wp_value (exec_move rfl kn.1) (hK _ _ ⟨Touch.refl _ _, rfl⟩)⟩),
                (fun QQ aa ww own hS hBg fr kn => .inl ⟨kn.1, fun K hK => wp_value (exec_fpk 7 (by decide) rfl fr.2.1) (hK _ _ ⟨Touch.refl _ _, rfl⟩)⟩),
                (fun QQ aa ww own hS hBg fr kn => .inl ⟨kn.1, fun K hK => wp_value (kn_ (c := false) Hhb15 (exec_ld rfl kn.2.1 (ldPb (pk_more (SAt.kept s12 hS))))) (hK _ _ ⟨Touch.refl _ _, rfl⟩)⟩),
                (fun QQ aa ww own hS hBg fr kn => .inl ⟨trivial, fun K hK => wp_value (exec_pickF (v := .bool false) rfl kn.1 kn.2.1) (hK _ _ ⟨Touch.refl _ _, rfl⟩)⟩),
                (fun QQ aa ww own hS hBg fr kn => .inl ⟨trivial, fun K hK => wp_value (exec_move rfl kn.1) (hK _ _ ⟨Touch.refl _ _, rfl⟩)⟩),
                (fun QQ aa ww own hS hBg fr kn => .inl ⟨kn.1, fun K hK => wp_value (exec_fpk 6 (by decide) rfl fr.2.1) (hK _ _ ⟨Touch.refl _ _, rfl⟩)⟩),
                (fun QQ aa ww own hS hBg fr kn => .inl ⟨kn.1, fun K hK => wp_value (exec_ld rfl kn.2.1 (ldP (pk_off (SAt.kept s12 hS)))) (hK _ _ ⟨Touch.refl _ _, rfl⟩)⟩),
                (fun QQ aa ww own hS hBg fr kn => .inl ⟨kn.1, fun K hK => wp_value (kn_ (c := false) Hhb23 (cmp_gt (m := P.off) (n := 0) rfl kn.2.1 rfl)) (hK _ _ ⟨Touch.refl _ _, rfl⟩)⟩),
                (fun QQ aa ww own hS hBg fr kn => .inl ⟨trivial, fun K hK => wp_value (exec_pickF (v := .bool false) rfl kn.1 kn.2.1) (hK _ _ ⟨Touch.refl _ _, rfl⟩)⟩),
                (fun QQ aa ww own hS hBg fr kn => .inl ⟨trivial, fun K hK => wp_value (exec_move rfl kn.1) (hK _ _ ⟨Touch.refl _ _, rfl⟩)⟩),
                (fun QQ aa ww own hS hBg fr kn => .inl ⟨kn.1, fun K hK => wp_value (exec_fpk 2 (by decide) rfl fr.2.1) (hK _ _ ⟨Touch.refl _ _, rfl⟩)⟩),
                (fun QQ aa ww own hS hBg fr kn => .inl ⟨kn.1, fun K hK => wp_value (exec_ld rfl kn.2.1 (ldP (pk_proto (SAt.kept s12 hS)))) (hK _ _ ⟨Touch.refl _ _, rfl⟩)⟩),
                (fun QQ aa ww own hS hBg fr kn => .inl ⟨kn.1, fun K hK => wp_value (exec_fpk 0 (by decide) rfl fr.2.1) (hK _ _ ⟨Touch.refl _ _, rfl⟩)⟩),
                (fun QQ aa ww own hS hBg fr kn => .inl ⟨kn.1, fun K hK => wp_value (exec_fad0 rfl kn.2.1) (hK _ _ ⟨Touch.refl _ _, rfl⟩)⟩),
                (fun QQ aa ww own hS hBg fr kn => .inl ⟨kn.1, fun K hK => wp_value (kn_ (c := false) Hhb31 (exec_ld rfl kn.2.1 (ldB (SAt.at (SAt.kept s12 hS) 0 (by decide))))) (hK _ _ ⟨Touch.refl _ _, rfl⟩)⟩),
                (fun QQ aa ww own hS hBg fr kn => .inl ⟨kn.1, fun K hK => stepc en_aditref15_proto rfl (args1 kn.2.1) (dproto_run false ww) (fun w' hb => hK _ _ ⟨touch_below hb, rfl⟩)⟩),
                (fun QQ aa ww own hS hBg fr kn => .inl ⟨kn.1, fun K hK => wp_value (kn_n (c := true) Hhb69 (cmp_ne (m := P.proto) (n := protoK false) rfl kn.2.1 kn.2.2.1)) (hK _ _ ⟨Touch.refl _ _, rfl⟩)⟩),
                (fun QQ aa ww own hS hBg fr kn => .inl ⟨trivial, fun K hK => wp_value (exec_pickF (v := .bool true) rfl kn.1 kn.2.1) (hK _ _ ⟨Touch.refl _ _, rfl⟩)⟩),
                trivial⟩ ?_
            intro vs own w99 hB99 hsz kn inj
            have e28 : vs 28 = .bool true := kn.1
            clear kn inj hsz
            simp only [putAll, Act.put, List.setIfInBounds_toArray, List.set_cons_zero, List.set_cons_succ, e28]
            clear e28
            have s100 := s12.kept hB99
            clear s12
            have s101 := s13.kept hB99
            clear s13
            have hbt102 := hbt14.trans (hB99.mono hbt14.size)
            clear hbt14
            clear hB99
            go_wp2_with (refine wl_value rfl (exec_bdMs0 rfl) ?_; refine Hid.out ?_)
            refine Hid.mk ?_
            go_wp2_with (refine st_stO (V := msV ms0) (g := g4) rfl rfl isMs (msV_one _) s101 rfl rfl ?_; intro w103 s103 ho103; refine Hid.out ?_)
            refine Hid.mk ?_
            clear s101
            have s104 := s100.only ho103 hn5
            clear s100
            have hbt105 := hbt102.trans (ho103.below hz6)
            clear hbt102
            clear ho103
            go_wp2_with fail
            have hC : msgC P = false := by unfold msgC; rw [off_eq Hhb9.out]; (try simp only [Hhb9.out, Hhb23.out, Hhb69.out]) <;> simp [Hhb9.out, Hhb23.out, Hhb69.out, Hhb15.out, Hhb31.out]
            have hB : msgB P = false := by unfold msgB; rw [hC]; rfl
            have hM : msgM P = ms0 := by unfold msgM; rw [if_neg (by rw [hC]; decide)]
            refine bodyPost_ret (res_ct rfl isMs s103 (by rfl) (by rfl)) rfl ?_
            exact ⟨Eq.trans (rfl : _ = Ending.returned (.tuple #[.agg (SC 4 (msV ms0)), .bool false])) (by rw [← HRV.out, hB, hM]), hbt105⟩
  · have Hhb9 := Hid.mk hb9
    clear hb9
    have HC106 : Hid (Calls Tryd.prog 71 #[.agg (SC 46 (pkV P vx))] w4 fun e w' => e = .returned (.bool false) ∧ Below w4.heap.size w4 w') := Hid.mk (by have h := rRight_run P vx w4 (ExAt.kept HX.out hbt8) HP.out.ne HP.out.be; rw [Hhb9.out] at h; exact h)
    go_wp2_with (refine wl_cal en_aditref13_Right HC106 rfl rfl (args1 rfl) ?_; intro w107 hB107; refine Hid.out ?_)
    refine Hid.mk ?_
    clear HC106
    have s108 := s7.kept hB107
    clear s7
    have s109 := s4.kept hB107
    clear s4
    have hbt110 := hbt8.trans (hB107.mono hbt8.size)
    clear hbt8
    clear hB107
    go_upto_region 2 with fail
    refine wp_region3 (Below w107.heap.size w107) w107.heap.size
        ([] : List (Nat × Cont))
        [kv (.bool false), kv (.bool true), kv (.bool true), kv (undef), kv (undef), kv (.bool true), kv (.bool true), kv (undef), kv (undef), kv (undef), kv (.bool true), kv (.bool true), kv (undef), kv (undef), kv (undef), kv (undef), kv (undef), kv (undef), kv (undef), kv (.bool true)]
        [.none, .none, .none, .none, .none, .none, .none, .none, .none, .none, .none, .none, .none, .none, .none, .none, .none, .none, .none, .none]
        [some 9, some 10, some 11, some 12, some 13, some 14, some 15, some 16, some 17, some 18, some 19, some 20, some 21, some 22, some 23, some 24, some 25, some 26, some 27, some 28]
        [(4, .bool false), (1, .pointer (some ⟨g1, 0, none⟩))]
        [[], [.slot 0], [.slot 1], [.slot 2], [.slot 2], [.slot 2, .slot 4], [.slot 5], [.slot 6], [.slot 6], [.slot 6], [.slot 6, .slot 9], [.slot 10], [.slot 11], [.slot 11], [.slot 11], [.slot 11], [.slot 11], [.slot 11], [.slot 11], [.slot 11, .slot 18]]
        [.slot 19] [9, 10, 11, 12, 13, 14, 15, 16, 17, 18, 19, 20, 21, 22, 23, 24, 25, 26, 27, 28]
        rfl (by kernel_rfl) ⟨rfl, rfl, trivial⟩ ((Below.refl _ w107).drew) (Nat.le_refl _) trivial trivial (below_GcW (Nat.le_refl _))
        ⟨
        (fun QQ aa ww own hS hBg fr kn => .inl ⟨trivial, fun K hK => wp_value (exec_move rfl fr.1) (hK _ _ ⟨Touch.refl _ _, rfl⟩)⟩),
        (fun QQ aa ww own hS hBg fr kn => .inl ⟨trivial, fun K hK => wp_value (exec_notB rfl kn.1) (hK _ _ ⟨Touch.refl _ _, rfl⟩)⟩),
        (fun QQ aa ww own hS hBg fr kn => .inl ⟨trivial, fun K hK => wp_value (exec_move rfl kn.1) (hK _ _ ⟨Touch.refl _ _, rfl⟩)⟩),
        (fun QQ aa ww own hS hBg fr kn => .inr ⟨.inl kn.1, Touch.refl _ _, rfl⟩),
        (fun QQ aa ww own hS hBg fr kn => .inr ⟨.inl kn.1, Touch.refl _ _, rfl⟩),
        (fun QQ aa ww own hS hBg fr kn => .inl ⟨trivial, fun K hK => wp_value (exec_pick (v := .bool true) rfl kn.1 rfl) (hK _ _ ⟨Touch.refl _ _, rfl⟩)⟩),
        (fun QQ aa ww own hS hBg fr kn => .inl ⟨trivial, fun K hK => wp_value (exec_move rfl kn.1) (hK _ _ ⟨Touch.refl _ _, rfl⟩)⟩),
        (fun QQ aa ww own hS hBg fr kn => .inr ⟨.inl kn.1, Touch.refl _ _, rfl⟩),
        (fun QQ aa ww own hS hBg fr kn => .inr ⟨.inl kn.1, Touch.refl _ _, rfl⟩),
        (fun QQ aa ww own hS hBg fr kn => .inr ⟨.inl kn.1, Touch.refl _ _, rfl⟩),
        (fun QQ aa ww own hS hBg fr kn => .inl ⟨trivial, fun K hK => wp_value (exec_pick (v := .bool true) rfl kn.1 rfl) (hK _ _ ⟨Touch.refl _ _, rfl⟩)⟩),
        (fun QQ aa ww own hS hBg fr kn => .inl ⟨trivial, fun K hK => wp_value (exec_move rfl kn.1) (hK _ _ ⟨Touch.refl _ _, rfl⟩)⟩),
        (fun QQ aa ww own hS hBg fr kn => .inr ⟨.inl kn.1, Touch.refl _ _, rfl⟩),
        (fun QQ aa ww own hS hBg fr kn => .inr ⟨.inl kn.1, Touch.refl _ _, rfl⟩),
        (fun QQ aa ww own hS hBg fr kn => .inr ⟨.inl kn.1, Touch.refl _ _, rfl⟩),
        (fun QQ aa ww own hS hBg fr kn => .inr ⟨.inl kn.1, Touch.refl _ _, rfl⟩),
        (fun QQ aa ww own hS hBg fr kn => .inr ⟨.inl kn.1, Touch.refl _ _, rfl⟩),
        (fun QQ aa ww own hS hBg fr kn => .inr ⟨.inl kn.1, Touch.refl _ _, rfl⟩),
        (fun QQ aa ww own hS hBg fr kn => .inr ⟨.inl kn.1, Touch.refl _ _, rfl⟩),
        (fun QQ aa ww own hS hBg fr kn => .inl ⟨trivial, fun K hK => wp_value (exec_pick (v := .bool true) rfl kn.1 rfl) (hK _ _ ⟨Touch.refl _ _, rfl⟩)⟩),
        trivial⟩ ?_
    intro vs own w111 hB111 hsz kn inj
    have e28 : vs 28 = .bool true := kn.1
    clear kn inj hsz
    simp only [putAll, Act.put, List.setIfInBounds_toArray, List.set_cons_zero, List.set_cons_succ, e28]
    clear e28
    have s112 := s108.kept hB111
    clear s108
    have s113 := s109.kept hB111
    clear s109
    have hbt114 := hbt110.trans (hB111.mono hbt110.size)
    clear hbt110
    clear hB111
    go_wp2_with (refine wl_value rfl (exec_bdMs0 rfl) ?_; refine Hid.out ?_)
    refine Hid.mk ?_
    go_wp2_with (refine st_stO (V := msV ms0) (g := g4) rfl rfl isMs (msV_one _) s113 rfl rfl ?_; intro w115 s115 ho115; refine Hid.out ?_)
    refine Hid.mk ?_
    clear s113
    have s116 := s112.only ho115 hn5
    clear s112
    have hbt117 := hbt114.trans (ho115.below hz6)
    clear hbt114
    clear ho115
    go_wp2_with fail
    have hC : msgC P = false := by unfold msgC; simp [Hhb9.out]
    have hB : msgB P = false := by unfold msgB; rw [hC]; rfl
    have hM : msgM P = ms0 := by unfold msgM; rw [if_neg (by rw [hC]; decide)]
    refine bodyPost_ret (res_ct rfl isMs s115 (by rfl) (by rfl)) rfl ?_
    exact ⟨Eq.trans (rfl : _ = Ending.returned (.tuple #[.agg (SC 4 (msV ms0)), .bool false])) (by rw [← HRV.out, hB, hM]), hbt117⟩
set_option linter.unusedSimpArgs false in
set_option maxHeartbeats 4000000 in
theorem dmade_run (v1 : Bool) (b1 : Nat → Int) (v2 : Bool) (b2 : Nat → Int) (m : Ms) (w : World) (hb1 : Byts 16 b1) (hb2 : Byts 16 b2) (hr : m.rest < 4294967296) : Calls Tryd.prog 46 #[.agg (SC 17 (adV v1 b1)), .agg (SC 17 (adV v2 b2)), .agg (SC 4 (msV m))] w fun e w' => e = .returned (.agg (SC 46 (pkV (pkOf v1 b1 v2 b2 m) (.slice none 0 0)))) ∧ Below w.heap.size w w' := by
  generalize hRV : (.agg (SC 46 (pkV (pkOf v1 b1 v2 b2 m) (.slice none 0 0))) : Value) = RV
  have HRV := Hid.mk hRV
  clear hRV
  have HR := Hid.mk hr
  clear hr
  go_enter Tryd.func46, Tryd.ntmps46
  go_wp2_with (refine wl_boxO (V := adV v1 b1) rfl rfl isAddr rfl ?_; intro g1 w1 hg1 s1 hB1; refine Hid.out ?_)
  refine Hid.mk ?_
  have hz2 : w.heap.size ≤ g1 := by omega
  have hbt3 := hB1
  clear hB1 hg1
  go_wp2_with (refine wl_boxO (V := adV v2 b2) rfl rfl isAddr rfl ?_; intro g4 w4 hg4 s4 hB4; refine Hid.out ?_)
  refine Hid.mk ?_
  have hn5 : g1 ≠ g4 := by have := s1.lt; omega
  have hz6 : w.heap.size ≤ g4 := by have := hbt3.size; omega
  have s7 := s1.kept hB4
  clear s1
  have hbt8 := hbt3.trans (hB4.mono hbt3.size)
  clear hbt3
  clear hB4 hg4
  go_wp2_with (refine wl_boxO (V := msV m) rfl rfl isMs rfl ?_; intro g9 w9 hg9 s9 hB9; refine Hid.out ?_)
  refine Hid.mk ?_
  have hn10 : g1 ≠ g9 := by have := s7.lt; omega
  have hn11 : g4 ≠ g9 := by have := s4.lt; omega
  have hz12 : w.heap.size ≤ g9 := by have := hbt8.size; omega
  have s13 := s7.kept hB9
  clear s7
  have s14 := s4.kept hB9
  clear s4
  have hbt15 := hbt8.trans (hB9.mono hbt8.size)
  clear hbt8
  clear hB9 hg9
  go_wp2_with (refine wl_alO (V := pkV zeroP (.slice none 0 0)) rfl rfl zeroPk ?_; intro g16 w16 hg16 s16 hB16; refine Hid.out ?_)
  refine Hid.mk ?_
  have hn17 : g1 ≠ g16 := by have := s13.lt; omega
  have hn18 : g4 ≠ g16 := by have := s14.lt; omega
  have hn19 : g9 ≠ g16 := by have := s9.lt; omega
  have hz20 : w.heap.size ≤ g16 := by have := hbt15.size; omega
  have s21 := s13.kept hB16
  clear s13
  have s22 := s14.kept hB16
  clear s14
  have s23 := s9.kept hB16
  clear s9
  have hbt24 := hbt15.trans (hB16.mono hbt15.size)
  clear hbt15
  clear hB16 hg16
  go_wp2_with (refine wl_value rfl (look_st rfl isAddr s21 rfl) ?_; refine Hid.out ?_)
  refine Hid.mk ?_
  go_wp2_with (refine wl_value rfl (look_st rfl isAddr s22 rfl) ?_; refine Hid.out ?_)
  refine Hid.mk ?_
  go_wp2_with (refine wl_value rfl (look_st rfl isMs s23 rfl) ?_; refine Hid.out ?_)
  refine Hid.mk ?_
  have HC25 : Hid (Calls Tryd.prog 10 #[.agg (SC 17 (adV v1 b1)), .agg (SC 17 (adV v2 b2)), .agg (SC 4 (msV m))] w16 fun e w' => e = .returned (.tuple #[.string (mBldT v1 b1 v2 b2 m), .int .i64 (mBldE v1 b1 v2 b2 m)]) ∧ Below w16.heap.size w16 w') := Hid.mk (dBuild_run v1 b1 v2 b2 m w16 hb1 hb2 HR.out)
  go_wp2_with (refine wl_cal en_aditref15_Build HC25 rfl rfl (args3 rfl rfl rfl) ?_; intro w26 hB26; refine Hid.out ?_)
  refine Hid.mk ?_
  clear HC25
  have s27 := s21.kept hB26
  clear s21
  have s28 := s22.kept hB26
  clear s22
  have s29 := s23.kept hB26
  clear s23
  have s30 := s16.kept hB26
  clear s16
  have hbt31 := hbt24.trans (hB26.mono hbt24.size)
  clear hbt24
  clear hB26
  rcases Bool.eq_false_or_eq_true (v1) with hb32 | hb32
  · have Hhb32 := Hid.mk hb32
    clear hb32
    go_upto_region 2 with fail
    refine wp_region_cut 6 rfl (by kernel_rfl) (any_steps (Below w26.heap.size w26) (fun v v' => Below v.heap.size v v') (fun j vv _ => vv = ([.agg (SC 17 (adV v1 b1)), .agg (SC 17 (adV v2 b2)), .pointer (some ⟨g1, 0, none⟩), .bool true, .int .i64 (protoK true), .string (mBldT v1 b1 v2 b2 m)] : List Value).getD j undef)
        [16, 17, 18, 19, 20, 21]
        [(3, .pointer (some ⟨g1, 0, none⟩)), (4, .pointer (some ⟨g4, 0, none⟩)), (7, .string (mBldT v1 b1 v2 b2 m))]
        [[], [], [], [2], [3], []]
        (by kernel_rfl) ⟨rfl, rfl, rfl, trivial⟩ (Below.drew (Below.refl _ _)) (fun v v' h hb => h.trans (hb.mono h.size)) (fun _ _ _ _ h _ => h)
        ⟨
        (fun QQ aa ww hS fr kn => ⟨trivial, fun K hK => wp_value (look_st rfl isAddr (SAt.kept s27 hS) fr.1) (hK _ _ rfl (Below.refl _ _))⟩),
        (fun QQ aa ww hS fr kn => ⟨trivial, fun K hK => wp_value (look_st rfl isAddr (SAt.kept s28 hS) fr.2.1) (hK _ _ rfl (Below.refl _ _))⟩),
        (fun QQ aa ww hS fr kn => ⟨trivial, fun K hK => wp_value (exec_fad0 rfl fr.1) (hK _ _ rfl (Below.refl _ _))⟩),
        (fun QQ aa ww hS fr kn => ⟨trivial, fun K hK => wp_value (kn_ (c := true) Hhb32 (exec_ld rfl kn.1 (ldB (SAt.at (SAt.kept s27 hS) 0 (by decide))))) (hK _ _ rfl (Below.refl _ _))⟩),
        (fun QQ aa ww hS fr kn => ⟨trivial, fun K hK => stepc en_aditref15_proto rfl (args1 kn.1) (dproto_run true ww) (fun w' hb => hK _ _ rfl hb)⟩),
        (fun QQ aa ww hS fr kn => ⟨trivial, fun K hK => wp_value (exec_move rfl fr.2.2.1) (hK _ _ rfl (Below.refl _ _))⟩),
        trivial⟩ ?_)
    intro vs w33 hB33 kn
    have e16 : vs 16 = .agg (SC 17 (adV v1 b1)) := kn 0 (by decide)
    have e17 : vs 17 = .agg (SC 17 (adV v2 b2)) := kn 1 (by decide)
    have e20 : vs 20 = .int .i64 (protoK true) := kn 4 (by decide)
    have e21 : vs 21 = .string (mBldT v1 b1 v2 b2 m) := kn 5 (by decide)
    clear kn
    show wpList Tryd.prog _ _ (_ :: _ :: []) _ _
    simp only [putAll, Act.put, List.setIfInBounds_toArray, List.set_cons_zero, List.set_cons_succ, e16, e17, e20, e21]
    clear e16 e17 e20 e21
    have s34 := s27.kept hB33
    clear s27
    have s35 := s28.kept hB33
    clear s28
    have s36 := s29.kept hB33
    clear s29
    have s37 := s30.kept hB33
    clear s30
    have hbt38 := hbt31.trans (hB33.mono hbt31.size)
    clear hbt31
    clear hB33
    go_wp2_with (refine wl_value rfl (exec_bdPk rfl rfl rfl rfl rfl rfl) ?_; refine Hid.out ?_)
    refine Hid.mk ?_
    go_wp2_with (refine st_stO (V := pkV (⟨v1, b1, v2, b2, protoK true, 64, 0, 0, 0, false, false, ByteArray.empty, 0, [], false, mBldT v1 b1 v2 b2 m⟩) (.slice none 0 0)) (g := g16) rfl rfl isPk (pkV_one rfl) s37 rfl rfl ?_; intro w39 s39 ho39; refine Hid.out ?_)
    refine Hid.mk ?_
    clear s37
    have s40 := s34.only ho39 hn17
    clear s34
    have s41 := s35.only ho39 hn18
    clear s35
    have s42 := s36.only ho39 hn19
    clear s36
    have hbt43 := hbt38.trans (ho39.below hz20)
    clear hbt38
    clear ho39
    go_wp2_with fail
    have hK : pkOf v1 b1 v2 b2 m = ⟨v1, b1, v2, b2, protoK true, 64, 0, 0, 0, false, false, ByteArray.empty, 0, [], false, mBldT v1 b1 v2 b2 m⟩ := by unfold pkOf; rw [show protoK v1 = protoK true from congrArg protoK Hhb32.out]
    refine bodyPost_ret (res_st rfl isPk s39 (by rfl)) rfl ?_
    exact ⟨Eq.trans (rfl : _ = Ending.returned (.agg (SC 46 (pkV (⟨v1, b1, v2, b2, protoK true, 64, 0, 0, 0, false, false, ByteArray.empty, 0, [], false, mBldT v1 b1 v2 b2 m⟩) (.slice none 0 0))))) (by rw [← HRV.out, hK]), hbt43⟩
  · have Hhb32 := Hid.mk hb32
    clear hb32
    go_upto_region 2 with fail
    refine wp_region_cut 6 rfl (by kernel_rfl) (any_steps (Below w26.heap.size w26) (fun v v' => Below v.heap.size v v') (fun j vv _ => vv = ([.agg (SC 17 (adV v1 b1)), .agg (SC 17 (adV v2 b2)), .pointer (some ⟨g1, 0, none⟩), .bool false, .int .i64 (protoK false), .string (mBldT v1 b1 v2 b2 m)] : List Value).getD j undef)
        [16, 17, 18, 19, 20, 21]
        [(3, .pointer (some ⟨g1, 0, none⟩)), (4, .pointer (some ⟨g4, 0, none⟩)), (7, .string (mBldT v1 b1 v2 b2 m))]
        [[], [], [], [2], [3], []]
        (by kernel_rfl) ⟨rfl, rfl, rfl, trivial⟩ (Below.drew (Below.refl _ _)) (fun v v' h hb => h.trans (hb.mono h.size)) (fun _ _ _ _ h _ => h)
        ⟨
        (fun QQ aa ww hS fr kn => ⟨trivial, fun K hK => wp_value (look_st rfl isAddr (SAt.kept s27 hS) fr.1) (hK _ _ rfl (Below.refl _ _))⟩),
        (fun QQ aa ww hS fr kn => ⟨trivial, fun K hK => wp_value (look_st rfl isAddr (SAt.kept s28 hS) fr.2.1) (hK _ _ rfl (Below.refl _ _))⟩),
        (fun QQ aa ww hS fr kn => ⟨trivial, fun K hK => wp_value (exec_fad0 rfl fr.1) (hK _ _ rfl (Below.refl _ _))⟩),
        (fun QQ aa ww hS fr kn => ⟨trivial, fun K hK => wp_value (kn_ (c := false) Hhb32 (exec_ld rfl kn.1 (ldB (SAt.at (SAt.kept s27 hS) 0 (by decide))))) (hK _ _ rfl (Below.refl _ _))⟩),
        (fun QQ aa ww hS fr kn => ⟨trivial, fun K hK => stepc en_aditref15_proto rfl (args1 kn.1) (dproto_run false ww) (fun w' hb => hK _ _ rfl hb)⟩),
        (fun QQ aa ww hS fr kn => ⟨trivial, fun K hK => wp_value (exec_move rfl fr.2.2.1) (hK _ _ rfl (Below.refl _ _))⟩),
        trivial⟩ ?_)
    intro vs w44 hB44 kn
    have e16 : vs 16 = .agg (SC 17 (adV v1 b1)) := kn 0 (by decide)
    have e17 : vs 17 = .agg (SC 17 (adV v2 b2)) := kn 1 (by decide)
    have e20 : vs 20 = .int .i64 (protoK false) := kn 4 (by decide)
    have e21 : vs 21 = .string (mBldT v1 b1 v2 b2 m) := kn 5 (by decide)
    clear kn
    show wpList Tryd.prog _ _ (_ :: _ :: []) _ _
    simp only [putAll, Act.put, List.setIfInBounds_toArray, List.set_cons_zero, List.set_cons_succ, e16, e17, e20, e21]
    clear e16 e17 e20 e21
    have s45 := s27.kept hB44
    clear s27
    have s46 := s28.kept hB44
    clear s28
    have s47 := s29.kept hB44
    clear s29
    have s48 := s30.kept hB44
    clear s30
    have hbt49 := hbt31.trans (hB44.mono hbt31.size)
    clear hbt31
    clear hB44
    go_wp2_with (refine wl_value rfl (exec_bdPk rfl rfl rfl rfl rfl rfl) ?_; refine Hid.out ?_)
    refine Hid.mk ?_
    go_wp2_with (refine st_stO (V := pkV (⟨v1, b1, v2, b2, protoK false, 64, 0, 0, 0, false, false, ByteArray.empty, 0, [], false, mBldT v1 b1 v2 b2 m⟩) (.slice none 0 0)) (g := g16) rfl rfl isPk (pkV_one rfl) s48 rfl rfl ?_; intro w50 s50 ho50; refine Hid.out ?_)
    refine Hid.mk ?_
    clear s48
    have s51 := s45.only ho50 hn17
    clear s45
    have s52 := s46.only ho50 hn18
    clear s46
    have s53 := s47.only ho50 hn19
    clear s47
    have hbt54 := hbt49.trans (ho50.below hz20)
    clear hbt49
    clear ho50
    go_wp2_with fail
    have hK : pkOf v1 b1 v2 b2 m = ⟨v1, b1, v2, b2, protoK false, 64, 0, 0, 0, false, false, ByteArray.empty, 0, [], false, mBldT v1 b1 v2 b2 m⟩ := by unfold pkOf; rw [show protoK v1 = protoK false from congrArg protoK Hhb32.out]
    refine bodyPost_ret (res_st rfl isPk s50 (by rfl)) rfl ?_
    exact ⟨Eq.trans (rfl : _ = Ending.returned (.agg (SC 46 (pkV (⟨v1, b1, v2, b2, protoK false, 64, 0, 0, 0, false, false, ByteArray.empty, 0, [], false, mBldT v1 b1 v2 b2 m⟩) (.slice none 0 0))))) (by rw [← HRV.out, hK]), hbt54⟩
set_option linter.unusedSimpArgs false in
set_option maxHeartbeats 4000000 in
theorem dEcho_run (P : Pk) (vx : Value) (w : World) (hx : ExAt w vx P.exts) (hp : PkB P) : Calls Tryd.prog 14 #[.agg (SC 46 (pkV P vx))] w fun e w' => e = .returned (.tuple #[.agg (SC 46 (pkV (echoP P) (.slice none 0 0))), .bool (echoB P)]) ∧ Below w.heap.size w w' := by
  generalize hRV : (.tuple #[.agg (SC 46 (pkV (echoP P) (.slice none 0 0))), .bool (echoB P)] : Value) = RV
  have HRV := Hid.mk hRV
  clear hRV
  have HX := Hid.mk hx
  have HP := Hid.mk hp
  clear hx hp
  go_enter Tryd.func14, Tryd.ntmps14
  go_wp2_with (refine wl_boxO (V := pkV P vx) rfl rfl isPk rfl ?_; intro g1 w1 hg1 s1 hB1; refine Hid.out ?_)
  refine Hid.mk ?_
  have hz2 : w.heap.size ≤ g1 := by omega
  have hbt3 := hB1
  clear hB1 hg1
  go_wp2_with (refine wl_alO (V := pkV zeroP (.slice none 0 0)) rfl rfl zeroPk ?_; intro g4 w4 hg4 s4 hB4; refine Hid.out ?_)
  refine Hid.mk ?_
  have hn5 : g1 ≠ g4 := by have := s1.lt; omega
  have hz6 : w.heap.size ≤ g4 := by have := hbt3.size; omega
  have s7 := s1.kept hB4
  clear s1
  have hbt8 := hbt3.trans (hB4.mono hbt3.size)
  clear hbt3
  clear hB4 hg4
  go_wp2_with (refine wl_value rfl (look_st rfl isPk s7 rfl) ?_; refine Hid.out ?_)
  refine Hid.mk ?_
  rcases Bool.eq_false_or_eq_true (msgB P) with hb9 | hb9
  · have Hhb9 := Hid.mk hb9
    clear hb9
    have HVD := Hid.mk (rgt_valid (msgM_ok Hhb9.out).2.1)
    have HC10 : Hid (Calls Tryd.prog 44 #[.agg (SC 46 (pkV P vx))] w4 fun e w' => e = .returned (.tuple #[.agg (SC 4 (msV (msgM P))), .bool true]) ∧ Below w4.heap.size w4 w') := Hid.mk (by have h := dmsg_run P vx w4 (ExAt.kept HX.out hbt8) HP.out; rw [Hhb9.out] at h; exact h)
    go_wp2_with (refine wl_cal en_aditref15_message HC10 rfl rfl (args1 rfl) ?_; intro w11 hB11; refine Hid.out ?_)
    refine Hid.mk ?_
    clear HC10
    have s12 := s7.kept hB11
    clear s7
    have s13 := s4.kept hB11
    clear s4
    have hbt14 := hbt8.trans (hB11.mono hbt8.size)
    clear hbt8
    clear hB11
    go_wp2_with (refine wl_alO (V := msV ms0) rfl rfl zeroMs ?_; intro g15 w15 hg15 s15 hB15; refine Hid.out ?_)
    refine Hid.mk ?_
    have hn16 : g1 ≠ g15 := by have := s12.lt; omega
    have hn17 : g4 ≠ g15 := by have := s13.lt; omega
    have hz18 : w.heap.size ≤ g15 := by have := hbt14.size; omega
    have s19 := s12.kept hB15
    clear s12
    have s20 := s13.kept hB15
    clear s13
    have hbt21 := hbt14.trans (hB15.mono hbt14.size)
    clear hbt14
    clear hB15 hg15
    go_wp2_with (refine st_stO (V := msV (msgM P)) (g := g15) rfl rfl isMs (msV_one _) s15 rfl rfl ?_; intro w22 s22 ho22; refine Hid.out ?_)
    refine Hid.mk ?_
    clear s15
    have s23 := s19.only ho22 hn16
    clear s19
    have s24 := s20.only ho22 hn17
    clear s20
    have hbt25 := hbt21.trans (ho22.below hz18)
    clear hbt21
    clear ho22
    go_wp2_with (refine wl_value rfl (exec_fpk 0 (by decide) rfl rfl) ?_; refine Hid.out ?_)
    refine Hid.mk ?_
    go_wp2_with (refine wl_value rfl (exec_ld rfl rfl (ld_src s23)) ?_; refine Hid.out ?_)
    refine Hid.mk ?_
    rcases Bool.eq_false_or_eq_true (usuB P.sv P.sb) with hb26 | hb26
    · have Hhb26 := Hid.mk hb26
      clear hb26
      have HC27 : Hid (Calls Tryd.prog 45 #[.agg (SC 17 (adV P.sv P.sb))] w22 fun e w' => e = .returned (.bool true) ∧ Below w22.heap.size w22 w') := Hid.mk (by have h := dusual_run P.sv P.sb w22; rw [Hhb26.out] at h; exact h)
      go_wp2_with (refine wl_cal en_aditref15_usual HC27 rfl rfl (args1 rfl) ?_; intro w28 hB28; refine Hid.out ?_)
      refine Hid.mk ?_
      clear HC27
      have s29 := s23.kept hB28
      clear s23
      have s30 := s24.kept hB28
      clear s24
      have s31 := s22.kept hB28
      clear s22
      have hbt32 := hbt25.trans (hB28.mono hbt25.size)
      clear hbt25
      clear hB28
      go_wp2_with (refine wl_value rfl (exec_fpk 1 (by decide) rfl rfl) ?_; refine Hid.out ?_)
      refine Hid.mk ?_
      go_wp2_with (refine wl_value rfl (exec_ld rfl rfl (ld_dst s29)) ?_; refine Hid.out ?_)
      refine Hid.mk ?_
      rcases Bool.eq_false_or_eq_true (usuB P.dv P.db) with hb33 | hb33
      · have Hhb33 := Hid.mk hb33
        clear hb33
        have HC34 : Hid (Calls Tryd.prog 45 #[.agg (SC 17 (adV P.dv P.db))] w28 fun e w' => e = .returned (.bool true) ∧ Below w28.heap.size w28 w') := Hid.mk (by have h := dusual_run P.dv P.db w28; rw [Hhb33.out] at h; exact h)
        go_wp2_with (refine wl_cal en_aditref15_usual HC34 rfl rfl (args1 rfl) ?_; intro w35 hB35; refine Hid.out ?_)
        refine Hid.mk ?_
        clear HC34
        have s36 := s29.kept hB35
        clear s29
        have s37 := s30.kept hB35
        clear s30
        have s38 := s31.kept hB35
        clear s31
        have hbt39 := hbt32.trans (hB35.mono hbt32.size)
        clear hbt32
        clear hB35
        go_wp2_with (refine wl_value rfl (exec_fpk 0 (by decide) rfl rfl) ?_; refine Hid.out ?_)
        refine Hid.mk ?_
        go_wp2_with (refine wl_value rfl (exec_fad0 rfl rfl) ?_; refine Hid.out ?_)
        refine Hid.mk ?_
        rcases Bool.eq_false_or_eq_true (P.sv) with hb40 | hb40
        · have Hhb40 := Hid.mk hb40
          clear hb40
          go_wp2_with (refine wl_value rfl (kn_ (c := true) Hhb40 (exec_ld rfl rfl (ldB (SAt.at s36 0 (by decide))))) ?_; refine Hid.out ?_)
          refine Hid.mk ?_
          go_wp2_with (refine wl_value rfl (exec_fms 0 (by decide) rfl rfl) ?_; refine Hid.out ?_)
          refine Hid.mk ?_
          go_wp2_with (refine wl_value rfl (exec_ld rfl rfl (ldI (SAt.at s38 0 (by decide)))) ?_; refine Hid.out ?_)
          refine Hid.mk ?_
          rcases Bool.eq_false_or_eq_true (decide ((msgM P).typ = 128)) with hb41 | hb41
          · have Hhb41 := Hid.mk hb41
            clear hb41
            have HDhb41 := Hid.mk (of_decide_eq_true Hhb41.out)
            go_wp2_with (refine wl_value rfl (kn_n (c := false) Hhb41 (cmp_ne (m := (msgM P).typ) (n := 128) rfl rfl rfl)) ?_; refine Hid.out ?_)
            refine Hid.mk ?_
            go_wp2_with (refine wl_value rfl (exec_fms 1 (by decide) rfl rfl) ?_; refine Hid.out ?_)
            refine Hid.mk ?_
            go_wp2_with (refine wl_value rfl (exec_ld rfl rfl (ldI (SAt.at s38 1 (by decide)))) ?_; refine Hid.out ?_)
            refine Hid.mk ?_
            rcases Bool.eq_false_or_eq_true (decide ((msgM P).code = 0)) with hb42 | hb42
            · have Hhb42 := Hid.mk hb42
              clear hb42
              have HDhb42 := Hid.mk (of_decide_eq_true Hhb42.out)
              go_wp2_with (refine wl_value rfl (kn_n (c := false) Hhb42 (cmp_ne (m := (msgM P).code) (n := 0) rfl rfl rfl)) ?_; refine Hid.out ?_)
              refine Hid.mk ?_
              go_wp2_with (refine wl_value rfl (exec_fpk 1 (by decide) rfl rfl) ?_; refine Hid.out ?_)
              refine Hid.mk ?_
              go_wp2_with (refine wl_value rfl (exec_ld rfl rfl (ld_dst s36)) ?_; refine Hid.out ?_)
              refine Hid.mk ?_
              go_wp2_with (refine wl_value rfl (exec_fpk 0 (by decide) rfl rfl) ?_; refine Hid.out ?_)
              refine Hid.mk ?_
              go_wp2_with (refine wl_value rfl (exec_ld rfl rfl (ld_src s36)) ?_; refine Hid.out ?_)
              refine Hid.mk ?_
              go_wp2_with (refine wl_value rfl (exec_fms 2 (by decide) rfl rfl) ?_; refine Hid.out ?_)
              refine Hid.mk ?_
              go_wp2_with (refine wl_value rfl (exec_ld rfl rfl (ld32 (SAt.at s38 2 (by decide)))) ?_; refine Hid.out ?_)
              refine Hid.mk ?_
              go_wp2_with (refine wl_value rfl (exec_fms 3 (by decide) rfl rfl) ?_; refine Hid.out ?_)
              refine Hid.mk ?_
              go_wp2_with (refine wl_value rfl (exec_ld rfl rfl (ldS (SAt.at s38 3 (by decide)))) ?_; refine Hid.out ?_)
              refine Hid.mk ?_
              go_wp2_with (refine wl_value rfl (exec_bdMsA (n := 129) (r := (msgM P).rest) (s := (msgM P).body) rfl rfl rfl rfl) ?_; refine Hid.out ?_)
              refine Hid.mk ?_
              have HC43 : Hid (Calls Tryd.prog 46 #[.agg (SC 17 (adV P.dv P.db)), .agg (SC 17 (adV P.sv P.sb)), .agg (SC 4 (msV (⟨129, 0, (msgM P).rest, (msgM P).body⟩)))] w35 fun e w' => e = .returned (.agg (SC 46 (pkV (pkOf P.dv P.db P.sv P.sb (⟨129, 0, (msgM P).rest, (msgM P).body⟩)) (.slice none 0 0)))) ∧ Below w35.heap.size w35 w') := Hid.mk (dmade_run P.dv P.db P.sv P.sb (⟨129, 0, (msgM P).rest, (msgM P).body⟩) w35 HP.out.ok.db HP.out.ok.sb (msg_rest Hhb9.out))
              go_wp2_with (refine wl_cal en_aditref15_made HC43 rfl rfl (args3 rfl rfl rfl) ?_; intro w44 hB44; refine Hid.out ?_)
              refine Hid.mk ?_
              clear HC43
              have s45 := s36.kept hB44
              clear s36
              have s46 := s37.kept hB44
              clear s37
              have s47 := s38.kept hB44
              clear s38
              have hbt48 := hbt39.trans (hB44.mono hbt39.size)
              clear hbt39
              clear hB44
              go_wp2_with (refine st_stO (V := pkV (pkOf P.dv P.db P.sv P.sb (⟨129, 0, (msgM P).rest, (msgM P).body⟩)) (.slice none 0 0)) (g := g4) rfl rfl isPk (pkV_one rfl) s46 rfl rfl ?_; intro w49 s49 ho49; refine Hid.out ?_)
              refine Hid.mk ?_
              clear s46
              have s50 := s45.only ho49 hn5
              clear s45
              have s51 := s47.only ho49 hn17.symm
              clear s47
              have hbt52 := hbt48.trans (ho49.below hz6)
              clear hbt48
              clear ho49
              go_wp2_with fail
              have hK : askK P.sv = 128 := by rw [Hhb40.out]; rfl
              have hS : sayK P.sv = 129 := by rw [Hhb40.out]; rfl
              have hB : echoB P = true := by unfold echoB; rw [one_usu, one_usu]; simp [Hhb9.out, Hhb26.out, Hhb33.out, Hhb41.out, Hhb42.out, HVD.out.1, HVD.out.2.1, hK]
              have hE : echoP P = pkOf P.dv P.db P.sv P.sb ⟨129, 0, (msgM P).rest, (msgM P).body⟩ := by unfold echoP; rw [if_pos hB, hS]
              refine bodyPost_ret (res_ct rfl isPk s49 (by rfl) (by rfl)) rfl ?_
              exact ⟨Eq.trans (rfl : _ = Ending.returned (.tuple #[.agg (SC 46 (pkV (pkOf P.dv P.db P.sv P.sb (⟨129, 0, (msgM P).rest, (msgM P).body⟩)) (.slice none 0 0))), .bool true])) (by rw [← HRV.out, hB, hE]), hbt52⟩
            · have Hhb42 := Hid.mk hb42
              clear hb42
              have HDhb42 := Hid.mk (of_decide_eq_false Hhb42.out)
              go_wp2_with (refine wl_value rfl (kn_n (c := true) Hhb42 (cmp_ne (m := (msgM P).code) (n := 0) rfl rfl rfl)) ?_; refine Hid.out ?_)
              refine Hid.mk ?_
              go_wp2_with (refine wl_value rfl (exec_pk0 rfl) ?_; refine Hid.out ?_)
              refine Hid.mk ?_
              go_wp2_with (refine st_stO (V := pkV zeroP (.slice none 0 0)) (g := g4) rfl rfl isPk (pkV_one rfl) s37 rfl rfl ?_; intro w53 s53 ho53; refine Hid.out ?_)
              refine Hid.mk ?_
              clear s37
              have s54 := s36.only ho53 hn5
              clear s36
              have s55 := s38.only ho53 hn17.symm
              clear s38
              have hbt56 := hbt39.trans (ho53.below hz6)
              clear hbt39
              clear ho53
              go_wp2_with fail
              have hK : askK P.sv = 128 := by rw [Hhb40.out]; rfl
              have hS : sayK P.sv = 129 := by rw [Hhb40.out]; rfl
              have hB : echoB P = false := by unfold echoB; rw [one_usu, one_usu]; simp [Hhb9.out, Hhb26.out, Hhb33.out, Hhb41.out, Hhb42.out, HVD.out.1, HVD.out.2.1, hK]
              have hE : echoP P = zeroP := by unfold echoP; rw [if_neg (by rw [hB]; decide)]
              refine bodyPost_ret (res_ct rfl isPk s53 (by rfl) (by rfl)) rfl ?_
              exact ⟨Eq.trans (rfl : _ = Ending.returned (.tuple #[.agg (SC 46 (pkV zeroP (.slice none 0 0))), .bool false])) (by rw [← HRV.out, hB, hE]), hbt56⟩
          · have Hhb41 := Hid.mk hb41
            clear hb41
            have HDhb41 := Hid.mk (of_decide_eq_false Hhb41.out)
            go_wp2_with (refine wl_value rfl (kn_n (c := true) Hhb41 (cmp_ne (m := (msgM P).typ) (n := 128) rfl rfl rfl)) ?_; refine Hid.out ?_)
            refine Hid.mk ?_
            go_wp2_with (refine wl_value rfl (exec_pk0 rfl) ?_; refine Hid.out ?_)
            refine Hid.mk ?_
            go_wp2_with (refine st_stO (V := pkV zeroP (.slice none 0 0)) (g := g4) rfl rfl isPk (pkV_one rfl) s37 rfl rfl ?_; intro w57 s57 ho57; refine Hid.out ?_)
            refine Hid.mk ?_
            clear s37
            have s58 := s36.only ho57 hn5
            clear s36
            have s59 := s38.only ho57 hn17.symm
            clear s38
            have hbt60 := hbt39.trans (ho57.below hz6)
            clear hbt39
            clear ho57
            go_wp2_with fail
            have hK : askK P.sv = 128 := by rw [Hhb40.out]; rfl
            have hS : sayK P.sv = 129 := by rw [Hhb40.out]; rfl
            have hB : echoB P = false := by unfold echoB; rw [one_usu, one_usu]; simp [Hhb9.out, Hhb26.out, Hhb33.out, Hhb41.out, HVD.out.1, HVD.out.2.1, hK]
            have hE : echoP P = zeroP := by unfold echoP; rw [if_neg (by rw [hB]; decide)]
            refine bodyPost_ret (res_ct rfl isPk s57 (by rfl) (by rfl)) rfl ?_
            exact ⟨Eq.trans (rfl : _ = Ending.returned (.tuple #[.agg (SC 46 (pkV zeroP (.slice none 0 0))), .bool false])) (by rw [← HRV.out, hB, hE]), hbt60⟩
        · have Hhb40 := Hid.mk hb40
          clear hb40
          go_wp2_with (refine wl_value rfl (kn_ (c := false) Hhb40 (exec_ld rfl rfl (ldB (SAt.at s36 0 (by decide))))) ?_; refine Hid.out ?_)
          refine Hid.mk ?_
          go_wp2_with (refine wl_value rfl (exec_fms 0 (by decide) rfl rfl) ?_; refine Hid.out ?_)
          refine Hid.mk ?_
          go_wp2_with (refine wl_value rfl (exec_ld rfl rfl (ldI (SAt.at s38 0 (by decide)))) ?_; refine Hid.out ?_)
          refine Hid.mk ?_
          rcases Bool.eq_false_or_eq_true (decide ((msgM P).typ = 8)) with hb61 | hb61
          · have Hhb61 := Hid.mk hb61
            clear hb61
            have HDhb61 := Hid.mk (of_decide_eq_true Hhb61.out)
            go_wp2_with (refine wl_value rfl (kn_n (c := false) Hhb61 (cmp_ne (m := (msgM P).typ) (n := 8) rfl rfl rfl)) ?_; refine Hid.out ?_)
            refine Hid.mk ?_
            go_wp2_with (refine wl_value rfl (exec_fms 1 (by decide) rfl rfl) ?_; refine Hid.out ?_)
            refine Hid.mk ?_
            go_wp2_with (refine wl_value rfl (exec_ld rfl rfl (ldI (SAt.at s38 1 (by decide)))) ?_; refine Hid.out ?_)
            refine Hid.mk ?_
            rcases Bool.eq_false_or_eq_true (decide ((msgM P).code = 0)) with hb62 | hb62
            · have Hhb62 := Hid.mk hb62
              clear hb62
              have HDhb62 := Hid.mk (of_decide_eq_true Hhb62.out)
              go_wp2_with (refine wl_value rfl (kn_n (c := false) Hhb62 (cmp_ne (m := (msgM P).code) (n := 0) rfl rfl rfl)) ?_; refine Hid.out ?_)
              refine Hid.mk ?_
              go_wp2_with (refine wl_value rfl (exec_fpk 1 (by decide) rfl rfl) ?_; refine Hid.out ?_)
              refine Hid.mk ?_
              go_wp2_with (refine wl_value rfl (exec_ld rfl rfl (ld_dst s36)) ?_; refine Hid.out ?_)
              refine Hid.mk ?_
              go_wp2_with (refine wl_value rfl (exec_fpk 0 (by decide) rfl rfl) ?_; refine Hid.out ?_)
              refine Hid.mk ?_
              go_wp2_with (refine wl_value rfl (exec_ld rfl rfl (ld_src s36)) ?_; refine Hid.out ?_)
              refine Hid.mk ?_
              go_wp2_with (refine wl_value rfl (exec_fms 2 (by decide) rfl rfl) ?_; refine Hid.out ?_)
              refine Hid.mk ?_
              go_wp2_with (refine wl_value rfl (exec_ld rfl rfl (ld32 (SAt.at s38 2 (by decide)))) ?_; refine Hid.out ?_)
              refine Hid.mk ?_
              go_wp2_with (refine wl_value rfl (exec_fms 3 (by decide) rfl rfl) ?_; refine Hid.out ?_)
              refine Hid.mk ?_
              go_wp2_with (refine wl_value rfl (exec_ld rfl rfl (ldS (SAt.at s38 3 (by decide)))) ?_; refine Hid.out ?_)
              refine Hid.mk ?_
              go_wp2_with (refine wl_value rfl (exec_bdMsA (n := 0) (r := (msgM P).rest) (s := (msgM P).body) rfl rfl rfl rfl) ?_; refine Hid.out ?_)
              refine Hid.mk ?_
              have HC63 : Hid (Calls Tryd.prog 46 #[.agg (SC 17 (adV P.dv P.db)), .agg (SC 17 (adV P.sv P.sb)), .agg (SC 4 (msV (⟨0, 0, (msgM P).rest, (msgM P).body⟩)))] w35 fun e w' => e = .returned (.agg (SC 46 (pkV (pkOf P.dv P.db P.sv P.sb (⟨0, 0, (msgM P).rest, (msgM P).body⟩)) (.slice none 0 0)))) ∧ Below w35.heap.size w35 w') := Hid.mk (dmade_run P.dv P.db P.sv P.sb (⟨0, 0, (msgM P).rest, (msgM P).body⟩) w35 HP.out.ok.db HP.out.ok.sb (msg_rest Hhb9.out))
              go_wp2_with (refine wl_cal en_aditref15_made HC63 rfl rfl (args3 rfl rfl rfl) ?_; intro w64 hB64; refine Hid.out ?_)
              refine Hid.mk ?_
              clear HC63
              have s65 := s36.kept hB64
              clear s36
              have s66 := s37.kept hB64
              clear s37
              have s67 := s38.kept hB64
              clear s38
              have hbt68 := hbt39.trans (hB64.mono hbt39.size)
              clear hbt39
              clear hB64
              go_wp2_with (refine st_stO (V := pkV (pkOf P.dv P.db P.sv P.sb (⟨0, 0, (msgM P).rest, (msgM P).body⟩)) (.slice none 0 0)) (g := g4) rfl rfl isPk (pkV_one rfl) s66 rfl rfl ?_; intro w69 s69 ho69; refine Hid.out ?_)
              refine Hid.mk ?_
              clear s66
              have s70 := s65.only ho69 hn5
              clear s65
              have s71 := s67.only ho69 hn17.symm
              clear s67
              have hbt72 := hbt68.trans (ho69.below hz6)
              clear hbt68
              clear ho69
              go_wp2_with fail
              have hK : askK P.sv = 8 := by rw [Hhb40.out]; rfl
              have hS : sayK P.sv = 0 := by rw [Hhb40.out]; rfl
              have hB : echoB P = true := by unfold echoB; rw [one_usu, one_usu]; simp [Hhb9.out, Hhb26.out, Hhb33.out, Hhb61.out, Hhb62.out, HVD.out.1, HVD.out.2.1, hK]
              have hE : echoP P = pkOf P.dv P.db P.sv P.sb ⟨0, 0, (msgM P).rest, (msgM P).body⟩ := by unfold echoP; rw [if_pos hB, hS]
              refine bodyPost_ret (res_ct rfl isPk s69 (by rfl) (by rfl)) rfl ?_
              exact ⟨Eq.trans (rfl : _ = Ending.returned (.tuple #[.agg (SC 46 (pkV (pkOf P.dv P.db P.sv P.sb (⟨0, 0, (msgM P).rest, (msgM P).body⟩)) (.slice none 0 0))), .bool true])) (by rw [← HRV.out, hB, hE]), hbt72⟩
            · have Hhb62 := Hid.mk hb62
              clear hb62
              have HDhb62 := Hid.mk (of_decide_eq_false Hhb62.out)
              go_wp2_with (refine wl_value rfl (kn_n (c := true) Hhb62 (cmp_ne (m := (msgM P).code) (n := 0) rfl rfl rfl)) ?_; refine Hid.out ?_)
              refine Hid.mk ?_
              go_wp2_with (refine wl_value rfl (exec_pk0 rfl) ?_; refine Hid.out ?_)
              refine Hid.mk ?_
              go_wp2_with (refine st_stO (V := pkV zeroP (.slice none 0 0)) (g := g4) rfl rfl isPk (pkV_one rfl) s37 rfl rfl ?_; intro w73 s73 ho73; refine Hid.out ?_)
              refine Hid.mk ?_
              clear s37
              have s74 := s36.only ho73 hn5
              clear s36
              have s75 := s38.only ho73 hn17.symm
              clear s38
              have hbt76 := hbt39.trans (ho73.below hz6)
              clear hbt39
              clear ho73
              go_wp2_with fail
              have hK : askK P.sv = 8 := by rw [Hhb40.out]; rfl
              have hS : sayK P.sv = 0 := by rw [Hhb40.out]; rfl
              have hB : echoB P = false := by unfold echoB; rw [one_usu, one_usu]; simp [Hhb9.out, Hhb26.out, Hhb33.out, Hhb61.out, Hhb62.out, HVD.out.1, HVD.out.2.1, hK]
              have hE : echoP P = zeroP := by unfold echoP; rw [if_neg (by rw [hB]; decide)]
              refine bodyPost_ret (res_ct rfl isPk s73 (by rfl) (by rfl)) rfl ?_
              exact ⟨Eq.trans (rfl : _ = Ending.returned (.tuple #[.agg (SC 46 (pkV zeroP (.slice none 0 0))), .bool false])) (by rw [← HRV.out, hB, hE]), hbt76⟩
          · have Hhb61 := Hid.mk hb61
            clear hb61
            have HDhb61 := Hid.mk (of_decide_eq_false Hhb61.out)
            go_wp2_with (refine wl_value rfl (kn_n (c := true) Hhb61 (cmp_ne (m := (msgM P).typ) (n := 8) rfl rfl rfl)) ?_; refine Hid.out ?_)
            refine Hid.mk ?_
            go_wp2_with (refine wl_value rfl (exec_pk0 rfl) ?_; refine Hid.out ?_)
            refine Hid.mk ?_
            go_wp2_with (refine st_stO (V := pkV zeroP (.slice none 0 0)) (g := g4) rfl rfl isPk (pkV_one rfl) s37 rfl rfl ?_; intro w77 s77 ho77; refine Hid.out ?_)
            refine Hid.mk ?_
            clear s37
            have s78 := s36.only ho77 hn5
            clear s36
            have s79 := s38.only ho77 hn17.symm
            clear s38
            have hbt80 := hbt39.trans (ho77.below hz6)
            clear hbt39
            clear ho77
            go_wp2_with fail
            have hK : askK P.sv = 8 := by rw [Hhb40.out]; rfl
            have hS : sayK P.sv = 0 := by rw [Hhb40.out]; rfl
            have hB : echoB P = false := by unfold echoB; rw [one_usu, one_usu]; simp [Hhb9.out, Hhb26.out, Hhb33.out, Hhb61.out, HVD.out.1, HVD.out.2.1, hK]
            have hE : echoP P = zeroP := by unfold echoP; rw [if_neg (by rw [hB]; decide)]
            refine bodyPost_ret (res_ct rfl isPk s77 (by rfl) (by rfl)) rfl ?_
            exact ⟨Eq.trans (rfl : _ = Ending.returned (.tuple #[.agg (SC 46 (pkV zeroP (.slice none 0 0))), .bool false])) (by rw [← HRV.out, hB, hE]), hbt80⟩
      · have Hhb33 := Hid.mk hb33
        clear hb33
        have HC81 : Hid (Calls Tryd.prog 45 #[.agg (SC 17 (adV P.dv P.db))] w28 fun e w' => e = .returned (.bool false) ∧ Below w28.heap.size w28 w') := Hid.mk (by have h := dusual_run P.dv P.db w28; rw [Hhb33.out] at h; exact h)
        go_wp2_with (refine wl_cal en_aditref15_usual HC81 rfl rfl (args1 rfl) ?_; intro w82 hB82; refine Hid.out ?_)
        refine Hid.mk ?_
        clear HC81
        have s83 := s29.kept hB82
        clear s29
        have s84 := s30.kept hB82
        clear s30
        have s85 := s31.kept hB82
        clear s31
        have hbt86 := hbt32.trans (hB82.mono hbt32.size)
        clear hbt32
        clear hB82
        go_wp2_with (refine wl_value rfl (exec_fpk 0 (by decide) rfl rfl) ?_; refine Hid.out ?_)
        refine Hid.mk ?_
        go_wp2_with (refine wl_value rfl (exec_fad0 rfl rfl) ?_; refine Hid.out ?_)
        refine Hid.mk ?_
        rcases Bool.eq_false_or_eq_true (P.sv) with hb87 | hb87
        · have Hhb87 := Hid.mk hb87
          clear hb87
          go_wp2_with (refine wl_value rfl (kn_ (c := true) Hhb87 (exec_ld rfl rfl (ldB (SAt.at s83 0 (by decide))))) ?_; refine Hid.out ?_)
          refine Hid.mk ?_
          go_wp2_with (refine wl_value rfl (exec_pk0 rfl) ?_; refine Hid.out ?_)
          refine Hid.mk ?_
          go_wp2_with (refine st_stO (V := pkV zeroP (.slice none 0 0)) (g := g4) rfl rfl isPk (pkV_one rfl) s84 rfl rfl ?_; intro w88 s88 ho88; refine Hid.out ?_)
          refine Hid.mk ?_
          clear s84
          have s89 := s83.only ho88 hn5
          clear s83
          have s90 := s85.only ho88 hn17.symm
          clear s85
          have hbt91 := hbt86.trans (ho88.below hz6)
          clear hbt86
          clear ho88
          go_wp2_with fail
          have hK : askK P.sv = 128 := by rw [Hhb87.out]; rfl
          have hS : sayK P.sv = 129 := by rw [Hhb87.out]; rfl
          have hB : echoB P = false := by unfold echoB; rw [one_usu, one_usu]; simp [Hhb9.out, Hhb26.out, Hhb33.out, HVD.out.1, HVD.out.2.1, hK]
          have hE : echoP P = zeroP := by unfold echoP; rw [if_neg (by rw [hB]; decide)]
          refine bodyPost_ret (res_ct rfl isPk s88 (by rfl) (by rfl)) rfl ?_
          exact ⟨Eq.trans (rfl : _ = Ending.returned (.tuple #[.agg (SC 46 (pkV zeroP (.slice none 0 0))), .bool false])) (by rw [← HRV.out, hB, hE]), hbt91⟩
        · have Hhb87 := Hid.mk hb87
          clear hb87
          go_wp2_with (refine wl_value rfl (kn_ (c := false) Hhb87 (exec_ld rfl rfl (ldB (SAt.at s83 0 (by decide))))) ?_; refine Hid.out ?_)
          refine Hid.mk ?_
          go_wp2_with (refine wl_value rfl (exec_pk0 rfl) ?_; refine Hid.out ?_)
          refine Hid.mk ?_
          go_wp2_with (refine st_stO (V := pkV zeroP (.slice none 0 0)) (g := g4) rfl rfl isPk (pkV_one rfl) s84 rfl rfl ?_; intro w92 s92 ho92; refine Hid.out ?_)
          refine Hid.mk ?_
          clear s84
          have s93 := s83.only ho92 hn5
          clear s83
          have s94 := s85.only ho92 hn17.symm
          clear s85
          have hbt95 := hbt86.trans (ho92.below hz6)
          clear hbt86
          clear ho92
          go_wp2_with fail
          have hK : askK P.sv = 8 := by rw [Hhb87.out]; rfl
          have hS : sayK P.sv = 0 := by rw [Hhb87.out]; rfl
          have hB : echoB P = false := by unfold echoB; rw [one_usu, one_usu]; simp [Hhb9.out, Hhb26.out, Hhb33.out, HVD.out.1, HVD.out.2.1, hK]
          have hE : echoP P = zeroP := by unfold echoP; rw [if_neg (by rw [hB]; decide)]
          refine bodyPost_ret (res_ct rfl isPk s92 (by rfl) (by rfl)) rfl ?_
          exact ⟨Eq.trans (rfl : _ = Ending.returned (.tuple #[.agg (SC 46 (pkV zeroP (.slice none 0 0))), .bool false])) (by rw [← HRV.out, hB, hE]), hbt95⟩
    · have Hhb26 := Hid.mk hb26
      clear hb26
      have HC96 : Hid (Calls Tryd.prog 45 #[.agg (SC 17 (adV P.sv P.sb))] w22 fun e w' => e = .returned (.bool false) ∧ Below w22.heap.size w22 w') := Hid.mk (by have h := dusual_run P.sv P.sb w22; rw [Hhb26.out] at h; exact h)
      go_wp2_with (refine wl_cal en_aditref15_usual HC96 rfl rfl (args1 rfl) ?_; intro w97 hB97; refine Hid.out ?_)
      refine Hid.mk ?_
      clear HC96
      have s98 := s23.kept hB97
      clear s23
      have s99 := s24.kept hB97
      clear s24
      have s100 := s22.kept hB97
      clear s22
      have hbt101 := hbt25.trans (hB97.mono hbt25.size)
      clear hbt25
      clear hB97
      go_wp2_with (refine wl_value rfl (exec_fpk 1 (by decide) rfl rfl) ?_; refine Hid.out ?_)
      refine Hid.mk ?_
      go_wp2_with (refine wl_value rfl (exec_ld rfl rfl (ld_dst s98)) ?_; refine Hid.out ?_)
      refine Hid.mk ?_
      rcases Bool.eq_false_or_eq_true (usuB P.dv P.db) with hb102 | hb102
      · have Hhb102 := Hid.mk hb102
        clear hb102
        have HC103 : Hid (Calls Tryd.prog 45 #[.agg (SC 17 (adV P.dv P.db))] w97 fun e w' => e = .returned (.bool true) ∧ Below w97.heap.size w97 w') := Hid.mk (by have h := dusual_run P.dv P.db w97; rw [Hhb102.out] at h; exact h)
        go_wp2_with (refine wl_cal en_aditref15_usual HC103 rfl rfl (args1 rfl) ?_; intro w104 hB104; refine Hid.out ?_)
        refine Hid.mk ?_
        clear HC103
        have s105 := s98.kept hB104
        clear s98
        have s106 := s99.kept hB104
        clear s99
        have s107 := s100.kept hB104
        clear s100
        have hbt108 := hbt101.trans (hB104.mono hbt101.size)
        clear hbt101
        clear hB104
        go_wp2_with (refine wl_value rfl (exec_fpk 0 (by decide) rfl rfl) ?_; refine Hid.out ?_)
        refine Hid.mk ?_
        go_wp2_with (refine wl_value rfl (exec_fad0 rfl rfl) ?_; refine Hid.out ?_)
        refine Hid.mk ?_
        rcases Bool.eq_false_or_eq_true (P.sv) with hb109 | hb109
        · have Hhb109 := Hid.mk hb109
          clear hb109
          go_wp2_with (refine wl_value rfl (kn_ (c := true) Hhb109 (exec_ld rfl rfl (ldB (SAt.at s105 0 (by decide))))) ?_; refine Hid.out ?_)
          refine Hid.mk ?_
          go_wp2_with (refine wl_value rfl (exec_pk0 rfl) ?_; refine Hid.out ?_)
          refine Hid.mk ?_
          go_wp2_with (refine st_stO (V := pkV zeroP (.slice none 0 0)) (g := g4) rfl rfl isPk (pkV_one rfl) s106 rfl rfl ?_; intro w110 s110 ho110; refine Hid.out ?_)
          refine Hid.mk ?_
          clear s106
          have s111 := s105.only ho110 hn5
          clear s105
          have s112 := s107.only ho110 hn17.symm
          clear s107
          have hbt113 := hbt108.trans (ho110.below hz6)
          clear hbt108
          clear ho110
          go_wp2_with fail
          have hK : askK P.sv = 128 := by rw [Hhb109.out]; rfl
          have hS : sayK P.sv = 129 := by rw [Hhb109.out]; rfl
          have hB : echoB P = false := by unfold echoB; rw [one_usu, one_usu]; simp [Hhb9.out, Hhb26.out, Hhb102.out, HVD.out.1, HVD.out.2.1, hK]
          have hE : echoP P = zeroP := by unfold echoP; rw [if_neg (by rw [hB]; decide)]
          refine bodyPost_ret (res_ct rfl isPk s110 (by rfl) (by rfl)) rfl ?_
          exact ⟨Eq.trans (rfl : _ = Ending.returned (.tuple #[.agg (SC 46 (pkV zeroP (.slice none 0 0))), .bool false])) (by rw [← HRV.out, hB, hE]), hbt113⟩
        · have Hhb109 := Hid.mk hb109
          clear hb109
          go_wp2_with (refine wl_value rfl (kn_ (c := false) Hhb109 (exec_ld rfl rfl (ldB (SAt.at s105 0 (by decide))))) ?_; refine Hid.out ?_)
          refine Hid.mk ?_
          go_wp2_with (refine wl_value rfl (exec_pk0 rfl) ?_; refine Hid.out ?_)
          refine Hid.mk ?_
          go_wp2_with (refine st_stO (V := pkV zeroP (.slice none 0 0)) (g := g4) rfl rfl isPk (pkV_one rfl) s106 rfl rfl ?_; intro w114 s114 ho114; refine Hid.out ?_)
          refine Hid.mk ?_
          clear s106
          have s115 := s105.only ho114 hn5
          clear s105
          have s116 := s107.only ho114 hn17.symm
          clear s107
          have hbt117 := hbt108.trans (ho114.below hz6)
          clear hbt108
          clear ho114
          go_wp2_with fail
          have hK : askK P.sv = 8 := by rw [Hhb109.out]; rfl
          have hS : sayK P.sv = 0 := by rw [Hhb109.out]; rfl
          have hB : echoB P = false := by unfold echoB; rw [one_usu, one_usu]; simp [Hhb9.out, Hhb26.out, Hhb102.out, HVD.out.1, HVD.out.2.1, hK]
          have hE : echoP P = zeroP := by unfold echoP; rw [if_neg (by rw [hB]; decide)]
          refine bodyPost_ret (res_ct rfl isPk s114 (by rfl) (by rfl)) rfl ?_
          exact ⟨Eq.trans (rfl : _ = Ending.returned (.tuple #[.agg (SC 46 (pkV zeroP (.slice none 0 0))), .bool false])) (by rw [← HRV.out, hB, hE]), hbt117⟩
      · have Hhb102 := Hid.mk hb102
        clear hb102
        have HC118 : Hid (Calls Tryd.prog 45 #[.agg (SC 17 (adV P.dv P.db))] w97 fun e w' => e = .returned (.bool false) ∧ Below w97.heap.size w97 w') := Hid.mk (by have h := dusual_run P.dv P.db w97; rw [Hhb102.out] at h; exact h)
        go_wp2_with (refine wl_cal en_aditref15_usual HC118 rfl rfl (args1 rfl) ?_; intro w119 hB119; refine Hid.out ?_)
        refine Hid.mk ?_
        clear HC118
        have s120 := s98.kept hB119
        clear s98
        have s121 := s99.kept hB119
        clear s99
        have s122 := s100.kept hB119
        clear s100
        have hbt123 := hbt101.trans (hB119.mono hbt101.size)
        clear hbt101
        clear hB119
        go_wp2_with (refine wl_value rfl (exec_fpk 0 (by decide) rfl rfl) ?_; refine Hid.out ?_)
        refine Hid.mk ?_
        go_wp2_with (refine wl_value rfl (exec_fad0 rfl rfl) ?_; refine Hid.out ?_)
        refine Hid.mk ?_
        rcases Bool.eq_false_or_eq_true (P.sv) with hb124 | hb124
        · have Hhb124 := Hid.mk hb124
          clear hb124
          go_wp2_with (refine wl_value rfl (kn_ (c := true) Hhb124 (exec_ld rfl rfl (ldB (SAt.at s120 0 (by decide))))) ?_; refine Hid.out ?_)
          refine Hid.mk ?_
          go_wp2_with (refine wl_value rfl (exec_pk0 rfl) ?_; refine Hid.out ?_)
          refine Hid.mk ?_
          go_wp2_with (refine st_stO (V := pkV zeroP (.slice none 0 0)) (g := g4) rfl rfl isPk (pkV_one rfl) s121 rfl rfl ?_; intro w125 s125 ho125; refine Hid.out ?_)
          refine Hid.mk ?_
          clear s121
          have s126 := s120.only ho125 hn5
          clear s120
          have s127 := s122.only ho125 hn17.symm
          clear s122
          have hbt128 := hbt123.trans (ho125.below hz6)
          clear hbt123
          clear ho125
          go_wp2_with fail
          have hK : askK P.sv = 128 := by rw [Hhb124.out]; rfl
          have hS : sayK P.sv = 129 := by rw [Hhb124.out]; rfl
          have hB : echoB P = false := by unfold echoB; rw [one_usu, one_usu]; simp [Hhb9.out, Hhb26.out, Hhb102.out, HVD.out.1, HVD.out.2.1, hK]
          have hE : echoP P = zeroP := by unfold echoP; rw [if_neg (by rw [hB]; decide)]
          refine bodyPost_ret (res_ct rfl isPk s125 (by rfl) (by rfl)) rfl ?_
          exact ⟨Eq.trans (rfl : _ = Ending.returned (.tuple #[.agg (SC 46 (pkV zeroP (.slice none 0 0))), .bool false])) (by rw [← HRV.out, hB, hE]), hbt128⟩
        · have Hhb124 := Hid.mk hb124
          clear hb124
          go_wp2_with (refine wl_value rfl (kn_ (c := false) Hhb124 (exec_ld rfl rfl (ldB (SAt.at s120 0 (by decide))))) ?_; refine Hid.out ?_)
          refine Hid.mk ?_
          go_wp2_with (refine wl_value rfl (exec_pk0 rfl) ?_; refine Hid.out ?_)
          refine Hid.mk ?_
          go_wp2_with (refine st_stO (V := pkV zeroP (.slice none 0 0)) (g := g4) rfl rfl isPk (pkV_one rfl) s121 rfl rfl ?_; intro w129 s129 ho129; refine Hid.out ?_)
          refine Hid.mk ?_
          clear s121
          have s130 := s120.only ho129 hn5
          clear s120
          have s131 := s122.only ho129 hn17.symm
          clear s122
          have hbt132 := hbt123.trans (ho129.below hz6)
          clear hbt123
          clear ho129
          go_wp2_with fail
          have hK : askK P.sv = 8 := by rw [Hhb124.out]; rfl
          have hS : sayK P.sv = 0 := by rw [Hhb124.out]; rfl
          have hB : echoB P = false := by unfold echoB; rw [one_usu, one_usu]; simp [Hhb9.out, Hhb26.out, Hhb102.out, HVD.out.1, HVD.out.2.1, hK]
          have hE : echoP P = zeroP := by unfold echoP; rw [if_neg (by rw [hB]; decide)]
          refine bodyPost_ret (res_ct rfl isPk s129 (by rfl) (by rfl)) rfl ?_
          exact ⟨Eq.trans (rfl : _ = Ending.returned (.tuple #[.agg (SC 46 (pkV zeroP (.slice none 0 0))), .bool false])) (by rw [← HRV.out, hB, hE]), hbt132⟩
  · have Hhb9 := Hid.mk hb9
    clear hb9
    have HC133 : Hid (Calls Tryd.prog 44 #[.agg (SC 46 (pkV P vx))] w4 fun e w' => e = .returned (.tuple #[.agg (SC 4 (msV (msgM P))), .bool false]) ∧ Below w4.heap.size w4 w') := Hid.mk (by have h := dmsg_run P vx w4 (ExAt.kept HX.out hbt8) HP.out; rw [Hhb9.out] at h; exact h)
    go_wp2_with (refine wl_cal en_aditref15_message HC133 rfl rfl (args1 rfl) ?_; intro w134 hB134; refine Hid.out ?_)
    refine Hid.mk ?_
    clear HC133
    have s135 := s7.kept hB134
    clear s7
    have s136 := s4.kept hB134
    clear s4
    have hbt137 := hbt8.trans (hB134.mono hbt8.size)
    clear hbt8
    clear hB134
    go_wp2_with (refine wl_alO (V := msV ms0) rfl rfl zeroMs ?_; intro g138 w138 hg138 s138 hB138; refine Hid.out ?_)
    refine Hid.mk ?_
    have hn139 : g1 ≠ g138 := by have := s135.lt; omega
    have hn140 : g4 ≠ g138 := by have := s136.lt; omega
    have hz141 : w.heap.size ≤ g138 := by have := hbt137.size; omega
    have s142 := s135.kept hB138
    clear s135
    have s143 := s136.kept hB138
    clear s136
    have hbt144 := hbt137.trans (hB138.mono hbt137.size)
    clear hbt137
    clear hB138 hg138
    go_wp2_with (refine st_stO (V := msV (msgM P)) (g := g138) rfl rfl isMs (msV_one _) s138 rfl rfl ?_; intro w145 s145 ho145; refine Hid.out ?_)
    refine Hid.mk ?_
    clear s138
    have s146 := s142.only ho145 hn139
    clear s142
    have s147 := s143.only ho145 hn140
    clear s143
    have hbt148 := hbt144.trans (ho145.below hz141)
    clear hbt144
    clear ho145
    go_wp2_with (refine wl_value rfl (exec_fpk 0 (by decide) rfl rfl) ?_; refine Hid.out ?_)
    refine Hid.mk ?_
    go_wp2_with (refine wl_value rfl (exec_ld rfl rfl (ld_src s146)) ?_; refine Hid.out ?_)
    refine Hid.mk ?_
    rcases Bool.eq_false_or_eq_true (usuB P.sv P.sb) with hb149 | hb149
    · have Hhb149 := Hid.mk hb149
      clear hb149
      have HC150 : Hid (Calls Tryd.prog 45 #[.agg (SC 17 (adV P.sv P.sb))] w145 fun e w' => e = .returned (.bool true) ∧ Below w145.heap.size w145 w') := Hid.mk (by have h := dusual_run P.sv P.sb w145; rw [Hhb149.out] at h; exact h)
      go_wp2_with (refine wl_cal en_aditref15_usual HC150 rfl rfl (args1 rfl) ?_; intro w151 hB151; refine Hid.out ?_)
      refine Hid.mk ?_
      clear HC150
      have s152 := s146.kept hB151
      clear s146
      have s153 := s147.kept hB151
      clear s147
      have s154 := s145.kept hB151
      clear s145
      have hbt155 := hbt148.trans (hB151.mono hbt148.size)
      clear hbt148
      clear hB151
      go_wp2_with (refine wl_value rfl (exec_fpk 1 (by decide) rfl rfl) ?_; refine Hid.out ?_)
      refine Hid.mk ?_
      go_wp2_with (refine wl_value rfl (exec_ld rfl rfl (ld_dst s152)) ?_; refine Hid.out ?_)
      refine Hid.mk ?_
      rcases Bool.eq_false_or_eq_true (usuB P.dv P.db) with hb156 | hb156
      · have Hhb156 := Hid.mk hb156
        clear hb156
        have HC157 : Hid (Calls Tryd.prog 45 #[.agg (SC 17 (adV P.dv P.db))] w151 fun e w' => e = .returned (.bool true) ∧ Below w151.heap.size w151 w') := Hid.mk (by have h := dusual_run P.dv P.db w151; rw [Hhb156.out] at h; exact h)
        go_wp2_with (refine wl_cal en_aditref15_usual HC157 rfl rfl (args1 rfl) ?_; intro w158 hB158; refine Hid.out ?_)
        refine Hid.mk ?_
        clear HC157
        have s159 := s152.kept hB158
        clear s152
        have s160 := s153.kept hB158
        clear s153
        have s161 := s154.kept hB158
        clear s154
        have hbt162 := hbt155.trans (hB158.mono hbt155.size)
        clear hbt155
        clear hB158
        go_wp2_with (refine wl_value rfl (exec_fpk 0 (by decide) rfl rfl) ?_; refine Hid.out ?_)
        refine Hid.mk ?_
        go_wp2_with (refine wl_value rfl (exec_fad0 rfl rfl) ?_; refine Hid.out ?_)
        refine Hid.mk ?_
        rcases Bool.eq_false_or_eq_true (P.sv) with hb163 | hb163
        · have Hhb163 := Hid.mk hb163
          clear hb163
          go_wp2_with (refine wl_value rfl (kn_ (c := true) Hhb163 (exec_ld rfl rfl (ldB (SAt.at s159 0 (by decide))))) ?_; refine Hid.out ?_)
          refine Hid.mk ?_
          go_wp2_with (refine wl_value rfl (exec_pk0 rfl) ?_; refine Hid.out ?_)
          refine Hid.mk ?_
          go_wp2_with (refine st_stO (V := pkV zeroP (.slice none 0 0)) (g := g4) rfl rfl isPk (pkV_one rfl) s160 rfl rfl ?_; intro w164 s164 ho164; refine Hid.out ?_)
          refine Hid.mk ?_
          clear s160
          have s165 := s159.only ho164 hn5
          clear s159
          have s166 := s161.only ho164 hn140.symm
          clear s161
          have hbt167 := hbt162.trans (ho164.below hz6)
          clear hbt162
          clear ho164
          go_wp2_with fail
          have hK : askK P.sv = 128 := by rw [Hhb163.out]; rfl
          have hS : sayK P.sv = 129 := by rw [Hhb163.out]; rfl
          have hB : echoB P = false := by unfold echoB; rw [one_usu, one_usu]; simp [Hhb9.out, Hhb149.out, Hhb156.out, hK]
          have hE : echoP P = zeroP := by unfold echoP; rw [if_neg (by rw [hB]; decide)]
          refine bodyPost_ret (res_ct rfl isPk s164 (by rfl) (by rfl)) rfl ?_
          exact ⟨Eq.trans (rfl : _ = Ending.returned (.tuple #[.agg (SC 46 (pkV zeroP (.slice none 0 0))), .bool false])) (by rw [← HRV.out, hB, hE]), hbt167⟩
        · have Hhb163 := Hid.mk hb163
          clear hb163
          go_wp2_with (refine wl_value rfl (kn_ (c := false) Hhb163 (exec_ld rfl rfl (ldB (SAt.at s159 0 (by decide))))) ?_; refine Hid.out ?_)
          refine Hid.mk ?_
          go_wp2_with (refine wl_value rfl (exec_pk0 rfl) ?_; refine Hid.out ?_)
          refine Hid.mk ?_
          go_wp2_with (refine st_stO (V := pkV zeroP (.slice none 0 0)) (g := g4) rfl rfl isPk (pkV_one rfl) s160 rfl rfl ?_; intro w168 s168 ho168; refine Hid.out ?_)
          refine Hid.mk ?_
          clear s160
          have s169 := s159.only ho168 hn5
          clear s159
          have s170 := s161.only ho168 hn140.symm
          clear s161
          have hbt171 := hbt162.trans (ho168.below hz6)
          clear hbt162
          clear ho168
          go_wp2_with fail
          have hK : askK P.sv = 8 := by rw [Hhb163.out]; rfl
          have hS : sayK P.sv = 0 := by rw [Hhb163.out]; rfl
          have hB : echoB P = false := by unfold echoB; rw [one_usu, one_usu]; simp [Hhb9.out, Hhb149.out, Hhb156.out, hK]
          have hE : echoP P = zeroP := by unfold echoP; rw [if_neg (by rw [hB]; decide)]
          refine bodyPost_ret (res_ct rfl isPk s168 (by rfl) (by rfl)) rfl ?_
          exact ⟨Eq.trans (rfl : _ = Ending.returned (.tuple #[.agg (SC 46 (pkV zeroP (.slice none 0 0))), .bool false])) (by rw [← HRV.out, hB, hE]), hbt171⟩
      · have Hhb156 := Hid.mk hb156
        clear hb156
        have HC172 : Hid (Calls Tryd.prog 45 #[.agg (SC 17 (adV P.dv P.db))] w151 fun e w' => e = .returned (.bool false) ∧ Below w151.heap.size w151 w') := Hid.mk (by have h := dusual_run P.dv P.db w151; rw [Hhb156.out] at h; exact h)
        go_wp2_with (refine wl_cal en_aditref15_usual HC172 rfl rfl (args1 rfl) ?_; intro w173 hB173; refine Hid.out ?_)
        refine Hid.mk ?_
        clear HC172
        have s174 := s152.kept hB173
        clear s152
        have s175 := s153.kept hB173
        clear s153
        have s176 := s154.kept hB173
        clear s154
        have hbt177 := hbt155.trans (hB173.mono hbt155.size)
        clear hbt155
        clear hB173
        go_wp2_with (refine wl_value rfl (exec_fpk 0 (by decide) rfl rfl) ?_; refine Hid.out ?_)
        refine Hid.mk ?_
        go_wp2_with (refine wl_value rfl (exec_fad0 rfl rfl) ?_; refine Hid.out ?_)
        refine Hid.mk ?_
        rcases Bool.eq_false_or_eq_true (P.sv) with hb178 | hb178
        · have Hhb178 := Hid.mk hb178
          clear hb178
          go_wp2_with (refine wl_value rfl (kn_ (c := true) Hhb178 (exec_ld rfl rfl (ldB (SAt.at s174 0 (by decide))))) ?_; refine Hid.out ?_)
          refine Hid.mk ?_
          go_wp2_with (refine wl_value rfl (exec_pk0 rfl) ?_; refine Hid.out ?_)
          refine Hid.mk ?_
          go_wp2_with (refine st_stO (V := pkV zeroP (.slice none 0 0)) (g := g4) rfl rfl isPk (pkV_one rfl) s175 rfl rfl ?_; intro w179 s179 ho179; refine Hid.out ?_)
          refine Hid.mk ?_
          clear s175
          have s180 := s174.only ho179 hn5
          clear s174
          have s181 := s176.only ho179 hn140.symm
          clear s176
          have hbt182 := hbt177.trans (ho179.below hz6)
          clear hbt177
          clear ho179
          go_wp2_with fail
          have hK : askK P.sv = 128 := by rw [Hhb178.out]; rfl
          have hS : sayK P.sv = 129 := by rw [Hhb178.out]; rfl
          have hB : echoB P = false := by unfold echoB; rw [one_usu, one_usu]; simp [Hhb9.out, Hhb149.out, Hhb156.out, hK]
          have hE : echoP P = zeroP := by unfold echoP; rw [if_neg (by rw [hB]; decide)]
          refine bodyPost_ret (res_ct rfl isPk s179 (by rfl) (by rfl)) rfl ?_
          exact ⟨Eq.trans (rfl : _ = Ending.returned (.tuple #[.agg (SC 46 (pkV zeroP (.slice none 0 0))), .bool false])) (by rw [← HRV.out, hB, hE]), hbt182⟩
        · have Hhb178 := Hid.mk hb178
          clear hb178
          go_wp2_with (refine wl_value rfl (kn_ (c := false) Hhb178 (exec_ld rfl rfl (ldB (SAt.at s174 0 (by decide))))) ?_; refine Hid.out ?_)
          refine Hid.mk ?_
          go_wp2_with (refine wl_value rfl (exec_pk0 rfl) ?_; refine Hid.out ?_)
          refine Hid.mk ?_
          go_wp2_with (refine st_stO (V := pkV zeroP (.slice none 0 0)) (g := g4) rfl rfl isPk (pkV_one rfl) s175 rfl rfl ?_; intro w183 s183 ho183; refine Hid.out ?_)
          refine Hid.mk ?_
          clear s175
          have s184 := s174.only ho183 hn5
          clear s174
          have s185 := s176.only ho183 hn140.symm
          clear s176
          have hbt186 := hbt177.trans (ho183.below hz6)
          clear hbt177
          clear ho183
          go_wp2_with fail
          have hK : askK P.sv = 8 := by rw [Hhb178.out]; rfl
          have hS : sayK P.sv = 0 := by rw [Hhb178.out]; rfl
          have hB : echoB P = false := by unfold echoB; rw [one_usu, one_usu]; simp [Hhb9.out, Hhb149.out, Hhb156.out, hK]
          have hE : echoP P = zeroP := by unfold echoP; rw [if_neg (by rw [hB]; decide)]
          refine bodyPost_ret (res_ct rfl isPk s183 (by rfl) (by rfl)) rfl ?_
          exact ⟨Eq.trans (rfl : _ = Ending.returned (.tuple #[.agg (SC 46 (pkV zeroP (.slice none 0 0))), .bool false])) (by rw [← HRV.out, hB, hE]), hbt186⟩
    · have Hhb149 := Hid.mk hb149
      clear hb149
      have HC187 : Hid (Calls Tryd.prog 45 #[.agg (SC 17 (adV P.sv P.sb))] w145 fun e w' => e = .returned (.bool false) ∧ Below w145.heap.size w145 w') := Hid.mk (by have h := dusual_run P.sv P.sb w145; rw [Hhb149.out] at h; exact h)
      go_wp2_with (refine wl_cal en_aditref15_usual HC187 rfl rfl (args1 rfl) ?_; intro w188 hB188; refine Hid.out ?_)
      refine Hid.mk ?_
      clear HC187
      have s189 := s146.kept hB188
      clear s146
      have s190 := s147.kept hB188
      clear s147
      have s191 := s145.kept hB188
      clear s145
      have hbt192 := hbt148.trans (hB188.mono hbt148.size)
      clear hbt148
      clear hB188
      go_wp2_with (refine wl_value rfl (exec_fpk 1 (by decide) rfl rfl) ?_; refine Hid.out ?_)
      refine Hid.mk ?_
      go_wp2_with (refine wl_value rfl (exec_ld rfl rfl (ld_dst s189)) ?_; refine Hid.out ?_)
      refine Hid.mk ?_
      rcases Bool.eq_false_or_eq_true (usuB P.dv P.db) with hb193 | hb193
      · have Hhb193 := Hid.mk hb193
        clear hb193
        have HC194 : Hid (Calls Tryd.prog 45 #[.agg (SC 17 (adV P.dv P.db))] w188 fun e w' => e = .returned (.bool true) ∧ Below w188.heap.size w188 w') := Hid.mk (by have h := dusual_run P.dv P.db w188; rw [Hhb193.out] at h; exact h)
        go_wp2_with (refine wl_cal en_aditref15_usual HC194 rfl rfl (args1 rfl) ?_; intro w195 hB195; refine Hid.out ?_)
        refine Hid.mk ?_
        clear HC194
        have s196 := s189.kept hB195
        clear s189
        have s197 := s190.kept hB195
        clear s190
        have s198 := s191.kept hB195
        clear s191
        have hbt199 := hbt192.trans (hB195.mono hbt192.size)
        clear hbt192
        clear hB195
        go_wp2_with (refine wl_value rfl (exec_fpk 0 (by decide) rfl rfl) ?_; refine Hid.out ?_)
        refine Hid.mk ?_
        go_wp2_with (refine wl_value rfl (exec_fad0 rfl rfl) ?_; refine Hid.out ?_)
        refine Hid.mk ?_
        rcases Bool.eq_false_or_eq_true (P.sv) with hb200 | hb200
        · have Hhb200 := Hid.mk hb200
          clear hb200
          go_wp2_with (refine wl_value rfl (kn_ (c := true) Hhb200 (exec_ld rfl rfl (ldB (SAt.at s196 0 (by decide))))) ?_; refine Hid.out ?_)
          refine Hid.mk ?_
          go_wp2_with (refine wl_value rfl (exec_pk0 rfl) ?_; refine Hid.out ?_)
          refine Hid.mk ?_
          go_wp2_with (refine st_stO (V := pkV zeroP (.slice none 0 0)) (g := g4) rfl rfl isPk (pkV_one rfl) s197 rfl rfl ?_; intro w201 s201 ho201; refine Hid.out ?_)
          refine Hid.mk ?_
          clear s197
          have s202 := s196.only ho201 hn5
          clear s196
          have s203 := s198.only ho201 hn140.symm
          clear s198
          have hbt204 := hbt199.trans (ho201.below hz6)
          clear hbt199
          clear ho201
          go_wp2_with fail
          have hK : askK P.sv = 128 := by rw [Hhb200.out]; rfl
          have hS : sayK P.sv = 129 := by rw [Hhb200.out]; rfl
          have hB : echoB P = false := by unfold echoB; rw [one_usu, one_usu]; simp [Hhb9.out, Hhb149.out, Hhb193.out, hK]
          have hE : echoP P = zeroP := by unfold echoP; rw [if_neg (by rw [hB]; decide)]
          refine bodyPost_ret (res_ct rfl isPk s201 (by rfl) (by rfl)) rfl ?_
          exact ⟨Eq.trans (rfl : _ = Ending.returned (.tuple #[.agg (SC 46 (pkV zeroP (.slice none 0 0))), .bool false])) (by rw [← HRV.out, hB, hE]), hbt204⟩
        · have Hhb200 := Hid.mk hb200
          clear hb200
          go_wp2_with (refine wl_value rfl (kn_ (c := false) Hhb200 (exec_ld rfl rfl (ldB (SAt.at s196 0 (by decide))))) ?_; refine Hid.out ?_)
          refine Hid.mk ?_
          go_wp2_with (refine wl_value rfl (exec_pk0 rfl) ?_; refine Hid.out ?_)
          refine Hid.mk ?_
          go_wp2_with (refine st_stO (V := pkV zeroP (.slice none 0 0)) (g := g4) rfl rfl isPk (pkV_one rfl) s197 rfl rfl ?_; intro w205 s205 ho205; refine Hid.out ?_)
          refine Hid.mk ?_
          clear s197
          have s206 := s196.only ho205 hn5
          clear s196
          have s207 := s198.only ho205 hn140.symm
          clear s198
          have hbt208 := hbt199.trans (ho205.below hz6)
          clear hbt199
          clear ho205
          go_wp2_with fail
          have hK : askK P.sv = 8 := by rw [Hhb200.out]; rfl
          have hS : sayK P.sv = 0 := by rw [Hhb200.out]; rfl
          have hB : echoB P = false := by unfold echoB; rw [one_usu, one_usu]; simp [Hhb9.out, Hhb149.out, Hhb193.out, hK]
          have hE : echoP P = zeroP := by unfold echoP; rw [if_neg (by rw [hB]; decide)]
          refine bodyPost_ret (res_ct rfl isPk s205 (by rfl) (by rfl)) rfl ?_
          exact ⟨Eq.trans (rfl : _ = Ending.returned (.tuple #[.agg (SC 46 (pkV zeroP (.slice none 0 0))), .bool false])) (by rw [← HRV.out, hB, hE]), hbt208⟩
      · have Hhb193 := Hid.mk hb193
        clear hb193
        have HC209 : Hid (Calls Tryd.prog 45 #[.agg (SC 17 (adV P.dv P.db))] w188 fun e w' => e = .returned (.bool false) ∧ Below w188.heap.size w188 w') := Hid.mk (by have h := dusual_run P.dv P.db w188; rw [Hhb193.out] at h; exact h)
        go_wp2_with (refine wl_cal en_aditref15_usual HC209 rfl rfl (args1 rfl) ?_; intro w210 hB210; refine Hid.out ?_)
        refine Hid.mk ?_
        clear HC209
        have s211 := s189.kept hB210
        clear s189
        have s212 := s190.kept hB210
        clear s190
        have s213 := s191.kept hB210
        clear s191
        have hbt214 := hbt192.trans (hB210.mono hbt192.size)
        clear hbt192
        clear hB210
        go_wp2_with (refine wl_value rfl (exec_fpk 0 (by decide) rfl rfl) ?_; refine Hid.out ?_)
        refine Hid.mk ?_
        go_wp2_with (refine wl_value rfl (exec_fad0 rfl rfl) ?_; refine Hid.out ?_)
        refine Hid.mk ?_
        rcases Bool.eq_false_or_eq_true (P.sv) with hb215 | hb215
        · have Hhb215 := Hid.mk hb215
          clear hb215
          go_wp2_with (refine wl_value rfl (kn_ (c := true) Hhb215 (exec_ld rfl rfl (ldB (SAt.at s211 0 (by decide))))) ?_; refine Hid.out ?_)
          refine Hid.mk ?_
          go_wp2_with (refine wl_value rfl (exec_pk0 rfl) ?_; refine Hid.out ?_)
          refine Hid.mk ?_
          go_wp2_with (refine st_stO (V := pkV zeroP (.slice none 0 0)) (g := g4) rfl rfl isPk (pkV_one rfl) s212 rfl rfl ?_; intro w216 s216 ho216; refine Hid.out ?_)
          refine Hid.mk ?_
          clear s212
          have s217 := s211.only ho216 hn5
          clear s211
          have s218 := s213.only ho216 hn140.symm
          clear s213
          have hbt219 := hbt214.trans (ho216.below hz6)
          clear hbt214
          clear ho216
          go_wp2_with fail
          have hK : askK P.sv = 128 := by rw [Hhb215.out]; rfl
          have hS : sayK P.sv = 129 := by rw [Hhb215.out]; rfl
          have hB : echoB P = false := by unfold echoB; rw [one_usu, one_usu]; simp [Hhb9.out, Hhb149.out, Hhb193.out, hK]
          have hE : echoP P = zeroP := by unfold echoP; rw [if_neg (by rw [hB]; decide)]
          refine bodyPost_ret (res_ct rfl isPk s216 (by rfl) (by rfl)) rfl ?_
          exact ⟨Eq.trans (rfl : _ = Ending.returned (.tuple #[.agg (SC 46 (pkV zeroP (.slice none 0 0))), .bool false])) (by rw [← HRV.out, hB, hE]), hbt219⟩
        · have Hhb215 := Hid.mk hb215
          clear hb215
          go_wp2_with (refine wl_value rfl (kn_ (c := false) Hhb215 (exec_ld rfl rfl (ldB (SAt.at s211 0 (by decide))))) ?_; refine Hid.out ?_)
          refine Hid.mk ?_
          go_wp2_with (refine wl_value rfl (exec_pk0 rfl) ?_; refine Hid.out ?_)
          refine Hid.mk ?_
          go_wp2_with (refine st_stO (V := pkV zeroP (.slice none 0 0)) (g := g4) rfl rfl isPk (pkV_one rfl) s212 rfl rfl ?_; intro w220 s220 ho220; refine Hid.out ?_)
          refine Hid.mk ?_
          clear s212
          have s221 := s211.only ho220 hn5
          clear s211
          have s222 := s213.only ho220 hn140.symm
          clear s213
          have hbt223 := hbt214.trans (ho220.below hz6)
          clear hbt214
          clear ho220
          go_wp2_with fail
          have hK : askK P.sv = 8 := by rw [Hhb215.out]; rfl
          have hS : sayK P.sv = 0 := by rw [Hhb215.out]; rfl
          have hB : echoB P = false := by unfold echoB; rw [one_usu, one_usu]; simp [Hhb9.out, Hhb149.out, Hhb193.out, hK]
          have hE : echoP P = zeroP := by unfold echoP; rw [if_neg (by rw [hB]; decide)]
          refine bodyPost_ret (res_ct rfl isPk s220 (by rfl) (by rfl)) rfl ?_
          exact ⟨Eq.trans (rfl : _ = Ending.returned (.tuple #[.agg (SC 46 (pkV zeroP (.slice none 0 0))), .bool false])) (by rw [← HRV.out, hB, hE]), hbt223⟩
end Go.Proofs.YtojekoakgpkkdaaDoor

