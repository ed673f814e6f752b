/-
  Own text. A host answers just echo requests, as the document says.
-/
import Derived.Test.YtojekoakgpkkdaaDoorJE9
import Derived.Test.YtojekoakgpkkdaaDoorJE11
import Derived.Test.YtojekoakgpkkdaaDoorJE3
namespace Go.Proofs.YtojekoakgpkkdaaDoor
open Go.RowKit Go.Proofs
set_option maxRecDepth 100000
theorem en_aditlaw15_awake (args : Array Value) (w : World) : (callFunc 8 args).run Tryd.prog w = .ok (.enter 8 args) w := by kernel_rfl
theorem en_aditref15_Echo (args : Array Value) (w : World) : (callFunc 14 args).run Tryd.prog w = .ok (.enter 14 args) w := by kernel_rfl
theorem en_aditref13_Same (args : Array Value) (w : World) : (callFunc 15 args).run Tryd.prog w = .ok (.enter 15 args) w := by kernel_rfl
theorem echo_no {P : Pk} (h : echoB P = false) : echoP P = zeroP := by unfold echoP; rw [if_neg (by rw [h]; decide)]
theorem sam_me (P : Pk) : samP P P = true := samP_iff.2 ⟨rfl, fun _ _ => rfl, rfl, fun _ _ => rfl, rfl, rfl, rfl, rfl, rfl, rfl, rfl, rfl, rfl, rfl, rfl, rfl⟩
set_option linter.unusedSimpArgs false in
set_option maxHeartbeats 8000000 in
theorem echoes_walk (P : Pk) (vx : Value) (w : World) (he : Env w) (hx : ExAt w vx P.exts) (hp : PkB P) : Calls Tryd.prog 4 #[.agg (SC 46 (pkV P vx))] w fun e w' => e = .returned (.bool true) ∧ Below w.heap.size w w' := by
  generalize hRV : (.bool true : Value) = RV
  have HRV := Hid.mk hRV
  clear hRV
  have HE := Hid.mk he
  clear he
  have HX := Hid.mk hx
  have HP := Hid.mk hp
  clear hx hp
  go_enter Tryd.func4, Tryd.ntmps4
  go_wp2_with (refine wl_boxO (V := pkV P vx) rfl rfl isPk rfl ?_; intro g1 w1 hg1 s1 hB1; refine Hid.out ?_)
  refine Hid.mk ?_
  have hz2 : w.heap.size ≤ g1 := by omega
  have hbt3 := hB1
  clear hB1 hg1
  have HC4 : Hid (Calls Tryd.prog 8 #[] w1 fun e w' => e = .returned (.bool true) ∧ Below w1.heap.size w1 w') := Hid.mk (awake_run w1 (Env.kept HE.out hbt3))
  go_wp2_with (refine wl_cal en_aditlaw15_awake HC4 rfl rfl (args0) ?_; intro w5 hB5; refine Hid.out ?_)
  refine Hid.mk ?_
  clear HC4
  have s6 := s1.kept hB5
  clear s1
  have hbt7 := hbt3.trans (hB5.mono hbt3.size)
  clear hbt3
  clear hB5
  go_wp2_with (refine wl_value rfl (look_st rfl isPk s6 rfl) ?_; refine Hid.out ?_)
  refine Hid.mk ?_
  rcases Bool.eq_false_or_eq_true (echoB P) with hb8 | hb8
  · have Hhb8 := Hid.mk hb8
    clear hb8
    obtain ⟨Q, hQ⟩ : ∃ Q, echoP P = Q := ⟨_, rfl⟩
    have HQ := Hid.mk hQ
    clear hQ
    have HRG : Hid (rgtP Q = true) := Hid.mk (by rw [← HQ.out]; exact (echo_ok Hhb8.out).1)
    have HEC : Hid (echoB Q = false) := Hid.mk (by rw [← HQ.out]; exact (echo_ok Hhb8.out).2.1)
    have HSZ : Hid (Q.pay.size = P.pay.size) := Hid.mk (by rw [← HQ.out]; exact (echo_ok Hhb8.out).2.2.1)
    have HD1 : Hid (eqAF Q.sv Q.sb P.dv P.db = true) := Hid.mk (by rw [← HQ.out, (echo_ok Hhb8.out).2.2.2]; exact eqAF_iff.2 ⟨rfl, fun _ _ => rfl⟩)
    have HD2 : Hid (eqAF Q.dv Q.db P.sv P.sb = true) := Hid.mk (by rw [← HQ.out, (echo_ok Hhb8.out).2.2.2]; exact eqAF_iff.2 ⟨rfl, fun _ _ => rfl⟩)
    have HD3 : Hid (decide ((Q.pay.size : Int) = (P.pay.size : Int)) = true) := Hid.mk (decide_eq_true (by rw [HSZ.out]))
    have HPQ : Hid (PkB Q) := Hid.mk (by rw [← HQ.out]; exact echo_pkb HP.out)
    have HXQ : Hid (∀ w : World, ExAt w (.slice none 0 0) Q.exts) := Hid.mk (fun w => by rw [← HQ.out, echo_exts]; exact ExAt.nil w)
    have HC9 : Hid (Calls Tryd.prog 13 #[.agg (SC 46 (pkV P vx))] w5 fun e w' => e = .returned (.tuple #[.agg (SC 46 (pkV Q (.slice none 0 0))), .bool true]) ∧ Below w5.heap.size w5 w') := Hid.mk (by have h := Echo_run P vx w5 (Env.kept HE.out hbt7) (ExAt.kept HX.out hbt7) HP.out; rw [Hhb8.out, HQ.out] at h; exact h)
    go_wp2_with (refine wl_cal en_icmp_Echo HC9 rfl rfl (args1 rfl) ?_; intro w10 hB10; refine Hid.out ?_)
    refine Hid.mk ?_
    clear HC9
    have s11 := s6.kept hB10
    clear s6
    have hbt12 := hbt7.trans (hB10.mono hbt7.size)
    clear hbt7
    clear hB10
    go_wp2_with (refine wl_alO (V := pkV zeroP (.slice none 0 0)) rfl rfl zeroPk ?_; intro g13 w13 hg13 s13 hB13; refine Hid.out ?_)
    refine Hid.mk ?_
    have hn14 : g1 ≠ g13 := by have := s11.lt; omega
    have hz15 : w.heap.size ≤ g13 := by have := hbt12.size; omega
    have s16 := s11.kept hB13
    clear s11
    have hbt17 := hbt12.trans (hB13.mono hbt12.size)
    clear hbt12
    clear hB13 hg13
    go_wp2_with (refine st_stO (V := pkV Q (.slice none 0 0)) (g := g13) rfl rfl isPk (pkV_one rfl) s13 rfl rfl ?_; intro w18 s18 ho18; refine Hid.out ?_)
    refine Hid.mk ?_
    clear s13
    have s19 := s16.only ho18 hn14
    clear s16
    have hbt20 := hbt17.trans (ho18.below hz15)
    clear hbt17
    clear ho18
    go_wp2_with (refine wl_value rfl (look_st rfl isPk s19 rfl) ?_; refine Hid.out ?_)
    refine Hid.mk ?_
    have HC21 : Hid (Calls Tryd.prog 14 #[.agg (SC 46 (pkV P vx))] w18 fun e w' => e = .returned (.tuple #[.agg (SC 46 (pkV Q (.slice none 0 0))), .bool true]) ∧ Below w18.heap.size w18 w') := Hid.mk (by have h := dEcho_run P vx w18 (ExAt.kept HX.out hbt20) HP.out; rw [Hhb8.out, HQ.out] at h; exact h)
    go_wp2_with (refine wl_cal en_aditref15_Echo HC21 rfl rfl (args1 rfl) ?_; intro w22 hB22; refine Hid.out ?_)
    refine Hid.mk ?_
    clear HC21
    have s23 := s19.kept hB22
    clear s19
    have s24 := s18.kept hB22
    clear s18
    have hbt25 := hbt20.trans (hB22.mono hbt20.size)
    clear hbt20
    clear hB22
    go_wp2_with (refine wl_alO (V := pkV zeroP (.slice none 0 0)) rfl rfl zeroPk ?_; intro g26 w26 hg26 s26 hB26; refine Hid.out ?_)
    refine Hid.mk ?_
    have hn27 : g1 ≠ g26 := by have := s23.lt; omega
    have hn28 : g13 ≠ g26 := by have := s24.lt; omega
    have hz29 : w.heap.size ≤ g26 := by have := hbt25.size; omega
    have s30 := s23.kept hB26
    clear s23
    have s31 := s24.kept hB26
    clear s24
    have hbt32 := hbt25.trans (hB26.mono hbt25.size)
    clear hbt25
    clear hB26 hg26
    go_wp2_with (refine st_stO (V := pkV Q (.slice none 0 0)) (g := g26) rfl rfl isPk (pkV_one rfl) s26 rfl rfl ?_; intro w33 s33 ho33; refine Hid.out ?_)
    refine Hid.mk ?_
    clear s26
    have s34 := s30.only ho33 hn27
    clear s30
    have s35 := s31.only ho33 hn28
    clear s31
    have hbt36 := hbt32.trans (ho33.below hz29)
    clear hbt32
    clear ho33
    go_wp2_with (refine wl_value rfl (look_st rfl isPk s35 rfl) ?_; refine Hid.out ?_)
    refine Hid.mk ?_
    go_wp2_with (refine wl_value rfl (look_st rfl isPk s33 rfl) ?_; refine Hid.out ?_)
    refine Hid.mk ?_
    have HC37 : Hid (Calls Tryd.prog 15 #[.agg (SC 46 (pkV Q (.slice none 0 0))), .agg (SC 46 (pkV Q (.slice none 0 0)))] w33 fun e w' => e = .returned (.bool true) ∧ Below w33.heap.size w33 w') := Hid.mk (by have h := rSame_run Q Q (.slice none 0 0) (.slice none 0 0) w33 (HXQ.out _) (HXQ.out _) HPQ.out.ne HPQ.out.ne; rw [sam_me] at h; exact h)
    go_wp2_with (refine wl_cal en_aditref13_Same HC37 rfl rfl (args2 rfl rfl) ?_; intro w38 hB38; refine Hid.out ?_)
    refine Hid.mk ?_
    clear HC37
    have s39 := s34.kept hB38
    clear s34
    have s40 := s35.kept hB38
    clear s35
    have s41 := s33.kept hB38
    clear s33
    have hbt42 := hbt36.trans (hB38.mono hbt36.size)
    clear hbt36
    clear hB38
    have HK43 : Hid ((true == true) = true) := Hid.mk rfl
    go_wp2_with (refine wl_value rfl (kn_n (c := false) HK43 (cmp_neB (m := true) (n := true) rfl rfl rfl)) ?_; refine Hid.out ?_)
    refine Hid.mk ?_
    go_wp2_with (refine wl_value rfl (look_st rfl isPk s40 rfl) ?_; refine Hid.out ?_)
    refine Hid.mk ?_
    have HC44 : Hid (Calls Tryd.prog 13 #[.agg (SC 46 (pkV Q (.slice none 0 0)))] w38 fun e w' => e = .returned (.tuple #[.agg (SC 46 (pkV zeroP (.slice none 0 0))), .bool false]) ∧ Below w38.heap.size w38 w') := Hid.mk (by have h := Echo_run Q (.slice none 0 0) w38 (Env.kept HE.out hbt42) (HXQ.out _) HPQ.out; rw [HEC.out, echo_no HEC.out] at h; exact h)
    go_wp2_with (refine wl_cal en_icmp_Echo HC44 rfl rfl (args1 rfl) ?_; intro w45 hB45; refine Hid.out ?_)
    refine Hid.mk ?_
    clear HC44
    have s46 := s39.kept hB45
    clear s39
    have s47 := s40.kept hB45
    clear s40
    have s48 := s41.kept hB45
    clear s41
    have hbt49 := hbt42.trans (hB45.mono hbt42.size)
    clear hbt42
    clear hB45
    go_wp2_with (refine wl_alO (V := pkV zeroP (.slice none 0 0)) rfl rfl zeroPk ?_; intro g50 w50 hg50 s50 hB50; refine Hid.out ?_)
    refine Hid.mk ?_
    have hn51 : g1 ≠ g50 := by have := s46.lt; omega
    have hn52 : g13 ≠ g50 := by have := s47.lt; omega
    have hn53 : g26 ≠ g50 := by have := s48.lt; omega
    have hz54 : w.heap.size ≤ g50 := by have := hbt49.size; omega
    have s55 := s46.kept hB50
    clear s46
    have s56 := s47.kept hB50
    clear s47
    have s57 := s48.kept hB50
    clear s48
    have hbt58 := hbt49.trans (hB50.mono hbt49.size)
    clear hbt49
    clear hB50 hg50
    go_wp2_with (refine st_stO (V := pkV zeroP (.slice none 0 0)) (g := g50) rfl rfl isPk (pkV_one rfl) s50 rfl rfl ?_; intro w59 s59 ho59; refine Hid.out ?_)
    refine Hid.mk ?_
    clear s50
    have s60 := s55.only ho59 hn51
    clear s55
    have s61 := s56.only ho59 hn52
    clear s56
    have s62 := s57.only ho59 hn53
    clear s57
    have hbt63 := hbt58.trans (ho59.below hz54)
    clear hbt58
    clear ho59
    go_wp2_with (refine wl_value rfl (look_st rfl isPk s61 rfl) ?_; refine Hid.out ?_)
    refine Hid.mk ?_
    have HC64 : Hid (Calls Tryd.prog 16 #[.agg (SC 46 (pkV Q (.slice none 0 0)))] w59 fun e w' => e = .returned (.bool true) ∧ Below w59.heap.size w59 w') := Hid.mk (by have h := Right_run Q (.slice none 0 0) w59 (HXQ.out _) HPQ.out.ne HPQ.out.be; rw [HRG.out] at h; exact h)
    go_wp2_with (refine wl_cal en_ip_Right HC64 rfl rfl (args1 rfl) ?_; intro w65 hB65; refine Hid.out ?_)
    refine Hid.mk ?_
    clear HC64
    have s66 := s60.kept hB65
    clear s60
    have s67 := s61.kept hB65
    clear s61
    have s68 := s62.kept hB65
    clear s62
    have s69 := s59.kept hB65
    clear s59
    have hbt70 := hbt63.trans (hB65.mono hbt63.size)
    clear hbt63
    clear hB65
    go_wp2_with (refine wl_value rfl (exec_fpk 0 (by decide) rfl rfl) ?_; refine Hid.out ?_)
    refine Hid.mk ?_
    go_wp2_with (refine wl_value rfl (exec_ld rfl rfl (ld_src s67)) ?_; refine Hid.out ?_)
    refine Hid.mk ?_
    go_wp2_with (refine wl_value rfl (exec_fpk 1 (by decide) rfl rfl) ?_; refine Hid.out ?_)
    refine Hid.mk ?_
    go_wp2_with (refine wl_value rfl (exec_ld rfl rfl (ld_dst s66)) ?_; refine Hid.out ?_)
    refine Hid.mk ?_
    go_wp2_with (refine wl_value rfl (kn_ (c := true) HD1 (exec_eqA rfl rfl rfl)) ?_; refine Hid.out ?_)
    refine Hid.mk ?_
    go_wp2_with (refine wl_value rfl (exec_fpk 1 (by decide) rfl rfl) ?_; refine Hid.out ?_)
    refine Hid.mk ?_
    go_wp2_with (refine wl_value rfl (exec_ld rfl rfl (ld_dst s67)) ?_; refine Hid.out ?_)
    refine Hid.mk ?_
    go_wp2_with (refine wl_value rfl (exec_fpk 0 (by decide) rfl rfl) ?_; refine Hid.out ?_)
    refine Hid.mk ?_
    go_wp2_with (refine wl_value rfl (exec_ld rfl rfl (ld_src s66)) ?_; refine Hid.out ?_)
    refine Hid.mk ?_
    go_wp2_with (refine wl_value rfl (kn_ (c := true) HD2 (exec_eqA rfl rfl rfl)) ?_; refine Hid.out ?_)
    refine Hid.mk ?_
    go_wp2_with (refine wl_value rfl (exec_fpk 13 (by decide) rfl rfl) ?_; refine Hid.out ?_)
    refine Hid.mk ?_
    go_wp2_with (refine wl_value rfl (exec_ld rfl rfl (ldPs (pk_pay s67))) ?_; refine Hid.out ?_)
    refine Hid.mk ?_
    go_wp2_with (refine wl_value rfl (exec_lenS rfl rfl) ?_; refine Hid.out ?_)
    refine Hid.mk ?_
    go_wp2_with (refine wl_value rfl (exec_fpk 13 (by decide) rfl rfl) ?_; refine Hid.out ?_)
    refine Hid.mk ?_
    go_wp2_with (refine wl_value rfl (exec_ld rfl rfl (ldPs (pk_pay s66))) ?_; refine Hid.out ?_)
    refine Hid.mk ?_
    go_wp2_with (refine wl_value rfl (exec_lenS rfl rfl) ?_; refine Hid.out ?_)
    refine Hid.mk ?_
    go_wp2_with (refine wl_value rfl (kn_ (c := true) HD3 (cmp_eq (m := (Q.pay.size : Int)) (n := (P.pay.size : Int)) rfl rfl rfl)) ?_; refine Hid.out ?_)
    refine Hid.mk ?_
    go_wp2_with fail
    go_ret
    exact ⟨Eq.trans (rfl : _ = Ending.returned (.bool true)) (by rw [← HRV.out]), hbt70⟩
  · have Hhb8 := Hid.mk hb8
    clear hb8
    have HC71 : Hid (Calls Tryd.prog 13 #[.agg (SC 46 (pkV P vx))] w5 fun e w' => e = .returned (.tuple #[.agg (SC 46 (pkV zeroP (.slice none 0 0))), .bool false]) ∧ Below w5.heap.size w5 w') := Hid.mk (by have h := Echo_run P vx w5 (Env.kept HE.out hbt7) (ExAt.kept HX.out hbt7) HP.out; rw [Hhb8.out, echo_no Hhb8.out] at h; exact h)
    go_wp2_with (refine wl_cal en_icmp_Echo HC71 rfl rfl (args1 rfl) ?_; intro w72 hB72; refine Hid.out ?_)
    refine Hid.mk ?_
    clear HC71
    have s73 := s6.kept hB72
    clear s6
    have hbt74 := hbt7.trans (hB72.mono hbt7.size)
    clear hbt7
    clear hB72
    go_wp2_with (refine wl_alO (V := pkV zeroP (.slice none 0 0)) rfl rfl zeroPk ?_; intro g75 w75 hg75 s75 hB75; refine Hid.out ?_)
    refine Hid.mk ?_
    have hn76 : g1 ≠ g75 := by have := s73.lt; omega
    have hz77 : w.heap.size ≤ g75 := by have := hbt74.size; omega
    have s78 := s73.kept hB75
    clear s73
    have hbt79 := hbt74.trans (hB75.mono hbt74.size)
    clear hbt74
    clear hB75 hg75
    go_wp2_with (refine st_stO (V := pkV zeroP (.slice none 0 0)) (g := g75) rfl rfl isPk (pkV_one rfl) s75 rfl rfl ?_; intro w80 s80 ho80; refine Hid.out ?_)
    refine Hid.mk ?_
    clear s75
    have s81 := s78.only ho80 hn76
    clear s78
    have hbt82 := hbt79.trans (ho80.below hz77)
    clear hbt79
    clear ho80
    go_wp2_with (refine wl_value rfl (look_st rfl isPk s81 rfl) ?_; refine Hid.out ?_)
    refine Hid.mk ?_
    have HC83 : Hid (Calls Tryd.prog 14 #[.agg (SC 46 (pkV P vx))] w80 fun e w' => e = .returned (.tuple #[.agg (SC 46 (pkV zeroP (.slice none 0 0))), .bool false]) ∧ Below w80.heap.size w80 w') := Hid.mk (by have h := dEcho_run P vx w80 (ExAt.kept HX.out hbt82) HP.out; rw [Hhb8.out, echo_no Hhb8.out] at h; exact h)
    go_wp2_with (refine wl_cal en_aditref15_Echo HC83 rfl rfl (args1 rfl) ?_; intro w84 hB84; refine Hid.out ?_)
    refine Hid.mk ?_
    clear HC83
    have s85 := s81.kept hB84
    clear s81
    have s86 := s80.kept hB84
    clear s80
    have hbt87 := hbt82.trans (hB84.mono hbt82.size)
    clear hbt82
    clear hB84
    go_wp2_with (refine wl_alO (V := pkV zeroP (.slice none 0 0)) rfl rfl zeroPk ?_; intro g88 w88 hg88 s88 hB88; refine Hid.out ?_)
    refine Hid.mk ?_
    have hn89 : g1 ≠ g88 := by have := s85.lt; omega
    have hn90 : g75 ≠ g88 := by have := s86.lt; omega
    have hz91 : w.heap.size ≤ g88 := by have := hbt87.size; omega
    have s92 := s85.kept hB88
    clear s85
    have s93 := s86.kept hB88
    clear s86
    have hbt94 := hbt87.trans (hB88.mono hbt87.size)
    clear hbt87
    clear hB88 hg88
    go_wp2_with (refine st_stO (V := pkV zeroP (.slice none 0 0)) (g := g88) rfl rfl isPk (pkV_one rfl) s88 rfl rfl ?_; intro w95 s95 ho95; refine Hid.out ?_)
    refine Hid.mk ?_
    clear s88
    have s96 := s92.only ho95 hn89
    clear s92
    have s97 := s93.only ho95 hn90
    clear s93
    have hbt98 := hbt94.trans (ho95.below hz91)
    clear hbt94
    clear ho95
    go_wp2_with (refine wl_value rfl (look_st rfl isPk s97 rfl) ?_; refine Hid.out ?_)
    refine Hid.mk ?_
    go_wp2_with (refine wl_value rfl (look_st rfl isPk s95 rfl) ?_; refine Hid.out ?_)
    refine Hid.mk ?_
    have HC99 : Hid (Calls Tryd.prog 15 #[.agg (SC 46 (pkV zeroP (.slice none 0 0))), .agg (SC 46 (pkV zeroP (.slice none 0 0)))] w95 fun e w' => e = .returned (.bool true) ∧ Below w95.heap.size w95 w') := Hid.mk (by have h := rSame_run zeroP zeroP (.slice none 0 0) (.slice none 0 0) w95 (ExAt.nil _) (ExAt.nil _) pkb_zero.ne pkb_zero.ne; rw [sam_me] at h; exact h)
    go_wp2_with (refine wl_cal en_aditref13_Same HC99 rfl rfl (args2 rfl rfl) ?_; intro w100 hB100; refine Hid.out ?_)
    refine Hid.mk ?_
    clear HC99
    have s101 := s96.kept hB100
    clear s96
    have s102 := s97.kept hB100
    clear s97
    have s103 := s95.kept hB100
    clear s95
    have hbt104 := hbt98.trans (hB100.mono hbt98.size)
    clear hbt98
    clear hB100
    have HK105 : Hid ((false == false) = true) := Hid.mk rfl
    go_wp2_with (refine wl_value rfl (kn_n (c := false) HK105 (cmp_neB (m := false) (n := false) rfl rfl rfl)) ?_; refine Hid.out ?_)
    refine Hid.mk ?_
    go_wp2_with (refine wl_value rfl (look_st rfl isPk s102 rfl) ?_; refine Hid.out ?_)
    refine Hid.mk ?_
    have HC106 : Hid (Calls Tryd.prog 13 #[.agg (SC 46 (pkV zeroP (.slice none 0 0)))] w100 fun e w' => e = .returned (.tuple #[.agg (SC 46 (pkV zeroP (.slice none 0 0))), .bool false]) ∧ Below w100.heap.size w100 w') := Hid.mk (by have h := Echo_run zeroP (.slice none 0 0) w100 (Env.kept HE.out hbt104) (ExAt.nil _) pkb_zero; rw [zero_echo, echo_no zero_echo] at h; exact h)
    go_wp2_with (refine wl_cal en_icmp_Echo HC106 rfl rfl (args1 rfl) ?_; intro w107 hB107; refine Hid.out ?_)
    refine Hid.mk ?_
    clear HC106
    have s108 := s101.kept hB107
    clear s101
    have s109 := s102.kept hB107
    clear s102
    have s110 := s103.kept hB107
    clear s103
    have hbt111 := hbt104.trans (hB107.mono hbt104.size)
    clear hbt104
    clear hB107
    go_wp2_with (refine wl_alO (V := pkV zeroP (.slice none 0 0)) rfl rfl zeroPk ?_; intro g112 w112 hg112 s112 hB112; refine Hid.out ?_)
    refine Hid.mk ?_
    have hn113 : g1 ≠ g112 := by have := s108.lt; omega
    have hn114 : g75 ≠ g112 := by have := s109.lt; omega
    have hn115 : g88 ≠ g112 := by have := s110.lt; omega
    have hz116 : w.heap.size ≤ g112 := by have := hbt111.size; omega
    have s117 := s108.kept hB112
    clear s108
    have s118 := s109.kept hB112
    clear s109
    have s119 := s110.kept hB112
    clear s110
    have hbt120 := hbt111.trans (hB112.mono hbt111.size)
    clear hbt111
    clear hB112 hg112
    go_wp2_with (refine st_stO (V := pkV zeroP (.slice none 0 0)) (g := g112) rfl rfl isPk (pkV_one rfl) s112 rfl rfl ?_; intro w121 s121 ho121; refine Hid.out ?_)
    refine Hid.mk ?_
    clear s112
    have s122 := s117.only ho121 hn113
    clear s117
    have s123 := s118.only ho121 hn114
    clear s118
    have s124 := s119.only ho121 hn115
    clear s119
    have hbt125 := hbt120.trans (ho121.below hz116)
    clear hbt120
    clear ho121
    go_wp2_with fail
    go_ret
    exact ⟨Eq.trans (rfl : _ = Ending.returned (.bool true)) (by rw [← HRV.out]), hbt125⟩
end Go.Proofs.YtojekoakgpkkdaaDoor

