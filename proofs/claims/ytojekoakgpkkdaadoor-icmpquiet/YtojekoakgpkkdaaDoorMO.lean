/-
  Own text. No error message is answered by an error message.
-/
import Derived.Test.YtojekoakgpkkdaaDoorJ9
namespace Go.Proofs.YtojekoakgpkkdaaDoor
open Go.RowKit Go.Proofs
set_option maxRecDepth 100000
theorem ld_off {w : World} {g o n : Nat} {ty : TypeId} {V : Nat → Value} (hA : IsSt ty n) (h : ∀ j, j < n → w.cell? ⟨g, o + j, none⟩ = some (V j)) : (Instr.loadAt ty (.pointer (some ⟨g, o, none⟩))).run Tryd.prog w = .ok (.agg (SC n V)) w := by
  obtain ⟨u, h1, h2, h3⟩ := hA
  refine run_loadAt_addr w ⟨g, o, none⟩ ty ((List.range n).map V) _ (fun j y hj => ?_) h1 (by cases u <;> first | rfl | exact h2) (by rw [List.length_map, List.length_range]; exact h3)
  rw [List.getElem?_map] at hj
  have hl : j < n := by
    rcases Nat.lt_or_ge j n with h | h
    · exact h
    · rw [List.getElem?_eq_none (by simpa using h)] at hj; cases hj
  rw [List.getElem?_range hl] at hj
  rw [Addr.add_lit, h j hl]
  exact hj
/-- The cells of a packet and an MTU. -/
def loV (P : Pk) (v : Value) (n : Int) (j : Nat) : Value := if j < 46 then pkV P v j else .int .i64 n
theorem loV_one {P : Pk} {v : Value} {n : Int} (h : v.oneCell' = true) (j : Nat) : (loV P v n j).oneCell' = true := by
  unfold loV
  split
  · exact pkV_one h j
  · rfl
theorem isLo : IsSt 45 47 := ⟨_, Tryd.underlying45, rfl, by kernel_rfl⟩
section
variable {a : Act} {o : Oper} {w : World} {x : Operand} {g : Nat} {P : Pk} {v : Value} {n : Int}
theorem exec_flo (k : Nat) (hk : k < 2) (ho : o.op = .fieldAddr 45 x k) (hx : a.eval x = .pointer (some ⟨g, 0, none⟩)) : (execOp a.eval o).run Tryd.prog w = .ok (.value (.pointer (some ⟨g, if k = 0 then 0 else 46, none⟩))) w := by
  have h : (Instr.fieldAt 45 (.pointer (some ⟨g, 0, none⟩)) k).run Tryd.prog w = .ok (.pointer (some ⟨g, if k = 0 then 0 else 46, none⟩)) w := by
    match k, hk with
    | 0, _ => simp [go_sem]
    | 1, _ => simp [go_sem]
  unfold execOp
  simp only [ho, hx, Sem.run_bind, h, Result.andThen_ok, Sem.run_pure]
theorem exec_flo0 (ho : o.op = .fieldAddr 45 x 0) (hx : a.eval x = .pointer (some ⟨g, 0, none⟩)) : (execOp a.eval o).run Tryd.prog w = .ok (.value (.pointer (some ⟨g, 0, none⟩))) w := exec_flo 0 (by decide) ho hx
theorem exec_flo1 (ho : o.op = .fieldAddr 45 x 1) (hx : a.eval x = .pointer (some ⟨g, 0, none⟩)) : (execOp a.eval o).run Tryd.prog w = .ok (.value (.pointer (some ⟨g, 46, none⟩))) w := exec_flo 1 (by decide) ho hx
theorem lo_pk (h : SAt w g 45 47 (loV P v n)) (j : Nat) (hj : j < 46) : w.cell? ⟨g, j, none⟩ = some (pkV P v j) := by
  have := h.at j (by omega)
  unfold loV at this
  rw [if_pos hj] at this
  exact this
theorem ld_loP (h : SAt w g 45 47 (loV P v n)) : (Instr.loadAt 39 (.pointer (some ⟨g, 0, none⟩))).run Tryd.prog w = .ok (.agg (SC 46 (pkV P v))) w := ld_off isPk (fun j hj => by rw [Nat.zero_add]; exact lo_pk h j hj)
theorem ld_loA (k o : Nat) (hk : k + 17 ≤ 46) (b : Bool) (B : Nat → Int) (h : SAt w g 45 47 (loV P v n)) (e : ∀ j, j < 17 → pkV P v (k + j) = adV b B j) (ho : o = k) : (Instr.loadAt 24 (.pointer (some ⟨g, o, none⟩))).run Tryd.prog w = .ok (.agg (SC 17 (adV b B))) w := by
  subst ho
  exact ld_off isAddr (fun j hj => by rw [lo_pk h _ (by omega), e j hj])
theorem pk_srcJ (j : Nat) (hj : j < 17) : pkV P v (0 + j) = adV P.sv P.sb j := by
  rw [Nat.zero_add]
  have : ∀ j, j < 17 → pkV P v j = adV P.sv P.sb j := fun j hj => by
    unfold pkV
    rw [if_pos (by omega)]
  exact this j hj
theorem pk_dstJ (j : Nat) (hj : j < 17) : pkV P v (17 + j) = adV P.dv P.db j := by
  unfold pkV
  rw [if_neg (by omega), if_pos (by omega), Nat.add_sub_cancel_left]
theorem lo_mtu (h : SAt w g 45 47 (loV P v n)) : w.cell? ⟨g, 46, none⟩ = some (.int .i64 n) := h.at 46 (by decide)
end
theorem en_aditlaw15_awake (args : Array Value) (w : World) : (callFunc 8 args).run Tryd.prog w = .ok (.enter 8 args) w := by kernel_rfl
theorem en_icmp_Told (args : Array Value) (w : World) : (callFunc 18 args).run Tryd.prog w = .ok (.enter 18 args) w := by kernel_rfl
theorem prob_no {k : Int} {fv : Bool} {fb : Nat → Int} {P : Pk} {mtu : Int} (h : probB k fv fb P mtu = false) : probP k fv fb P mtu = zeroP := by unfold probP; rw [if_neg (by rw [h]; decide)]
theorem prob_exts (k : Int) (fv : Bool) (fb : Nat → Int) (P : Pk) (mtu : Int) : (probP k fv fb P mtu).exts = [] := by unfold probP; split <;> rfl
theorem prob_pkb {k : Int} {fv : Bool} {fb : Nat → Int} {P : Pk} {mtu : Int} (h : PkB P) (hf : Byts 16 fb) : PkB (probP k fv fb P mtu) := by
  unfold probP
  split
  · rename_i he
    refine pkb_of hf h.ok.sb ?_
    have hp := prob_ok he
    have := msg_body hp.2.2.1
    rw [hp.2.2.2] at this
    exact this
  · exact pkb_zero
set_option linter.unusedSimpArgs false in
set_option maxHeartbeats 8000000 in
theorem quiet_walk (k other : Int) (P : Pk) (vx : Value) (mtu : Int) (w : World) (he : Env w) (hx : ExAt w vx P.exts) (hp : PkB P) : Calls Tryd.prog 5 #[.int .i64 k, .int .i64 other, .agg (SC 47 (loV P vx mtu))] w fun e w' => e = .returned (.bool true) ∧ Below w.heap.size w w' := by
  generalize hRV : (.bool true : Value) = RV
  have HRV := Hid.mk hRV
  clear hRV
  have HE := Hid.mk he
  clear he
  have HX := Hid.mk hx
  have HP := Hid.mk hp
  clear hx hp
  have HZP : Hid (decide (zeroP.pay = ByteArray.empty) = true) := Hid.mk (decide_eq_true rfl)
  go_enter Tryd.func5, Tryd.ntmps5
  go_wp2_with (refine wl_boxO (V := loV P vx mtu) rfl rfl isLo rfl ?_; intro g1 w1 hg1 s1 hB1; refine Hid.out ?_)
  refine Hid.mk ?_
  have hz2 : w.heap.size ≤ g1 := by omega
  have hbt3 := hB1
  clear hB1 hg1
  have HC4 : Hid (Calls Tryd.prog 8 #[] w1 fun e w' => e = .returned (.bool true) ∧ Below w1.heap.size w1 w') := Hid.mk (awake_run w1 (Env.kept HE.out hbt3))
  go_wp2_with (refine wl_cal en_aditlaw15_awake HC4 rfl rfl (args0) ?_; intro w5 hB5; refine Hid.out ?_)
  refine Hid.mk ?_
  clear HC4
  have s6 := s1.kept hB5
  clear s1
  have hbt7 := hbt3.trans (hB5.mono hbt3.size)
  clear hbt3
  clear hB5
  go_wp2_with (refine wl_value rfl (exec_flo0 rfl rfl) ?_; refine Hid.out ?_)
  refine Hid.mk ?_
  go_wp2_with (refine wl_value rfl (exec_fpk 1 (by decide) rfl rfl) ?_; refine Hid.out ?_)
  refine Hid.mk ?_
  go_wp2_with (refine wl_value rfl (exec_ld rfl rfl (ld_loA 17 _ (by decide) P.dv P.db s6 (pk_dstJ) rfl)) ?_; refine Hid.out ?_)
  refine Hid.mk ?_
  go_wp2_with (refine wl_alO (V := adV false (fun _ => 0)) rfl rfl zeroAddr ?_; intro g8 w8 hg8 s8 hB8; refine Hid.out ?_)
  refine Hid.mk ?_
  have hn9 : g1 ≠ g8 := by have := s6.lt; omega
  have hz10 : w.heap.size ≤ g8 := by have := hbt7.size; omega
  have s11 := s6.kept hB8
  clear s6
  have hbt12 := hbt7.trans (hB8.mono hbt7.size)
  clear hbt7
  clear hB8 hg8
  go_wp2_with (refine st_stO (V := adV P.dv P.db) (g := g8) rfl rfl isAddr (adV_one _ _) s8 rfl rfl ?_; intro w13 s13 ho13; refine Hid.out ?_)
  refine Hid.mk ?_
  clear s8
  have s14 := s11.only ho13 hn9
  clear s11
  have hbt15 := hbt12.trans (ho13.below hz10)
  clear hbt12
  clear ho13
  go_wp2_with (refine wl_value rfl (look_st rfl isAddr s13 rfl) ?_; refine Hid.out ?_)
  refine Hid.mk ?_
  go_wp2_with (refine wl_value rfl (exec_flo0 rfl rfl) ?_; refine Hid.out ?_)
  refine Hid.mk ?_
  go_wp2_with (refine wl_value rfl (exec_ld rfl rfl (ld_loP s14)) ?_; refine Hid.out ?_)
  refine Hid.mk ?_
  go_wp2_with (refine wl_value rfl (exec_flo1 rfl rfl) ?_; refine Hid.out ?_)
  refine Hid.mk ?_
  go_wp2_with (refine wl_value rfl (exec_ld rfl rfl (ldI (lo_mtu s14))) ?_; refine Hid.out ?_)
  refine Hid.mk ?_
  rcases Bool.eq_false_or_eq_true (probB k P.dv P.db P mtu) with hb16 | hb16
  · have Hhb16 := Hid.mk hb16
    clear hb16
    obtain ⟨Q, hQ⟩ : ∃ Q, probP k P.dv P.db P mtu = Q := ⟨_, rfl⟩
    have HQ := Hid.mk hQ
    clear hQ
    have HPQ : Hid (PkB Q) := Hid.mk (by rw [← HQ.out]; exact prob_pkb HP.out HP.out.ok.db)
    have HXQ : Hid (∀ w : World, ExAt w (.slice none 0 0) Q.exts) := Hid.mk (fun w => by rw [← HQ.out, prob_exts]; exact ExAt.nil w)
    have HAG : Hid (∀ k2 gv gb m2, probB k2 gv gb Q m2 = false) := Hid.mk (fun k2 gv gb m2 => by rw [← HQ.out]; exact prob_again Hhb16.out k2 gv gb m2)
    have HEC : Hid (echoB Q = false) := Hid.mk (by rw [← HQ.out]; exact prob_echo Hhb16.out)
    have HTO := Hid.mk (prob_told Hhb16.out)
    rw [HQ.out] at HTO
    have HRG : Hid (rgtP Q = true) := Hid.mk (by rw [← HQ.out]; exact (prob_ok Hhb16.out).2.1)
    have HDS : Hid (eqAF Q.dv Q.db P.sv P.sb = true) := Hid.mk (by rw [← HQ.out, (prob_ok Hhb16.out).1]; exact eqAF_iff.2 ⟨rfl, fun _ _ => rfl⟩)
    have HC17 : Hid (Calls Tryd.prog 17 #[.int .i64 k, .agg (SC 17 (adV P.dv P.db)), .agg (SC 46 (pkV P vx)), .int .i64 mtu] w13 fun e w' => e = .returned (.tuple #[.agg (SC 46 (pkV Q (.slice none 0 0))), .bool true]) ∧ Below w13.heap.size w13 w') := Hid.mk (by have h := Problem_run k P.dv P.db P vx mtu w13 (Env.kept HE.out hbt15) (ExAt.kept HX.out hbt15) HP.out HP.out.ok.db; rw [Hhb16.out, HQ.out] at h; exact h)
    go_wp2_with (refine wl_cal en_icmp_Problem HC17 rfl rfl (args4 rfl rfl rfl rfl) ?_; intro w18 hB18; refine Hid.out ?_)
    refine Hid.mk ?_
    clear HC17
    have s19 := s14.kept hB18
    clear s14
    have s20 := s13.kept hB18
    clear s13
    have hbt21 := hbt15.trans (hB18.mono hbt15.size)
    clear hbt15
    clear hB18
    go_wp2_with (refine wl_alO (V := pkV zeroP (.slice none 0 0)) rfl rfl zeroPk ?_; intro g22 w22 hg22 s22 hB22; refine Hid.out ?_)
    refine Hid.mk ?_
    have hn23 : g1 ≠ g22 := by have := s19.lt; omega
    have hn24 : g8 ≠ g22 := by have := s20.lt; omega
    have hz25 : w.heap.size ≤ g22 := by have := hbt21.size; omega
    have s26 := s19.kept hB22
    clear s19
    have s27 := s20.kept hB22
    clear s20
    have hbt28 := hbt21.trans (hB22.mono hbt21.size)
    clear hbt21
    clear hB22 hg22
    go_wp2_with (refine st_stO (V := pkV Q (.slice none 0 0)) (g := g22) rfl rfl isPk (pkV_one rfl) s22 rfl rfl ?_; intro w29 s29 ho29; refine Hid.out ?_)
    refine Hid.mk ?_
    clear s22
    have s30 := s26.only ho29 hn23
    clear s26
    have s31 := s27.only ho29 hn24
    clear s27
    have hbt32 := hbt28.trans (ho29.below hz25)
    clear hbt28
    clear ho29
    go_wp2_with (refine wl_value rfl (exec_fpk 1 (by decide) rfl rfl) ?_; refine Hid.out ?_)
    refine Hid.mk ?_
    go_wp2_with (refine wl_value rfl (exec_ld rfl rfl (ld_dst s29)) ?_; refine Hid.out ?_)
    refine Hid.mk ?_
    go_wp2_with (refine wl_value rfl (look_st rfl isPk s29 rfl) ?_; refine Hid.out ?_)
    refine Hid.mk ?_
    go_wp2_with (refine wl_value rfl (exec_flo1 rfl rfl) ?_; refine Hid.out ?_)
    refine Hid.mk ?_
    go_wp2_with (refine wl_value rfl (exec_ld rfl rfl (ldI (lo_mtu s30))) ?_; refine Hid.out ?_)
    refine Hid.mk ?_
    have HC33 : Hid (Calls Tryd.prog 17 #[.int .i64 other, .agg (SC 17 (adV Q.dv Q.db)), .agg (SC 46 (pkV Q (.slice none 0 0))), .int .i64 mtu] w29 fun e w' => e = .returned (.tuple #[.agg (SC 46 (pkV zeroP (.slice none 0 0))), .bool false]) ∧ Below w29.heap.size w29 w') := Hid.mk (by have h := Problem_run other Q.dv Q.db Q (.slice none 0 0) mtu w29 (Env.kept HE.out hbt32) (HXQ.out _) HPQ.out HPQ.out.ok.db; rw [HAG.out, prob_no (HAG.out _ _ _ _)] at h; exact h)
    go_wp2_with (refine wl_cal en_icmp_Problem HC33 rfl rfl (args4 rfl rfl rfl rfl) ?_; intro w34 hB34; refine Hid.out ?_)
    refine Hid.mk ?_
    clear HC33
    have s35 := s30.kept hB34
    clear s30
    have s36 := s31.kept hB34
    clear s31
    have s37 := s29.kept hB34
    clear s29
    have hbt38 := hbt32.trans (hB34.mono hbt32.size)
    clear hbt32
    clear hB34
    go_wp2_with (refine wl_alO (V := pkV zeroP (.slice none 0 0)) rfl rfl zeroPk ?_; intro g39 w39 hg39 s39 hB39; refine Hid.out ?_)
    refine Hid.mk ?_
    have hn40 : g1 ≠ g39 := by have := s35.lt; omega
    have hn41 : g8 ≠ g39 := by have := s36.lt; omega
    have hn42 : g22 ≠ g39 := by have := s37.lt; omega
    have hz43 : w.heap.size ≤ g39 := by have := hbt38.size; omega
    have s44 := s35.kept hB39
    clear s35
    have s45 := s36.kept hB39
    clear s36
    have s46 := s37.kept hB39
    clear s37
    have hbt47 := hbt38.trans (hB39.mono hbt38.size)
    clear hbt38
    clear hB39 hg39
    go_wp2_with (refine st_stO (V := pkV zeroP (.slice none 0 0)) (g := g39) rfl rfl isPk (pkV_one rfl) s39 rfl rfl ?_; intro w48 s48 ho48; refine Hid.out ?_)
    refine Hid.mk ?_
    clear s39
    have s49 := s44.only ho48 hn40
    clear s44
    have s50 := s45.only ho48 hn41
    clear s45
    have s51 := s46.only ho48 hn42
    clear s46
    have hbt52 := hbt47.trans (ho48.below hz43)
    clear hbt47
    clear ho48
    go_wp2_with (refine wl_value rfl (look_st rfl isPk s51 rfl) ?_; refine Hid.out ?_)
    refine Hid.mk ?_
    have HC53 : Hid (Calls Tryd.prog 13 #[.agg (SC 46 (pkV Q (.slice none 0 0)))] w48 fun e w' => e = .returned (.tuple #[.agg (SC 46 (pkV (echoP Q) (.slice none 0 0))), .bool false]) ∧ Below w48.heap.size w48 w') := Hid.mk (by have h := Echo_run Q (.slice none 0 0) w48 (Env.kept HE.out hbt52) (HXQ.out _) HPQ.out; rw [HEC.out] at h; exact h)
    go_wp2_with (refine wl_cal en_icmp_Echo HC53 rfl rfl (args1 rfl) ?_; intro w54 hB54; refine Hid.out ?_)
    refine Hid.mk ?_
    clear HC53
    have s55 := s49.kept hB54
    clear s49
    have s56 := s50.kept hB54
    clear s50
    have s57 := s51.kept hB54
    clear s51
    have s58 := s48.kept hB54
    clear s48
    have hbt59 := hbt52.trans (hB54.mono hbt52.size)
    clear hbt52
    clear hB54
    go_wp2_with (refine wl_alO (V := pkV zeroP (.slice none 0 0)) rfl rfl zeroPk ?_; intro g60 w60 hg60 s60 hB60; refine Hid.out ?_)
    refine Hid.mk ?_
    have hn61 : g1 ≠ g60 := by have := s55.lt; omega
    have hn62 : g8 ≠ g60 := by have := s56.lt; omega
    have hn63 : g22 ≠ g60 := by have := s57.lt; omega
    have hn64 : g39 ≠ g60 := by have := s58.lt; omega
    have hz65 : w.heap.size ≤ g60 := by have := hbt59.size; omega
    have s66 := s55.kept hB60
    clear s55
    have s67 := s56.kept hB60
    clear s56
    have s68 := s57.kept hB60
    clear s57
    have s69 := s58.kept hB60
    clear s58
    have hbt70 := hbt59.trans (hB60.mono hbt59.size)
    clear hbt59
    clear hB60 hg60
    go_wp2_with (refine st_stO (V := pkV (echoP Q) (.slice none 0 0)) (g := g60) rfl rfl isPk (pkV_one rfl) s60 rfl rfl ?_; intro w71 s71 ho71; refine Hid.out ?_)
    refine Hid.mk ?_
    clear s60
    have s72 := s66.only ho71 hn61
    clear s66
    have s73 := s67.only ho71 hn62
    clear s67
    have s74 := s68.only ho71 hn63
    clear s68
    have s75 := s69.only ho71 hn64
    clear s69
    have hbt76 := hbt70.trans (ho71.below hz65)
    clear hbt70
    clear ho71
    go_wp2_with (refine wl_value rfl (look_st rfl isPk s74 rfl) ?_; refine Hid.out ?_)
    refine Hid.mk ?_
    rcases Bool.eq_false_or_eq_true (decide (k = 4)) with hb77 | hb77
    · have Hhb77 := Hid.mk hb77
      clear hb77
      have HDhb77 := Hid.mk (of_decide_eq_true Hhb77.out)
      have HT4 := Hid.mk (HTO.out.1 (of_decide_eq_true Hhb77.out))
      have HEA : Hid (eqAF P.dv (toldA Q) P.dv P.db = true) := Hid.mk (eqAF_iff.2 ⟨rfl, HT4.out.2.2.1 HP.out.ok.db⟩)
      have HEN : Hid (decide (((toldN Q : Nat) : Int) = mtu) = true) := Hid.mk (decide_eq_true HT4.out.2.2.2)
      have HC78 : Hid (Calls Tryd.prog 18 #[.agg (SC 46 (pkV Q (.slice none 0 0)))] w71 fun e w' => e = .returned (.tuple #[.agg (SC 17 (adV P.dv (toldA Q))), .int .i64 ((toldN Q : Nat) : Int), .bool true]) ∧ Below w71.heap.size w71 w') := Hid.mk (by have h := Told_run Q (.slice none 0 0) w71 (Env.kept HE.out hbt76) (HXQ.out _) HPQ.out; rw [HT4.out.1, HT4.out.2.1] at h; exact h)
      go_wp2_with (refine wl_cal en_icmp_Told HC78 rfl rfl (args1 rfl) ?_; intro w79 hB79; refine Hid.out ?_)
      refine Hid.mk ?_
      clear HC78
      have s80 := s72.kept hB79
      clear s72
      have s81 := s73.kept hB79
      clear s73
      have s82 := s74.kept hB79
      clear s74
      have s83 := s75.kept hB79
      clear s75
      have s84 := s71.kept hB79
      clear s71
      have hbt85 := hbt76.trans (hB79.mono hbt76.size)
      clear hbt76
      clear hB79
      go_wp2_with (refine wl_alO (V := adV false (fun _ => 0)) rfl rfl zeroAddr ?_; intro g86 w86 hg86 s86 hB86; refine Hid.out ?_)
      refine Hid.mk ?_
      have hn87 : g1 ≠ g86 := by have := s80.lt; omega
      have hn88 : g8 ≠ g86 := by have := s81.lt; omega
      have hn89 : g22 ≠ g86 := by have := s82.lt; omega
      have hn90 : g39 ≠ g86 := by have := s83.lt; omega
      have hn91 : g60 ≠ g86 := by have := s84.lt; omega
      have hz92 : w.heap.size ≤ g86 := by have := hbt85.size; omega
      have s93 := s80.kept hB86
      clear s80
      have s94 := s81.kept hB86
      clear s81
      have s95 := s82.kept hB86
      clear s82
      have s96 := s83.kept hB86
      clear s83
      have s97 := s84.kept hB86
      clear s84
      have hbt98 := hbt85.trans (hB86.mono hbt85.size)
      clear hbt85
      clear hB86 hg86
      go_wp2_with (refine st_stO (V := adV P.dv (toldA Q)) (g := g86) rfl rfl isAddr (adV_one _ _) s86 rfl rfl ?_; intro w99 s99 ho99; refine Hid.out ?_)
      refine Hid.mk ?_
      clear s86
      have s100 := s93.only ho99 hn87
      clear s93
      have s101 := s94.only ho99 hn88
      clear s94
      have s102 := s95.only ho99 hn89
      clear s95
      have s103 := s96.only ho99 hn90
      clear s96
      have s104 := s97.only ho99 hn91
      clear s97
      have hbt105 := hbt98.trans (ho99.below hz92)
      clear hbt98
      clear ho99
      go_wp2_with (refine wl_value rfl (kn_ (c := true) Hhb77 (cmp_eq (m := k) (n := 4) rfl rfl rfl)) ?_; refine Hid.out ?_)
      refine Hid.mk ?_
      go_wp2_with (refine wl_value rfl (look_st rfl isAddr s99 rfl) ?_; refine Hid.out ?_)
      refine Hid.mk ?_
      go_wp2_with (refine wl_value rfl (exec_flo0 rfl rfl) ?_; refine Hid.out ?_)
      refine Hid.mk ?_
      go_wp2_with (refine wl_value rfl (exec_fpk 1 (by decide) rfl rfl) ?_; refine Hid.out ?_)
      refine Hid.mk ?_
      go_wp2_with (refine wl_value rfl (exec_ld rfl rfl (ld_loA 17 _ (by decide) P.dv P.db s100 (pk_dstJ) rfl)) ?_; refine Hid.out ?_)
      refine Hid.mk ?_
      go_wp2_with (refine wl_value rfl (kn_ (c := true) HEA (exec_eqA rfl rfl rfl)) ?_; refine Hid.out ?_)
      refine Hid.mk ?_
      go_wp2_with (refine wl_value rfl (exec_flo1 rfl rfl) ?_; refine Hid.out ?_)
      refine Hid.mk ?_
      go_wp2_with (refine wl_value rfl (exec_ld rfl rfl (ldI (lo_mtu s100))) ?_; refine Hid.out ?_)
      refine Hid.mk ?_
      go_wp2_with (refine wl_value rfl (kn_ (c := true) HEN (cmp_eq (m := ((toldN Q : Nat) : Int)) (n := mtu) rfl rfl rfl)) ?_; refine Hid.out ?_)
      refine Hid.mk ?_
      go_wp2_with fail
      go_ret
      exact ⟨Eq.trans (rfl : _ = Ending.returned (.bool true)) (by rw [← HRV.out]), hbt105⟩
    · have Hhb77 := Hid.mk hb77
      clear hb77
      have HDhb77 := Hid.mk (of_decide_eq_false Hhb77.out)
      have HT5 := Hid.mk (HTO.out.2 (of_decide_eq_false Hhb77.out))
      have HC106 : Hid (Calls Tryd.prog 18 #[.agg (SC 46 (pkV Q (.slice none 0 0)))] w71 fun e w' => e = .returned (.tuple #[.agg (SC 17 (adV (toldV Q) (toldA Q))), .int .i64 ((toldN Q : Nat) : Int), .bool false]) ∧ Below w71.heap.size w71 w') := Hid.mk (by have h := Told_run Q (.slice none 0 0) w71 (Env.kept HE.out hbt76) (HXQ.out _) HPQ.out; rw [HT5.out] at h; exact h)
      go_wp2_with (refine wl_cal en_icmp_Told HC106 rfl rfl (args1 rfl) ?_; intro w107 hB107; refine Hid.out ?_)
      refine Hid.mk ?_
      clear HC106
      have s108 := s72.kept hB107
      clear s72
      have s109 := s73.kept hB107
      clear s73
      have s110 := s74.kept hB107
      clear s74
      have s111 := s75.kept hB107
      clear s75
      have s112 := s71.kept hB107
      clear s71
      have hbt113 := hbt76.trans (hB107.mono hbt76.size)
      clear hbt76
      clear hB107
      go_wp2_with (refine wl_alO (V := adV false (fun _ => 0)) rfl rfl zeroAddr ?_; intro g114 w114 hg114 s114 hB114; refine Hid.out ?_)
      refine Hid.mk ?_
      have hn115 : g1 ≠ g114 := by have := s108.lt; omega
      have hn116 : g8 ≠ g114 := by have := s109.lt; omega
      have hn117 : g22 ≠ g114 := by have := s110.lt; omega
      have hn118 : g39 ≠ g114 := by have := s111.lt; omega
      have hn119 : g60 ≠ g114 := by have := s112.lt; omega
      have hz120 : w.heap.size ≤ g114 := by have := hbt113.size; omega
      have s121 := s108.kept hB114
      clear s108
      have s122 := s109.kept hB114
      clear s109
      have s123 := s110.kept hB114
      clear s110
      have s124 := s111.kept hB114
      clear s111
      have s125 := s112.kept hB114
      clear s112
      have hbt126 := hbt113.trans (hB114.mono hbt113.size)
      clear hbt113
      clear hB114 hg114
      go_wp2_with (refine st_stO (V := adV (toldV Q) (toldA Q)) (g := g114) rfl rfl isAddr (adV_one _ _) s114 rfl rfl ?_; intro w127 s127 ho127; refine Hid.out ?_)
      refine Hid.mk ?_
      clear s114
      have s128 := s121.only ho127 hn115
      clear s121
      have s129 := s122.only ho127 hn116
      clear s122
      have s130 := s123.only ho127 hn117
      clear s123
      have s131 := s124.only ho127 hn118
      clear s124
      have s132 := s125.only ho127 hn119
      clear s125
      have hbt133 := hbt126.trans (ho127.below hz120)
      clear hbt126
      clear ho127
      go_wp2_with (refine wl_value rfl (kn_ (c := false) Hhb77 (cmp_eq (m := k) (n := 4) rfl rfl rfl)) ?_; refine Hid.out ?_)
      refine Hid.mk ?_
      go_wp2_with (refine wl_value rfl (look_st rfl isPk s130 rfl) ?_; refine Hid.out ?_)
      refine Hid.mk ?_
      have HC134 : Hid (Calls Tryd.prog 16 #[.agg (SC 46 (pkV Q (.slice none 0 0)))] w127 fun e w' => e = .returned (.bool true) ∧ Below w127.heap.size w127 w') := Hid.mk (by have h := Right_run Q (.slice none 0 0) w127 (HXQ.out _) HPQ.out.ne HPQ.out.be; rw [HRG.out] at h; exact h)
      go_wp2_with (refine wl_cal en_ip_Right HC134 rfl rfl (args1 rfl) ?_; intro w135 hB135; refine Hid.out ?_)
      refine Hid.mk ?_
      clear HC134
      have s136 := s128.kept hB135
      clear s128
      have s137 := s129.kept hB135
      clear s129
      have s138 := s130.kept hB135
      clear s130
      have s139 := s131.kept hB135
      clear s131
      have s140 := s132.kept hB135
      clear s132
      have s141 := s127.kept hB135
      clear s127
      have hbt142 := hbt133.trans (hB135.mono hbt133.size)
      clear hbt133
      clear hB135
      go_wp2_with (refine wl_value rfl (exec_fpk 1 (by decide) rfl rfl) ?_; refine Hid.out ?_)
      refine Hid.mk ?_
      go_wp2_with (refine wl_value rfl (exec_ld rfl rfl (ld_dst s138)) ?_; refine Hid.out ?_)
      refine Hid.mk ?_
      go_wp2_with (refine wl_value rfl (exec_flo0 rfl rfl) ?_; refine Hid.out ?_)
      refine Hid.mk ?_
      go_wp2_with (refine wl_value rfl (exec_fpk 0 (by decide) rfl rfl) ?_; refine Hid.out ?_)
      refine Hid.mk ?_
      go_wp2_with (refine wl_value rfl (exec_ld rfl rfl (ld_loA 0 _ (by decide) P.sv P.sb s136 (pk_srcJ) rfl)) ?_; refine Hid.out ?_)
      refine Hid.mk ?_
      go_wp2_with (refine wl_value rfl (kn_ (c := true) HDS (exec_eqA rfl rfl rfl)) ?_; refine Hid.out ?_)
      refine Hid.mk ?_
      go_wp2_with fail
      go_ret
      exact ⟨Eq.trans (rfl : _ = Ending.returned (.bool true)) (by rw [← HRV.out]), hbt142⟩
  · have Hhb16 := Hid.mk hb16
    clear hb16
    have HC143 : Hid (Calls Tryd.prog 17 #[.int .i64 k, .agg (SC 17 (adV P.dv P.db)), .agg (SC 46 (pkV P vx)), .int .i64 mtu] w13 fun e w' => e = .returned (.tuple #[.agg (SC 46 (pkV zeroP (.slice none 0 0))), .bool false]) ∧ Below w13.heap.size w13 w') := Hid.mk (by have h := Problem_run k P.dv P.db P vx mtu w13 (Env.kept HE.out hbt15) (ExAt.kept HX.out hbt15) HP.out HP.out.ok.db; rw [Hhb16.out, prob_no Hhb16.out] at h; exact h)
    go_wp2_with (refine wl_cal en_icmp_Problem HC143 rfl rfl (args4 rfl rfl rfl rfl) ?_; intro w144 hB144; refine Hid.out ?_)
    refine Hid.mk ?_
    clear HC143
    have s145 := s14.kept hB144
    clear s14
    have s146 := s13.kept hB144
    clear s13
    have hbt147 := hbt15.trans (hB144.mono hbt15.size)
    clear hbt15
    clear hB144
    go_wp2_with (refine wl_alO (V := pkV zeroP (.slice none 0 0)) rfl rfl zeroPk ?_; intro g148 w148 hg148 s148 hB148; refine Hid.out ?_)
    refine Hid.mk ?_
    have hn149 : g1 ≠ g148 := by have := s145.lt; omega
    have hn150 : g8 ≠ g148 := by have := s146.lt; omega
    have hz151 : w.heap.size ≤ g148 := by have := hbt147.size; omega
    have s152 := s145.kept hB148
    clear s145
    have s153 := s146.kept hB148
    clear s146
    have hbt154 := hbt147.trans (hB148.mono hbt147.size)
    clear hbt147
    clear hB148 hg148
    go_wp2_with (refine st_stO (V := pkV zeroP (.slice none 0 0)) (g := g148) rfl rfl isPk (pkV_one rfl) s148 rfl rfl ?_; intro w155 s155 ho155; refine Hid.out ?_)
    refine Hid.mk ?_
    clear s148
    have s156 := s152.only ho155 hn149
    clear s152
    have s157 := s153.only ho155 hn150
    clear s153
    have hbt158 := hbt154.trans (ho155.below hz151)
    clear hbt154
    clear ho155
    go_wp2_with (refine wl_value rfl (look_st rfl isPk s155 rfl) ?_; refine Hid.out ?_)
    refine Hid.mk ?_
    have HC159 : Hid (Calls Tryd.prog 18 #[.agg (SC 46 (pkV zeroP (.slice none 0 0)))] w155 fun e w' => e = .returned (.tuple #[.agg (SC 17 (adV (toldV zeroP) (toldA zeroP))), .int .i64 ((toldN zeroP : Nat) : Int), .bool false]) ∧ Below w155.heap.size w155 w') := Hid.mk (by have h := Told_run zeroP (.slice none 0 0) w155 (Env.kept HE.out hbt158) (ExAt.nil _) pkb_zero; rw [zero_told] at h; exact h)
    go_wp2_with (refine wl_cal en_icmp_Told HC159 rfl rfl (args1 rfl) ?_; intro w160 hB160; refine Hid.out ?_)
    refine Hid.mk ?_
    clear HC159
    have s161 := s156.kept hB160
    clear s156
    have s162 := s157.kept hB160
    clear s157
    have s163 := s155.kept hB160
    clear s155
    have hbt164 := hbt158.trans (hB160.mono hbt158.size)
    clear hbt158
    clear hB160
    go_wp2_with (refine wl_alO (V := adV false (fun _ => 0)) rfl rfl zeroAddr ?_; intro g165 w165 hg165 s165 hB165; refine Hid.out ?_)
    refine Hid.mk ?_
    have hn166 : g1 ≠ g165 := by have := s161.lt; omega
    have hn167 : g8 ≠ g165 := by have := s162.lt; omega
    have hn168 : g148 ≠ g165 := by have := s163.lt; omega
    have hz169 : w.heap.size ≤ g165 := by have := hbt164.size; omega
    have s170 := s161.kept hB165
    clear s161
    have s171 := s162.kept hB165
    clear s162
    have s172 := s163.kept hB165
    clear s163
    have hbt173 := hbt164.trans (hB165.mono hbt164.size)
    clear hbt164
    clear hB165 hg165
    go_wp2_with (refine st_stO (V := adV (toldV zeroP) (toldA zeroP)) (g := g165) rfl rfl isAddr (adV_one _ _) s165 rfl rfl ?_; intro w174 s174 ho174; refine Hid.out ?_)
    refine Hid.mk ?_
    clear s165
    have s175 := s170.only ho174 hn166
    clear s170
    have s176 := s171.only ho174 hn167
    clear s171
    have s177 := s172.only ho174 hn168
    clear s172
    have hbt178 := hbt173.trans (ho174.below hz169)
    clear hbt173
    clear ho174
    go_wp2_with (refine wl_value rfl (exec_fpk 13 (by decide) rfl rfl) ?_; refine Hid.out ?_)
    refine Hid.mk ?_
    go_wp2_with (refine wl_value rfl (exec_ld rfl rfl (ldPs (pk_pay s177))) ?_; refine Hid.out ?_)
    refine Hid.mk ?_
    go_wp2_with (refine wl_value rfl (kn_ (c := true) HZP (exec_eqSd (s := zeroP.pay) (t := ByteArray.empty) rfl rfl rfl)) ?_; refine Hid.out ?_)
    refine Hid.mk ?_
    go_wp2_with fail
    go_ret
    exact ⟨Eq.trans (rfl : _ = Ending.returned (.bool true)) (by rw [← HRV.out]), hbt178⟩
end Go.Proofs.YtojekoakgpkkdaaDoor
