/-
  Own text. FragWhole: a packet whose pieces come in any order, some of them again, is told whole, once, by the last one that was missing.
-/
import Derived.Test.YthnlfjkpiohooaaGU
namespace Go.Proofs.Ythnlfjkpiohooaa
open Go.RowKit Go.Proofs
set_option maxRecDepth 100000
theorem run_tgz (w : World) : (zeroValue 45).run Try.prog w = .ok (.agg (SC 2 (tgV 0 0))) w := by kernel_rfl
theorem run_tg (x y : Int) (w : World) : (Instr.build 45 #[(0, .int .i64 x), (1, .int .i64 y)]).run Try.prog w = .ok (.agg (SC 2 (tgV x y))) w := by kernel_rfl
theorem exec_tg {a : Act} {o : Oper} {w : World} {x y : Int} (ho : o.op = .build 45 #[(0, .const (.int .i64 x)), (1, .const (.int .i64 y))]) : (execOp a.eval o).run Try.prog w = .ok (.value (.agg (SC 2 (tgV x y)))) w := by
  have e : ∀ z : Int, a.eval (.const (.int .i64 z)) = .int .i64 z := fun _ => rfl
  unfold execOp
  simp only [ho, List.map_toArray, List.map_cons, List.map_nil, e, Sem.run_bind, run_tg, Result.andThen_ok, Sem.run_pure]
theorem en_pick (args : Array Value) (w : World) : (callFunc 16 args).run Try.prog w = .ok (.enter 16 args) w := by kernel_rfl
set_option maxHeartbeats 40000000 in
theorem whole_walk (P : Pk) (v : Value) (cv : Value) (C : Cut14) (w : World) (hx : ExAt w v P.exts) (hP : PkIn P) (hc : CutAt14 w cv C) : Calls Try.prog 4 #[.agg (SC 46 (pkV P v)), cv] w fun e w' => e = .returned (.bool true) ∧ Below w.heap.size w w' := by
  obtain ⟨hcv, hco, hct, hbo, hbt, _⟩ := hc
  subst hcv
  obtain ⟨oa, oc, hov, hocell⟩ := hco
  obtain ⟨ta, tc, htv, htcell⟩ := hct
  have HOV := Hid.mk hov
  have HOC := Hid.mk hocell
  have HTV := Hid.mk htv
  have HTC := Hid.mk htcell
  have HBO := Hid.mk hbo
  have HBT := Hid.mk hbt
  have HX := Hid.mk hx
  have HPI := Hid.mk hP
  have hv1 := hx.one
  obtain ⟨er, her⟩ : ∃ e, (splitP P C.mtu C.id).2 = e := ⟨_, rfl⟩
  have HER := Hid.mk her
  have HSA : Hid (∀ ww, ExAt ww v P.exts → Calls Try.prog 9 #[.agg (SC 46 (pkV P v)), .int .i64 C.mtu, .int .i64 C.id] ww fun e w' => CutPost ww.heap.size er (splitP P C.mtu C.id).1 e w' ∧ Below ww.heap.size ww w') := Hid.mk (fun ww h => her ▸ Split_run P v C.mtu C.id ww h hP.len hP.b hP.p)
  clear hx hP hbo hbt hov htv hocell htcell her
  go_enter Try.func4, Try.ntmps4
  go_wp2_with (refine wl_boxO (V := pkV P v) rfl rfl isPk rfl ?_; intro g2 w1 hg2 s2 hB1; refine Hid.out ?_)
  refine Hid.mk ?_
  go_wp2_with (refine wl_boxO (V := cutV14 C) rfl rfl isCut rfl ?_; intro g3 w2 hg3 s3 hB2; refine Hid.out ?_)
  refine Hid.mk ?_
  have s2 := s2.kept hB2
  have hBa := hB1.trans (hB2.mono hB1.size)
  clear hB1 hB2
  go_wp2_with (go_at_call 7; refine (awake14_run _).mono ?_; rintro e w4 ⟨rfl, hB4⟩; refine Hid.out ?_)
  refine Hid.mk ?_
  have s2 := s2.kept hB4
  have s3 := s3.kept hB4
  have hBa := hBa.trans (hB4.mono hBa.size)
  clear hB4
  have X4 := Hid.mk (HX.out.kept hBa)
  go_wp2_with (refine wl_value rfl (look_st rfl isPk s2 rfl) ?_; refine Hid.out ?_)
  refine Hid.mk ?_
  go_wp2_with (refine wl_value rfl (exec_fcut 0 (by decide) rfl rfl) ?_; refine Hid.out ?_)
  refine Hid.mk ?_
  go_wp2_with (refine wl_value rfl (exec_ld rfl rfl (ldP (cut_mtu s3))) ?_; refine Hid.out ?_)
  refine Hid.mk ?_
  go_wp2_with (refine wl_value rfl (exec_fcut 1 (by decide) rfl rfl) ?_; refine Hid.out ?_)
  refine Hid.mk ?_
  go_wp2_with (refine wl_value rfl (exec_ld rfl rfl (ldP (cut_id s3))) ?_; refine Hid.out ?_)
  refine Hid.mk ?_
  go_wp2_with (go_at_call 9; refine (HSA.out _ X4.out).mono ?_; rintro e w5 ⟨⟨va, la, rfl, hra, hla⟩, hB5⟩; refine Hid.out ?_)
  refine Hid.mk ?_
  have s2 := s2.kept hB5
  have s3 := s3.kept hB5
  have hBb := hBa.trans (hB5.mono hBa.size)
  obtain ⟨pa, ca, rfl, hpa⟩ := hra.shape
  have HBC := Hid.mk hBb
  have HW45 : Hid (w4.heap.size ≤ w5.heap.size) := Hid.mk hB5.size
  have HRA := Hid.mk (And.intro hra (And.intro hla hpa))
  clear hBa hBb hB5 X4 HSA hra hla hpa
  go_upto_region 3 with fail
  refine wp_plain_steps (Below w5.heap.size w5) (fun v v' => Below v.heap.size v v') (fun j vv _ => vv = ([.int .i64 er, .bool (!decide (er = 0)), .bool (!decide (er = 0)), gv (!(!decide (er = 0))) (.pointer (some ⟨g2, 38, none⟩)), gv (!(!decide (er = 0))) (.int .i64 P.off), gv (!(!decide (er = 0))) (.bool (decide (0 < P.off))), .bool ((!decide (er = 0)) || (decide (0 < P.off))), .bool ((!decide (er = 0)) || (decide (0 < P.off))), gv (!((!decide (er = 0)) || (decide (0 < P.off)))) (.pointer (some ⟨g2, 39, none⟩)), gv (!((!decide (er = 0)) || (decide (0 < P.off)))) (.bool P.more), .bool (((!decide (er = 0)) || (decide (0 < P.off))) || P.more), .bool (((!decide (er = 0)) || (decide (0 < P.off))) || P.more), gv (!(((!decide (er = 0)) || (decide (0 < P.off))) || P.more)) (.slice pa la.length ca), gv (!(((!decide (er = 0)) || (decide (0 < P.off))) || P.more)) (.int .i64 (la.length : Int)), gv (!(((!decide (er = 0)) || (decide (0 < P.off))) || P.more)) (.bool (decide (64 < (la.length : Int)))), .bool ((((!decide (er = 0)) || (decide (0 < P.off))) || P.more) || (decide (64 < (la.length : Int))))] : List Value).getD j undef)
      [33, 34, 35, 36, 37, 38, 39, 40, 41, 42, 43, 44, 45, 46, 47, 48]
      [(7, .int .i64 er), (6, .slice pa la.length ca), (2, .pointer (some ⟨g2, 0, none⟩))] [] 0
      [[], [0], [1], [2], [2, 3], [2, 4], [2, 5], [6], [7], [7, 8], [7, 9], [10], [11], [11, 12], [11, 13], [11, 14]]
      (by kernel_rfl) ⟨rfl, rfl, rfl, trivial⟩ trivial (Below.refl _ _) (fun v v' h hb => h.trans (hb.mono h.size)) (fun _ _ _ _ h _ => h)
      ⟨
      (fun QQ aa ww hS fr kn => sg0 rfl (fun K hK => wp_value (exec_move rfl fr.1) (hK _ _ rfl (Below.refl _ _)))),
      (fun QQ aa ww hS fr kn => sg0 rfl (fun K hK => wp_value (cmp_neE (m := er) (n := 0) rfl kn.1 rfl) (hK _ _ rfl (Below.refl _ _)))),
      (fun QQ aa ww hS fr kn => sg0 rfl (fun K hK => wp_value (exec_move rfl kn.1) (hK _ _ rfl (Below.refl _ _)))),
      (fun QQ aa ww hS fr kn => sgF rfl kn.1 (fun hng K hK => have hc := nt_t hng; wp_value (exec_fpk 6 (by decide) rfl fr.2.2.1) (hK _ _ (gv_t hc).symm (Below.refl _ _))) (fun h0 => (gv_f (nt_f h0)).symm)),
      (fun QQ aa ww hS fr kn => sgF rfl kn.1 (fun hng K hK => have hc := nt_t hng; wp_value (exec_ld rfl (kn.2.1.trans (gv_t hc)) (ldP (pk_off (SAt.kept s2 hS)))) (hK _ _ (gv_t hc).symm (Below.refl _ _))) (fun h0 => (gv_f (nt_f h0)).symm)),
      (fun QQ aa ww hS fr kn => sgF rfl kn.1 (fun hng K hK => have hc := nt_t hng; wp_value (cmp_gt (m := P.off) (n := 0) rfl (kn.2.1.trans (gv_t hc)) rfl) (hK _ _ (gv_t hc).symm (Below.refl _ _))) (fun h0 => (gv_f (nt_f h0)).symm)),
      (fun QQ aa ww hS fr kn => sg0 rfl (fun K hK => wp_value (exec_pickOr rfl kn.1 rfl (fun hx => kn.2.1.trans (gv_t (nt_t hx)))) (hK _ _ rfl (Below.refl _ _)))),
      (fun QQ aa ww hS fr kn => sg0 rfl (fun K hK => wp_value (exec_move rfl kn.1) (hK _ _ rfl (Below.refl _ _)))),
      (fun QQ aa ww hS fr kn => sgF rfl kn.1 (fun hng K hK => have hc := nt_t hng; wp_value (exec_fpk 7 (by decide) rfl fr.2.2.1) (hK _ _ (gv_t hc).symm (Below.refl _ _))) (fun h0 => (gv_f (nt_f h0)).symm)),
      (fun QQ aa ww hS fr kn => sgF rfl kn.1 (fun hng K hK => have hc := nt_t hng; wp_value (exec_ld rfl (kn.2.1.trans (gv_t hc)) (ldPb (pk_more (SAt.kept s2 hS)))) (hK _ _ (gv_t hc).symm (Below.refl _ _))) (fun h0 => (gv_f (nt_f h0)).symm)),
      (fun QQ aa ww hS fr kn => sg0 rfl (fun K hK => wp_value (exec_pickOr rfl kn.1 rfl (fun hx => kn.2.1.trans (gv_t (nt_t hx)))) (hK _ _ rfl (Below.refl _ _)))),
      (fun QQ aa ww hS fr kn => sg0 rfl (fun K hK => wp_value (exec_move rfl kn.1) (hK _ _ rfl (Below.refl _ _)))),
      (fun QQ aa ww hS fr kn => sgF rfl kn.1 (fun hng K hK => have hc := nt_t hng; wp_value (exec_move rfl fr.2.1) (hK _ _ (gv_t hc).symm (Below.refl _ _))) (fun h0 => (gv_f (nt_f h0)).symm)),
      (fun QQ aa ww hS fr kn => sgF rfl kn.1 (fun hng K hK => have hc := nt_t hng; wp_value (exec_lenK rfl (kn.2.1.trans (gv_t hc))) (hK _ _ (gv_t hc).symm (Below.refl _ _))) (fun h0 => (gv_f (nt_f h0)).symm)),
      (fun QQ aa ww hS fr kn => sgF rfl kn.1 (fun hng K hK => have hc := nt_t hng; wp_value (cmp_gt (m := (la.length : Int)) (n := 64) rfl (kn.2.1.trans (gv_t hc)) rfl) (hK _ _ (gv_t hc).symm (Below.refl _ _))) (fun h0 => (gv_f (nt_f h0)).symm)),
      (fun QQ aa ww hS fr kn => sg0 rfl (fun K hK => wp_value (exec_pickOr rfl kn.1 rfl (fun hx => kn.2.1.trans (gv_t (nt_t hx)))) (hK _ _ rfl (Below.refl _ _)))),
      trivial⟩ ?_
  intro vs w6 hB6 kn
  have e48 : vs 48 = .bool ((((!decide (er = 0)) || (decide (0 < P.off))) || P.more) || (decide (64 < (la.length : Int)))) := kn 15 (by decide)
  clear kn
  simp only [putAll, Act.put, List.setIfInBounds_toArray, List.set_cons_zero, List.set_cons_succ, e48]
  clear e48
  have s2 := s2.kept hB6
  have s3 := s3.kept hB6
  have HRB : Hid (PkRow w6 w4.heap.size w4.heap.size (.slice pa la.length ca) la ∧ la.map (·.1) = (splitP P C.mtu C.id).1 ∧ (0 < la.length → ∃ q : Nat, pa = some ⟨q, 0, none⟩)) := Hid.mk ⟨HRA.out.1.keep hB6.size hB6.block, HRA.out.2.1, HRA.out.2.2⟩
  have HBD := Hid.mk (HBC.out.trans (hB6.mono HBC.out.size))
  have HB56 : Hid (w5.heap.size ≤ w6.heap.size) := Hid.mk hB6.size
  clear hB6 HBC HRA
  rcases Bool.eq_false_or_eq_true ((((!decide (er = 0)) || (decide (0 < P.off))) || P.more) || (decide (64 < (la.length : Int)))) with hE | hE
  · rw [hE]
    go_upto_region 4 with fail
    refine wp_plain_steps (Below w6.heap.size w6) (fun v v' => Below v.heap.size v v') (fun j vv _ => vv = ([.bool true, .bool true, .int .i64 er, .bool (decide (er = 0)), .bool (decide (er = 0)), gv (!(decide (er = 0))) (.slice pa la.length ca), gv (!(decide (er = 0))) (.int .i64 (la.length : Int)), gv (!(decide (er = 0))) (.bool (decide ((la.length : Int) = 0))), .bool ((decide (er = 0)) || (decide ((la.length : Int) = 0))), .bool ((decide (er = 0)) || (decide ((la.length : Int) = 0))), .bool ((decide (er = 0)) || (decide ((la.length : Int) = 0)))] : List Value).getD j undef)
        [49, 50, 51, 52, 53, 54, 55, 56, 57, 58, 4]
        [(5, .bool true), (7, .int .i64 er), (6, .slice pa la.length ca)] [] 0
        [[], [0], [1], [1, 2], [1, 3], [4], [4, 5], [4, 6], [1, 4, 7], [1, 8], [9]]
        (by kernel_rfl) ⟨rfl, rfl, rfl, trivial⟩ trivial (Below.refl _ _) (fun v v' h hb => h.trans (hb.mono h.size)) (fun _ _ _ _ h _ => h)
        ⟨
        (fun QQ aa ww hS fr kn => sg0 rfl (fun K hK => wp_value (exec_move rfl fr.1) (hK _ _ rfl (Below.refl _ _)))),
        (fun QQ aa ww hS fr kn => sg0 rfl (fun K hK => wp_value (exec_move rfl kn.1) (hK _ _ rfl (Below.refl _ _)))),
        (fun QQ aa ww hS fr kn => sgK rfl kn.1 (fun K hK => wp_value (exec_move rfl fr.2.1) (hK _ _ rfl (Below.refl _ _)))),
        (fun QQ aa ww hS fr kn => sgK rfl kn.1 (fun K hK => wp_value (cmp_eqE (m := er) (n := 0) rfl kn.2.1 rfl) (hK _ _ rfl (Below.refl _ _)))),
        (fun QQ aa ww hS fr kn => sgK rfl kn.1 (fun K hK => wp_value (exec_move rfl kn.2.1) (hK _ _ rfl (Below.refl _ _)))),
        (fun QQ aa ww hS fr kn => sgF rfl kn.1 (fun hng K hK => have hc := nt_t hng; wp_value (exec_move rfl fr.2.2.1) (hK _ _ (gv_t hc).symm (Below.refl _ _))) (fun h0 => (gv_f (nt_f h0)).symm)),
        (fun QQ aa ww hS fr kn => sgF rfl kn.1 (fun hng K hK => have hc := nt_t hng; wp_value (exec_lenK rfl (kn.2.1.trans (gv_t hc))) (hK _ _ (gv_t hc).symm (Below.refl _ _))) (fun h0 => (gv_f (nt_f h0)).symm)),
        (fun QQ aa ww hS fr kn => sgF rfl kn.1 (fun hng K hK => have hc := nt_t hng; wp_value (cmp_eq (m := (la.length : Int)) (n := 0) rfl (kn.2.1.trans (gv_t hc)) rfl) (hK _ _ (gv_t hc).symm (Below.refl _ _))) (fun h0 => (gv_f (nt_f h0)).symm)),
        (fun QQ aa ww hS fr kn => sgK rfl kn.1 (fun K hK => wp_value (exec_pickOr rfl kn.2.1 rfl (fun hx => kn.2.2.1.trans (gv_t (nt_t hx)))) (hK _ _ rfl (Below.refl _ _)))),
        (fun QQ aa ww hS fr kn => sg0 rfl (fun K hK => wp_value (exec_pick (v := .bool ((decide (er = 0)) || (decide ((la.length : Int) = 0)))) rfl kn.1 kn.2.1) (hK _ _ rfl (Below.refl _ _)))),
        (fun QQ aa ww hS fr kn => sg0 rfl (fun K hK => wp_value (exec_assign rfl kn.1) (hK _ _ rfl (Below.refl _ _)))),
        trivial⟩ ?_
    intro vs w7 hB7 kn
    have e4 : vs 4 = .bool ((decide (er = 0)) || (decide ((la.length : Int) = 0))) := kn 10 (by decide)
    clear kn
    simp only [putAll, Act.put, List.setIfInBounds_toArray, List.set_cons_zero, List.set_cons_succ, e4]
    clear e4
    have e4 : ((decide (er = 0)) || (decide ((la.length : Int) = 0))) = true := by
      by_cases h0 : er = 0
      · simp [h0]
      · have h1 := split_err (P := P) (mtu := C.mtu) (id := C.id) (by rw [HER.out]; exact h0)
        have h2 := HRB.out.2.1
        rw [h1] at h2
        have h3 : la.length = 0 := by rw [← List.length_map (f := (·.1)), h2]; rfl
        simp [h3]
    rw [e4]
    go_wp2_with fail
    go_ret
    exact ⟨rfl, HBD.out.trans (hB7.mono HBD.out.size)⟩
  rw [hE]
  have hE2 := hE
  simp only [Bool.or_eq_false_iff, Bool.not_eq_false', decide_eq_true_eq, decide_eq_false_iff_not] at hE2
  clear hE
  obtain ⟨pc, m, HCP⟩ : ∃ pc m, Hid (Whl P pc m ∧ m ≤ 64 ∧ la.length = m ∧ la.map (·.1) = (List.range m).map pc ∧ ∀ k, k < m → (sizeP (pc k) : Int) ≤ C.mtu) := by
    have h2 := HRB.out.2.1
    obtain ⟨pc, m, h5, h6, h7, h8⟩ := split_whl (P := P) (mtu := C.mtu) (id := C.id) (by rw [HER.out]; omega) (by omega) (by simp [hE2]) (by rw [← h2, List.length_map]; omega)
    rw [h7] at h2
    have h9 : la.length = m := by rw [← List.length_map (f := (·.1)), h2, List.length_map, List.length_range]
    exact ⟨pc, m, Hid.mk ⟨h5, h6, h9, h2, h8⟩⟩
  clear hE2
  have HM1 : Hid (1 ≤ m ∧ m ≤ 64) := Hid.mk ⟨HCP.out.1.m1, HCP.out.2.1⟩
  obtain ⟨pa, rfl⟩ : ∃ q, pa = some q := by
    obtain ⟨q, hq⟩ := HRB.out.2.2 (by have := HCP.out.2.2.1; have := HM1.out; omega)
    exact ⟨_, hq⟩
  have HLA := Hid.mk HCP.out.2.2.1
  rw [HLA.out]
  obtain ⟨nz, hnz⟩ : ∃ nz, w6.heap.size = nz := ⟨_, rfl⟩
  have HNZ := Hid.mk hnz
  have HGZ : Hid (g2 < nz ∧ g3 < nz ∧ w.heap.size ≤ nz ∧ w4.heap.size ≤ nz) := Hid.mk ⟨by rw [← hnz]; exact s2.lt, by rw [← hnz]; exact s3.lt, by have := HBD.out.size; omega, by have := HW45.out; have := HB56.out; omega⟩
  have HS6 := Hid.mk (And.intro s2 s3)
  go_wp2_with (go_at_call 13; refine (New_run _).mono ?_; rintro e z1 ⟨⟨g, rfl, hg, sg⟩, hB1⟩; refine Hid.out ?_)
  refine Hid.mk ?_
  go_wp2_with (refine wl_value rfl (exec_lenK rfl rfl) ?_; refine Hid.out ?_)
  refine Hid.mk ?_
  go_wp2_with (refine wl_value rfl (exec_eqW (m := (m : Int)) (n := 0) (z := false) rfl rfl rfl (decide_eq_false (by have := HM1.out; omega))) ?_; refine Hid.out ?_)
  refine Hid.mk ?_
  go_wp2_with (refine wl_value rfl (exec_lenK rfl rfl) ?_; refine Hid.out ?_)
  refine Hid.mk ?_
  go_wp2_with (refine wl_mkN (n := m) rfl rfl rfl rfl (by have := HM1.out; omega) ?_; intro gl0 z2 hgl rl hB2; refine Hid.out ?_)
  refine Hid.mk ?_
  have hbn := box_new (B := 0) (N := fun k => k < nz) sg (Nat.zero_le _) (by omega)
  have HB0 := Hid.mk ((hbn.more (N' := fun k => k < nz ∨ k = gl0) (fun k hk => hk.imp_right (fun e => by omega))).kept hB2)
  have HS0 : Hid (Spares (fun k => k < nz) w6 z2) := Hid.mk ((spares_below hB1).trans (spares_below hB2))
  have HGL : Hid (nz ≤ gl0) := Hid.mk (by have := hB1.size; omega)
  have HRL := Hid.mk rl
  clear hbn sg hg hB1 hB2 rl hgl s2 s3
  go_wp2_with fail
  go_loopg [10] m (fun gm s10 zz => ∃ (i : Nat) (s : Nat → Int) (mv : Value) (cs : List Ch), Hid (gm + i = m) ∧ s10 = .int .i64 (i : Int) ∧ Hid (i ≤ m ∧ RowAt zz gl0 .i64 3 m s ∧ ∀ j, j < i → s j = (j : Int)) ∧ Hid (BoxAt zz 0 (fun k => k < nz ∨ k = gl0) g mv noB 0 cs) ∧ Hid (Spares (fun k => k < nz) w6 zz))
  case atStart => exact ⟨0, _, _, _, Hid.mk (by omega), rfl, Hid.mk ⟨Nat.zero_le _, HRL.out, fun j hj => by omega⟩, HB0, HS0⟩
  case round =>
    obtain ⟨i, s, mv0, cs0, HI, rfl, HRW, HBX, HSZ⟩ := hrel
    generalize wr = zr0 at *
    generalize gk = gz at *
    clear HB0 HS0 HRL
    have HKS : Hid (nz ≤ zr0.heap.size ∧ ∀ q, q < nz → zr0.heap[q]? = w6.heap[q]?) := Hid.mk ⟨by have := HSZ.out.size; omega, keep_spares HSZ.out (by rw [hnz]; exact Nat.le_refl _)⟩
    by_cases him : i < m
    · have HIMI : Hid ((i : Int) < (m : Int)) := Hid.mk (by omega)
      have HIM := Hid.mk him
      obtain ⟨i1, hi1⟩ : ∃ q, i + 1 = q := ⟨_, rfl⟩
      have HI1 := Hid.mk hi1
      obtain ⟨y, hy⟩ : ∃ y, la[i]? = some (pc i, y) := by
        have h1 := congrArg (fun q => q[i]?) HCP.out.2.2.2.1
        simp only [List.getElem?_map] at h1
        rw [List.getElem?_range (by omega)] at h1
        cases hq : la[i]? with
        | none => rw [hq] at h1; cases h1
        | some q =>
          rw [hq] at h1
          obtain ⟨q1, q2⟩ := q
          injection h1 with h1
          have h1 : q1 = _ := h1
          exact ⟨q2, by rw [h1]⟩
      have HYY := Hid.mk hy
      clear hi1 him hy
      go_wp2_with (refine wl_value rfl (exec_lenK rfl rfl) ?_; refine Hid.out ?_)
      refine Hid.mk ?_
      go_wp2_with (refine wl_value rfl (exec_ltT (m := (i : Int)) (n := (m : Int)) rfl rfl rfl HIMI.out) ?_; refine Hid.out ?_)
      refine Hid.mk ?_
      go_wp2_with (refine wl_value rfl (exec_ixLs (i := i) rfl rfl rfl HIM.out) ?_; refine Hid.out ?_)
      refine Hid.mk ?_
      go_wp2_with (refine wl_stN rfl rfl HRW.out.2.1 rfl rfl HIM.out ?_; intro z3 r3 ho3; refine Hid.out ?_)
      refine Hid.mk ?_
      have HR3 := Hid.mk r3
      have HB3 := Hid.mk (HBX.out.awayN (touch_only ho3) (fun k e => .inr e))
      have HS3 := Hid.mk (HSZ.out.trans (spares_only ho3 (by have := HGL.out; omega)))
      have hk3 : ∀ q, q < nz → z3.heap[q]? = w6.heap[q]? := keep_spares HS3.out (by rw [hnz]; exact Nat.le_refl _)
      have HK3 : Hid (nz ≤ z3.heap.size ∧ ∀ q, q < nz → z3.heap[q]? = w6.heap[q]?) := Hid.mk ⟨by have := HS3.out.size; omega, hk3⟩
      have s3 := HS6.out.2.block (hk3 _ HGZ.out.2.1)
      have HROW : Hid (∀ zw : World, Below z3.heap.size z3 zw → PkRow zw w4.heap.size w4.heap.size (.slice (some pa) la.length ca) la) := Hid.mk (fun zw hb => HRB.out.1.keep (by have := HK3.out.1; have := hb.size; omega) (fun q hq => (hb.block q (by have := HK3.out.1; omega)).trans (HK3.out.2 q (by omega))))
      have HYE : Hid (∀ zw : World, Below z3.heap.size z3 zw → ExAt zw y (pc i).exts) := Hid.mk (fun zw hb => by
        have h1 := HRB.out.1.exs _ (List.mem_of_getElem? HYY.out)
        exact (h1.away (w := w6) (u := zw) (by have := HK3.out.1; have := hb.size; omega) (fun q hq => (hb.block q (by have := HK3.out.1; omega)).trans (HK3.out.2 q (by omega)))).1)
      have hsm := HCP.out.1.small HIM.out
      have HSZ2 : Hid (∀ zw : World, Below z3.heap.size z3 zw → Calls Try.prog 14 #[.agg (SC 46 (pkV (pc i) y))] zw fun e w' => e = .returned (.int .i64 (sizeP (pc i) : Int)) ∧ Below zw.heap.size zw w') := Hid.mk (fun zw hb => Size_run (pc i) y zw (HYE.out zw hb) hsm.1 hsm.2.1 hsm.2.2)
      have HRI : Hid (∀ zw : World, Below z3.heap.size z3 zw → Calls Try.prog 15 #[.agg (SC 46 (pkV (pc i) y))] zw fun e w' => e = .returned (.bool true) ∧ Below zw.heap.size zw w') := Hid.mk (fun zw hb => by
        have h := Right_run (pc i) y zw (HYE.out zw hb) hsm.1 hsm.2.1
        rw [HCP.out.1.rgt HIM.out] at h
        exact h)
      have HGT : Hid (decide (C.mtu < ((sizeP (pc i) : Nat) : Int)) = false) := Hid.mk (decide_eq_false (by have := HCP.out.2.2.2.2 i HIM.out; omega))
      clear hsm r3 ho3 hk3
      have HSZ := HSZ2
      clear HSZ2
      go_upto_region 13 with fail
      refine wp_region3 (Below z3.heap.size z3) z3.heap.size
          ([] : List (Nat × Cont))
          [kv (.slice (some pa) m ca), kv (.int .i64 (i : Int)), kv (.pointer (some (pa.add (46 * i)))), kv (.agg (SC 46 (pkV (pc i) y))), kv (.int .i64 ((sizeP (pc i) : Nat) : Int)), kv (.pointer (some ⟨g3, 0, none⟩)), kv (.int .i64 C.mtu), kv (.bool false), kv (.bool false), kv (.slice (some pa) m ca), kv (.int .i64 (i : Int)), kv (.pointer (some (pa.add (46 * i)))), kv (.agg (SC 46 (pkV (pc i) y))), kv (.bool true), kv (.bool false), kv (.bool false)]
          [.none, .none, .none, .none, .none, .none, .none, .none, .none, .none, .none, .none, .none, .none, .none, .none]
          [some 80, some 81, some 82, some 83, some 84, some 85, some 86, some 87, some 88, some 89, some 90, some 91, some 92, some 93, some 94, some 95]
          [(6, .slice (some pa) m ca), (10, .int .i64 (i : Int)), (3, .pointer (some ⟨g3, 0, none⟩))]
          [[], [], [.slot 0, .slot 1], [.slot 2], [.slot 3], [], [.slot 5], [.slot 4, .slot 6], [.slot 7], [.slot 8], [.slot 8], [.slot 8, .slot 9, .slot 10], [.slot 8, .slot 11], [.slot 8, .slot 12], [.slot 8, .slot 13], [.slot 8, .slot 14]]
          [.slot 15] [80, 81, 82, 83, 84, 85, 86, 87, 88, 89, 90, 91, 92, 93, 94, 95]
          rfl (by kernel_rfl) ⟨rfl, rfl, rfl, trivial⟩ ((Below.refl _ z3).drew) (Nat.le_refl _) trivial trivial (below_GcW (Nat.le_refl _))
          ⟨
          (fun QQ aa ww own hS hBg fr kn => .inl ⟨trivial, fun K hK => wp_value (exec_move rfl fr.1) (hK _ _ ⟨Touch.refl _ _, rfl⟩)⟩),
          (fun QQ aa ww own hS hBg fr kn => .inl ⟨trivial, fun K hK => wp_value (exec_move rfl fr.2.1) (hK _ _ ⟨Touch.refl _ _, rfl⟩)⟩),
          (fun QQ aa ww own hS hBg fr kn => .inl ⟨trivial, fun K hK => wp_value (exec_ixK (i := i) rfl kn.1 kn.2.1 HIM.out) (hK _ _ ⟨Touch.refl _ _, rfl⟩)⟩),
          (fun QQ aa ww own hS hBg fr kn => .inl ⟨trivial, fun K hK => wp_value (exec_ld rfl kn.1 (row_pk (HROW.out ww hS) HYY.out)) (hK _ _ ⟨Touch.refl _ _, rfl⟩)⟩),
          (fun QQ aa ww own hS hBg fr kn => .inl ⟨trivial, fun K hK => stepc en_Size rfl (args1 kn.1) (HSZ.out ww hS) (fun w' hb => hK _ _ ⟨touch_below hb, rfl⟩)⟩),
          (fun QQ aa ww own hS hBg fr kn => .inl ⟨trivial, fun K hK => wp_value (exec_fcut 0 (by decide) rfl fr.2.2.1) (hK _ _ ⟨Touch.refl _ _, rfl⟩)⟩),
          (fun QQ aa ww own hS hBg fr kn => .inl ⟨trivial, fun K hK => wp_value (exec_ld rfl kn.1 (ldP (cut_mtu (SAt.kept s3 hS)))) (hK _ _ ⟨Touch.refl _ _, rfl⟩)⟩),
          (fun QQ aa ww own hS hBg fr kn => .inl ⟨trivial, fun K hK => wp_value (exec_gtW (m := ((sizeP (pc i) : Nat) : Int)) (n := C.mtu) (z := false) rfl kn.1 kn.2.1 HGT.out) (hK _ _ ⟨Touch.refl _ _, rfl⟩)⟩),
          (fun QQ aa ww own hS hBg fr kn => .inl ⟨trivial, fun K hK => wp_value (exec_move rfl kn.1) (hK _ _ ⟨Touch.refl _ _, rfl⟩)⟩),
          (fun QQ aa ww own hS hBg fr kn => .inl ⟨kn.1, fun K hK => wp_value (exec_move rfl fr.1) (hK _ _ ⟨Touch.refl _ _, rfl⟩)⟩),
          (fun QQ aa ww own hS hBg fr kn => .inl ⟨kn.1, fun K hK => wp_value (exec_move rfl fr.2.1) (hK _ _ ⟨Touch.refl _ _, rfl⟩)⟩),
          (fun QQ aa ww own hS hBg fr kn => .inl ⟨kn.1, fun K hK => wp_value (exec_ixK (i := i) rfl kn.2.1 kn.2.2.1 HIM.out) (hK _ _ ⟨Touch.refl _ _, rfl⟩)⟩),
          (fun QQ aa ww own hS hBg fr kn => .inl ⟨kn.1, fun K hK => wp_value (exec_ld rfl kn.2.1 (row_pk (HROW.out ww hS) HYY.out)) (hK _ _ ⟨Touch.refl _ _, rfl⟩)⟩),
          (fun QQ aa ww own hS hBg fr kn => .inl ⟨kn.1, fun K hK => stepc en_Right rfl (args1 kn.2.1) (HRI.out ww hS) (fun w' hb => hK _ _ ⟨touch_below hb, rfl⟩)⟩),
          (fun QQ aa ww own hS hBg fr kn => .inl ⟨kn.1, fun K hK => wp_value (exec_notB rfl kn.2.1) (hK _ _ ⟨Touch.refl _ _, rfl⟩)⟩),
          (fun QQ aa ww own hS hBg fr kn => .inl ⟨trivial, fun K hK => wp_value (exec_pickF (v := .bool false) rfl kn.1 kn.2.1) (hK _ _ ⟨Touch.refl _ _, rfl⟩)⟩),
          trivial⟩ ?_
      intro vs own z4 hB4 hsz kn inj
      have e95 : vs 95 = .bool false := kn.1
      clear kn inj hsz
      simp only [putAll, Act.put, List.setIfInBounds_toArray, List.set_cons_zero, List.set_cons_succ, e95]
      clear e95
      have HB4 := Hid.mk (HB3.out.kept hB4)
      have HS4 := Hid.mk (HS3.out.trans (spares_below hB4))
      have HR4 := Hid.mk (HR3.out.below hB4 HR3.out.lt)
      clear hB4 HB3 HS3 HR3 s3
      go_wp2_with (refine wl_value rfl (exec_addW (i := i) (m := 1) (q := i1) rfl rfl rfl HI1.out (by have := HI1.out; have := HIM.out; have := HM1.out; omega)) ?_; refine Hid.out ?_)
      refine Hid.mk ?_
      go_wp2_with fail
      go_roundg (m - i1)
      case rel => exact ⟨i1, _, _, _, Hid.mk (by have := HI1.out; have := HIM.out; omega), rfl, Hid.mk ⟨by have := HI1.out; have := HIM.out; omega, HR4.out, fun j hj => by
        unfold upd
        by_cases e : j = i
        · rw [if_pos e, e]
        · rw [if_neg e]; exact HRW.out.2.2 j (by have := HI1.out; omega)⟩, HB4, HS4⟩
      case measure => have := HI.out; have := HI1.out; have := HIM.out; omega
    · have HIM : Hid ((m : Int) ≤ (i : Int) ∧ i = m) := Hid.mk (by have := HRW.out.1; omega)
      clear him
      go_wp2_with (refine wl_value rfl (exec_lenK rfl rfl) ?_; refine Hid.out ?_)
      refine Hid.mk ?_
      go_wp2_with (refine wl_value rfl (exec_ltF (m := (i : Int)) (n := (m : Int)) rfl rfl rfl (Int.not_lt.2 HIM.out.1)) ?_; refine Hid.out ?_)
      refine Hid.mk ?_
      go_wp2_with (refine wl_value rfl (exec_tg rfl) ?_; refine Hid.out ?_)
      refine Hid.mk ?_
      go_wp2_with (refine wl_alO rfl rfl (fun w => run_tgz w) ?_; intro gt z1 hgt st hB1; refine Hid.out ?_)
      refine Hid.mk ?_
      go_wp2_with (refine st_stO (V := tgV 1 1) (g := gt) rfl rfl isTg tgV_one st rfl rfl ?_; intro z2 st ho2; refine Hid.out ?_)
      refine Hid.mk ?_
      have hnzr := HKS.out.1
      have hgl := HRW.out.2.1.lt
      have HL2 : Hid (LsAt z2 gl0 (List.range m)) := Hid.mk (ls_all (((HRW.out.2.1.below hB1 hgl)).only ho2 (by omega)) (fun j hj => HRW.out.2.2 j (by have := HIM.out.2; omega)))
      have HB2 : Hid (BoxAt z2 0 (fun k => (k < nz ∨ k = gt) ∨ k = gl0) g mv0 noB 0 cs0) := Hid.mk ((((HBX.out.more (N' := fun k => (k < nz ∨ k = gt) ∨ k = gl0) (fun k hk => hk.elim (fun h => h.elim (fun h => .inl (.inl h)) (fun e => .inr (by omega))) (fun e => .inl (.inr e)))).kept hB1).awayN (touch_only ho2) (fun k e => .inl (.inr e))))
      have HS2 := Hid.mk (HSZ.out.trans (Spares.local hB1 hgt hnzr ho2))
      have HT2 := Hid.mk (And.intro st (show nz ≤ gt ∧ gl0 ≠ gt by omega))
      clear hB1 ho2 hgt st HRW HBX HSZ HKS hgl hnzr
      go_wp2_with fail
      go_loopg [9, 12] m (fun gm s9 s12 zz => ∃ (L ks : List Nat) (n gl ll cl : Nat) (yb : Bool) (mv : Value) (b : Bx) (bg : Int) (cs : List Ch), Hid (gm + n = m) ∧ s9 = .slice (some ⟨gl, 0, none⟩) ll cl ∧ s12 = .int .i64 (n : Int) ∧ Hid (ll = L.length ∧ LeftOk L ks m ∧ ks.length = n ∧ 0 < ll ∧ ll ≤ cl) ∧ Hid (LsAt zz gl L ∧ nz ≤ gl ∧ gl ≠ gt) ∧ Hid (BoxAt zz 0 (fun k => (k < nz ∨ k = gt) ∨ k = gl) g mv b bg cs ∧ bg ≤ 3 * (n : Int)) ∧ Hid (TwoAt b (n : Int) (famOf 1 1 (pc 0)) (famOf 1 2 (pc 0)) (ks.map pc) (if yb = true then [pc 0] else [])) ∧ Hid (SAt zz gt 45 2 (tgV 1 1)) ∧ Hid (Spares (fun k => k < nz) w6 zz))
      case atStart => exact ⟨List.range m, [], 0, gl0, m, m, false, _, _, _, _, Hid.mk (by omega), rfl, rfl, Hid.mk ⟨by rw [List.length_range], left_0 m, rfl, by have := HM1.out; omega, Nat.le_refl _⟩, Hid.mk ⟨HL2.out, HGL.out, HT2.out.2.2⟩, Hid.mk ⟨HB2.out, Int.le_refl _⟩, Hid.mk (two_no _ _), Hid.mk HT2.out.1, HS2⟩
      case round =>
        clear HL2 HB2 HS2 HGL
        obtain ⟨L, ks, n, gl, ll, cl, yb, mv, b, bg, cs, HI, rfl, rfl, HL, HLS, HBX, HTW, HTG, HSZ⟩ := hrel
        generalize wr = zr at *
        generalize gk = gz2 at *
        have HKS : Hid (nz ≤ zr.heap.size ∧ ∀ q, q < nz → zr.heap[q]? = w6.heap[q]?) := Hid.mk ⟨by have := HSZ.out.size; omega, keep_spares HSZ.out (by rw [hnz]; exact Nat.le_refl _)⟩
        have HNM : Hid (n < m) := Hid.mk (by have h1 := HL.out.2.1.len; have := HL.out; omega)
        have s3 := HS6.out.2.block (HKS.out.2 _ HGZ.out.2.1)
        go_wp2_with (refine wl_value rfl (exec_lenN rfl rfl) ?_; refine Hid.out ?_)
        refine Hid.mk ?_
        go_wp2_with (refine wl_value rfl (exec_gtW (m := (ll : Int)) (n := 0) (z := true) rfl rfl rfl (decide_eq_true (by have := HL.out.2.2.2.1; omega))) ?_; refine Hid.out ?_)
        refine Hid.mk ?_
        go_upto_region 20 with fail
        rename_i K1 HK1 K0 HK0
        have TAIL1 : ∀ (r97 r98 r99 r100 r101 r102 r103 r104 r105 r106 r107 r108 r109 r110 r111 r112 r113 r114 : Value) (at' : Nat) (za : World), Hid (at' < ll) → Hid (Below zr.heap.size zr za) → K1 { tmps := #[.agg (SC 46 (pkV P v)), .agg (SC 5 (cutV14 C)), .pointer (some ⟨g2, 0, none⟩), .pointer (some ⟨g3, 0, none⟩), u4, .bool true, .slice (some pa) m ca, .int .i64 er, .pointer (some ⟨g, 0, none⟩), .slice (some ⟨gl, 0, none⟩) ll cl, .int .i64 (i : Int), .pointer (some ⟨gt, 0, none⟩), .int .i64 (n : Int), (.int .i64 (at' : Int)), u14, u15, u16, u17, u18, u19, u20, u21, u22, .bool true, .tuple #[.slice (some pa) m ca, .int .i64 er], .agg (SC 46 (pkV P v)), .pointer (some ⟨g3, 0, none⟩), .int .i64 C.mtu, .pointer (some ⟨g3, 1, none⟩), .int .i64 C.id, .tuple #[.slice (some pa) m ca, .int .i64 er], .slice (some pa) m ca, .int .i64 er, vs 33, vs 34, vs 35, vs 36, vs 37, vs 38, vs 39, vs 40, vs 41, vs 42, vs 43, vs 44, vs 45, vs 46, vs 47, .bool false, undef, undef, undef, undef, undef, undef, undef, undef, undef, undef, .pointer (some ⟨g, 0, none⟩), .pointer (some ⟨g, 0, none⟩), .bool false, .bool false, .slice (some pa) m ca, .int .i64 (m : Int), .bool false, .bool false, .slice (some pa) m ca, .int .i64 (m : Int), .slice (some ⟨gl0, 0, none⟩) m m, .int .i64 (i : Int), .slice (some pa) m ca, .int .i64 (m : Int), .bool false, u74, u75, u76, u77, u78, u79, u80, u81, u82, u83, u84, u85, u86, u87, u88, u89, u90, u91, u92, u93, u94, u95, .agg (SC 2 (tgV 1 1)), r97, r98, r99, r100, r101, r102, r103, r104, r105, r106, r107, r108, r109, r110, r111, r112, r113, r114, u115, u116, u117, u118, u119, u120, u121, u122, u123, u124, u125, u126, u127, u128, u129, u130, u131, u132, u133, u134, u135, u136, u137, u138, u139, u140, u141, u142, u143, u144, u145, u146, u147, u148, u149, u150, u151, u152, u153, u154, u155, u156, u157, u158, u159, u160, u161, u162, u163, u164, u165, u166, u167, u168, u169, u170, u171, u172, u173, u174, u175, u176, u177, u178, u179, u180, u181, u182, u183, u184, u185, u186, u187, u188, u189, u190, u191, u192, u193, u194, u195, u196, u197, u198, u199, u200, u201, u202], defers := [] } za := by
          intro r97 r98 r99 r100 r101 r102 r103 r104 r105 r106 r107 r108 r109 r110 r111 r112 r113 r114 at' za HAT HAZ
          refine HK1 _ _ ?_
          dsimp only
          clear HK1 HK0 s3
          have HLZ : Hid (LsAt za gl L) := Hid.mk (HLS.out.1.below HAZ.out HLS.out.1.lt)
          have HZA : Hid (nz ≤ za.heap.size ∧ (∀ q, q < nz → za.heap[q]? = w6.heap[q]?) ∧ gt < za.heap.size ∧ gl < za.heap.size) := Hid.mk ⟨by have := HKS.out.1; have := HAZ.out.size; omega, fun q hq => (HAZ.out.block q (by have := HKS.out.1; omega)).trans (HKS.out.2 q hq), by have := HTG.out.lt; have := HAZ.out.size; omega, HLZ.out.lt⟩
          obtain ⟨at1, hat1⟩ : ∃ q, at' + 1 = q := ⟨_, rfl⟩
          have HAT1 := Hid.mk hat1
          obtain ⟨kk, hkk⟩ : ∃ q, L.getD at' 0 = q := ⟨_, rfl⟩
          have HKK := Hid.mk hkk
          have hc : za.cell? ⟨gl, at', none⟩ = some (.int .i64 (kk : Int)) := by rw [← hkk]; exact HLZ.out.cell (by have := HAT.out; have := HL.out.1; omega)
          clear hat1 hkk
          go_wp2_with (refine wl_value rfl (exec_ixLs (i := at') rfl rfl rfl HAT.out) ?_; refine Hid.out ?_)
          refine Hid.mk ?_
          go_wp2_with (refine wl_value rfl (exec_ld rfl rfl (ldP hc)) ?_; refine Hid.out ?_)
          refine Hid.mk ?_
          obtain ⟨Lt, hLt⟩ : ∃ q, L.take at' = q := ⟨_, rfl⟩
          obtain ⟨Ld, hLd⟩ : ∃ q, L.drop at1 = q := ⟨_, rfl⟩
          have HLT : Hid (at' = Lt.length ∧ ll - at1 = Ld.length ∧ (∀ j, j < Lt.length → L.getD j 0 = Lt.getD j 0) ∧ (∀ j, j < Ld.length → L.getD (at1 + j) 0 = Ld.getD j 0) ∧ L.take at' ++ L.drop (at' + 1) = Lt ++ Ld) := Hid.mk (by
            have h1 := HAT.out
            have h2 := HL.out.1
            have h3 := HAT1.out
            refine ⟨by rw [← hLt, List.length_take]; omega, by rw [← hLd, List.length_drop]; omega, fun j hj => ?_, fun j hj => ?_, by rw [hLt, h3, hLd]⟩
            · rw [← hLt, List.length_take] at hj
              rw [← hLt, List.getD_eq_getElem?_getD, List.getD_eq_getElem?_getD, List.getElem?_take, if_pos (by omega)]
            · rw [← hLd, List.getD_eq_getElem?_getD, List.getD_eq_getElem?_getD, List.getElem?_drop])
          clear hLt hLd hc
          obtain ⟨q0, cq, hslo, hq0⟩ := slN_lo gl ll cl at1 (by have := HAT.out; have := HAT1.out; omega) HL.out.2.2.2.2
          have HSLO := Hid.mk hslo
          have HQ0 := Hid.mk hq0
          clear hslo hq0
          go_wp2_with (refine wl_value rfl (exec_slH rfl rfl rfl (slN_hi _ _ _ at' _ (Nat.le_of_lt HAT.out) HL.out.2.2.2.2)) ?_; refine Hid.out ?_)
          refine Hid.mk ?_
          go_wp2_with (refine ap_ls rfl rfl rfl rfl HLT.out.1 (OwnL.nil _ za.heap.size) (fun j hj => by rw [Nat.zero_add, ← HLT.out.2.2.1 j hj]; exact HLZ.out.cell (by have := HLT.out.1; have := HAT.out; have := HL.out.1; omega)) (by have := HLT.out.1; have := HAT.out; have := HL.out; have := HM1.out; have := HL.out.2.1.len; simp only [List.length_nil]; omega) (Nat.le_refl _) ?_; intro rv z1 hr1 hB1; refine Hid.out ?_)
          refine Hid.mk ?_
          have HR1 : Hid (OwnL z1 za.heap.size rv Lt) := Hid.mk hr1
          have HLZ1 : Hid (LsAt z1 gl L) := Hid.mk (HLZ.out.below hB1 HLZ.out.lt)
          have HB1 := Hid.mk hB1
          clear hr1 hB1
          go_wp2_with (refine wl_value rfl (exec_addW (i := at') (m := 1) (q := at1) rfl rfl rfl HAT1.out (by have := HAT1.out; have := HAT.out; have := HL.out; have := HM1.out; have := HL.out.2.1.len; omega)) ?_; refine Hid.out ?_)
          refine Hid.mk ?_
          go_wp2_with (refine wl_value rfl (exec_slL rfl rfl rfl (HSLO.out _)) ?_; refine Hid.out ?_)
          refine Hid.mk ?_
          go_wp2_with (refine ap_ls rfl rfl rfl rfl HLT.out.2.1 HR1.out (fun j hj => by have h1 := HLT.out.2.1; rw [HQ0.out (by omega), ← HLT.out.2.2.2.1 j hj]; exact HLZ1.out.cell (by have := HL.out.1; omega)) (by have := HLT.out; have := HAT.out; have := HAT1.out; have := HL.out; have := HM1.out; have := HL.out.2.1.len; omega) HB1.out.size ?_; intro lv z2 hr2 hB2; refine Hid.out ?_)
          refine Hid.mk ?_
          obtain ⟨L2, hL2⟩ : ∃ q, Lt ++ Ld = q := ⟨_, rfl⟩
          rw [hL2] at hr2
          obtain ⟨pl2, cl2, rfl⟩ := hr2.shape
          obtain ⟨l1, hl1⟩ : ∃ q, L2.length = q := ⟨_, rfl⟩
          rw [hl1]
          obtain ⟨n1, hn1⟩ : ∃ q, n + 1 = q := ⟨_, rfl⟩
          have HN1 := Hid.mk hn1
          have HOK2 : Hid (LeftOk L2 (ks ++ [kk]) m ∧ l1 = L2.length ∧ n1 + l1 = m ∧ kk < m ∧ kk ∉ ks) := Hid.mk (by
            have h0 := HL.out.2.1
            have h1 := h0.take (a := at') (by have := HAT.out; have := HL.out.1; omega)
            rw [HLT.out.2.2.2.2, hL2, HKK.out] at h1
            have hm : kk ∈ L := by rw [← HKK.out]; exact ls_get (by have := HAT.out; have := HL.out.1; omega)
            refine ⟨h1, hl1.symm, ?_, h0.lt _ hm, h0.ap _ hm⟩
            have h2 := h1.len
            rw [List.length_append] at h2
            have h3 := HL.out.2.2.1
            have h4 : ([kk] : List Nat).length = 1 := rfl
            omega)
          have hBz : Below za.heap.size za z2 := HB1.out.trans hB2
          have HG2 : ∃ gl2, Hid ((gl2 = gt ∨ za.heap.size ≤ gl2) ∧ gl2 < z2.heap.size ∧ (0 < l1 → za.heap.size ≤ gl2 ∧ pl2 = some ⟨gl2, 0, none⟩ ∧ l1 ≤ cl2 ∧ LsAt z2 gl2 L2)) := by
            rcases Nat.eq_zero_or_pos l1 with h0 | h0
            · exact ⟨gt, Hid.mk ⟨.inl rfl, by have := HZA.out.2.2.1; have := hBz.size; omega, fun h => by omega⟩⟩
            · obtain ⟨g', c', e, h1, h2, h3⟩ := hr2.row (by omega)
              injection e with e1 e2 e3
              refine ⟨g', Hid.mk ⟨.inr h1, h3.lt, fun _ => ⟨h1, e1, by omega, h3⟩⟩⟩
          obtain ⟨gl2, HG2⟩ := HG2
          obtain ⟨NN, HNN⟩ : ∃ q : Nat → Prop, Hid (∀ k, q k ↔ (k < nz ∨ k = gt) ∨ k = gl2) := ⟨fun k => (k < nz ∨ k = gt) ∨ k = gl2, Hid.mk (fun _ => Iff.rfl)⟩
          have HB2 : Hid (BoxAt z2 0 NN g mv b bg cs) := Hid.mk (((HBX.out.1.kept HAZ.out).more (fun k hk => by
            rcases (HNN.out k).1 hk with h | h
            · exact .inl (.inl h)
            · rcases HG2.out.1 with h1 | h1
              · exact .inl (.inl (.inr (h.trans h1)))
              · exact .inr (by omega))).kept hBz)
          have HS2 : Hid (Spares (fun k => k < nz) w6 z2) := Hid.mk ((HSZ.out.trans (spares_below HAZ.out)).trans (spares_below hBz))
          have HTG2 : Hid (SAt z2 gt 45 2 (tgV 1 1)) := Hid.mk ((HTG.out.kept HAZ.out).kept hBz)
          have HNB2 : Hid (∀ k, NN k → k < z2.heap.size) := Hid.mk (fun k hk => by
            have h1 := HZA.out
            have h2 := hBz.size
            rcases (HNN.out k).1 hk with h | h
            · rcases h with h | h <;> omega
            · have := HG2.out.2.1
              omega)
          have HKZ : Hid (∀ z', Spares NN z2 z' → nz ≤ z'.heap.size ∧ (∀ q, q < nz → z'.heap[q]? = w6.heap[q]?) ∧ SAt z' gt 45 2 (tgV 1 1) ∧ (∀ q, NN q → z'.heap[q]? = z2.heap[q]?) ∧ Spares (fun k => k < nz) w6 z') := Hid.mk (fun z' hz => by
            have hn : ∀ q, NN q → z'.heap[q]? = z2.heap[q]? := fun q hq => hz.block q (HNB2.out q hq) (fun hn => hn hq)
            have hs : Spares (fun k => k < nz) w6 z' := HS2.out.trans (Touch.mono hz (fun k _ h1 h2 => h1 ((HNN.out k).2 (.inl (.inl h2)))))
            exact ⟨by have := hs.size; omega, keep_spares hs (by rw [hnz]; exact Nat.le_refl _), HTG2.out.block (hn _ ((HNN.out gt).2 (.inl (.inr rfl)))), hn, hs⟩)
          have HROWZ : Hid (∀ z', Spares NN z2 z' → PkRow z' w4.heap.size w4.heap.size (.slice (some pa) la.length ca) la) := Hid.mk (fun z' hz => HRB.out.1.keep (by have := (HKZ.out z' hz).1; omega) (fun q hq => (HKZ.out z' hz).2.1 q (by omega)))
          have HYEZ : Hid (∀ k y, la[k]? = some (pc k, y) → (∀ z', Spares NN z2 z' → ExAt z' y P.exts) ∧ ∀ q, exK y = some q → NN q) := Hid.mk (fun k y hy => by
            have h1 := HRB.out.1.exs _ (List.mem_of_getElem? hy)
            refine ⟨fun z' hz => ?_, fun q hq => (HNN.out q).2 (.inl (.inl (by have := h1.2.2 q hq; omega)))⟩
            have h2 := (h1.away (w := w6) (u := z') (by have := (HKZ.out z' hz).1; omega) (fun q hq => (HKZ.out z' hz).2.1 q (by omega))).1
            rwa [HCP.out.1.exts] at h2)
          have HPY : Hid (∀ k, k < m → ∃ y, la[k]? = some (pc k, y)) := Hid.mk (fun k hk => by
            have h1 := congrArg (fun q => q[k]?) HCP.out.2.2.2.1
            simp only [List.getElem?_map] at h1
            rw [List.getElem?_range hk] at h1
            cases hq : la[k]? with
            | none => rw [hq] at h1; cases h1
            | some q =>
              rw [hq] at h1
              obtain ⟨q1, q2⟩ := q
              injection h1 with h1
              have h1 : q1 = _ := h1
              exact ⟨q2, by rw [h1]⟩)
          have s3 := HS6.out.2.block ((HKZ.out z2 (Touch.refl _ _)).2.1 _ HGZ.out.2.1)
          clear hB2 hBz hr2 hL2 hl1 hn1 HLZ HLZ1 HB1 HR1 HSLO HQ0 HLT HTG HKS HLS HSZ
          go_upto_region 26 with fail
          rename_i K1 HK1 K0 HK0
          have TAIL2 : ∀ (r13 r15 r16 r17 r97 r98 r99 r100 r101 r102 r103 r104 r105 r106 r107 r108 r109 r110 r111 r112 r113 r114 r115 r116 r117 r118 r119 r120 r121 r122 r123 r124 r125 r126 r127 r128 r129 r130 r131 r132 r133 r134 r135 r136 r137 r138 r139 r140 r141 r142 r143 r144 r145 r146 r147 : Value) (yb : Bool) (mv : Value) (b : Bx) (bg4 : Int) (cs : List Ch) (z4 : World), Hid (BoxAt z4 0 NN g mv b bg4 cs ∧ bg4 ≤ 3 * (n : Int) + 1) → Hid (TwoAt b (n : Int) (famOf 1 1 (pc 0)) (famOf 1 2 (pc 0)) (ks.map pc) (if yb = true then [pc 0] else [])) → Hid (Spares NN z2 z4) → K1 { tmps := #[.agg (SC 46 (pkV P v)), .agg (SC 5 (cutV14 C)), .pointer (some ⟨g2, 0, none⟩), .pointer (some ⟨g3, 0, none⟩), u4, .bool true, .slice (some pa) m ca, .int .i64 er, .pointer (some ⟨g, 0, none⟩), .slice pl2 l1 cl2, .int .i64 (i : Int), .pointer (some ⟨gt, 0, none⟩), .int .i64 (n : Int), r13, .int .i64 (kk : Int), r15, r16, r17, u18, u19, u20, u21, u22, .bool true, .tuple #[.slice (some pa) m ca, .int .i64 er], .agg (SC 46 (pkV P v)), .pointer (some ⟨g3, 0, none⟩), .int .i64 C.mtu, .pointer (some ⟨g3, 1, none⟩), .int .i64 C.id, .tuple #[.slice (some pa) m ca, .int .i64 er], .slice (some pa) m ca, .int .i64 er, vs 33, vs 34, vs 35, vs 36, vs 37, vs 38, vs 39, vs 40, vs 41, vs 42, vs 43, vs 44, vs 45, vs 46, vs 47, .bool false, undef, undef, undef, undef, undef, undef, undef, undef, undef, undef, .pointer (some ⟨g, 0, none⟩), .pointer (some ⟨g, 0, none⟩), .bool false, .bool false, .slice (some pa) m ca, .int .i64 (m : Int), .bool false, .bool false, .slice (some pa) m ca, .int .i64 (m : Int), .slice (some ⟨gl0, 0, none⟩) m m, .int .i64 (i : Int), .slice (some pa) m ca, .int .i64 (m : Int), .bool false, u74, u75, u76, u77, u78, u79, u80, u81, u82, u83, u84, u85, u86, u87, u88, u89, u90, u91, u92, u93, u94, u95, .agg (SC 2 (tgV 1 1)), r97, r98, r99, r100, r101, r102, r103, r104, r105, r106, r107, r108, r109, r110, r111, r112, r113, r114, r115, r116, r117, r118, r119, r120, r121, r122, r123, r124, r125, r126, r127, r128, r129, r130, r131, r132, r133, r134, r135, r136, r137, r138, r139, r140, r141, r142, r143, r144, r145, r146, r147, u148, u149, u150, u151, u152, u153, u154, u155, u156, u157, u158, u159, u160, u161, u162, u163, u164, u165, u166, u167, u168, u169, u170, u171, u172, u173, u174, u175, u176, u177, u178, u179, u180, u181, u182, u183, u184, u185, u186, u187, u188, u189, u190, u191, u192, u193, u194, u195, u196, u197, u198, u199, u200, u201, u202], defers := [] } z4 := by
            clear HBX HTW HB2
            intro r13 r15 r16 r17 r97 r98 r99 r100 r101 r102 r103 r104 r105 r106 r107 r108 r109 r110 r111 r112 r113 r114 r115 r116 r117 r118 r119 r120 r121 r122 r123 r124 r125 r126 r127 r128 r129 r130 r131 r132 r133 r134 r135 r136 r137 r138 r139 r140 r141 r142 r143 r144 r145 r146 r147 yb mv b bg4 cs z4 HB4 HT4 HS4
            refine HK1 _ _ ?_
            dsimp only
            clear HK1 HK0 s3
            obtain ⟨zt, hzt⟩ : ∃ q, decide (n1 = m) = q := ⟨_, rfl⟩
            have HZT := Hid.mk hzt
            clear hzt
            obtain ⟨y, hy⟩ := HPY.out kk HOK2.out.2.2.2.1
            have HYY := Hid.mk hy
            have HYE := Hid.mk (HYEZ.out kk y hy)
            clear hy
            have HKM : Hid (kk < m) := Hid.mk HOK2.out.2.2.2.1
            have HN3 : Hid ((n : Int) < 30000 ∧ n < m) := Hid.mk (by have := HNM.out; have := HM1.out; omega)
            have HNB : Hid (∀ k, NN k → k < z4.heap.size) := Hid.mk (fun k hk => Nat.lt_of_lt_of_le (HNB2.out k hk) HS4.out.size)
            have HTK : Hid (TakeC #[.pointer (some ⟨g, 0, none⟩), .int .i64 (n : Int), .agg (SC 2 (tgV 1 1)), .agg (SC 46 (pkV (pc kk) y))] zt P NN g (n : Int) (famOf 1 1 (pc 0)) (famOf 1 2 (pc 0)) (if n1 = m then [] else (ks ++ [kk]).map pc) (if yb = true then [pc 0] else []) (bg4 + 1) z4) := Hid.mk (by
              have h := stepC_run HCP.out.1 HM1.out.2 (t0 := 1) (e0 := 1) (now := (n : Int)) (k := kk) (v := y) HT4.out (fam_te (by decide)) (Int.le_refl _) HN3.out.1 HL.out.2.1.kd HL.out.2.1.kt HOK2.out.2.2.2.1 HOK2.out.2.2.2.2 HB4.out.1 HNB.out (HYE.out.1 z4 HS4.out) HYE.out.2 (by have := HB4.out.2; have := HN3.out.1; omega)
              have e : ks.length + 1 = n1 := by have := HL.out.2.2.1; have := HN1.out; omega
              rw [e, HZT.out] at h
              exact h)
            have HTG := Hid.mk (HKZ.out z4 HS4.out).2.2.1
            have HROW : Hid (∀ zw : World, Below z4.heap.size z4 zw → PkRow zw w4.heap.size w4.heap.size (.slice (some pa) la.length ca) la) := Hid.mk (fun zw hb => HROWZ.out zw (HS4.out.trans (spares_below hb)))
            go_upto_region 30 with fail
            refine wp_region_cut 13 rfl (by kernel_rfl) (any_callA 7 12 11 (Below z4.heap.size z4) (BxP NN g (n : Int) (famOf 1 1 (pc 0)) (famOf 1 2 (pc 0)) (if n1 = m then [] else (ks ++ [kk]).map pc) (if yb = true then [pc 0] else []) (bg4 + 1) z4) (mdA z4) (mdB NN g (n : Int) (famOf 1 1 (pc 0)) (famOf 1 2 (pc 0)) (if n1 = m then [] else (ks ++ [kk]).map pc) (if yb = true then [pc 0] else []) (bg4 + 1) z4) (mdC zt P NN g (n : Int) (famOf 1 1 (pc 0)) (famOf 1 2 (pc 0)) (if n1 = m then [] else (ks ++ [kk]).map pc) (if yb = true then [pc 0] else []) (bg4 + 1) z4) (fun ix => ([.pointer (some ⟨g, 0, none⟩), .int .i64 (n : Int), .agg (SC 2 (tgV 1 1)), .slice (some pa) m ca, .int .i64 (kk : Int), .pointer (some (pa.add (46 * kk))), .agg (SC 46 (pkV (pc kk) y))] : List Value).getD ix undef) (tkW 7 zt (tkG zt P NN))
                [(8, .pointer (some ⟨g, 0, none⟩)), (12, .int .i64 (n : Int)), (11, .pointer (some ⟨gt, 0, none⟩)), (6, .slice (some pa) m ca), (14, .int .i64 (kk : Int))] [some 149, some 150, some 151, some 152, some 153, some 154, some 155, some 156, some 148, some 157, some 158, some 18, none] [[], [], [], [], [], [3, 4], [5], [0, 1, 2, 6], [7], [8], [8], [], [9]] _ _ _ (by kernel_rfl) (by kernel_rfl) (by decide) (by decide) (by decide) rfl rfl rfl (by kernel_rfl) rfl ⟨rfl, rfl, rfl, rfl, rfl, trivial⟩ (Below.refl _ z4).drew
                ⟨
                preA_val (fun a ww hS fr kn => exec_move rfl fr.1),
                preA_val (fun a ww hS fr kn => exec_move rfl fr.2.1),
                preA_val (fun a ww hS fr kn => look_st rfl isTg (HTG.out.kept hS) fr.2.2.1),
                preA_val (fun a ww hS fr kn => exec_move rfl fr.2.2.2.1),
                preA_val (fun a ww hS fr kn => exec_move rfl fr.2.2.2.2.1),
                preA_val (fun a ww hS fr kn => exec_ixK (i := kk) rfl kn.1 kn.2.1 HKM.out),
                preA_val (fun a ww hS fr kn => exec_ld rfl kn.1 (row_pk (HROW.out ww hS) HYY.out)),
                trivial⟩
                (fun QQ a ww fr kn K => ⟨fun hA hK => stepp en_Take rfl (args4 kn.1 kn.2.1 kn.2.2.1 kn.2.2.2.1) (R := fun val w' => tkW 7 zt (tkG zt P NN) 7 val w' ∧ BxP NN g (n : Int) (famOf 1 1 (pc 0)) (famOf 1 2 (pc 0)) (if n1 = m then [] else (ks ++ [kk]).map pc) (if yb = true then [pc 0] else []) (bg4 + 1) z4 w') (((HTK.out ww).1 hA).mono (fun e w' ⟨Q1, v1, he, hG1, hB1⟩ => ⟨_, he, tkW_call hG1, hB1⟩)) (fun v w' h => hK v w' h.1 h.2), fun x hA hK => stepp en_Take rfl (args4 kn.1 kn.2.1 kn.2.2.1 kn.2.2.2.1) (R := fun val w' => tkW 7 zt (tkG zt P NN) 7 val w' ∧ mdB NN g (n : Int) (famOf 1 1 (pc 0)) (famOf 1 2 (pc 0)) (if n1 = m then [] else (ks ++ [kk]).map pc) (if yb = true then [pc 0] else []) (bg4 + 1) z4 x w') (((HTK.out ww).2 x hA).mono (fun e w' ⟨Q1, v1, he, hG1, hB1⟩ => ⟨_, he, tkW_call hG1, hB1⟩)) (fun v w' h => hK v w' h.1 h.2)⟩)
                (mkA rfl)
                ⟨postA_of (Bp := fun _ => True) (Cp := fun _ => True) (post_mv rfl rfl (by decide)) (by decide), postA_of (Bp := fun _ => True) (Cp := fun _ => True) (post_pk rfl rfl (by decide)) (by decide), postA_of (Bp := fun _ => True) (Cp := fun _ => True) (post_ok rfl rfl (by decide)) (by decide), postA_m (by decide), postA_st rfl rfl rfl HNB.out, trivial⟩
                (fun vs z5 hC hv hp => ?_) (lt_all (by kernel_rfl)))
            obtain ⟨gx, Q1, v1, e18, hgx, s18, hG1, hB1⟩ := hC
            have e18 : vs 18 = .pointer (some ⟨gx, 0, none⟩) := e18
            have hq2 : vs 158 = .bool zt := tkW_ok' (hp 10 (by decide) (by decide) (by decide) rfl)
            clear hv hp
            show wpList Try.prog _ _ (_ :: []) _ _
            simp only [List.filterMap_cons, List.filterMap_nil, id, putAll, Act.put, List.setIfInBounds_toArray, List.set_cons_zero, List.set_cons_succ, hq2, e18]
            clear hq2 e18
            have HZL : Hid (decide ((l1 : Int) = 0) = zt) := Hid.mk (by
              rw [← HZT.out]
              have := HOK2.out.2.2.1
              by_cases h : n1 = m
              · rw [decide_eq_true h]; exact decide_eq_true (by omega)
              · rw [decide_eq_false h]; exact decide_eq_false (by omega))
            have HG1 := Hid.mk hG1
            have HBB := Hid.mk hB1
            have HS5 : Hid (Spares NN z2 z5) := Hid.mk (by
              obtain ⟨_, _, _, _, _, _, _, h4⟩ := hB1
              exact HS4.out.trans h4)
            have HBZ : Hid (bg4 ≤ 3 * (n : Int) + 1) := Hid.mk HB4.out.2
            clear hG1 hB1 HTK HROW HYE HYY HB4 HT4 hgx HTG HNB
            go_wp2_with (refine wl_value rfl (exec_lenN rfl rfl) ?_; refine Hid.out ?_)
            refine Hid.mk ?_
            go_wp2_with (refine wl_value rfl (exec_eqW (m := (l1 : Int)) (n := 0) (z := zt) rfl rfl rfl HZL.out) ?_; refine Hid.out ?_)
            refine Hid.mk ?_
            go_wp2_with (refine wl_value rfl (exec_neBB (z := zt) rfl rfl rfl) ?_; refine Hid.out ?_)
            refine Hid.mk ?_
            cases zt with
            | true =>
              obtain ⟨rfl, hex, _⟩ := HG1.out.2 rfl
              have HE5 : Hid (ExAt z5 v1 Q1.exts ∧ ExAt z5 v Q1.exts) := Hid.mk ⟨hex, HX.out.blk (fun k hk => by
                have h1 := exK_lt HX.out hk
                exact ((HKZ.out z5 HS5.out).2.1 k (by have := HGZ.out; omega)).trans (HBD.out.block k h1))⟩
              have s2 := HS6.out.1.block ((HKZ.out z5 HS5.out).2.1 _ HGZ.out.1)
              clear hex
              go_wp2_with (refine wl_value rfl (look_st rfl isPk s18 rfl) ?_; refine Hid.out ?_)
              refine Hid.mk ?_
              go_wp2_with (refine wl_value rfl (look_st rfl isPk s2 rfl) ?_; refine Hid.out ?_)
              refine Hid.mk ?_
              go_wp2_with (go_at_call 11; refine (rSame_run Q1 Q1 v1 v _ HE5.out.1 HE5.out.2 HPI.out.len HPI.out.len).mono ?_; rintro e z6 ⟨rfl, hB6⟩; refine Hid.out ?_)
              refine Hid.mk ?_
              rw [samW_self]
              go_wp2_with fail
              go_ret
              have b1 := HBD.out
              have b2 := below_spares (HKZ.out z5 HS5.out).2.2.2.2 (by rw [hnz]; exact Nat.le_refl _)
              have b3 := b1.trans (b2.mono (by have := HGZ.out; omega))
              exact ⟨rfl, b3.trans (hB6.mono b3.size)⟩
            | false =>
              have hnm : ¬ n1 = m := of_decide_eq_false HZT.out
              obtain ⟨mv5, bg5, cs5, b5, hb5, ht5, hbg5, _⟩ := HBB.out
              rw [if_neg hnm] at ht5
              obtain ⟨hgz, hp2, hcl2, hls2⟩ := HG2.out.2.2 (by have := HOK2.out.2.2.1; omega)
              subst hp2
              have HNMZ := Hid.mk hnm
              have HB5 : Hid (BoxAt z5 0 NN g mv5 b5 bg5 cs5 ∧ bg5 ≤ 3 * (n : Int) + 2) := Hid.mk ⟨hb5, by have := HBZ.out; omega⟩
              have HT5 := Hid.mk ht5
              have HLS2 : Hid (LsAt z2 gl2 L2 ∧ za.heap.size ≤ gl2 ∧ l1 ≤ cl2) := Hid.mk ⟨hls2, hgz, hcl2⟩
              have s3 := HS6.out.2.block ((HKZ.out z5 HS5.out).2.1 _ HGZ.out.2.1)
              have HEND : Hid (∀ (z' : World) (mv : Value) (b : Bx) (bg : Int) (cs : List Ch), BoxAt z' 0 NN g mv b bg cs → bg ≤ 3 * (n : Int) + 3 → TwoAt b (n : Int) (famOf 1 1 (pc 0)) (famOf 1 2 (pc 0)) ((ks ++ [kk]).map pc) (if yb = true then [pc 0] else []) → Spares NN z2 z' →
                  (LsAt z' gl2 L2 ∧ nz ≤ gl2 ∧ gl2 ≠ gt) ∧ (BoxAt z' 0 (fun k => (k < nz ∨ k = gt) ∨ k = gl2) g mv b bg cs ∧ bg ≤ 3 * (n1 : Int)) ∧ TwoAt b (n1 : Int) (famOf 1 1 (pc 0)) (famOf 1 2 (pc 0)) ((ks ++ [kk]).map pc) (if yb = true then [pc 0] else []) ∧ SAt z' gt 45 2 (tgV 1 1) ∧ Spares (fun k => k < nz) w6 z') := Hid.mk (fun z' mv b bg cs h1 h2 h3 h4 => by
                have k := HKZ.out z' h4
                have e := HN1.out
                exact ⟨⟨HLS2.out.1.block (k.2.2.2.1 _ ((HNN.out gl2).2 (.inr rfl))), by have := HLS2.out; have := HZA.out; omega, by have := HLS2.out; have := HZA.out; omega⟩, ⟨h1.more (fun q hq => .inl ((HNN.out q).2 hq)), by omega⟩, h3.monoW (by omega), k.2.2.1, k.2.2.2.2⟩)
              clear hb5 ht5 hbg5 hgz hcl2 hls2 hnm HBB HG1 s18
              go_upto_region 36 with fail
              refine wp_plain_steps (Below z5.heap.size z5) (fun v v' => Below v.heap.size v v') (fun j vv _ => vv = ([.int .i64 (n : Int), .pointer (some ⟨g3, 3, none⟩), .slice ta C.tn tc, .int .i64 (C.tn : Int), .bool (decide ((n : Int) < (C.tn : Int)))] : List Value).getD j undef)
                  [172, 173, 174, 175, 176]
                  [(12, .int .i64 (n : Int)), (3, .pointer (some ⟨g3, 0, none⟩))] [] 0
                  [[], [], [1], [2], [0, 3]]
                  (by kernel_rfl) ⟨rfl, rfl, trivial⟩ trivial (Below.refl _ _) (fun v v' h hb => h.trans (hb.mono h.size)) (fun _ _ _ _ h _ => h)
                  ⟨
                  (fun QQ aa ww hS fr kn => sg0 rfl (fun K hK => wp_value (exec_move rfl fr.1) (hK _ _ rfl (Below.refl _ _)))),
                  (fun QQ aa ww hS fr kn => sg0 rfl (fun K hK => wp_value (exec_fcut 3 (by decide) rfl fr.2.1) (hK _ _ rfl (Below.refl _ _)))),
                  (fun QQ aa ww hS fr kn => sg0 rfl (fun K hK => wp_value (exec_ld rfl kn.1 (ldNs (((cut_tv (SAt.kept s3 hS))).trans (congrArg some HTV.out)))) (hK _ _ rfl (Below.refl _ _)))),
                  (fun QQ aa ww hS fr kn => sg0 rfl (fun K hK => wp_value (exec_lenN rfl kn.1) (hK _ _ rfl (Below.refl _ _)))),
                  (fun QQ aa ww hS fr kn => sg0 rfl (fun K hK => wp_value (cmp_lt (m := (n : Int)) (n := (C.tn : Int)) rfl kn.1 kn.2.1) (hK _ _ rfl (Below.refl _ _)))),
                  trivial⟩ ?_
              intro vs z6 hBf kn
              have e176 : vs 176 = .bool (decide ((n : Int) < (C.tn : Int))) := kn 4 (by decide)
              clear kn
              simp only [putAll, Act.put, List.setIfInBounds_toArray, List.set_cons_zero, List.set_cons_succ, e176]
              clear e176
              have hs3 := s3.kept hBf
              have HS6b : Hid (Spares NN z2 z6) := Hid.mk (HS5.out.trans (spares_below hBf))
              have HB6 : Hid (BoxAt z6 0 NN g mv5 b5 bg5 cs5 ∧ bg5 ≤ 3 * (n : Int) + 2) := Hid.mk ⟨HB5.out.1.kept hBf, HB5.out.2⟩
              clear hBf HB5 s3 HS5
              rcases Bool.eq_false_or_eq_true (decide ((n : Int) < (C.tn : Int))) with hE | hE
              · rw [hE]
                have hnt : n < C.tn := by have := of_decide_eq_true hE; omega
                clear hE
                obtain ⟨y, hy⟩ := HPY.out kk HOK2.out.2.2.2.1
                have HYY := Hid.mk hy
                have HYE := Hid.mk (HYEZ.out kk y hy)
                obtain ⟨tp, htp, _, _⟩ := HTC.out n hnt
                subst htp
                have HNTZ := Hid.mk hnt
                clear hy hnt
                have HNB : Hid (∀ k, NN k → k < z6.heap.size) := Hid.mk (fun k hk => Nat.lt_of_lt_of_le (HNB2.out k hk) HS6b.out.size)
                obtain ⟨bg7, hbg7⟩ : ∃ q, bg5 = q := ⟨_, rfl⟩
                have HTK : Hid (TakeC #[.pointer (some ⟨g, 0, none⟩), .int .i64 (n : Int), .agg (SC 2 (tgV 1 1)), .agg (SC 46 (pkV (pc kk) y))] false P NN g (n : Int) (famOf 1 1 (pc 0)) (famOf 1 2 (pc 0)) ((ks ++ [kk]).map pc) (if yb = true then [pc 0] else []) (bg7 + 1) z6) := Hid.mk (by
                  rw [← hbg7]
                  exact againC_run HCP.out.1 (t0 := 1) (e0 := 1) (now := (n : Int)) (k := kk) (v := y) HT5.out (fam_te (by decide)) (Int.le_refl _) HN3.out.1 HOK2.out.2.2.2.1 (by simp) (by have h1 := HOK2.out.1.len; have h2 := HOK2.out; have h3 := HNMZ.out; omega) HB6.out.1 HNB.out (HYE.out.1 z6 HS6b.out) HYE.out.2 (by have := HB6.out.2; have := HN3.out.1; omega))
                have HBG7 : Hid (bg7 ≤ 3 * (n : Int) + 2) := Hid.mk (by have := HB6.out.2; omega)
                have HTG := Hid.mk (HKZ.out z6 HS6b.out).2.2.1
                have HROW : Hid (∀ zw : World, Below z6.heap.size z6 zw → PkRow zw w4.heap.size w4.heap.size (.slice (some pa) la.length ca) la) := Hid.mk (fun zw hb => HROWZ.out zw (HS6b.out.trans (spares_below hb)))
                clear hbg7 HB6 HT5 hs3
                go_upto_region 37 with fail
                refine wp_region_cut 13 rfl (by kernel_rfl) (any_callA 7 12 11 (Below z6.heap.size z6) (BxP NN g (n : Int) (famOf 1 1 (pc 0)) (famOf 1 2 (pc 0)) ((ks ++ [kk]).map pc) (if yb = true then [pc 0] else []) (bg7 + 1) z6) (mdA z6) (mdB NN g (n : Int) (famOf 1 1 (pc 0)) (famOf 1 2 (pc 0)) ((ks ++ [kk]).map pc) (if yb = true then [pc 0] else []) (bg7 + 1) z6) (mdC false P NN g (n : Int) (famOf 1 1 (pc 0)) (famOf 1 2 (pc 0)) ((ks ++ [kk]).map pc) (if yb = true then [pc 0] else []) (bg7 + 1) z6) (fun ix => ([.pointer (some ⟨g, 0, none⟩), .int .i64 (n : Int), .agg (SC 2 (tgV 1 1)), .slice (some pa) m ca, .int .i64 (kk : Int), .pointer (some (pa.add (46 * kk))), .agg (SC 46 (pkV (pc kk) y))] : List Value).getD ix undef) (tkW 7 false (tkG false P NN))
                    [(8, .pointer (some ⟨g, 0, none⟩)), (12, .int .i64 (n : Int)), (11, .pointer (some ⟨gt, 0, none⟩)), (6, .slice (some pa) m ca), (14, .int .i64 (kk : Int))] [some 178, some 179, some 180, some 181, some 182, some 183, some 184, some 185, some 177, some 186, some 187, some 21, none] [[], [], [], [], [], [3, 4], [5], [0, 1, 2, 6], [7], [8], [8], [], [9]] _ _ _ (by kernel_rfl) (by kernel_rfl) (by decide) (by decide) (by decide) rfl rfl rfl (by kernel_rfl) rfl ⟨rfl, rfl, rfl, rfl, rfl, trivial⟩ (Below.refl _ z6).drew
                    ⟨
                    preA_val (fun a ww hS fr kn => exec_move rfl fr.1),
                    preA_val (fun a ww hS fr kn => exec_move rfl fr.2.1),
                    preA_val (fun a ww hS fr kn => look_st rfl isTg (HTG.out.kept hS) fr.2.2.1),
                    preA_val (fun a ww hS fr kn => exec_move rfl fr.2.2.2.1),
                    preA_val (fun a ww hS fr kn => exec_move rfl fr.2.2.2.2.1),
                    preA_val (fun a ww hS fr kn => exec_ixK (i := kk) rfl kn.1 kn.2.1 HKM.out),
                    preA_val (fun a ww hS fr kn => exec_ld rfl kn.1 (row_pk (HROW.out ww hS) HYY.out)),
                    trivial⟩
                    (fun QQ a ww fr kn K => ⟨fun hA hK => stepp en_Take rfl (args4 kn.1 kn.2.1 kn.2.2.1 kn.2.2.2.1) (R := fun val w' => tkW 7 false (tkG false P NN) 7 val w' ∧ BxP NN g (n : Int) (famOf 1 1 (pc 0)) (famOf 1 2 (pc 0)) ((ks ++ [kk]).map pc) (if yb = true then [pc 0] else []) (bg7 + 1) z6 w') (((HTK.out ww).1 hA).mono (fun e w' ⟨Q1, v1, he, hG1, hB1⟩ => ⟨_, he, tkW_call hG1, hB1⟩)) (fun v w' h => hK v w' h.1 h.2), fun x hA hK => stepp en_Take rfl (args4 kn.1 kn.2.1 kn.2.2.1 kn.2.2.2.1) (R := fun val w' => tkW 7 false (tkG false P NN) 7 val w' ∧ mdB NN g (n : Int) (famOf 1 1 (pc 0)) (famOf 1 2 (pc 0)) ((ks ++ [kk]).map pc) (if yb = true then [pc 0] else []) (bg7 + 1) z6 x w') (((HTK.out ww).2 x hA).mono (fun e w' ⟨Q1, v1, he, hG1, hB1⟩ => ⟨_, he, tkW_call hG1, hB1⟩)) (fun v w' h => hK v w' h.1 h.2)⟩)
                    (mkA rfl)
                    ⟨postA_of (Bp := fun _ => True) (Cp := fun _ => True) (post_mv rfl rfl (by decide)) (by decide), postA_of (Bp := fun _ => True) (Cp := fun _ => True) (post_pk rfl rfl (by decide)) (by decide), postA_of (Bp := fun _ => True) (Cp := fun _ => True) (post_ok rfl rfl (by decide)) (by decide), postA_m (by decide), postA_st rfl rfl rfl HNB.out, trivial⟩
                    (fun vs z7 hC hv hp => ?_) (lt_all (by kernel_rfl)))
                obtain ⟨gx, Q1, v1, e18, hgx, s18, hG1, hB1⟩ := hC
                have e18 : vs 21 = .pointer (some ⟨gx, 0, none⟩) := e18
                have hq2 : vs 187 = .bool false := tkW_ok' (hp 10 (by decide) (by decide) (by decide) rfl)
                clear hv hp
                show wpList Try.prog _ _ (_ :: []) _ _
                simp only [List.filterMap_cons, List.filterMap_nil, id, putAll, Act.put, List.setIfInBounds_toArray, List.set_cons_zero, List.set_cons_succ, hq2, e18]
                clear hq2 e18
                obtain ⟨mv7, bg8, cs7, b7, hb7, ht7, hbg8, hs7⟩ := hB1
                have HS7 : Hid (Spares NN z2 z7) := Hid.mk (HS6b.out.trans hs7)
                have s3 := HS6.out.2.block ((HKZ.out z7 HS7.out).2.1 _ HGZ.out.2.1)
                obtain ⟨nw, hnw⟩ : ∃ nw, b7.hs.length = nw := ⟨_, rfl⟩
                have HNW : Hid (decide ((nw : Int) < 1) = false) := Hid.mk (decide_eq_false (by have := two_some ht7 (by simp); omega))
                have HB7 := Hid.mk (And.intro hb7 (show bg8 ≤ 3 * (n : Int) + 3 by have := HBG7.out; omega))
                have HT7 := Hid.mk ht7
                have HWA : Hid (∀ zw : World, Below z7.heap.size z7 zw → Calls Try.prog 18 #[.pointer (some ⟨g, 0, none⟩)] zw fun e w' => e = .returned (.int .i64 (nw : Int)) ∧ Below zw.heap.size zw w') := Hid.mk (fun zw hb => hnw ▸ Waiting_run (HB7.out.1.kept hb))
                obtain ⟨pv, hpv⟩ : ∃ q, pickV (C.twi n) ((3 : Nat) : Int) = q := ⟨_, rfl⟩
                have HPV : Hid (∀ zw : World, Calls Try.prog 16 #[.int .i64 (C.twi n), .int .i64 3] zw fun e w' => e = .returned (.int .i64 pv) ∧ Below zw.heap.size zw w') := Hid.mk (fun zw => hpv ▸ pick_run (C.twi n) 3 zw (HBT.out n HNTZ.out) (by decide))
                have HNT : Hid (n < C.tn ∧ ∀ z1, Below z7.heap.size z7 z1 → z1.cell? (tp.add n) = some (.int .i64 (C.twi n))) := Hid.mk ⟨HNTZ.out, fun z1 h1 => by
                  obtain ⟨p', e', hc', hl'⟩ := HTC.out n HNTZ.out
                  injection e' with e'
                  subst e'
                  have k := HKZ.out z7 HS7.out
                  refine (cell_blk ?_).trans hc'
                  rw [add_blk, h1.block _ (by have := k.1; have := HGZ.out; omega), k.2.1 _ (by have := HGZ.out; omega), HBD.out.block _ hl']⟩
                clear hb7 ht7 hbg8 hs7 hnw hpv HTK HROW HYE HYY HTG HNB hG1 hgx s18
                go_upto_region 38 with fail
                refine wp_plain_steps (Below z7.heap.size z7) (fun v v' => Below v.heap.size v v') (fun j vv _ => vv = ([.bool false, .bool false, .pointer (some ⟨g3, 3, none⟩), .slice (some tp) C.tn tc, .int .i64 (n : Int), .pointer (some (tp.add n)), .int .i64 (C.twi n), .int .i64 pv, .bool (decide (pv = 0)), .bool (decide (pv = 0)), gv (decide (pv = 0)) (.pointer (some ⟨g, 0, none⟩)), gv (decide (pv = 0)) (.int .i64 (nw : Int)), gv (decide (pv = 0)) (.bool false), .bool ((decide (pv = 0)) && false), .bool ((decide (pv = 0)) && false)] : List Value).getD j undef)
                    [188, 189, 190, 191, 192, 193, 194, 195, 196, 197, 198, 199, 200, 201, 202]
                    [(22, .bool false), (3, .pointer (some ⟨g3, 0, none⟩)), (12, .int .i64 (n : Int)), (8, .pointer (some ⟨g, 0, none⟩))] [] 0
                    [[], [0], [1], [1, 2], [1], [1, 3, 4], [1, 5], [1, 6], [1, 7], [1, 8], [9], [9, 10], [9, 11], [1, 9, 12], [1, 13]]
                    (by kernel_rfl) ⟨rfl, rfl, rfl, rfl, trivial⟩ trivial (Below.refl _ _) (fun v v' h hb => h.trans (hb.mono h.size)) (fun _ _ _ _ h _ => h)
                    ⟨
                    (fun QQ aa ww hS fr kn => sg0 rfl (fun K hK => wp_value (exec_move rfl fr.1) (hK _ _ rfl (Below.refl _ _)))),
                    (fun QQ aa ww hS fr kn => sg0 rfl (fun K hK => wp_value (exec_move rfl kn.1) (hK _ _ rfl (Below.refl _ _)))),
                    (fun QQ aa ww hS fr kn => sgK rfl kn.1 (fun K hK => wp_value (exec_fcut 3 (by decide) rfl fr.2.1) (hK _ _ rfl (Below.refl _ _)))),
                    (fun QQ aa ww hS fr kn => sgK rfl kn.1 (fun K hK => wp_value (exec_ld rfl kn.2.1 (ldNs (((cut_tv (SAt.kept s3 hS))).trans (congrArg some HTV.out)))) (hK _ _ rfl (Below.refl _ _)))),
                    (fun QQ aa ww hS fr kn => sgK rfl kn.1 (fun K hK => wp_value (exec_move rfl fr.2.2.1) (hK _ _ rfl (Below.refl _ _)))),
                    (fun QQ aa ww hS fr kn => sgK rfl kn.1 (fun K hK => wp_value (exec_ixN (p := tp) (i := n) rfl kn.2.1 kn.2.2.1 HNT.out.1) (hK _ _ rfl (Below.refl _ _)))),
                    (fun QQ aa ww hS fr kn => sgK rfl kn.1 (fun K hK => wp_value (exec_ld rfl kn.2.1 (ldP (HNT.out.2 _ hS))) (hK _ _ rfl (Below.refl _ _)))),
                    (fun QQ aa ww hS fr kn => sgK rfl kn.1 (fun K hK => stepc en_pick rfl (args2 kn.2.1 rfl) (HPV.out ww) (fun w' hb => hK _ _ rfl hb))),
                    (fun QQ aa ww hS fr kn => sgK rfl kn.1 (fun K hK => wp_value (cmp_eq (m := pv) (n := 0) rfl kn.2.1 rfl) (hK _ _ rfl (Below.refl _ _)))),
                    (fun QQ aa ww hS fr kn => sgK rfl kn.1 (fun K hK => wp_value (exec_move rfl kn.2.1) (hK _ _ rfl (Below.refl _ _)))),
                    (fun QQ aa ww hS fr kn => sgT rfl kn.1 (fun hc K hK => wp_value (exec_move rfl fr.2.2.2.1) (hK _ _ (gv_t hc).symm (Below.refl _ _))) (fun h0 => (gv_f h0).symm)),
                    (fun QQ aa ww hS fr kn => sgT rfl kn.1 (fun hc K hK => stepc en_Waiting rfl (args1 (kn.2.1.trans (gv_t hc))) (HWA.out ww hS) (fun w' hb => hK _ _ (gv_t hc).symm hb)) (fun h0 => (gv_f h0).symm)),
                    (fun QQ aa ww hS fr kn => sgT rfl kn.1 (fun hc K hK => wp_value (exec_ltW (m := (nw : Int)) (n := 1) (z := false) rfl (kn.2.1.trans (gv_t hc)) rfl HNW.out) (hK _ _ (gv_t hc).symm (Below.refl _ _))) (fun h0 => (gv_f h0).symm)),
                    (fun QQ aa ww hS fr kn => sgK rfl kn.1 (fun K hK => wp_value (exec_pickAnd rfl kn.2.1 (fun hx => kn.2.2.1.trans (gv_t hx)) rfl) (hK _ _ rfl (Below.refl _ _)))),
                    (fun QQ aa ww hS fr kn => sg0 rfl (fun K hK => wp_value (exec_pickF (v := .bool ((decide (pv = 0)) && false)) rfl kn.1 kn.2.1) (hK _ _ rfl (Below.refl _ _)))),
                    trivial⟩ ?_
                intro vs z8 hBh kn
                have e202 : vs 202 = .bool ((decide (pv = 0)) && false) := kn 14 (by decide)
                clear kn
                simp only [putAll, Act.put, List.setIfInBounds_toArray, List.set_cons_zero, List.set_cons_succ, e202]
                clear e202
                have hE8 : ((decide (pv = 0)) && false) = false := Bool.and_false _
                rw [hE8]
                clear hE8
                go_wp2_with (refine wl_value rfl (exec_addW (i := n) (m := 1) (q := n1) rfl rfl rfl HN1.out (by have := HN1.out; have := HN3.out; omega)) ?_; refine Hid.out ?_)
                refine Hid.mk ?_
                go_wp2_with fail
                have hend := HEND.out z8 mv7 b7 bg8 cs7 (HB7.out.1.kept hBh) HB7.out.2 HT7.out (HS7.out.trans (spares_below hBh))
                go_roundg (m - n1)
                case rel => exact ⟨L2, ks ++ [kk], n1, gl2, l1, cl2, yb, _, _, _, _, Hid.mk (by have := HOK2.out.2.2.1; omega), rfl, rfl, Hid.mk ⟨HOK2.out.2.1, HOK2.out.1, by rw [List.length_append]; have := HL.out.2.2.1; have := HN1.out; show ks.length + 1 = n1; omega, by have := HOK2.out.2.2.1; have := HNMZ.out; omega, HLS2.out.2.2⟩, Hid.mk hend.1, Hid.mk hend.2.1, Hid.mk hend.2.2.1, Hid.mk hend.2.2.2.1, Hid.mk hend.2.2.2.2⟩
                case measure => have := HI.out; have := HN1.out; have := HNM.out; omega
              · rw [hE]
                clear hE
                go_wp2_with (refine wl_value rfl (exec_addW (i := n) (m := 1) (q := n1) rfl rfl rfl HN1.out (by have := HN1.out; have := HN3.out; omega)) ?_; refine Hid.out ?_)
                refine Hid.mk ?_
                go_wp2_with fail
                have hend := HEND.out z6 mv5 b5 bg5 cs5 HB6.out.1 (by have := HB6.out.2; omega) HT5.out HS6b.out
                go_roundg (m - n1)
                case rel => exact ⟨L2, ks ++ [kk], n1, gl2, l1, cl2, yb, _, _, _, _, Hid.mk (by have := HOK2.out.2.2.1; omega), rfl, rfl, Hid.mk ⟨HOK2.out.2.1, HOK2.out.1, by rw [List.length_append]; have := HL.out.2.2.1; have := HN1.out; show ks.length + 1 = n1; omega, by have := HOK2.out.2.2.1; have := HNMZ.out; omega, HLS2.out.2.2⟩, Hid.mk hend.1, Hid.mk hend.2.1, Hid.mk hend.2.2.1, Hid.mk hend.2.2.2.1, Hid.mk hend.2.2.2.2⟩
                case measure => have := HI.out; have := HN1.out; have := HNM.out; omega
          clear HK1
          refine wp_plain_steps (Below z2.heap.size z2) (fun v v' => Below v.heap.size v v') (fun j vv _ => vv = ([.pointer (some ⟨g3, 4, none⟩), .bool C.other, .bool C.other, gv C.other (.slice (some pa) m ca), gv C.other (.int .i64 (m : Int)), gv C.other (.bool (decide (1 < (m : Int)))), .bool (C.other && (decide (1 < (m : Int))))] : List Value).getD j undef)
              [130, 131, 132, 133, 134, 135, 136]
              [(3, .pointer (some ⟨g3, 0, none⟩)), (6, .slice (some pa) m ca)] [] 0
              [[], [0], [1], [2], [2, 3], [2, 4], [2, 5]]
              (by kernel_rfl) ⟨rfl, rfl, trivial⟩ trivial (Below.refl _ _) (fun v v' h hb => h.trans (hb.mono h.size)) (fun _ _ _ _ h _ => h)
              ⟨
              (fun QQ aa ww hS fr kn => sg0 rfl (fun K hK => wp_value (exec_fcut 4 (by decide) rfl fr.1) (hK _ _ rfl (Below.refl _ _)))),
              (fun QQ aa ww hS fr kn => sg0 rfl (fun K hK => wp_value (exec_ld rfl kn.1 (ldPb (cut_other (SAt.kept s3 hS)))) (hK _ _ rfl (Below.refl _ _)))),
              (fun QQ aa ww hS fr kn => sg0 rfl (fun K hK => wp_value (exec_move rfl kn.1) (hK _ _ rfl (Below.refl _ _)))),
              (fun QQ aa ww hS fr kn => sgT rfl kn.1 (fun hc K hK => wp_value (exec_move rfl fr.2.1) (hK _ _ (gv_t hc).symm (Below.refl _ _))) (fun h0 => (gv_f h0).symm)),
              (fun QQ aa ww hS fr kn => sgT rfl kn.1 (fun hc K hK => wp_value (exec_lenK rfl (kn.2.1.trans (gv_t hc))) (hK _ _ (gv_t hc).symm (Below.refl _ _))) (fun h0 => (gv_f h0).symm)),
              (fun QQ aa ww hS fr kn => sgT rfl kn.1 (fun hc K hK => wp_value (cmp_gt (m := (m : Int)) (n := 1) rfl (kn.2.1.trans (gv_t hc)) rfl) (hK _ _ (gv_t hc).symm (Below.refl _ _))) (fun h0 => (gv_f h0).symm)),
              (fun QQ aa ww hS fr kn => sg0 rfl (fun K hK => wp_value (exec_pickAnd rfl kn.1 (fun hx => kn.2.1.trans (gv_t hx)) rfl) (hK _ _ rfl (Below.refl _ _)))),
              trivial⟩ ?_
          intro vs z3 hBc kn
          have e136 : vs 136 = .bool (C.other && (decide (1 < (m : Int)))) := kn 6 (by decide)
          clear kn
          simp only [putAll, Act.put, List.setIfInBounds_toArray, List.set_cons_zero, List.set_cons_succ, e136]
          clear e136
          rcases Bool.eq_false_or_eq_true (C.other && (decide (1 < (m : Int)))) with hE | hE
          · rw [hE]
            have hm2 : 2 ≤ m := by
              rw [Bool.and_eq_true, decide_eq_true_eq] at hE
              omega
            clear hE
            have HM2 := Hid.mk hm2
            obtain ⟨y, hy⟩ := HPY.out 0 (by omega)
            have HYY := Hid.mk hy
            have HYE := Hid.mk (HYEZ.out 0 y hy)
            have HS3 : Hid (Spares NN z2 z3) := Hid.mk (spares_below hBc)
            have hrow3 := HROWZ.out z3 HS3.out
            have HR3 := Hid.mk hrow3
            have HOT : Hid (Calls Try.prog 17 #[.pointer (some ⟨g, 0, none⟩), .int .i64 (n : Int), .agg (SC 2 (tgV 1 2)), .agg (SC 46 (pkV (pc 0) y))] z3 fun e w' => ∃ Q v2 mv' bg' cs' b', e = .returned (.tuple #[.agg (SC 46 (pkV Q v2)), .bool false]) ∧ v2.oneCell' = true ∧ BoxAt w' 0 NN g mv' b' bg' cs' ∧ TwoAt b' (n : Int) (famOf 1 1 (pc 0)) (famOf 1 2 (pc 0)) (ks.map pc) [pc 0] ∧ bg' ≤ bg + 1 ∧ Spares NN z3 w') := Hid.mk (otherW_run HCP.out.1 hm2 HM1.out.2 (t0 := 1) (e0 := 2) (G := famOf 1 1 (pc 0)) (z := yb) HTW.out (fam_te (by decide)) (Int.le_refl _) (by have := HNM.out; have := HM1.out; omega) (HB2.out.kept hBc) (fun k hk => Nat.lt_of_lt_of_le (HNB2.out k hk) hBc.size) (HYE.out.1 z3 HS3.out) HYE.out.2 (by have := HBX.out.2; have := HNM.out; have := HM1.out; omega))
            clear hm2 hy hrow3 s3
            go_wp2_with (refine wl_value rfl (exec_tg rfl) ?_; refine Hid.out ?_)
            refine Hid.mk ?_
            go_wp2_with (refine wl_value rfl (exec_ixK (i := 0) rfl rfl rfl (by have := HM2.out; omega)) ?_; refine Hid.out ?_)
            refine Hid.mk ?_
            go_wp2_with (refine wl_value rfl (exec_ld rfl rfl (row_pk HR3.out HYY.out)) ?_; refine Hid.out ?_)
            refine Hid.mk ?_
            go_wp2_with (go_at_call 17; refine HOT.out.mono ?_; rintro e z4 ⟨Q1, v1, mv', bg', cs', b', rfl, h1, hb, ht, hbg, hs⟩; refine Hid.out ?_)
            refine Hid.mk ?_
            go_wp2_with (refine wl_alO rfl rfl zeroPk ?_; intro g16 z5 hg16 s16 hB5; refine Hid.out ?_)
            refine Hid.mk ?_
            go_wp2_with (refine st_stO (V := pkV Q1 v1) (g := g16) rfl rfl isPk (pkV_one h1) s16 rfl rfl ?_; intro z6 s16' ho6; refine Hid.out ?_)
            refine Hid.mk ?_
            have hng : ¬ NN g16 := fun hn => by have := HNB2.out g16 hn; have := hs.size; have := hBc.size; omega
            go_wp2_with fail
            exact TAIL2 _ _ _ _ _ _ _ _ _ _ _ _ _ _ _ _ _ _ _ _ _ _ _ _ _ _ _ _ _ _ _ _ _ _ _ _ _ _ _ _ _ _ _ _ _ _ _ _ _ _ _ _ _ _ _ true mv' b' bg' cs' z6 (Hid.mk ⟨hb.local hB5 hg16 ho6, by have := HBX.out.2; omega⟩) (Hid.mk ht) (Hid.mk ((HS3.out.trans hs).trans ((spares_below hB5).trans (spares_only ho6 hng))))
          · rw [hE]
            clear hE
            go_wp2_with fail
            exact TAIL2 _ _ _ _ _ _ _ _ _ _ _ _ _ _ _ _ _ _ _ _ _ _ _ _ _ _ _ _ _ _ _ _ _ _ _ _ _ _ _ _ _ _ _ _ _ _ _ _ _ _ _ _ _ _ _ yb mv b bg cs z3 (Hid.mk ⟨HB2.out.kept hBc, by have := HBX.out.2; omega⟩) HTW (Hid.mk (spares_below hBc))
        clear HK1
        refine wp_plain_steps (Below zr.heap.size zr) (fun v v' => Below v.heap.size v v') (fun j vv _ => vv = ([.int .i64 (n : Int), .pointer (some ⟨g3, 2, none⟩), .slice oa C.on oc, .int .i64 (C.on : Int), .bool (decide ((n : Int) < (C.on : Int)))] : List Value).getD j undef)
            [102, 103, 104, 105, 106]
            [(12, .int .i64 (n : Int)), (3, .pointer (some ⟨g3, 0, none⟩))] [] 0
            [[], [], [1], [2], [0, 3]]
            (by kernel_rfl) ⟨rfl, rfl, trivial⟩ trivial (Below.refl _ _) (fun v v' h hb => h.trans (hb.mono h.size)) (fun _ _ _ _ h _ => h)
            ⟨
            (fun QQ aa ww hS fr kn => sg0 rfl (fun K hK => wp_value (exec_move rfl fr.1) (hK _ _ rfl (Below.refl _ _)))),
            (fun QQ aa ww hS fr kn => sg0 rfl (fun K hK => wp_value (exec_fcut 2 (by decide) rfl fr.2.1) (hK _ _ rfl (Below.refl _ _)))),
            (fun QQ aa ww hS fr kn => sg0 rfl (fun K hK => wp_value (exec_ld rfl kn.1 (ldNs (((cut_ov (SAt.kept s3 hS))).trans (congrArg some HOV.out)))) (hK _ _ rfl (Below.refl _ _)))),
            (fun QQ aa ww hS fr kn => sg0 rfl (fun K hK => wp_value (exec_lenN rfl kn.1) (hK _ _ rfl (Below.refl _ _)))),
            (fun QQ aa ww hS fr kn => sg0 rfl (fun K hK => wp_value (cmp_lt (m := (n : Int)) (n := (C.on : Int)) rfl kn.1 kn.2.1) (hK _ _ rfl (Below.refl _ _)))),
            trivial⟩ ?_
        intro vs za hBa kn
        have e106 : vs 106 = .bool (decide ((n : Int) < (C.on : Int))) := kn 4 (by decide)
        clear kn
        simp only [putAll, Act.put, List.setIfInBounds_toArray, List.set_cons_zero, List.set_cons_succ, e106]
        clear e106
        have s3 := s3.kept hBa
        rcases Bool.eq_false_or_eq_true (decide ((n : Int) < (C.on : Int))) with hE | hE
        · rw [hE]
          have hno : n < C.on := by have := of_decide_eq_true hE; omega
          clear hE
          obtain ⟨op, hop, _, _⟩ := HOC.out n hno
          subst hop
          have hlp : 0 < ll := HL.out.2.2.2.1
          obtain ⟨at', hat⟩ : ∃ q : Nat, pickV (C.ord n) (ll : Int) = (q : Int) := ⟨(pickV (C.ord n) (ll : Int)).toNat, by have := pick_lt (c := C.ord n) hlp; omega⟩
          have HAT : Hid (at' < ll) := Hid.mk (by have := pick_lt (c := C.ord n) hlp; omega)
          have HPK : Hid (∀ zw : World, Calls Try.prog 16 #[.int .i64 (C.ord n), .int .i64 (ll : Int)] zw fun e w' => e = .returned (.int .i64 (at' : Int)) ∧ Below zw.heap.size zw w') := Hid.mk (fun zw => hat ▸ pick_run (C.ord n) ll zw (HBO.out n hno) hlp)
          have HNO := Hid.mk hno
          have hcell : za.cell? (op.add n) = some (.int .i64 (C.ord n)) := by
            obtain ⟨p', e', hc', hl'⟩ := HOC.out n hno
            injection e' with e'
            subst e'
            refine (cell_blk ?_).trans hc'
            rw [add_blk, hBa.block _ (by have := HKS.out.1; have := HGZ.out; omega), HKS.out.2 _ (by have := HGZ.out; omega), HBD.out.block _ hl']
          clear hno hlp hat
          go_wp2_with (refine wl_value rfl (exec_fcut 2 (by decide) rfl rfl) ?_; refine Hid.out ?_)
          refine Hid.mk ?_
          go_wp2_with (refine wl_value rfl (exec_ld rfl rfl (ldNs ((cut_ov s3).trans (congrArg some HOV.out)))) ?_; refine Hid.out ?_)
          refine Hid.mk ?_
          go_wp2_with (refine wl_value rfl (exec_ixN (p := op) (i := n) rfl rfl rfl HNO.out) ?_; refine Hid.out ?_)
          refine Hid.mk ?_
          go_wp2_with (refine wl_value rfl (exec_ld rfl rfl (ldP hcell)) ?_; refine Hid.out ?_)
          refine Hid.mk ?_
          go_wp2_with (refine wl_value rfl (exec_lenN rfl rfl) ?_; refine Hid.out ?_)
          refine Hid.mk ?_
          go_wp2_with (go_at_call 16; refine (HPK.out _).mono ?_; rintro e zb ⟨rfl, hBb⟩; refine Hid.out ?_)
          refine Hid.mk ?_
          go_wp2_with fail
          exact TAIL1 _ _ _ _ _ _ _ _ _ _ _ _ _ _ _ _ _ _ at' zb HAT (Hid.mk (hBa.trans (hBb.mono hBa.size)))
        · rw [hE]
          clear hE
          go_wp2_with fail
          exact TAIL1 _ _ _ _ _ _ _ _ _ _ _ _ _ _ _ _ _ _ 0 za (Hid.mk HL.out.2.2.2.1) (Hid.mk hBa)
end Go.Proofs.Ythnlfjkpiohooaa
