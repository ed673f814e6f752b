/-
  Own text. The law SessionEpochs, walked.
-/
import Derived.Test.YtbkbcfimpaolmaaSXS
import Derived.Deep.CutBlock
namespace Go.Proofs.Ytbkbcfimpaolmaa
open Go.RowKit Go.Proofs
set_option maxRecDepth 100000
set_option maxHeartbeats 32000000 in
theorem epochs_walk (v : Value) (n : Nat) (X : Nat → Op9) (w : World) (hv : OpsAt9 w v n X) : Calls Try.prog 6 #[v] w fun e w' => e = .returned (.bool true) ∧ Below w.heap.size w w' := by
  obtain ⟨a0, cap0, hv0, hv1⟩ := id hv
  clear hv1
  subst hv0
  have HV := Hid.mk hv
  clear hv
  go_enter Try.func6, Try.ntmps6
  go_wp2_with fail
  refine (awake_run w).mono ?_
  rintro e v1 ⟨rfl, hA1⟩
  go_wp2_with fail
  refine (New_run9 v1).mono ?_
  rintro e v2 ⟨sb, rfl, hs2, hsb, hA2⟩
  have hN := SeSt.new hA1 hs2 hsb hA2
  clear hs2 hsb hA2 hA1
  go_wp2_with fail
  go_loopg [5, 6, 7] n (fun gm s5 s6 s7 v => ∃ (i : Nat) (σ : Ses) (now : Int), gm = n - i ∧ i ≤ n ∧ i ≤ 100 ∧ s5 = .int .i64 σ.c ∧ s6 = .int .i64 now ∧ s7 = .int .i64 (i : Int) ∧ 0 ≤ now ∧ now ≤ 1000000 * (i : Int) ∧ Hid (SeSt w sb (fun _ => False) v σ ∧ SesOk i σ ∧ Ord σ))
  case atStart => exact ⟨0, ses0, 0, rfl, by omega, by omega, rfl, rfl, rfl, by omega, by omega, Hid.mk ⟨hN, ok0, ord0⟩⟩
  case round =>
    obtain ⟨i, σ, now, hgm, hin, hi1, rfl, rfl, rfl, hn0, hn1, HS⟩ := hrel
    clear hN
    by_cases hlt : i < n
    · by_cases h100 : i < 100
      · obtain ⟨ad, cap, hva, hc, hU, hT⟩ := HV.out.at HS.out.1.bel i hlt
        obtain ⟨rfl, rfl⟩ : a0 = some ad ∧ cap0 = cap := by simpa using hva
        clear hva
        have hlti : (i : Int) < (n : Int) := by omega
        have h100i : (i : Int) < 100 := by omega
        go_wp2_with (first | (refine wl_value rfl (exec_ixOp rfl (by rfl) (by rfl) hlt) ?_) | (refine wl_value rfl (exec_ldOp rfl (by rfl) hc) ?_) | (refine wl_al zeroOp9 ?_; intro g8 u1 hg8 g1 hB1; refine Hid.out ?_))
        refine Hid.mk ?_
        have h1 := HS.out.1.keep hg8 hB1
        have hgw : w.heap.size ≤ g8 := Nat.le_trans HS.out.1.size hg8
        go_wp2_with (refine st_st isOp9 (opV_one _) g1 (by rfl) (by rfl) ?_; intro u2 g2 o2; refine Hid.out ?_)
        refine Hid.mk ?_
        have h2 := st_sub (st_only h1 o2 hgw) (N' := fun k => k = g8) (fun k e => .inr e)
        have ok := HS.out.2.1
        have od := HS.out.2.2
        clear h1 g1 hB1 o2 hg8 HS hc hgw
        generalize X i = x at *
        have ca := op_a g2
        have hw0 : 0 ≤ (nowF now x.after) := by unfold nowF; split <;> omega
        have hw1 : (nowF now x.after) ≤ 1000000 * ((i : Int) + 1) := by unfold nowF; split <;> omega
        simp only [Act.put]
        go_upto_region 11 with fail
        go_cut [43] (fun s43 wx => s43 = .bool (decide (0 < x.after ∧ x.after < 1000000)) ∧ wx = u2)
        case first =>
          by_cases ha : 0 < x.after
          · by_cases hb : x.after < 1000000
            · as_aux_lemma =>
                go_wp2_with fail
                go_meet
                case rel => exact ⟨by rw [decide_eq_true (p := 0 < x.after ∧ x.after < 1000000) (by omega)], rfl⟩
            · have hbd : decide (x.after < 1000000) = false := decide_eq_false hb
              as_aux_lemma =>
                go_wp2_with fail
                go_meet
                case rel => exact ⟨by rw [decide_eq_false (p := 0 < x.after ∧ x.after < 1000000) (fun e => by omega)], rfl⟩
          · have had : decide (0 < x.after) = false := decide_eq_false ha
            as_aux_lemma =>
              go_wp2_with fail
              go_meet
              case rel => exact ⟨by rw [decide_eq_false (p := 0 < x.after ∧ x.after < 1000000) (fun e => by omega)], rfl⟩
        case rest =>
          obtain ⟨rfl, hwc⟩ := hcut
          subst hwc
          go_upto_if 43 with fail
          go_cut [6] (fun s6 wx => s6 = .int .i64 (nowF now x.after) ∧ wx = wc)
          case first =>
            by_cases ha : 0 < x.after ∧ x.after < 1000000
            · have hN : (nowF now x.after) = now + x.after := by unfold nowF; rw [if_pos ha]
              have hd : decide (0 < x.after ∧ x.after < 1000000) = true := decide_eq_true ha
              obtain ⟨ha1, ha2⟩ := ha
              have hs1 : now + x.after ≤ 9223372036854775807 := by omega
              as_aux_lemma =>
                go_wp2_with fail
                go_meet
                case rel => exact ⟨by rw [hN], rfl⟩
            · have hN : (nowF now x.after) = now := by unfold nowF; rw [if_neg ha]
              have hd : decide (0 < x.after ∧ x.after < 1000000) = false := decide_eq_false ha
              as_aux_lemma =>
                go_wp2_with fail
                go_meet
                case rel => exact ⟨by rw [hN], rfl⟩
          case rest =>
            obtain ⟨rfl, hwc⟩ := hcut
            subst hwc
            clear ca
            have cn := op_n g2
            go_wp2_with fail
            refine (pair_run x.nn _).mono ?_
            rintro e u3 ⟨rfl, hB3⟩
            have h3 := h2.below hB3
            have q3 := SAt.kept g2 hB3
            clear h2 g2 hB3 cn
            go_wp2_with (refine wl_al zeroPairV ?_; intro g9 u4 hg9 g4 hB4; refine Hid.out ?_)
            refine Hid.mk ?_
            have h4 := h3.keep hg9 hB4
            have q4 := SAt.kept q3 hB4
            have hl8 := SAt.lt q3
            have hg9w : w.heap.size ≤ g9 := Nat.le_trans h3.size hg9
            clear h3 q3 hB4
            go_wp2_with (refine st_st isPair (paiV_one _ _ _ _) g4 (by rfl) (by rfl) ?_; intro u5 g5 o5; refine Hid.out ?_)
            refine Hid.mk ?_
            have h5 := st_only h4 o5 hg9w
            have q5 := q4.only o5 (by omega)
            have hl8' := SAt.lt q5
            have hl9' := SAt.lt g5
            have ck := op_k q5
            have hk1 := Int.tmod_lt_of_pos x.kind (show (0 : Int) < 4 by omega)
            have hk2 := tmod_gt x.kind (show (0 : Int) < 4 by omega)
            clear h4 q4 g4 o5 hg9 hl8 hg9w
            generalize hkm : Int.tmod x.kind 4 = km at *
            have hc0 : 0 ≤ σ.c := ok.c0
            have hc1 : σ.c ≤ (i : Int) := ok.c1
            simp only [Act.put]
            go_upto_block 2 with fail
            go_cut [5] (fun s5 wx => ∃ σ' : Ses, s5 = .int .i64 σ'.c ∧ Hid (SeSt w sb (fun _ => False) wx σ' ∧ SesOk (i + 1) σ' ∧ Ord σ'))
            case first =>
              clear ck hkm
              have HN : ∀ k, (k = g8 ∨ k = g9) → k < u5.heap.size := fun k e => by rcases e with rfl | rfl <;> assumption
              by_cases k0 : km = 0
              · subst k0
                have cf := op_f q5
                by_cases hA : atF σ.K (ploc x.nn) = -1
                · have hcc : (putS σ (nowF now x.after) (pks x.nn) (pkr x.nn) (ploc x.nn) (pfar x.nn) x.first).c = σ.c + 1 := by rw [putS_yes hA]
                  have HPU : Hid (∀ S, SesAt u5 sb σ S → Calls Try.prog 12 #[.pointer (some ⟨sb, 0, none⟩), .int .i64 (nowF now x.after), .agg (SC 66 (paiV (pks x.nn) (pkr x.nn) (ploc x.nn) (pfar x.nn))), .bool x.first] u5 fun e w' => e = .returned (.tuple #[.int .i64 (σ.c + 1), .int .i64 0]) ∧ Goes SesAt u5 sb S (putS σ (nowF now x.after) (pks x.nn) (pkr x.nn) (ploc x.nn) (pfar x.nn) x.first) w') := Hid.mk (fun S hS => by
                    have := Put_run (nowF now x.after) (pks x.nn) (pkr x.nn) (ploc x.nn) (pfar x.nn) x.first hS hc0 (by omega)
                    rw [show putR σ (ploc x.nn) = (σ.c + 1, 0) by unfold putR; rw [if_pos hA]] at this
                    exact this)
                  have HOK : Hid (SesOk (i + 1) (putS σ (nowF now x.after) (pks x.nn) (pkr x.nn) (ploc x.nn) (pfar x.nn) x.first) ∧ Ord (putS σ (nowF now x.after) (pks x.nn) (pkr x.nn) (ploc x.nn) (pfar x.nn) x.first)) := Hid.mk ⟨ok.put (by omega) x.first (pks_b _) (pkr_b _) (by unfold ploc; omega) (by unfold ploc; omega) (by unfold pfar; omega) (by unfold pfar; omega), od.put ok _ _ _ _ _ _⟩
                  generalize putS σ (nowF now x.after) (pks x.nn) (pkr x.nn) (ploc x.nn) (pfar x.nn) x.first = σ1 at *
                  have HCC := Hid.mk hcc
                  clear hcc hA
                  as_aux_lemma =>
                    go_wp2_with (refine wl_value rfl (look_st rfl isPair g5 (by rfl)) ?_)
                    refine (h5.call HN (fun S hS => HPU.out S hS)).mono ?_
                    rintro e u6 ⟨rfl, h6, k6⟩
                    have HX := Hid.mk (And.intro (st_sub h6 (N' := fun _ => False) (fun k e => e.elim)) HOK.out)
                    clear h6 k6 h5 q5 g5 cf HPU HN
                    go_wp2_with fail
                    go_meet
                    case rel => exact ⟨σ1, by rw [HCC.out], HX⟩
                · have hcc : (putS σ (nowF now x.after) (pks x.nn) (pkr x.nn) (ploc x.nn) (pfar x.nn) x.first).c = σ.c := by rw [putS_no hA]
                  have HPU : Hid (∀ S, SesAt u5 sb σ S → Calls Try.prog 12 #[.pointer (some ⟨sb, 0, none⟩), .int .i64 (nowF now x.after), .agg (SC 66 (paiV (pks x.nn) (pkr x.nn) (ploc x.nn) (pfar x.nn))), .bool x.first] u5 fun e w' => e = .returned (.tuple #[.int .i64 0, .int .i64 24]) ∧ Goes SesAt u5 sb S (putS σ (nowF now x.after) (pks x.nn) (pkr x.nn) (ploc x.nn) (pfar x.nn) x.first) w') := Hid.mk (fun S hS => by
                    have := Put_run (nowF now x.after) (pks x.nn) (pkr x.nn) (ploc x.nn) (pfar x.nn) x.first hS hc0 (by omega)
                    rw [show putR σ (ploc x.nn) = (0, 24) by unfold putR; rw [if_neg hA]] at this
                    exact this)
                  have HOK : Hid (SesOk (i + 1) (putS σ (nowF now x.after) (pks x.nn) (pkr x.nn) (ploc x.nn) (pfar x.nn) x.first) ∧ Ord (putS σ (nowF now x.after) (pks x.nn) (pkr x.nn) (ploc x.nn) (pfar x.nn) x.first)) := Hid.mk ⟨ok.put (by omega) x.first (pks_b _) (pkr_b _) (by unfold ploc; omega) (by unfold ploc; omega) (by unfold pfar; omega) (by unfold pfar; omega), od.put ok _ _ _ _ _ _⟩
                  generalize putS σ (nowF now x.after) (pks x.nn) (pkr x.nn) (ploc x.nn) (pfar x.nn) x.first = σ1 at *
                  have HCC := Hid.mk hcc
                  clear hcc hA
                  as_aux_lemma =>
                    go_wp2_with (refine wl_value rfl (look_st rfl isPair g5 (by rfl)) ?_)
                    refine (h5.call HN (fun S hS => HPU.out S hS)).mono ?_
                    rintro e u6 ⟨rfl, h6, k6⟩
                    have HX := Hid.mk (And.intro (st_sub h6 (N' := fun _ => False) (fun k e => e.elim)) HOK.out)
                    clear h6 k6 h5 q5 g5 cf HPU HN
                    go_wp2_with fail
                    go_meet
                    case rel => exact ⟨σ1, by rw [HCC.out], HX⟩
              · have n0 : (km == 0) = false := beq_eq_false_iff_ne.2 k0
                by_cases k1 : km = 1 ∨ km = -1
                · have HO : Hid (∀ v, (SeSt w sb (fun k => k = g8 ∨ k = g9) v σ ∧ SAt v g8 69 7 (opV x) ∧ SAt v g9 35 66 (paiV (pks x.nn) (pkr x.nn) (ploc x.nn) (pfar x.nn))) → Calls Try.prog 15 #[.pointer (some ⟨sb, 0, none⟩), .int .i64 (nowF now x.after), .int .u32 (ploc x.nn), .int .u64 x.ctr, .string (boxT (pkr x.nn) (nonN x.ctr) x.text ByteArray.empty)] v fun e w' => ∃ y, e = .returned y ∧ y = .tuple #[.string (openS σ (nowF now x.after) (ploc x.nn) x.ctr (boxT (pkr x.nn) (nonN x.ctr) x.text ByteArray.empty)).1.1, .int .i64 (openS σ (nowF now x.after) (ploc x.nn) x.ctr (boxT (pkr x.nn) (nonN x.ctr) x.text ByteArray.empty)).1.2.1, .int .i64 (openS σ (nowF now x.after) (ploc x.nn) x.ctr (boxT (pkr x.nn) (nonN x.ctr) x.text ByteArray.empty)).1.2.2] ∧ SeSt w sb (fun k => k = g8 ∨ k = g9) w' (openS σ (nowF now x.after) (ploc x.nn) x.ctr (boxT (pkr x.nn) (nonN x.ctr) x.text ByteArray.empty)).2) := Hid.mk (fun v hv => by
                    have l8 := SAt.lt hv.2.1
                    have l9 := SAt.lt hv.2.2
                    refine (hv.1.call (fun k e => by rcases e with rfl | rfl <;> assumption) (fun S hS => Open_run9 (nowF now x.after) (ploc x.nn) x.ctr (boxT (pkr x.nn) (nonN x.ctr) x.text ByteArray.empty) hS ok (by omega) (by omega) hU (by rw [boxT_size]; omega))).mono ?_
                    rintro e w' ⟨rfl, p1, p2⟩
                    exact ⟨_, rfl, rfl, p1⟩)
                  have HOK : Hid (SesOk (i + 1) (openS σ (nowF now x.after) (ploc x.nn) x.ctr (boxT (pkr x.nn) (nonN x.ctr) x.text ByteArray.empty)).2 ∧ Ord (openS σ (nowF now x.after) (ploc x.nn) x.ctr (boxT (pkr x.nn) (nonN x.ctr) x.text ByteArray.empty)).2 ∧ (openS σ (nowF now x.after) (ploc x.nn) x.ctr (boxT (pkr x.nn) (nonN x.ctr) x.text ByteArray.empty)).2.c = σ.c) := Hid.mk ⟨ok.open (by omega) hU, od.open _ _ _ _, openS_c _ _ _ _ _⟩
                  obtain ⟨VO, hVO⟩ : ∃ VO : Value, VO = .tuple #[.string (openS σ (nowF now x.after) (ploc x.nn) x.ctr (boxT (pkr x.nn) (nonN x.ctr) x.text ByteArray.empty)).1.1, .int .i64 (openS σ (nowF now x.after) (ploc x.nn) x.ctr (boxT (pkr x.nn) (nonN x.ctr) x.text ByteArray.empty)).1.2.1, .int .i64 (openS σ (nowF now x.after) (ploc x.nn) x.ctr (boxT (pkr x.nn) (nonN x.ctr) x.text ByteArray.empty)).1.2.2] := ⟨_, rfl⟩
                  rw [← hVO] at HO
                  clear hVO
                  generalize (openS σ (nowF now x.after) (ploc x.nn) x.ctr (boxT (pkr x.nn) (nonN x.ctr) x.text ByteArray.empty)).2 = σ1 at *
                  have hU2 : Hid (0 ≤ x.ctr ∧ x.ctr < 18446744073709551616) := Hid.mk (by unfold U64 at hU; omega)
                  have hT2 : Hid (x.text.size ≤ 140737488355328) := Hid.mk (by omega)
                  rcases k1 with rfl | rfl
                  · as_aux_lemma =>
                      go_wp2_with fail
                      refine wp_region_steps4 (SL (fun v => SeSt w sb (fun k => k = g8 ∨ k = g9) v σ ∧ SAt v g8 69 7 (opV x) ∧ SAt v g9 35 66 (paiV (pks x.nn) (pkr x.nn) (ploc x.nn) (pfar x.nn))) (fun v => SeSt w sb (fun k => k = g8 ∨ k = g9) v σ1) 14) (fun j vv => vv = ([.pointer (some ⟨sb, 0, none⟩), .int .i64 (nowF now x.after), .pointer (some ⟨g9, 0 + 64, none⟩), .int .u32 (ploc x.nn), .pointer (some ⟨g8, 0 + 3, none⟩), .int .u64 x.ctr, .pointer (some ⟨g9, 0 + 32, none⟩), .agg (WA .u8 32 (pkr x.nn)), .pointer (some ⟨g8, 0 + 3, none⟩), .int .u64 x.ctr, .agg (WA .u8 12 (nonN x.ctr)), .pointer (some ⟨g8, 0 + 6, none⟩), .string x.text, .string (boxT (pkr x.nn) (nonN x.ctr) x.text ByteArray.empty), VO] : List Value).getD j undef)
                          [84, 85, 86, 87, 88, 89, 90, 91, 92, 93, 94, 95, 96, 97, 98]
                          [(4, .pointer (some ⟨sb, 0, none⟩)), (6, .int .i64 (nowF now x.after)), (9, .pointer (some ⟨g9, 0, none⟩)), (8, .pointer (some ⟨g8, 0, none⟩))]
                          [[], [], [], [2], [], [4], [], [6], [], [8], [9], [], [11], [7, 10, 12], [0, 1, 3, 5, 13]]
                          [[], [], [], [], [], [], [], [], [], [], [9], [], [], [7, 9, 10, 12], [3, 5, 7, 9, 10, 12, 13]]
                          [[], [], [], [14], [], [14], [], [14], [], [14], [14], [], [14], [14], []]
                          rfl (by kernel_rfl) ⟨rfl, rfl, rfl, rfl, trivial⟩ (sl_start ⟨h5.below (below_drew _), SAt.kept q5 (below_drew _), SAt.kept g5 (below_drew _)⟩)
                          ⟨
                            (fun Q L aq ww hS hun hq hd fr kn => ⟨trivial, fun K hK => wp_value (exec_move rfl fr.1) (hK _ _ rfl (sl_same (by decide) hS))⟩),
                            (fun Q L aq ww hS hun hq hd fr kn => ⟨trivial, fun K hK => wp_value (exec_move rfl fr.2.1) (hK _ _ rfl (sl_same (by decide) hS))⟩),
                            (fun Q L aq ww hS hun hq hd fr kn => ⟨trivial, fun K hK => wp_value (exec_fpa (k := 2) rfl fr.2.2.1 (by decide)) (hK _ _ rfl (sl_same (by decide) hS))⟩),
                            (fun Q L aq ww hS hun hq hd fr kn => ⟨trivial, fun K hK => wp_value (exec_ld rfl kn.1 (ld_u32 (pai_l (sl_a hS hd.1).2.2))) (hK _ _ rfl (sl_same (by decide) hS))⟩),
                            (fun Q L aq ww hS hun hq hd fr kn => ⟨trivial, fun K hK => wp_value (exec_fop (k := 3) rfl fr.2.2.2.1 (by decide)) (hK _ _ rfl (sl_same (by decide) hS))⟩),
                            (fun Q L aq ww hS hun hq hd fr kn => ⟨trivial, fun K hK => wp_value (exec_ld rfl kn.1 (ld_u64 (op_c (sl_a hS hd.1).2.1))) (hK _ _ rfl (sl_same (by decide) hS))⟩),
                            (fun Q L aq ww hS hun hq hd fr kn => ⟨trivial, fun K hK => wp_value (exec_fpa (k := 1) rfl fr.2.2.1 (by decide)) (hK _ _ rfl (sl_same (by decide) hS))⟩),
                            (fun Q L aq ww hS hun hq hd fr kn => ⟨trivial, fun K hK => wp_value (exec_ldmid rfl isArr32 kn.1 (pai_r (sl_a hS hd.1).2.2)) (hK _ _ rfl (sl_same (by decide) hS))⟩),
                            (fun Q L aq ww hS hun hq hd fr kn => ⟨trivial, fun K hK => wp_value (exec_fop (k := 3) rfl fr.2.2.2.1 (by decide)) (hK _ _ rfl (sl_same (by decide) hS))⟩),
                            (fun Q L aq ww hS hun hq hd fr kn => ⟨trivial, fun K hK => wp_value (exec_ld rfl kn.1 (ld_u64 (op_c (sl_a hS hd.1).2.1))) (hK _ _ rfl (sl_same (by decide) hS))⟩),
                            (fun Q L aq ww hS hun hq hd fr kn => ⟨trivial, fun K hK => stepc enterRNonce9 rfl (args1 kn.1) (rNonce_run x.ctr ww hU2.out) (fun w' hb => hK _ _ rfl (sl_ahead (by decide) hd.1 (And.intro ((sl_a hS hd.1).1.below hb) (And.intro (SAt.kept (sl_a hS hd.1).2.1 hb) (SAt.kept (sl_a hS hd.1).2.2 hb)))))⟩),
                            (fun Q L aq ww hS hun hq hd fr kn => ⟨trivial, fun K hK => wp_value (exec_fop (k := 6) rfl fr.2.2.2.1 (by decide)) (hK _ _ rfl (sl_same (by decide) hS))⟩),
                            (fun Q L aq ww hS hun hq hd fr kn => ⟨trivial, fun K hK => wp_value (exec_ld rfl kn.1 (load_str (op_t (sl_a hS hd.1).2.1))) (hK _ _ rfl (sl_same (by decide) hS))⟩),
                            (fun Q L aq ww hS hun hq hd fr kn => ⟨trivial, fun K hK => stepc enterRSeal9 rfl (args4 kn.1 kn.2.1 kn.2.2.1 rfl) (rSeal_run (pkr x.nn) (nonN x.ctr) x.text ByteArray.empty ww (pkr_b x.nn) nonN_b hT2.out (by decide)) (fun w' hb => hK _ _ rfl (sl_ahead (by decide) hd.1 (And.intro ((sl_a hS hd.1).1.below hb) (And.intro (SAt.kept (sl_a hS hd.1).2.1 hb) (SAt.kept (sl_a hS hd.1).2.2 hb)))))⟩),
                            (fun Q L aq ww hS hun hq hd fr kn => ⟨trivial, fun K hK => stepp enterOpenS9 rfl (args5 kn.1 kn.2.1 kn.2.2.1 kn.2.2.2.1 kn.2.2.2.2.1) (HO.out ww (sl_a hS hun)) (fun v w' hv => hK _ _ hv.1 (sl_done hv.2))⟩),
                            trivial⟩ ?_
                      intro vs L u6 hS6 hL6 hk6
                      have h6 := sl_b hS6 (hL6 14 (by decide))
                      have HX := Hid.mk (And.intro (st_sub h6 (N' := fun _ => False) (fun k e => e.elim)) (And.intro HOK.out.1 HOK.out.2.1))
                      clear hk6 hS6 hL6 HO h5 q5 g5 h6 HN
                      simp only [putAll, Act.put, List.setIfInBounds_toArray, List.set_cons_zero, List.set_cons_succ]
                      go_wp2_with fail
                      go_meet
                      case rel => exact ⟨σ1, by rw [HOK.out.2.2], HX⟩
                  · as_aux_lemma =>
                      go_wp2_with fail
                      refine wp_region_steps4 (SL (fun v => SeSt w sb (fun k => k = g8 ∨ k = g9) v σ ∧ SAt v g8 69 7 (opV x) ∧ SAt v g9 35 66 (paiV (pks x.nn) (pkr x.nn) (ploc x.nn) (pfar x.nn))) (fun v => SeSt w sb (fun k => k = g8 ∨ k = g9) v σ1) 14) (fun j vv => vv = ([.pointer (some ⟨sb, 0, none⟩), .int .i64 (nowF now x.after), .pointer (some ⟨g9, 0 + 64, none⟩), .int .u32 (ploc x.nn), .pointer (some ⟨g8, 0 + 3, none⟩), .int .u64 x.ctr, .pointer (some ⟨g9, 0 + 32, none⟩), .agg (WA .u8 32 (pkr x.nn)), .pointer (some ⟨g8, 0 + 3, none⟩), .int .u64 x.ctr, .agg (WA .u8 12 (nonN x.ctr)), .pointer (some ⟨g8, 0 + 6, none⟩), .string x.text, .string (boxT (pkr x.nn) (nonN x.ctr) x.text ByteArray.empty), VO] : List Value).getD j undef)
                          [84, 85, 86, 87, 88, 89, 90, 91, 92, 93, 94, 95, 96, 97, 98]
                          [(4, .pointer (some ⟨sb, 0, none⟩)), (6, .int .i64 (nowF now x.after)), (9, .pointer (some ⟨g9, 0, none⟩)), (8, .pointer (some ⟨g8, 0, none⟩))]
                          [[], [], [], [2], [], [4], [], [6], [], [8], [9], [], [11], [7, 10, 12], [0, 1, 3, 5, 13]]
                          [[], [], [], [], [], [], [], [], [], [], [9], [], [], [7, 9, 10, 12], [3, 5, 7, 9, 10, 12, 13]]
                          [[], [], [], [14], [], [14], [], [14], [], [14], [14], [], [14], [14], []]
                          rfl (by kernel_rfl) ⟨rfl, rfl, rfl, rfl, trivial⟩ (sl_start ⟨h5.below (below_drew _), SAt.kept q5 (below_drew _), SAt.kept g5 (below_drew _)⟩)
                          ⟨
                            (fun Q L aq ww hS hun hq hd fr kn => ⟨trivial, fun K hK => wp_value (exec_move rfl fr.1) (hK _ _ rfl (sl_same (by decide) hS))⟩),
                            (fun Q L aq ww hS hun hq hd fr kn => ⟨trivial, fun K hK => wp_value (exec_move rfl fr.2.1) (hK _ _ rfl (sl_same (by decide) hS))⟩),
                            (fun Q L aq ww hS hun hq hd fr kn => ⟨trivial, fun K hK => wp_value (exec_fpa (k := 2) rfl fr.2.2.1 (by decide)) (hK _ _ rfl (sl_same (by decide) hS))⟩),
                            (fun Q L aq ww hS hun hq hd fr kn => ⟨trivial, fun K hK => wp_value (exec_ld rfl kn.1 (ld_u32 (pai_l (sl_a hS hd.1).2.2))) (hK _ _ rfl (sl_same (by decide) hS))⟩),
                            (fun Q L aq ww hS hun hq hd fr kn => ⟨trivial, fun K hK => wp_value (exec_fop (k := 3) rfl fr.2.2.2.1 (by decide)) (hK _ _ rfl (sl_same (by decide) hS))⟩),
                            (fun Q L aq ww hS hun hq hd fr kn => ⟨trivial, fun K hK => wp_value (exec_ld rfl kn.1 (ld_u64 (op_c (sl_a hS hd.1).2.1))) (hK _ _ rfl (sl_same (by decide) hS))⟩),
                            (fun Q L aq ww hS hun hq hd fr kn => ⟨trivial, fun K hK => wp_value (exec_fpa (k := 1) rfl fr.2.2.1 (by decide)) (hK _ _ rfl (sl_same (by decide) hS))⟩),
                            (fun Q L aq ww hS hun hq hd fr kn => ⟨trivial, fun K hK => wp_value (exec_ldmid rfl isArr32 kn.1 (pai_r (sl_a hS hd.1).2.2)) (hK _ _ rfl (sl_same (by decide) hS))⟩),
                            (fun Q L aq ww hS hun hq hd fr kn => ⟨trivial, fun K hK => wp_value (exec_fop (k := 3) rfl fr.2.2.2.1 (by decide)) (hK _ _ rfl (sl_same (by decide) hS))⟩),
                            (fun Q L aq ww hS hun hq hd fr kn => ⟨trivial, fun K hK => wp_value (exec_ld rfl kn.1 (ld_u64 (op_c (sl_a hS hd.1).2.1))) (hK _ _ rfl (sl_same (by decide) hS))⟩),
                            (fun Q L aq ww hS hun hq hd fr kn => ⟨trivial, fun K hK => stepc enterRNonce9 rfl (args1 kn.1) (rNonce_run x.ctr ww hU2.out) (fun w' hb => hK _ _ rfl (sl_ahead (by decide) hd.1 (And.intro ((sl_a hS hd.1).1.below hb) (And.intro (SAt.kept (sl_a hS hd.1).2.1 hb) (SAt.kept (sl_a hS hd.1).2.2 hb)))))⟩),
                            (fun Q L aq ww hS hun hq hd fr kn => ⟨trivial, fun K hK => wp_value (exec_fop (k := 6) rfl fr.2.2.2.1 (by decide)) (hK _ _ rfl (sl_same (by decide) hS))⟩),
                            (fun Q L aq ww hS hun hq hd fr kn => ⟨trivial, fun K hK => wp_value (exec_ld rfl kn.1 (load_str (op_t (sl_a hS hd.1).2.1))) (hK _ _ rfl (sl_same (by decide) hS))⟩),
                            (fun Q L aq ww hS hun hq hd fr kn => ⟨trivial, fun K hK => stepc enterRSeal9 rfl (args4 kn.1 kn.2.1 kn.2.2.1 rfl) (rSeal_run (pkr x.nn) (nonN x.ctr) x.text ByteArray.empty ww (pkr_b x.nn) nonN_b hT2.out (by decide)) (fun w' hb => hK _ _ rfl (sl_ahead (by decide) hd.1 (And.intro ((sl_a hS hd.1).1.below hb) (And.intro (SAt.kept (sl_a hS hd.1).2.1 hb) (SAt.kept (sl_a hS hd.1).2.2 hb)))))⟩),
                            (fun Q L aq ww hS hun hq hd fr kn => ⟨trivial, fun K hK => stepp enterOpenS9 rfl (args5 kn.1 kn.2.1 kn.2.2.1 kn.2.2.2.1 kn.2.2.2.2.1) (HO.out ww (sl_a hS hun)) (fun v w' hv => hK _ _ hv.1 (sl_done hv.2))⟩),
                            trivial⟩ ?_
                      intro vs L u6 hS6 hL6 hk6
                      have h6 := sl_b hS6 (hL6 14 (by decide))
                      have HX := Hid.mk (And.intro (st_sub h6 (N' := fun _ => False) (fun k e => e.elim)) (And.intro HOK.out.1 HOK.out.2.1))
                      clear hk6 hS6 hL6 HO h5 q5 g5 h6 HN
                      simp only [putAll, Act.put, List.setIfInBounds_toArray, List.set_cons_zero, List.set_cons_succ]
                      go_wp2_with fail
                      go_meet
                      case rel => exact ⟨σ1, by rw [HOK.out.2.2], HX⟩
                · have n1 : (km == 1) = false := beq_eq_false_iff_ne.2 (fun e => k1 (.inl e))
                  have n2 : (km == -1) = false := beq_eq_false_iff_ne.2 (fun e => k1 (.inr e))
                  by_cases k2 : km = 2 ∨ km = -2
                  · have ct := op_t q5
                    have HSE := Hid.mk (fun S hS => Seal_run9 (w := u5) (b := sb) (S := S) (nowF now x.after) x.text hS ok (by omega) (by omega) (by omega))
                    have HOK : Hid (SesOk (i + 1) (sealS σ (nowF now x.after)) ∧ Ord (sealS σ (nowF now x.after)) ∧ (sealS σ (nowF now x.after)).c = σ.c) := Hid.mk ⟨ok.seal (by omega), od.seal _, sealS_c _ _⟩
                    generalize sealS σ (nowF now x.after) = σ1 at *
                    rcases k2 with rfl | rfl
                    · as_aux_lemma =>
                        go_wp2_with fail
                        refine (h5.call HN (fun S hS => HSE.out S hS)).mono ?_
                        rintro e u6 ⟨rfl, h6, k6⟩
                        have HX := Hid.mk (And.intro (st_sub h6 (N' := fun _ => False) (fun k e => e.elim)) (And.intro HOK.out.1 HOK.out.2.1))
                        clear h6 k6 h5 q5 g5 ct HSE HN
                        go_wp2_with fail
                        go_meet
                        case rel => exact ⟨σ1, by rw [HOK.out.2.2], HX⟩
                    · as_aux_lemma =>
                        go_wp2_with fail
                        refine (h5.call HN (fun S hS => HSE.out S hS)).mono ?_
                        rintro e u6 ⟨rfl, h6, k6⟩
                        have HX := Hid.mk (And.intro (st_sub h6 (N' := fun _ => False) (fun k e => e.elim)) (And.intro HOK.out.1 HOK.out.2.1))
                        clear h6 k6 h5 q5 g5 ct HSE HN
                        go_wp2_with fail
                        go_meet
                        case rel => exact ⟨σ1, by rw [HOK.out.2.2], HX⟩
                  · have n3 : (km == 2) = false := beq_eq_false_iff_ne.2 (fun e => k2 (.inl e))
                    have n4 : (km == -2) = false := beq_eq_false_iff_ne.2 (fun e => k2 (.inr e))
                    have HEX : Hid (∀ S, SesAt u5 sb σ S → Calls Try.prog 16 #[.pointer (some ⟨sb, 0, none⟩), .int .i64 (nowF now x.after)] u5 fun e w' => (∃ vo, e = .returned vo) ∧ Goes SesAt u5 sb S (expireS σ (nowF now x.after)) w') := Hid.mk (fun S hS => by
                      refine (Expire_run (nowF now x.after) hS ok (by omega)).mono ?_
                      rintro e w' ⟨vo, rfl, p1, p2⟩
                      exact ⟨⟨vo, rfl⟩, p2⟩)
                    have HOK : Hid (SesOk (i + 1) (expireS σ (nowF now x.after)) ∧ Ord (expireS σ (nowF now x.after)) ∧ (expireS σ (nowF now x.after)).c = σ.c) := Hid.mk ⟨(ok.drop _ (by omega)).mono (by omega), od.drop _ _, rfl⟩
                    generalize expireS σ (nowF now x.after) = σ1 at *
                    as_aux_lemma =>
                      go_wp2_with fail
                      refine (h5.call HN (fun S hS => HEX.out S hS)).mono ?_
                      rintro e u6 ⟨⟨vo, rfl⟩, h6, k6⟩
                      have HX := Hid.mk (And.intro (st_sub h6 (N' := fun _ => False) (fun k e => e.elim)) (And.intro HOK.out.1 HOK.out.2.1))
                      clear h6 k6 h5 q5 g5 HEX HN
                      go_wp2_with fail
                      go_meet
                      case rel => exact ⟨σ1, by rw [HOK.out.2.2], HX⟩
            case rest =>
              obtain ⟨σ', rfl, HS'⟩ := hcut
              clear h5 q5 g5 ck hkm hk1 hk2 hl8' hl9' ok od hc0 hc1
              as_aux_lemma =>
                obtain ⟨hS', ok', od'⟩ := HS'.out
                clear HS'
                go_wp2_with fail
                refine (slots_told hS' ok' od').mono ?_
                rintro e u7 ⟨p, m, cp, W, E, C, B, rfl, hm3, hE, hN, hT7, hS7⟩
                clear hS'
                have HT := Hid.mk hT7
                have HE := Hid.mk hE
                have HN := Hid.mk hN
                have H7 := Hid.mk hS7
                have HOK := Hid.mk (And.intro ok' od')
                clear hT7 hE hN hS7 ok' od'
                generalize hcc : σ'.c = cc at *
                have hm3i : ¬ (3 : Int) < (m : Int) := by omega
                have hm3d : decide ((3 : Int) < (m : Int)) = false := decide_eq_false hm3i
                go_wp2_with fail
                have HB0 : Below u7.heap.size u7 u7 := Below.refl _ _
                go_loopg [13] m (fun gm s13 v => ∃ k : Nat, gm = m - k ∧ k ≤ m ∧ s13 = .int .i64 (k : Int) ∧ Below u7.heap.size u7 v)
                case atStart => exact ⟨0, by omega, by omega, rfl, by first | exact HB0 | exact below_drewN HB0 _⟩
                case round =>
                  obtain ⟨k, hgk, hkm, rfl, hQ8⟩ := hrel
                  clear HB0
                  by_cases hkm : k < m
                  · as_aux_lemma =>
                      obtain ⟨g, rfl, hgl, hcl⟩ := HT.out (by omega)
                      have HW : Hid (∀ ww, Below u7.heap.size u7 ww → ∀ k, k < m → ww.cell? ⟨g, 8 * k + 0, none⟩ = some (.int .i64 (W k))) := Hid.mk (fun ww hb k hk => by rw [hb.cell (p := ⟨g, 8 * k + 0, none⟩) hgl]; exact (hcl k hk).1)
                      have HEE : Hid (∀ ww, Below u7.heap.size u7 ww → ∀ k, k < m → ww.cell? ⟨g, 8 * k + 1, none⟩ = some (.int .i64 (E k))) := Hid.mk (fun ww hb k hk => by rw [hb.cell (p := ⟨g, 8 * k + 1, none⟩) hgl]; exact (hcl k hk).2.1)
                      have HC : Hid (∀ ww, Below u7.heap.size u7 ww → ∀ k, k < m → ww.cell? ⟨g, 8 * k + 2, none⟩ = some (.int .u32 (C k))) := Hid.mk (fun ww hb k hk => by rw [hb.cell (p := ⟨g, 8 * k + 2, none⟩) hgl]; exact (hcl k hk).2.2.1)
                      have hE0 := (HE.out k hkm).1
                      have hE1 := (HE.out k hkm).2
                      have hk9 : k < 9 := by omega
                      have hkmi : (k : Int) < (m : Int) := by omega
                      have hkmd : decide ((k : Int) < (m : Int)) = true := decide_eq_true hkmi
                      clear hcl
                      by_cases hk0 : 0 < k
                      · obtain ⟨hn1, hn2, hn3⟩ := HN.out k hk0 hkm
                        have hk1m : k - 1 < m := by omega
                        go_wp2_with fail
                        refine wp_region3 (Below u7.heap.size u7) wr.heap.size
                            ([] : List (Nat × Cont))
                            (kv (.slice (some ⟨g, 0, none⟩) m cp) :: kv (.int .i64 (k : Int)) :: kv (.pointer (some ⟨g, 8 * k, none⟩)) :: kv (.pointer (some ⟨g, 8 * k + 1, none⟩)) :: kv (.int .i64 (E k)) :: kv (.bool false) :: kv (.bool false) :: kv (.slice (some ⟨g, 0, none⟩) m cp) :: kv (.int .i64 (k : Int)) :: kv (.pointer (some ⟨g, 8 * k, none⟩)) :: kv (.pointer (some ⟨g, 8 * k + 1, none⟩)) :: kv (.int .i64 (E k)) :: kv (.int .i64 cc) :: kv (.bool false) :: kv (.bool false) :: kv (.bool false) :: kv (.int .i64 (k : Int)) :: kv (.bool true) :: kv (.bool true) :: kv (.slice (some ⟨g, 0, none⟩) m cp) :: kv (.int .i64 (k : Int)) :: kv (.pointer (some ⟨g, 8 * k, none⟩)) :: kv (.pointer (some ⟨g, 8 * k + 0, none⟩)) :: kv (.int .i64 (W k)) :: kv (.slice (some ⟨g, 0, none⟩) m cp) :: kv (.int .i64 (k : Int)) :: kv (.int .i64 ((k - 1 : Nat) : Int)) :: kv (.pointer (some ⟨g, 8 * (k - 1), none⟩)) :: kv (.pointer (some ⟨g, 8 * (k - 1) + 0, none⟩)) :: kv (.int .i64 (W (k - 1))) :: kv (.bool false) :: kv (.bool false) :: kv (.slice (some ⟨g, 0, none⟩) m cp) :: kv (.int .i64 (k : Int)) :: kv (.pointer (some ⟨g, 8 * k, none⟩)) :: kv (.pointer (some ⟨g, 8 * k + 1, none⟩)) :: kv (.int .i64 (E k)) :: kv (.slice (some ⟨g, 0, none⟩) m cp) :: kv (.int .i64 (k : Int)) :: kv (.int .i64 ((k - 1 : Nat) : Int)) :: kv (.pointer (some ⟨g, 8 * (k - 1), none⟩)) :: kv (.pointer (some ⟨g, 8 * (k - 1) + 1, none⟩)) :: kv (.int .i64 (E (k - 1))) :: kv (.bool false) :: kv (.bool false) :: kv (.bool false) :: kv (.slice (some ⟨g, 0, none⟩) m cp) :: kv (.int .i64 (k : Int)) :: kv (.pointer (some ⟨g, 8 * k, none⟩)) :: kv (.pointer (some ⟨g, 8 * k + 2, none⟩)) :: kv (.int .u32 (C k)) :: kv (.slice (some ⟨g, 0, none⟩) m cp) :: kv (.int .i64 (k : Int)) :: kv (.int .i64 ((k - 1 : Nat) : Int)) :: kv (.pointer (some ⟨g, 8 * (k - 1), none⟩)) :: kv (.pointer (some ⟨g, 8 * (k - 1) + 2, none⟩)) :: kv (.int .u32 (C (k - 1))) :: kv (.bool false) :: kv (.bool false) :: kv (.bool false) :: kv (.bool false) :: [])
                            (.none :: .none :: .none :: .none :: .none :: .none :: .none :: .none :: .none :: .none :: .none :: .none :: .none :: .none :: .none :: .none :: .none :: .none :: .none :: .none :: .none :: .none :: .none :: .none :: .none :: .none :: .none :: .none :: .none :: .none :: .none :: .none :: .none :: .none :: .none :: .none :: .none :: .none :: .none :: .none :: .none :: .none :: .none :: .none :: .none :: .none :: .none :: .none :: .none :: .none :: .none :: .none :: .none :: .none :: .none :: .none :: .none :: .none :: .none :: .none :: .none :: [])
                            (some 118 :: some 119 :: some 120 :: some 121 :: some 122 :: some 123 :: some 124 :: some 125 :: some 126 :: some 127 :: some 128 :: some 129 :: some 130 :: some 131 :: some 132 :: some 133 :: some 134 :: some 135 :: some 136 :: some 137 :: some 138 :: some 139 :: some 140 :: some 141 :: some 142 :: some 143 :: some 144 :: some 145 :: some 146 :: some 147 :: some 148 :: some 149 :: some 150 :: some 151 :: some 152 :: some 153 :: some 154 :: some 155 :: some 156 :: some 157 :: some 158 :: some 159 :: some 160 :: some 161 :: some 162 :: some 163 :: some 164 :: some 165 :: some 166 :: some 167 :: some 168 :: some 169 :: some 170 :: some 171 :: some 172 :: some 173 :: some 174 :: some 175 :: some 176 :: some 177 :: some 178 :: [])
                            [(12, .slice (some ⟨g, 0, none⟩) m cp), (13, .int .i64 (k : Int)), (5, .int .i64 cc)]
                            ([] :: [] :: [.slot 0, .slot 1] :: [.slot 2] :: [.slot 3] :: [.slot 4] :: [.slot 5] :: [.slot 6] :: [.slot 6] :: [.slot 6, .slot 7, .slot 8] :: [.slot 6, .slot 9] :: [.slot 6, .slot 10] :: [.slot 6] :: [.slot 6, .slot 11, .slot 12] :: [.slot 6, .slot 13] :: [.slot 14] :: [.slot 15] :: [.slot 15, .slot 16] :: [.slot 15, .slot 17] :: [.slot 18] :: [.slot 18] :: [.slot 18, .slot 19, .slot 20] :: [.slot 18, .slot 21] :: [.slot 18, .slot 22] :: [.slot 18] :: [.slot 18] :: [.slot 18, .slot 25] :: [.slot 18, .slot 24, .slot 26] :: [.slot 18, .slot 27] :: [.slot 18, .slot 28] :: [.slot 18, .slot 23, .slot 29] :: [.slot 18, .slot 30] :: [.slot 31] :: [.slot 31] :: [.slot 31, .slot 32, .slot 33] :: [.slot 31, .slot 34] :: [.slot 31, .slot 35] :: [.slot 31] :: [.slot 31] :: [.slot 31, .slot 38] :: [.slot 31, .slot 37, .slot 39] :: [.slot 31, .slot 40] :: [.slot 31, .slot 41] :: [.slot 31, .slot 36, .slot 42] :: [.slot 18, .slot 31, .slot 43] :: [.slot 18, .slot 44] :: [.slot 45] :: [.slot 45] :: [.slot 45, .slot 46, .slot 47] :: [.slot 45, .slot 48] :: [.slot 45, .slot 49] :: [.slot 45] :: [.slot 45] :: [.slot 45, .slot 52] :: [.slot 45, .slot 51, .slot 53] :: [.slot 45, .slot 54] :: [.slot 45, .slot 55] :: [.slot 45, .slot 50, .slot 56] :: [.slot 18, .slot 45, .slot 57] :: [.slot 15, .slot 18, .slot 58] :: [.slot 15, .slot 59] :: [])
                            [.slot 60] (118 :: 119 :: 120 :: 121 :: 122 :: 123 :: 124 :: 125 :: 126 :: 127 :: 128 :: 129 :: 130 :: 131 :: 132 :: 133 :: 134 :: 135 :: 136 :: 137 :: 138 :: 139 :: 140 :: 141 :: 142 :: 143 :: 144 :: 145 :: 146 :: 147 :: 148 :: 149 :: 150 :: 151 :: 152 :: 153 :: 154 :: 155 :: 156 :: 157 :: 158 :: 159 :: 160 :: 161 :: 162 :: 163 :: 164 :: 165 :: 166 :: 167 :: 168 :: 169 :: 170 :: 171 :: 172 :: 173 :: 174 :: 175 :: 176 :: 177 :: 178 :: [])
                            rfl (by kernel_rfl) ⟨rfl, rfl, rfl, trivial⟩ (hQ8.drew) (Nat.le_refl _) trivial trivial (below_Gc7 (by have := hQ8.size; omega))
                            ⟨
                              (fun Q aq ww own hS hBg fr kn => .inl ⟨trivial, fun K hK => wp_value (exec_move rfl fr.1) (hK _ _ ⟨Touch.refl _ _, rfl⟩)⟩),
                              (fun Q aq ww own hS hBg fr kn => .inl ⟨trivial, fun K hK => wp_value (exec_move rfl fr.2.1) (hK _ _ ⟨Touch.refl _ _, rfl⟩)⟩),
                              (fun Q aq ww own hS hBg fr kn => .inl ⟨trivial, fun K hK => wp_value (exec_ixT (i := k) rfl kn.1 kn.2.1 hkm) (hK _ _ ⟨Touch.refl _ _, rfl⟩)⟩),
                              (fun Q aq ww own hS hBg fr kn => .inl ⟨trivial, fun K hK => wp_value (exec_fto (k := 1) rfl kn.1 (by decide)) (hK _ _ ⟨Touch.refl _ _, rfl⟩)⟩),
                              (fun Q aq ww own hS hBg fr kn => .inl ⟨trivial, fun K hK => wp_value (exec_ld rfl kn.1 (ld_int (HEE.out ww hS k hkm))) (hK _ _ ⟨Touch.refl _ _, rfl⟩)⟩),
                              (fun Q aq ww own hS hBg fr kn => .inl ⟨trivial, fun K hK => wp_value (exec_lssI rfl kn.1 rfl (by exact decide_eq_false (by omega))) (hK _ _ ⟨Touch.refl _ _, rfl⟩)⟩),
                              (fun Q aq ww own hS hBg fr kn => .inl ⟨trivial, fun K hK => wp_value (exec_move rfl kn.1) (hK _ _ ⟨Touch.refl _ _, rfl⟩)⟩),
                              (fun Q aq ww own hS hBg fr kn => .inl ⟨kn.1, fun K hK => wp_value (exec_move rfl fr.1) (hK _ _ ⟨Touch.refl _ _, rfl⟩)⟩),
                              (fun Q aq ww own hS hBg fr kn => .inl ⟨kn.1, fun K hK => wp_value (exec_move rfl fr.2.1) (hK _ _ ⟨Touch.refl _ _, rfl⟩)⟩),
                              (fun Q aq ww own hS hBg fr kn => .inl ⟨kn.1, fun K hK => wp_value (exec_ixT (i := k) rfl kn.2.1 kn.2.2.1 hkm) (hK _ _ ⟨Touch.refl _ _, rfl⟩)⟩),
                              (fun Q aq ww own hS hBg fr kn => .inl ⟨kn.1, fun K hK => wp_value (exec_fto (k := 1) rfl kn.2.1 (by decide)) (hK _ _ ⟨Touch.refl _ _, rfl⟩)⟩),
                              (fun Q aq ww own hS hBg fr kn => .inl ⟨kn.1, fun K hK => wp_value (exec_ld rfl kn.2.1 (ld_int (HEE.out ww hS k hkm))) (hK _ _ ⟨Touch.refl _ _, rfl⟩)⟩),
                              (fun Q aq ww own hS hBg fr kn => .inl ⟨kn.1, fun K hK => wp_value (exec_move rfl fr.2.2.1) (hK _ _ ⟨Touch.refl _ _, rfl⟩)⟩),
                              (fun Q aq ww own hS hBg fr kn => .inl ⟨kn.1, fun K hK => wp_value (exec_gtrI rfl kn.2.1 kn.2.2.1 (by exact decide_eq_false (by omega))) (hK _ _ ⟨Touch.refl _ _, rfl⟩)⟩),
                              (fun Q aq ww own hS hBg fr kn => .inl ⟨trivial, fun K hK => wp_value (exec_pickF (v := .bool false) rfl kn.1 kn.2.1) (hK _ _ ⟨Touch.refl _ _, rfl⟩)⟩),
                              (fun Q aq ww own hS hBg fr kn => .inl ⟨trivial, fun K hK => wp_value (exec_move rfl kn.1) (hK _ _ ⟨Touch.refl _ _, rfl⟩)⟩),
                              (fun Q aq ww own hS hBg fr kn => .inl ⟨kn.1, fun K hK => wp_value (exec_move rfl fr.2.1) (hK _ _ ⟨Touch.refl _ _, rfl⟩)⟩),
                              (fun Q aq ww own hS hBg fr kn => .inl ⟨kn.1, fun K hK => wp_value (exec_gtrI rfl kn.2.1 rfl (by exact decide_eq_true (by omega))) (hK _ _ ⟨Touch.refl _ _, rfl⟩)⟩),
                              (fun Q aq ww own hS hBg fr kn => .inl ⟨kn.1, fun K hK => wp_value (exec_move rfl kn.2.1) (hK _ _ ⟨Touch.refl _ _, rfl⟩)⟩),
                              (fun Q aq ww own hS hBg fr kn => .inl ⟨kn.1, fun K hK => wp_value (exec_move rfl fr.1) (hK _ _ ⟨Touch.refl _ _, rfl⟩)⟩),
                              (fun Q aq ww own hS hBg fr kn => .inl ⟨kn.1, fun K hK => wp_value (exec_move rfl fr.2.1) (hK _ _ ⟨Touch.refl _ _, rfl⟩)⟩),
                              (fun Q aq ww own hS hBg fr kn => .inl ⟨kn.1, fun K hK => wp_value (exec_ixT (i := k) rfl kn.2.1 kn.2.2.1 hkm) (hK _ _ ⟨Touch.refl _ _, rfl⟩)⟩),
                              (fun Q aq ww own hS hBg fr kn => .inl ⟨kn.1, fun K hK => wp_value (exec_fto (k := 0) rfl kn.2.1 (by decide)) (hK _ _ ⟨Touch.refl _ _, rfl⟩)⟩),
                              (fun Q aq ww own hS hBg fr kn => .inl ⟨kn.1, fun K hK => wp_value (exec_ld rfl kn.2.1 (ld_int (HW.out ww hS k hkm))) (hK _ _ ⟨Touch.refl _ _, rfl⟩)⟩),
                              (fun Q aq ww own hS hBg fr kn => .inl ⟨kn.1, fun K hK => wp_value (exec_move rfl fr.1) (hK _ _ ⟨Touch.refl _ _, rfl⟩)⟩),
                              (fun Q aq ww own hS hBg fr kn => .inl ⟨kn.1, fun K hK => wp_value (exec_move rfl fr.2.1) (hK _ _ ⟨Touch.refl _ _, rfl⟩)⟩),
                              (fun Q aq ww own hS hBg fr kn => .inl ⟨kn.1, fun K hK => wp_value (exec_sub1 rfl kn.2.1 rfl hk0 hk9) (hK _ _ ⟨Touch.refl _ _, rfl⟩)⟩),
                              (fun Q aq ww own hS hBg fr kn => .inl ⟨kn.1, fun K hK => wp_value (exec_ixT (i := (k - 1)) rfl kn.2.1 kn.2.2.1 hk1m) (hK _ _ ⟨Touch.refl _ _, rfl⟩)⟩),
                              (fun Q aq ww own hS hBg fr kn => .inl ⟨kn.1, fun K hK => wp_value (exec_fto (k := 0) rfl kn.2.1 (by decide)) (hK _ _ ⟨Touch.refl _ _, rfl⟩)⟩),
                              (fun Q aq ww own hS hBg fr kn => .inl ⟨kn.1, fun K hK => wp_value (exec_ld rfl kn.2.1 (ld_int (HW.out ww hS (k - 1) hk1m))) (hK _ _ ⟨Touch.refl _ _, rfl⟩)⟩),
                              (fun Q aq ww own hS hBg fr kn => .inl ⟨kn.1, fun K hK => wp_value (exec_leqI rfl kn.2.1 kn.2.2.1 (by exact decide_eq_false (by omega))) (hK _ _ ⟨Touch.refl _ _, rfl⟩)⟩),
                              (fun Q aq ww own hS hBg fr kn => .inl ⟨kn.1, fun K hK => wp_value (exec_move rfl kn.2.1) (hK _ _ ⟨Touch.refl _ _, rfl⟩)⟩),
                              (fun Q aq ww own hS hBg fr kn => .inl ⟨kn.1, fun K hK => wp_value (exec_move rfl fr.1) (hK _ _ ⟨Touch.refl _ _, rfl⟩)⟩),
                              (fun Q aq ww own hS hBg fr kn => .inl ⟨kn.1, fun K hK => wp_value (exec_move rfl fr.2.1) (hK _ _ ⟨Touch.refl _ _, rfl⟩)⟩),
                              (fun Q aq ww own hS hBg fr kn => .inl ⟨kn.1, fun K hK => wp_value (exec_ixT (i := k) rfl kn.2.1 kn.2.2.1 hkm) (hK _ _ ⟨Touch.refl _ _, rfl⟩)⟩),
                              (fun Q aq ww own hS hBg fr kn => .inl ⟨kn.1, fun K hK => wp_value (exec_fto (k := 1) rfl kn.2.1 (by decide)) (hK _ _ ⟨Touch.refl _ _, rfl⟩)⟩),
                              (fun Q aq ww own hS hBg fr kn => .inl ⟨kn.1, fun K hK => wp_value (exec_ld rfl kn.2.1 (ld_int (HEE.out ww hS k hkm))) (hK _ _ ⟨Touch.refl _ _, rfl⟩)⟩),
                              (fun Q aq ww own hS hBg fr kn => .inl ⟨kn.1, fun K hK => wp_value (exec_move rfl fr.1) (hK _ _ ⟨Touch.refl _ _, rfl⟩)⟩),
                              (fun Q aq ww own hS hBg fr kn => .inl ⟨kn.1, fun K hK => wp_value (exec_move rfl fr.2.1) (hK _ _ ⟨Touch.refl _ _, rfl⟩)⟩),
                              (fun Q aq ww own hS hBg fr kn => .inl ⟨kn.1, fun K hK => wp_value (exec_sub1 rfl kn.2.1 rfl hk0 hk9) (hK _ _ ⟨Touch.refl _ _, rfl⟩)⟩),
                              (fun Q aq ww own hS hBg fr kn => .inl ⟨kn.1, fun K hK => wp_value (exec_ixT (i := (k - 1)) rfl kn.2.1 kn.2.2.1 hk1m) (hK _ _ ⟨Touch.refl _ _, rfl⟩)⟩),
                              (fun Q aq ww own hS hBg fr kn => .inl ⟨kn.1, fun K hK => wp_value (exec_fto (k := 1) rfl kn.2.1 (by decide)) (hK _ _ ⟨Touch.refl _ _, rfl⟩)⟩),
                              (fun Q aq ww own hS hBg fr kn => .inl ⟨kn.1, fun K hK => wp_value (exec_ld rfl kn.2.1 (ld_int (HEE.out ww hS (k - 1) hk1m))) (hK _ _ ⟨Touch.refl _ _, rfl⟩)⟩),
                              (fun Q aq ww own hS hBg fr kn => .inl ⟨kn.1, fun K hK => wp_value (exec_eqI rfl kn.2.1 kn.2.2.1 (by exact decide_eq_false (by omega))) (hK _ _ ⟨Touch.refl _ _, rfl⟩)⟩),
                              (fun Q aq ww own hS hBg fr kn => .inl ⟨kn.1, fun K hK => wp_value (exec_pickF (v := .bool false) rfl kn.2.1 kn.2.2.1) (hK _ _ ⟨Touch.refl _ _, rfl⟩)⟩),
                              (fun Q aq ww own hS hBg fr kn => .inl ⟨kn.1, fun K hK => wp_value (exec_move rfl kn.2.1) (hK _ _ ⟨Touch.refl _ _, rfl⟩)⟩),
                              (fun Q aq ww own hS hBg fr kn => .inl ⟨kn.1, fun K hK => wp_value (exec_move rfl fr.1) (hK _ _ ⟨Touch.refl _ _, rfl⟩)⟩),
                              (fun Q aq ww own hS hBg fr kn => .inl ⟨kn.1, fun K hK => wp_value (exec_move rfl fr.2.1) (hK _ _ ⟨Touch.refl _ _, rfl⟩)⟩),
                              (fun Q aq ww own hS hBg fr kn => .inl ⟨kn.1, fun K hK => wp_value (exec_ixT (i := k) rfl kn.2.1 kn.2.2.1 hkm) (hK _ _ ⟨Touch.refl _ _, rfl⟩)⟩),
                              (fun Q aq ww own hS hBg fr kn => .inl ⟨kn.1, fun K hK => wp_value (exec_fto (k := 2) rfl kn.2.1 (by decide)) (hK _ _ ⟨Touch.refl _ _, rfl⟩)⟩),
                              (fun Q aq ww own hS hBg fr kn => .inl ⟨kn.1, fun K hK => wp_value (exec_ld rfl kn.2.1 (ld_u32 (HC.out ww hS k hkm))) (hK _ _ ⟨Touch.refl _ _, rfl⟩)⟩),
                              (fun Q aq ww own hS hBg fr kn => .inl ⟨kn.1, fun K hK => wp_value (exec_move rfl fr.1) (hK _ _ ⟨Touch.refl _ _, rfl⟩)⟩),
                              (fun Q aq ww own hS hBg fr kn => .inl ⟨kn.1, fun K hK => wp_value (exec_move rfl fr.2.1) (hK _ _ ⟨Touch.refl _ _, rfl⟩)⟩),
                              (fun Q aq ww own hS hBg fr kn => .inl ⟨kn.1, fun K hK => wp_value (exec_sub1 rfl kn.2.1 rfl hk0 hk9) (hK _ _ ⟨Touch.refl _ _, rfl⟩)⟩),
                              (fun Q aq ww own hS hBg fr kn => .inl ⟨kn.1, fun K hK => wp_value (exec_ixT (i := (k - 1)) rfl kn.2.1 kn.2.2.1 hk1m) (hK _ _ ⟨Touch.refl _ _, rfl⟩)⟩),
                              (fun Q aq ww own hS hBg fr kn => .inl ⟨kn.1, fun K hK => wp_value (exec_fto (k := 2) rfl kn.2.1 (by decide)) (hK _ _ ⟨Touch.refl _ _, rfl⟩)⟩),
                              (fun Q aq ww own hS hBg fr kn => .inl ⟨kn.1, fun K hK => wp_value (exec_ld rfl kn.2.1 (ld_u32 (HC.out ww hS (k - 1) hk1m))) (hK _ _ ⟨Touch.refl _ _, rfl⟩)⟩),
                              (fun Q aq ww own hS hBg fr kn => .inl ⟨kn.1, fun K hK => wp_value (exec_eqU rfl kn.2.1 kn.2.2.1 (by exact decide_eq_false (by omega))) (hK _ _ ⟨Touch.refl _ _, rfl⟩)⟩),
                              (fun Q aq ww own hS hBg fr kn => .inl ⟨kn.1, fun K hK => wp_value (exec_pickF (v := .bool false) rfl kn.2.1 kn.2.2.1) (hK _ _ ⟨Touch.refl _ _, rfl⟩)⟩),
                              (fun Q aq ww own hS hBg fr kn => .inl ⟨kn.1, fun K hK => wp_value (exec_pick (v := .bool false) rfl kn.2.1 kn.2.2.1) (hK _ _ ⟨Touch.refl _ _, rfl⟩)⟩),
                              (fun Q aq ww own hS hBg fr kn => .inl ⟨trivial, fun K hK => wp_value (exec_pickF (v := .bool false) rfl kn.1 kn.2.1) (hK _ _ ⟨Touch.refl _ _, rfl⟩)⟩),
                              trivial⟩ ?_
                        intro vs own u9 hQ hsz kn inj
                        have e178 : vs 178 = .bool false := kn.1
                        clear kn inj hsz
                        simp only [putAll, Act.put, List.setIfInBounds_toArray, List.set_cons_zero, List.set_cons_succ, e178]
                        clear e178
                        go_wp2_with fail
                        go_roundg (m - (k + 1))
                        case rel => exact ⟨k + 1, rfl, by omega, by go_num, hQ⟩
                        case measure => omega
                      · go_wp2_with fail
                        refine wp_region3 (Below u7.heap.size u7) wr.heap.size
                            ([] : List (Nat × Cont))
                            (kv (.slice (some ⟨g, 0, none⟩) m cp) :: kv (.int .i64 (k : Int)) :: kv (.pointer (some ⟨g, 8 * k, none⟩)) :: kv (.pointer (some ⟨g, 8 * k + 1, none⟩)) :: kv (.int .i64 (E k)) :: kv (.bool false) :: kv (.bool false) :: kv (.slice (some ⟨g, 0, none⟩) m cp) :: kv (.int .i64 (k : Int)) :: kv (.pointer (some ⟨g, 8 * k, none⟩)) :: kv (.pointer (some ⟨g, 8 * k + 1, none⟩)) :: kv (.int .i64 (E k)) :: kv (.int .i64 cc) :: kv (.bool false) :: kv (.bool false) :: kv (.bool false) :: kv (.int .i64 (k : Int)) :: kv (.bool false) :: kv (.bool false) :: kv (undef) :: kv (undef) :: kv (undef) :: kv (undef) :: kv (undef) :: kv (undef) :: kv (undef) :: kv (undef) :: kv (undef) :: kv (undef) :: kv (undef) :: kv (undef) :: kv (undef) :: kv (undef) :: kv (undef) :: kv (undef) :: kv (undef) :: kv (undef) :: kv (undef) :: kv (undef) :: kv (undef) :: kv (undef) :: kv (undef) :: kv (undef) :: kv (undef) :: kv (undef) :: kv (undef) :: kv (undef) :: kv (undef) :: kv (undef) :: kv (undef) :: kv (undef) :: kv (undef) :: kv (undef) :: kv (undef) :: kv (undef) :: kv (undef) :: kv (undef) :: kv (undef) :: kv (undef) :: kv (.bool false) :: kv (.bool false) :: [])
                            (.none :: .none :: .none :: .none :: .none :: .none :: .none :: .none :: .none :: .none :: .none :: .none :: .none :: .none :: .none :: .none :: .none :: .none :: .none :: .none :: .none :: .none :: .none :: .none :: .none :: .none :: .none :: .none :: .none :: .none :: .none :: .none :: .none :: .none :: .none :: .none :: .none :: .none :: .none :: .none :: .none :: .none :: .none :: .none :: .none :: .none :: .none :: .none :: .none :: .none :: .none :: .none :: .none :: .none :: .none :: .none :: .none :: .none :: .none :: .none :: .none :: [])
                            (some 118 :: some 119 :: some 120 :: some 121 :: some 122 :: some 123 :: some 124 :: some 125 :: some 126 :: some 127 :: some 128 :: some 129 :: some 130 :: some 131 :: some 132 :: some 133 :: some 134 :: some 135 :: some 136 :: some 137 :: some 138 :: some 139 :: some 140 :: some 141 :: some 142 :: some 143 :: some 144 :: some 145 :: some 146 :: some 147 :: some 148 :: some 149 :: some 150 :: some 151 :: some 152 :: some 153 :: some 154 :: some 155 :: some 156 :: some 157 :: some 158 :: some 159 :: some 160 :: some 161 :: some 162 :: some 163 :: some 164 :: some 165 :: some 166 :: some 167 :: some 168 :: some 169 :: some 170 :: some 171 :: some 172 :: some 173 :: some 174 :: some 175 :: some 176 :: some 177 :: some 178 :: [])
                            [(12, .slice (some ⟨g, 0, none⟩) m cp), (13, .int .i64 (k : Int)), (5, .int .i64 cc)]
                            ([] :: [] :: [.slot 0, .slot 1] :: [.slot 2] :: [.slot 3] :: [.slot 4] :: [.slot 5] :: [.slot 6] :: [.slot 6] :: [.slot 6, .slot 7, .slot 8] :: [.slot 6, .slot 9] :: [.slot 6, .slot 10] :: [.slot 6] :: [.slot 6, .slot 11, .slot 12] :: [.slot 6, .slot 13] :: [.slot 14] :: [.slot 15] :: [.slot 15, .slot 16] :: [.slot 15, .slot 17] :: [.slot 18] :: [.slot 18] :: [.slot 18] :: [.slot 18] :: [.slot 18] :: [.slot 18] :: [.slot 18] :: [.slot 18] :: [.slot 18] :: [.slot 18] :: [.slot 18] :: [.slot 18] :: [.slot 18] :: [.slot 31] :: [.slot 31] :: [.slot 31] :: [.slot 31] :: [.slot 31] :: [.slot 31] :: [.slot 31] :: [.slot 31] :: [.slot 31] :: [.slot 31] :: [.slot 31] :: [.slot 31] :: [.slot 18] :: [.slot 18] :: [.slot 45] :: [.slot 45] :: [.slot 45] :: [.slot 45] :: [.slot 45] :: [.slot 45] :: [.slot 45] :: [.slot 45] :: [.slot 45] :: [.slot 45] :: [.slot 45] :: [.slot 45] :: [.slot 18] :: [.slot 15, .slot 18] :: [.slot 15, .slot 59] :: [])
                            [.slot 60] (118 :: 119 :: 120 :: 121 :: 122 :: 123 :: 124 :: 125 :: 126 :: 127 :: 128 :: 129 :: 130 :: 131 :: 132 :: 133 :: 134 :: 135 :: 136 :: 137 :: 138 :: 139 :: 140 :: 141 :: 142 :: 143 :: 144 :: 145 :: 146 :: 147 :: 148 :: 149 :: 150 :: 151 :: 152 :: 153 :: 154 :: 155 :: 156 :: 157 :: 158 :: 159 :: 160 :: 161 :: 162 :: 163 :: 164 :: 165 :: 166 :: 167 :: 168 :: 169 :: 170 :: 171 :: 172 :: 173 :: 174 :: 175 :: 176 :: 177 :: 178 :: [])
                            rfl (by kernel_rfl) ⟨rfl, rfl, rfl, trivial⟩ (hQ8.drew) (Nat.le_refl _) trivial trivial (below_Gc7 (by have := hQ8.size; omega))
                            ⟨
                              (fun Q aq ww own hS hBg fr kn => .inl ⟨trivial, fun K hK => wp_value (exec_move rfl fr.1) (hK _ _ ⟨Touch.refl _ _, rfl⟩)⟩),
                              (fun Q aq ww own hS hBg fr kn => .inl ⟨trivial, fun K hK => wp_value (exec_move rfl fr.2.1) (hK _ _ ⟨Touch.refl _ _, rfl⟩)⟩),
                              (fun Q aq ww own hS hBg fr kn => .inl ⟨trivial, fun K hK => wp_value (exec_ixT (i := k) rfl kn.1 kn.2.1 hkm) (hK _ _ ⟨Touch.refl _ _, rfl⟩)⟩),
                              (fun Q aq ww own hS hBg fr kn => .inl ⟨trivial, fun K hK => wp_value (exec_fto (k := 1) rfl kn.1 (by decide)) (hK _ _ ⟨Touch.refl _ _, rfl⟩)⟩),
                              (fun Q aq ww own hS hBg fr kn => .inl ⟨trivial, fun K hK => wp_value (exec_ld rfl kn.1 (ld_int (HEE.out ww hS k hkm))) (hK _ _ ⟨Touch.refl _ _, rfl⟩)⟩),
                              (fun Q aq ww own hS hBg fr kn => .inl ⟨trivial, fun K hK => wp_value (exec_lssI rfl kn.1 rfl (by exact decide_eq_false (by omega))) (hK _ _ ⟨Touch.refl _ _, rfl⟩)⟩),
                              (fun Q aq ww own hS hBg fr kn => .inl ⟨trivial, fun K hK => wp_value (exec_move rfl kn.1) (hK _ _ ⟨Touch.refl _ _, rfl⟩)⟩),
                              (fun Q aq ww own hS hBg fr kn => .inl ⟨kn.1, fun K hK => wp_value (exec_move rfl fr.1) (hK _ _ ⟨Touch.refl _ _, rfl⟩)⟩),
                              (fun Q aq ww own hS hBg fr kn => .inl ⟨kn.1, fun K hK => wp_value (exec_move rfl fr.2.1) (hK _ _ ⟨Touch.refl _ _, rfl⟩)⟩),
                              (fun Q aq ww own hS hBg fr kn => .inl ⟨kn.1, fun K hK => wp_value (exec_ixT (i := k) rfl kn.2.1 kn.2.2.1 hkm) (hK _ _ ⟨Touch.refl _ _, rfl⟩)⟩),
                              (fun Q aq ww own hS hBg fr kn => .inl ⟨kn.1, fun K hK => wp_value (exec_fto (k := 1) rfl kn.2.1 (by decide)) (hK _ _ ⟨Touch.refl _ _, rfl⟩)⟩),
                              (fun Q aq ww own hS hBg fr kn => .inl ⟨kn.1, fun K hK => wp_value (exec_ld rfl kn.2.1 (ld_int (HEE.out ww hS k hkm))) (hK _ _ ⟨Touch.refl _ _, rfl⟩)⟩),
                              (fun Q aq ww own hS hBg fr kn => .inl ⟨kn.1, fun K hK => wp_value (exec_move rfl fr.2.2.1) (hK _ _ ⟨Touch.refl _ _, rfl⟩)⟩),
                              (fun Q aq ww own hS hBg fr kn => .inl ⟨kn.1, fun K hK => wp_value (exec_gtrI rfl kn.2.1 kn.2.2.1 (by exact decide_eq_false (by omega))) (hK _ _ ⟨Touch.refl _ _, rfl⟩)⟩),
                              (fun Q aq ww own hS hBg fr kn => .inl ⟨trivial, fun K hK => wp_value (exec_pickF (v := .bool false) rfl kn.1 kn.2.1) (hK _ _ ⟨Touch.refl _ _, rfl⟩)⟩),
                              (fun Q aq ww own hS hBg fr kn => .inl ⟨trivial, fun K hK => wp_value (exec_move rfl kn.1) (hK _ _ ⟨Touch.refl _ _, rfl⟩)⟩),
                              (fun Q aq ww own hS hBg fr kn => .inl ⟨kn.1, fun K hK => wp_value (exec_move rfl fr.2.1) (hK _ _ ⟨Touch.refl _ _, rfl⟩)⟩),
                              (fun Q aq ww own hS hBg fr kn => .inl ⟨kn.1, fun K hK => wp_value (exec_gtrI rfl kn.2.1 rfl (by exact decide_eq_false (by omega))) (hK _ _ ⟨Touch.refl _ _, rfl⟩)⟩),
                              (fun Q aq ww own hS hBg fr kn => .inl ⟨kn.1, fun K hK => wp_value (exec_move rfl kn.2.1) (hK _ _ ⟨Touch.refl _ _, rfl⟩)⟩),
                              (fun Q aq ww own hS hBg fr kn => .inr ⟨.inl kn.1, ⟨Touch.refl _ _, rfl⟩⟩),
                              (fun Q aq ww own hS hBg fr kn => .inr ⟨.inl kn.1, ⟨Touch.refl _ _, rfl⟩⟩),
                              (fun Q aq ww own hS hBg fr kn => .inr ⟨.inl kn.1, ⟨Touch.refl _ _, rfl⟩⟩),
                              (fun Q aq ww own hS hBg fr kn => .inr ⟨.inl kn.1, ⟨Touch.refl _ _, rfl⟩⟩),
                              (fun Q aq ww own hS hBg fr kn => .inr ⟨.inl kn.1, ⟨Touch.refl _ _, rfl⟩⟩),
                              (fun Q aq ww own hS hBg fr kn => .inr ⟨.inl kn.1, ⟨Touch.refl _ _, rfl⟩⟩),
                              (fun Q aq ww own hS hBg fr kn => .inr ⟨.inl kn.1, ⟨Touch.refl _ _, rfl⟩⟩),
                              (fun Q aq ww own hS hBg fr kn => .inr ⟨.inl kn.1, ⟨Touch.refl _ _, rfl⟩⟩),
                              (fun Q aq ww own hS hBg fr kn => .inr ⟨.inl kn.1, ⟨Touch.refl _ _, rfl⟩⟩),
                              (fun Q aq ww own hS hBg fr kn => .inr ⟨.inl kn.1, ⟨Touch.refl _ _, rfl⟩⟩),
                              (fun Q aq ww own hS hBg fr kn => .inr ⟨.inl kn.1, ⟨Touch.refl _ _, rfl⟩⟩),
                              (fun Q aq ww own hS hBg fr kn => .inr ⟨.inl kn.1, ⟨Touch.refl _ _, rfl⟩⟩),
                              (fun Q aq ww own hS hBg fr kn => .inr ⟨.inl kn.1, ⟨Touch.refl _ _, rfl⟩⟩),
                              (fun Q aq ww own hS hBg fr kn => .inr ⟨.inr kn.1, ⟨Touch.refl _ _, rfl⟩⟩),
                              (fun Q aq ww own hS hBg fr kn => .inr ⟨.inr kn.1, ⟨Touch.refl _ _, rfl⟩⟩),
                              (fun Q aq ww own hS hBg fr kn => .inr ⟨.inr kn.1, ⟨Touch.refl _ _, rfl⟩⟩),
                              (fun Q aq ww own hS hBg fr kn => .inr ⟨.inr kn.1, ⟨Touch.refl _ _, rfl⟩⟩),
                              (fun Q aq ww own hS hBg fr kn => .inr ⟨.inr kn.1, ⟨Touch.refl _ _, rfl⟩⟩),
                              (fun Q aq ww own hS hBg fr kn => .inr ⟨.inr kn.1, ⟨Touch.refl _ _, rfl⟩⟩),
                              (fun Q aq ww own hS hBg fr kn => .inr ⟨.inr kn.1, ⟨Touch.refl _ _, rfl⟩⟩),
                              (fun Q aq ww own hS hBg fr kn => .inr ⟨.inr kn.1, ⟨Touch.refl _ _, rfl⟩⟩),
                              (fun Q aq ww own hS hBg fr kn => .inr ⟨.inr kn.1, ⟨Touch.refl _ _, rfl⟩⟩),
                              (fun Q aq ww own hS hBg fr kn => .inr ⟨.inr kn.1, ⟨Touch.refl _ _, rfl⟩⟩),
                              (fun Q aq ww own hS hBg fr kn => .inr ⟨.inr kn.1, ⟨Touch.refl _ _, rfl⟩⟩),
                              (fun Q aq ww own hS hBg fr kn => .inr ⟨.inr kn.1, ⟨Touch.refl _ _, rfl⟩⟩),
                              (fun Q aq ww own hS hBg fr kn => .inr ⟨.inl kn.1, ⟨Touch.refl _ _, rfl⟩⟩),
                              (fun Q aq ww own hS hBg fr kn => .inr ⟨.inl kn.1, ⟨Touch.refl _ _, rfl⟩⟩),
                              (fun Q aq ww own hS hBg fr kn => .inr ⟨.inr kn.1, ⟨Touch.refl _ _, rfl⟩⟩),
                              (fun Q aq ww own hS hBg fr kn => .inr ⟨.inr kn.1, ⟨Touch.refl _ _, rfl⟩⟩),
                              (fun Q aq ww own hS hBg fr kn => .inr ⟨.inr kn.1, ⟨Touch.refl _ _, rfl⟩⟩),
                              (fun Q aq ww own hS hBg fr kn => .inr ⟨.inr kn.1, ⟨Touch.refl _ _, rfl⟩⟩),
                              (fun Q aq ww own hS hBg fr kn => .inr ⟨.inr kn.1, ⟨Touch.refl _ _, rfl⟩⟩),
                              (fun Q aq ww own hS hBg fr kn => .inr ⟨.inr kn.1, ⟨Touch.refl _ _, rfl⟩⟩),
                              (fun Q aq ww own hS hBg fr kn => .inr ⟨.inr kn.1, ⟨Touch.refl _ _, rfl⟩⟩),
                              (fun Q aq ww own hS hBg fr kn => .inr ⟨.inr kn.1, ⟨Touch.refl _ _, rfl⟩⟩),
                              (fun Q aq ww own hS hBg fr kn => .inr ⟨.inr kn.1, ⟨Touch.refl _ _, rfl⟩⟩),
                              (fun Q aq ww own hS hBg fr kn => .inr ⟨.inr kn.1, ⟨Touch.refl _ _, rfl⟩⟩),
                              (fun Q aq ww own hS hBg fr kn => .inr ⟨.inr kn.1, ⟨Touch.refl _ _, rfl⟩⟩),
                              (fun Q aq ww own hS hBg fr kn => .inr ⟨.inr kn.1, ⟨Touch.refl _ _, rfl⟩⟩),
                              (fun Q aq ww own hS hBg fr kn => .inr ⟨.inl kn.1, ⟨Touch.refl _ _, rfl⟩⟩),
                              (fun Q aq ww own hS hBg fr kn => .inl ⟨kn.1, fun K hK => wp_value (exec_pickF (v := .bool false) rfl kn.2.1 rfl) (hK _ _ ⟨Touch.refl _ _, rfl⟩)⟩),
                              (fun Q aq ww own hS hBg fr kn => .inl ⟨trivial, fun K hK => wp_value (exec_pickF (v := .bool false) rfl kn.1 kn.2.1) (hK _ _ ⟨Touch.refl _ _, rfl⟩)⟩),
                              trivial⟩ ?_
                        intro vs own u9 hQ hsz kn inj
                        have e178 : vs 178 = .bool false := kn.1
                        clear kn inj hsz
                        simp only [putAll, Act.put, List.setIfInBounds_toArray, List.set_cons_zero, List.set_cons_succ, e178]
                        clear e178
                        go_wp2_with fail
                        go_roundg (m - (k + 1))
                        case rel => exact ⟨k + 1, rfl, by omega, by go_num, hQ⟩
                        case measure => omega
                  · have hkmi : ¬ (k : Int) < (m : Int) := by omega
                    have hkmd : decide ((k : Int) < (m : Int)) = false := decide_eq_false hkmi
                    as_aux_lemma =>
                      go_wp2_with fail
                      by_cases hm2 : m < 2
                      · have hm2i : ¬ (1 : Int) < (m : Int) := by omega
                        refine wp_region3 (Below u7.heap.size u7) wr.heap.size
                            ([] : List (Nat × Cont))
                            (kv (.slice p m cp) :: kv (.int .i64 (m : Int)) :: kv (.bool false) :: kv (.bool false) :: kv (undef) :: kv (undef) :: kv (undef) :: kv (undef) :: kv (undef) :: kv (.bool false) :: kv (.bool false) :: kv (undef) :: kv (undef) :: kv (undef) :: kv (undef) :: kv (undef) :: kv (.bool false) :: kv (.bool false) :: kv (undef) :: kv (undef) :: kv (undef) :: kv (undef) :: kv (undef) :: kv (undef) :: kv (undef) :: kv (undef) :: kv (undef) :: kv (.bool false) :: kv (.bool false) :: kv (undef) :: kv (undef) :: kv (undef) :: kv (undef) :: kv (undef) :: kv (undef) :: kv (undef) :: kv (undef) :: kv (undef) :: kv (.bool false) :: [])
                            (.none :: .none :: .none :: .none :: .none :: .none :: .none :: .none :: .none :: .none :: .none :: .none :: .none :: .none :: .none :: .none :: .none :: .none :: .none :: .none :: .none :: .none :: .none :: .none :: .none :: .none :: .none :: .none :: .none :: .none :: .none :: .none :: .none :: .none :: .none :: .none :: .none :: .none :: .none :: [])
                            (some 179 :: some 180 :: some 181 :: some 182 :: some 183 :: some 184 :: some 185 :: some 186 :: some 187 :: some 188 :: some 189 :: some 190 :: some 191 :: some 192 :: some 193 :: some 194 :: some 195 :: some 196 :: some 197 :: some 198 :: some 199 :: some 200 :: some 201 :: some 202 :: some 203 :: some 204 :: some 205 :: some 206 :: some 207 :: some 208 :: some 209 :: some 210 :: some 211 :: some 212 :: some 213 :: some 214 :: some 215 :: some 216 :: some 217 :: [])
                            [(12, .slice p m cp)]
                            ([] :: [.slot 0] :: [.slot 1] :: [.slot 2] :: [.slot 3] :: [.slot 3] :: [.slot 3] :: [.slot 3] :: [.slot 3] :: [.slot 3] :: [.slot 9] :: [.slot 10] :: [.slot 10] :: [.slot 10] :: [.slot 10] :: [.slot 10] :: [.slot 10] :: [.slot 16] :: [.slot 17] :: [.slot 17] :: [.slot 17] :: [.slot 17] :: [.slot 17] :: [.slot 17] :: [.slot 17] :: [.slot 17] :: [.slot 17] :: [.slot 17] :: [.slot 27] :: [.slot 28] :: [.slot 28] :: [.slot 28] :: [.slot 28] :: [.slot 28] :: [.slot 28] :: [.slot 28] :: [.slot 28] :: [.slot 28] :: [.slot 28] :: [])
                            [.slot 38] (179 :: 180 :: 181 :: 182 :: 183 :: 184 :: 185 :: 186 :: 187 :: 188 :: 189 :: 190 :: 191 :: 192 :: 193 :: 194 :: 195 :: 196 :: 197 :: 198 :: 199 :: 200 :: 201 :: 202 :: 203 :: 204 :: 205 :: 206 :: 207 :: 208 :: 209 :: 210 :: 211 :: 212 :: 213 :: 214 :: 215 :: 216 :: 217 :: [])
                            rfl (by kernel_rfl) ⟨rfl, trivial⟩ (hQ8.drew) (Nat.le_refl _) trivial trivial (below_Gc7 (by have := hQ8.size; omega))
                            ⟨
                              (fun Q aq ww own hS hBg fr kn => .inl ⟨trivial, fun K hK => wp_value (exec_move rfl fr.1) (hK _ _ ⟨Touch.refl _ _, rfl⟩)⟩),
                              (fun Q aq ww own hS hBg fr kn => .inl ⟨trivial, fun K hK => wp_value (exec_lenT rfl kn.1) (hK _ _ ⟨Touch.refl _ _, rfl⟩)⟩),
                              (fun Q aq ww own hS hBg fr kn => .inl ⟨trivial, fun K hK => wp_value (exec_gtrI rfl kn.1 rfl (by exact decide_eq_false (by omega))) (hK _ _ ⟨Touch.refl _ _, rfl⟩)⟩),
                              (fun Q aq ww own hS hBg fr kn => .inl ⟨trivial, fun K hK => wp_value (exec_move rfl kn.1) (hK _ _ ⟨Touch.refl _ _, rfl⟩)⟩),
                              (fun Q aq ww own hS hBg fr kn => .inr ⟨.inl kn.1, ⟨Touch.refl _ _, rfl⟩⟩),
                              (fun Q aq ww own hS hBg fr kn => .inr ⟨.inl kn.1, ⟨Touch.refl _ _, rfl⟩⟩),
                              (fun Q aq ww own hS hBg fr kn => .inr ⟨.inl kn.1, ⟨Touch.refl _ _, rfl⟩⟩),
                              (fun Q aq ww own hS hBg fr kn => .inr ⟨.inl kn.1, ⟨Touch.refl _ _, rfl⟩⟩),
                              (fun Q aq ww own hS hBg fr kn => .inr ⟨.inl kn.1, ⟨Touch.refl _ _, rfl⟩⟩),
                              (fun Q aq ww own hS hBg fr kn => .inl ⟨trivial, fun K hK => wp_value (exec_pickF (v := .bool false) rfl kn.1 rfl) (hK _ _ ⟨Touch.refl _ _, rfl⟩)⟩),
                              (fun Q aq ww own hS hBg fr kn => .inl ⟨trivial, fun K hK => wp_value (exec_move rfl kn.1) (hK _ _ ⟨Touch.refl _ _, rfl⟩)⟩),
                              (fun Q aq ww own hS hBg fr kn => .inr ⟨.inl kn.1, ⟨Touch.refl _ _, rfl⟩⟩),
                              (fun Q aq ww own hS hBg fr kn => .inr ⟨.inl kn.1, ⟨Touch.refl _ _, rfl⟩⟩),
                              (fun Q aq ww own hS hBg fr kn => .inr ⟨.inl kn.1, ⟨Touch.refl _ _, rfl⟩⟩),
                              (fun Q aq ww own hS hBg fr kn => .inr ⟨.inl kn.1, ⟨Touch.refl _ _, rfl⟩⟩),
                              (fun Q aq ww own hS hBg fr kn => .inr ⟨.inl kn.1, ⟨Touch.refl _ _, rfl⟩⟩),
                              (fun Q aq ww own hS hBg fr kn => .inl ⟨trivial, fun K hK => wp_value (exec_pickF (v := .bool false) rfl kn.1 rfl) (hK _ _ ⟨Touch.refl _ _, rfl⟩)⟩),
                              (fun Q aq ww own hS hBg fr kn => .inl ⟨trivial, fun K hK => wp_value (exec_move rfl kn.1) (hK _ _ ⟨Touch.refl _ _, rfl⟩)⟩),
                              (fun Q aq ww own hS hBg fr kn => .inr ⟨.inl kn.1, ⟨Touch.refl _ _, rfl⟩⟩),
                              (fun Q aq ww own hS hBg fr kn => .inr ⟨.inl kn.1, ⟨Touch.refl _ _, rfl⟩⟩),
                              (fun Q aq ww own hS hBg fr kn => .inr ⟨.inl kn.1, ⟨Touch.refl _ _, rfl⟩⟩),
                              (fun Q aq ww own hS hBg fr kn => .inr ⟨.inl kn.1, ⟨Touch.refl _ _, rfl⟩⟩),
                              (fun Q aq ww own hS hBg fr kn => .inr ⟨.inl kn.1, ⟨Touch.refl _ _, rfl⟩⟩),
                              (fun Q aq ww own hS hBg fr kn => .inr ⟨.inl kn.1, ⟨Touch.refl _ _, rfl⟩⟩),
                              (fun Q aq ww own hS hBg fr kn => .inr ⟨.inl kn.1, ⟨Touch.refl _ _, rfl⟩⟩),
                              (fun Q aq ww own hS hBg fr kn => .inr ⟨.inl kn.1, ⟨Touch.refl _ _, rfl⟩⟩),
                              (fun Q aq ww own hS hBg fr kn => .inr ⟨.inl kn.1, ⟨Touch.refl _ _, rfl⟩⟩),
                              (fun Q aq ww own hS hBg fr kn => .inl ⟨trivial, fun K hK => wp_value (exec_pickF (v := .bool false) rfl kn.1 rfl) (hK _ _ ⟨Touch.refl _ _, rfl⟩)⟩),
                              (fun Q aq ww own hS hBg fr kn => .inl ⟨trivial, fun K hK => wp_value (exec_move rfl kn.1) (hK _ _ ⟨Touch.refl _ _, rfl⟩)⟩),
                              (fun Q aq ww own hS hBg fr kn => .inr ⟨.inl kn.1, ⟨Touch.refl _ _, rfl⟩⟩),
                              (fun Q aq ww own hS hBg fr kn => .inr ⟨.inl kn.1, ⟨Touch.refl _ _, rfl⟩⟩),
                              (fun Q aq ww own hS hBg fr kn => .inr ⟨.inl kn.1, ⟨Touch.refl _ _, rfl⟩⟩),
                              (fun Q aq ww own hS hBg fr kn => .inr ⟨.inl kn.1, ⟨Touch.refl _ _, rfl⟩⟩),
                              (fun Q aq ww own hS hBg fr kn => .inr ⟨.inl kn.1, ⟨Touch.refl _ _, rfl⟩⟩),
                              (fun Q aq ww own hS hBg fr kn => .inr ⟨.inl kn.1, ⟨Touch.refl _ _, rfl⟩⟩),
                              (fun Q aq ww own hS hBg fr kn => .inr ⟨.inl kn.1, ⟨Touch.refl _ _, rfl⟩⟩),
                              (fun Q aq ww own hS hBg fr kn => .inr ⟨.inl kn.1, ⟨Touch.refl _ _, rfl⟩⟩),
                              (fun Q aq ww own hS hBg fr kn => .inr ⟨.inl kn.1, ⟨Touch.refl _ _, rfl⟩⟩),
                              (fun Q aq ww own hS hBg fr kn => .inl ⟨trivial, fun K hK => wp_value (exec_pickF (v := .bool false) rfl kn.1 rfl) (hK _ _ ⟨Touch.refl _ _, rfl⟩)⟩),
                              trivial⟩ ?_
                        intro vs own u10 hQ hsz kn inj
                        have e217 : vs 217 = .bool false := kn.1
                        clear kn inj hsz
                        simp only [putAll, Act.put, List.setIfInBounds_toArray, List.set_cons_zero, List.set_cons_succ, e217]
                        clear e217
                        have HF := Hid.mk (H7.out.below hQ)
                        clear hQ
                        go_wp2_with fail
                        go_roundg (n - (i + 1))
                        case rel => exact ⟨i + 1, σ', (nowF now x.after), rfl, by omega, by omega, by rw [hcc], by rfl, by go_num, hw0, by omega, Hid.mk ⟨HF.out, HOK.out⟩⟩
                        case measure => omega
                      · obtain ⟨g, rfl, hgl, hcl⟩ := HT.out (by omega)
                        have HW : Hid (∀ ww, Below u7.heap.size u7 ww → ∀ k, k < m → ww.cell? ⟨g, 8 * k + 0, none⟩ = some (.int .i64 (W k))) := Hid.mk (fun ww hb k hk => by rw [hb.cell (p := ⟨g, 8 * k + 0, none⟩) hgl]; exact (hcl k hk).1)
                        have HEE : Hid (∀ ww, Below u7.heap.size u7 ww → ∀ k, k < m → ww.cell? ⟨g, 8 * k + 1, none⟩ = some (.int .i64 (E k))) := Hid.mk (fun ww hb k hk => by rw [hb.cell (p := ⟨g, 8 * k + 1, none⟩) hgl]; exact (hcl k hk).2.1)
                        have hm0 : 0 < m := by omega
                        have hm1 : 1 < m := by omega
                        have hn2 : E 0 < E 1 := (HN.out 1 (by omega) hm1).2.1
                        clear hcl
                        by_cases hw0' : W 0 = 0
                        · by_cases hw1' : W 1 = 1
                          ·
                            refine wp_region3 (Below u7.heap.size u7) wr.heap.size
                                ([] : List (Nat × Cont))
                                (kv (.slice (some ⟨g, 0, none⟩) m cp) :: kv (.int .i64 (m : Int)) :: kv (.bool true) :: kv (.bool true) :: kv (.slice (some ⟨g, 0, none⟩) m cp) :: kv (.pointer (some ⟨g, 8 * 0, none⟩)) :: kv (.pointer (some ⟨g, 8 * 0 + 0, none⟩)) :: kv (.int .i64 (W 0)) :: kv (.bool true) :: kv (.bool true) :: kv (.bool true) :: kv (.slice (some ⟨g, 0, none⟩) m cp) :: kv (.pointer (some ⟨g, 8 * 1, none⟩)) :: kv (.pointer (some ⟨g, 8 * 1 + 0, none⟩)) :: kv (.int .i64 (W 1)) :: kv (.bool true) :: kv (.bool true) :: kv (.bool true) :: kv (.slice (some ⟨g, 0, none⟩) m cp) :: kv (.pointer (some ⟨g, 8 * 0, none⟩)) :: kv (.pointer (some ⟨g, 8 * 0 + 1, none⟩)) :: kv (.int .i64 (E 0)) :: kv (.slice (some ⟨g, 0, none⟩) m cp) :: kv (.pointer (some ⟨g, 8 * 1, none⟩)) :: kv (.pointer (some ⟨g, 8 * 1 + 1, none⟩)) :: kv (.int .i64 (E 1)) :: kv (.bool false) :: kv (.bool false) :: kv (.bool false) :: kv (undef) :: kv (undef) :: kv (undef) :: kv (undef) :: kv (undef) :: kv (undef) :: kv (undef) :: kv (undef) :: kv (undef) :: kv (.bool false) :: [])
                                (.none :: .none :: .none :: .none :: .none :: .none :: .none :: .none :: .none :: .none :: .none :: .none :: .none :: .none :: .none :: .none :: .none :: .none :: .none :: .none :: .none :: .none :: .none :: .none :: .none :: .none :: .none :: .none :: .none :: .none :: .none :: .none :: .none :: .none :: .none :: .none :: .none :: .none :: .none :: [])
                                (some 179 :: some 180 :: some 181 :: some 182 :: some 183 :: some 184 :: some 185 :: some 186 :: some 187 :: some 188 :: some 189 :: some 190 :: some 191 :: some 192 :: some 193 :: some 194 :: some 195 :: some 196 :: some 197 :: some 198 :: some 199 :: some 200 :: some 201 :: some 202 :: some 203 :: some 204 :: some 205 :: some 206 :: some 207 :: some 208 :: some 209 :: some 210 :: some 211 :: some 212 :: some 213 :: some 214 :: some 215 :: some 216 :: some 217 :: [])
                                [(12, .slice (some ⟨g, 0, none⟩) m cp)]
                                ([] :: [.slot 0] :: [.slot 1] :: [.slot 2] :: [.slot 3] :: [.slot 3, .slot 4] :: [.slot 3, .slot 5] :: [.slot 3, .slot 6] :: [.slot 3, .slot 7] :: [.slot 3, .slot 8] :: [.slot 9] :: [.slot 10] :: [.slot 10, .slot 11] :: [.slot 10, .slot 12] :: [.slot 10, .slot 13] :: [.slot 10, .slot 14] :: [.slot 10, .slot 15] :: [.slot 16] :: [.slot 17] :: [.slot 17, .slot 18] :: [.slot 17, .slot 19] :: [.slot 17, .slot 20] :: [.slot 17] :: [.slot 17, .slot 22] :: [.slot 17, .slot 23] :: [.slot 17, .slot 24] :: [.slot 17, .slot 21, .slot 25] :: [.slot 17, .slot 26] :: [.slot 27] :: [.slot 28] :: [.slot 28] :: [.slot 28] :: [.slot 28] :: [.slot 28] :: [.slot 28] :: [.slot 28] :: [.slot 28] :: [.slot 28] :: [.slot 28] :: [])
                                [.slot 38] (179 :: 180 :: 181 :: 182 :: 183 :: 184 :: 185 :: 186 :: 187 :: 188 :: 189 :: 190 :: 191 :: 192 :: 193 :: 194 :: 195 :: 196 :: 197 :: 198 :: 199 :: 200 :: 201 :: 202 :: 203 :: 204 :: 205 :: 206 :: 207 :: 208 :: 209 :: 210 :: 211 :: 212 :: 213 :: 214 :: 215 :: 216 :: 217 :: [])
                                rfl (by kernel_rfl) ⟨rfl, trivial⟩ (hQ8.drew) (Nat.le_refl _) trivial trivial (below_Gc7 (by have := hQ8.size; omega))
                                ⟨
                                  (fun Q aq ww own hS hBg fr kn => .inl ⟨trivial, fun K hK => wp_value (exec_move rfl fr.1) (hK _ _ ⟨Touch.refl _ _, rfl⟩)⟩),
                                  (fun Q aq ww own hS hBg fr kn => .inl ⟨trivial, fun K hK => wp_value (exec_lenT rfl kn.1) (hK _ _ ⟨Touch.refl _ _, rfl⟩)⟩),
                                  (fun Q aq ww own hS hBg fr kn => .inl ⟨trivial, fun K hK => wp_value (exec_gtrI rfl kn.1 rfl (by exact decide_eq_true (by omega))) (hK _ _ ⟨Touch.refl _ _, rfl⟩)⟩),
                                  (fun Q aq ww own hS hBg fr kn => .inl ⟨trivial, fun K hK => wp_value (exec_move rfl kn.1) (hK _ _ ⟨Touch.refl _ _, rfl⟩)⟩),
                                  (fun Q aq ww own hS hBg fr kn => .inl ⟨kn.1, fun K hK => wp_value (exec_move rfl fr.1) (hK _ _ ⟨Touch.refl _ _, rfl⟩)⟩),
                                  (fun Q aq ww own hS hBg fr kn => .inl ⟨kn.1, fun K hK => wp_value (exec_ixT (i := 0) rfl kn.2.1 rfl hm0) (hK _ _ ⟨Touch.refl _ _, rfl⟩)⟩),
                                  (fun Q aq ww own hS hBg fr kn => .inl ⟨kn.1, fun K hK => wp_value (exec_fto (k := 0) rfl kn.2.1 (by decide)) (hK _ _ ⟨Touch.refl _ _, rfl⟩)⟩),
                                  (fun Q aq ww own hS hBg fr kn => .inl ⟨kn.1, fun K hK => wp_value (exec_ld rfl kn.2.1 (ld_int (HW.out ww hS 0 hm0))) (hK _ _ ⟨Touch.refl _ _, rfl⟩)⟩),
                                  (fun Q aq ww own hS hBg fr kn => .inl ⟨kn.1, fun K hK => wp_value (exec_eqI rfl kn.2.1 rfl (by exact decide_eq_true (by omega))) (hK _ _ ⟨Touch.refl _ _, rfl⟩)⟩),
                                  (fun Q aq ww own hS hBg fr kn => .inl ⟨trivial, fun K hK => wp_value (exec_pick (v := .bool true) rfl kn.1 kn.2.1) (hK _ _ ⟨Touch.refl _ _, rfl⟩)⟩),
                                  (fun Q aq ww own hS hBg fr kn => .inl ⟨trivial, fun K hK => wp_value (exec_move rfl kn.1) (hK _ _ ⟨Touch.refl _ _, rfl⟩)⟩),
                                  (fun Q aq ww own hS hBg fr kn => .inl ⟨kn.1, fun K hK => wp_value (exec_move rfl fr.1) (hK _ _ ⟨Touch.refl _ _, rfl⟩)⟩),
                                  (fun Q aq ww own hS hBg fr kn => .inl ⟨kn.1, fun K hK => wp_value (exec_ixT (i := 1) rfl kn.2.1 rfl hm1) (hK _ _ ⟨Touch.refl _ _, rfl⟩)⟩),
                                  (fun Q aq ww own hS hBg fr kn => .inl ⟨kn.1, fun K hK => wp_value (exec_fto (k := 0) rfl kn.2.1 (by decide)) (hK _ _ ⟨Touch.refl _ _, rfl⟩)⟩),
                                  (fun Q aq ww own hS hBg fr kn => .inl ⟨kn.1, fun K hK => wp_value (exec_ld rfl kn.2.1 (ld_int (HW.out ww hS 1 hm1))) (hK _ _ ⟨Touch.refl _ _, rfl⟩)⟩),
                                  (fun Q aq ww own hS hBg fr kn => .inl ⟨kn.1, fun K hK => wp_value (exec_eqI rfl kn.2.1 rfl (by exact decide_eq_true (by omega))) (hK _ _ ⟨Touch.refl _ _, rfl⟩)⟩),
                                  (fun Q aq ww own hS hBg fr kn => .inl ⟨trivial, fun K hK => wp_value (exec_pick (v := .bool true) rfl kn.1 kn.2.1) (hK _ _ ⟨Touch.refl _ _, rfl⟩)⟩),
                                  (fun Q aq ww own hS hBg fr kn => .inl ⟨trivial, fun K hK => wp_value (exec_move rfl kn.1) (hK _ _ ⟨Touch.refl _ _, rfl⟩)⟩),
                                  (fun Q aq ww own hS hBg fr kn => .inl ⟨kn.1, fun K hK => wp_value (exec_move rfl fr.1) (hK _ _ ⟨Touch.refl _ _, rfl⟩)⟩),
                                  (fun Q aq ww own hS hBg fr kn => .inl ⟨kn.1, fun K hK => wp_value (exec_ixT (i := 0) rfl kn.2.1 rfl hm0) (hK _ _ ⟨Touch.refl _ _, rfl⟩)⟩),
                                  (fun Q aq ww own hS hBg fr kn => .inl ⟨kn.1, fun K hK => wp_value (exec_fto (k := 1) rfl kn.2.1 (by decide)) (hK _ _ ⟨Touch.refl _ _, rfl⟩)⟩),
                                  (fun Q aq ww own hS hBg fr kn => .inl ⟨kn.1, fun K hK => wp_value (exec_ld rfl kn.2.1 (ld_int (HEE.out ww hS 0 hm0))) (hK _ _ ⟨Touch.refl _ _, rfl⟩)⟩),
                                  (fun Q aq ww own hS hBg fr kn => .inl ⟨kn.1, fun K hK => wp_value (exec_move rfl fr.1) (hK _ _ ⟨Touch.refl _ _, rfl⟩)⟩),
                                  (fun Q aq ww own hS hBg fr kn => .inl ⟨kn.1, fun K hK => wp_value (exec_ixT (i := 1) rfl kn.2.1 rfl hm1) (hK _ _ ⟨Touch.refl _ _, rfl⟩)⟩),
                                  (fun Q aq ww own hS hBg fr kn => .inl ⟨kn.1, fun K hK => wp_value (exec_fto (k := 1) rfl kn.2.1 (by decide)) (hK _ _ ⟨Touch.refl _ _, rfl⟩)⟩),
                                  (fun Q aq ww own hS hBg fr kn => .inl ⟨kn.1, fun K hK => wp_value (exec_ld rfl kn.2.1 (ld_int (HEE.out ww hS 1 hm1))) (hK _ _ ⟨Touch.refl _ _, rfl⟩)⟩),
                                  (fun Q aq ww own hS hBg fr kn => .inl ⟨kn.1, fun K hK => wp_value (exec_gtrI rfl kn.2.1 kn.2.2.1 (by exact decide_eq_false (by omega))) (hK _ _ ⟨Touch.refl _ _, rfl⟩)⟩),
                                  (fun Q aq ww own hS hBg fr kn => .inl ⟨trivial, fun K hK => wp_value (exec_pick (v := .bool false) rfl kn.1 kn.2.1) (hK _ _ ⟨Touch.refl _ _, rfl⟩)⟩),
                                  (fun Q aq ww own hS hBg fr kn => .inl ⟨trivial, fun K hK => wp_value (exec_move rfl kn.1) (hK _ _ ⟨Touch.refl _ _, rfl⟩)⟩),
                                  (fun Q aq ww own hS hBg fr kn => .inr ⟨.inl kn.1, ⟨Touch.refl _ _, rfl⟩⟩),
                                  (fun Q aq ww own hS hBg fr kn => .inr ⟨.inl kn.1, ⟨Touch.refl _ _, rfl⟩⟩),
                                  (fun Q aq ww own hS hBg fr kn => .inr ⟨.inl kn.1, ⟨Touch.refl _ _, rfl⟩⟩),
                                  (fun Q aq ww own hS hBg fr kn => .inr ⟨.inl kn.1, ⟨Touch.refl _ _, rfl⟩⟩),
                                  (fun Q aq ww own hS hBg fr kn => .inr ⟨.inl kn.1, ⟨Touch.refl _ _, rfl⟩⟩),
                                  (fun Q aq ww own hS hBg fr kn => .inr ⟨.inl kn.1, ⟨Touch.refl _ _, rfl⟩⟩),
                                  (fun Q aq ww own hS hBg fr kn => .inr ⟨.inl kn.1, ⟨Touch.refl _ _, rfl⟩⟩),
                                  (fun Q aq ww own hS hBg fr kn => .inr ⟨.inl kn.1, ⟨Touch.refl _ _, rfl⟩⟩),
                                  (fun Q aq ww own hS hBg fr kn => .inr ⟨.inl kn.1, ⟨Touch.refl _ _, rfl⟩⟩),
                                  (fun Q aq ww own hS hBg fr kn => .inl ⟨trivial, fun K hK => wp_value (exec_pickF (v := .bool false) rfl kn.1 rfl) (hK _ _ ⟨Touch.refl _ _, rfl⟩)⟩),
                                  trivial⟩ ?_
                            intro vs own u10 hQ hsz kn inj
                            have e217 : vs 217 = .bool false := kn.1
                            clear kn inj hsz
                            simp only [putAll, Act.put, List.setIfInBounds_toArray, List.set_cons_zero, List.set_cons_succ, e217]
                            clear e217
                            have HF := Hid.mk (H7.out.below hQ)
                            clear hQ
                            go_wp2_with fail
                            go_roundg (n - (i + 1))
                            case rel => exact ⟨i + 1, σ', (nowF now x.after), rfl, by omega, by omega, by rw [hcc], by rfl, by go_num, hw0, by omega, Hid.mk ⟨HF.out, HOK.out⟩⟩
                            case measure => omega
                          ·
                            refine wp_region3 (Below u7.heap.size u7) wr.heap.size
                                ([] : List (Nat × Cont))
                                (kv (.slice (some ⟨g, 0, none⟩) m cp) :: kv (.int .i64 (m : Int)) :: kv (.bool true) :: kv (.bool true) :: kv (.slice (some ⟨g, 0, none⟩) m cp) :: kv (.pointer (some ⟨g, 8 * 0, none⟩)) :: kv (.pointer (some ⟨g, 8 * 0 + 0, none⟩)) :: kv (.int .i64 (W 0)) :: kv (.bool true) :: kv (.bool true) :: kv (.bool true) :: kv (.slice (some ⟨g, 0, none⟩) m cp) :: kv (.pointer (some ⟨g, 8 * 1, none⟩)) :: kv (.pointer (some ⟨g, 8 * 1 + 0, none⟩)) :: kv (.int .i64 (W 1)) :: kv (.bool false) :: kv (.bool false) :: kv (.bool false) :: kv (undef) :: kv (undef) :: kv (undef) :: kv (undef) :: kv (undef) :: kv (undef) :: kv (undef) :: kv (undef) :: kv (undef) :: kv (.bool false) :: kv (.bool false) :: kv (undef) :: kv (undef) :: kv (undef) :: kv (undef) :: kv (undef) :: kv (undef) :: kv (undef) :: kv (undef) :: kv (undef) :: kv (.bool false) :: [])
                                (.none :: .none :: .none :: .none :: .none :: .none :: .none :: .none :: .none :: .none :: .none :: .none :: .none :: .none :: .none :: .none :: .none :: .none :: .none :: .none :: .none :: .none :: .none :: .none :: .none :: .none :: .none :: .none :: .none :: .none :: .none :: .none :: .none :: .none :: .none :: .none :: .none :: .none :: .none :: [])
                                (some 179 :: some 180 :: some 181 :: some 182 :: some 183 :: some 184 :: some 185 :: some 186 :: some 187 :: some 188 :: some 189 :: some 190 :: some 191 :: some 192 :: some 193 :: some 194 :: some 195 :: some 196 :: some 197 :: some 198 :: some 199 :: some 200 :: some 201 :: some 202 :: some 203 :: some 204 :: some 205 :: some 206 :: some 207 :: some 208 :: some 209 :: some 210 :: some 211 :: some 212 :: some 213 :: some 214 :: some 215 :: some 216 :: some 217 :: [])
                                [(12, .slice (some ⟨g, 0, none⟩) m cp)]
                                ([] :: [.slot 0] :: [.slot 1] :: [.slot 2] :: [.slot 3] :: [.slot 3, .slot 4] :: [.slot 3, .slot 5] :: [.slot 3, .slot 6] :: [.slot 3, .slot 7] :: [.slot 3, .slot 8] :: [.slot 9] :: [.slot 10] :: [.slot 10, .slot 11] :: [.slot 10, .slot 12] :: [.slot 10, .slot 13] :: [.slot 10, .slot 14] :: [.slot 10, .slot 15] :: [.slot 16] :: [.slot 17] :: [.slot 17] :: [.slot 17] :: [.slot 17] :: [.slot 17] :: [.slot 17] :: [.slot 17] :: [.slot 17] :: [.slot 17] :: [.slot 17] :: [.slot 27] :: [.slot 28] :: [.slot 28] :: [.slot 28] :: [.slot 28] :: [.slot 28] :: [.slot 28] :: [.slot 28] :: [.slot 28] :: [.slot 28] :: [.slot 28] :: [])
                                [.slot 38] (179 :: 180 :: 181 :: 182 :: 183 :: 184 :: 185 :: 186 :: 187 :: 188 :: 189 :: 190 :: 191 :: 192 :: 193 :: 194 :: 195 :: 196 :: 197 :: 198 :: 199 :: 200 :: 201 :: 202 :: 203 :: 204 :: 205 :: 206 :: 207 :: 208 :: 209 :: 210 :: 211 :: 212 :: 213 :: 214 :: 215 :: 216 :: 217 :: [])
                                rfl (by kernel_rfl) ⟨rfl, trivial⟩ (hQ8.drew) (Nat.le_refl _) trivial trivial (below_Gc7 (by have := hQ8.size; omega))
                                ⟨
                                  (fun Q aq ww own hS hBg fr kn => .inl ⟨trivial, fun K hK => wp_value (exec_move rfl fr.1) (hK _ _ ⟨Touch.refl _ _, rfl⟩)⟩),
                                  (fun Q aq ww own hS hBg fr kn => .inl ⟨trivial, fun K hK => wp_value (exec_lenT rfl kn.1) (hK _ _ ⟨Touch.refl _ _, rfl⟩)⟩),
                                  (fun Q aq ww own hS hBg fr kn => .inl ⟨trivial, fun K hK => wp_value (exec_gtrI rfl kn.1 rfl (by exact decide_eq_true (by omega))) (hK _ _ ⟨Touch.refl _ _, rfl⟩)⟩),
                                  (fun Q aq ww own hS hBg fr kn => .inl ⟨trivial, fun K hK => wp_value (exec_move rfl kn.1) (hK _ _ ⟨Touch.refl _ _, rfl⟩)⟩),
                                  (fun Q aq ww own hS hBg fr kn => .inl ⟨kn.1, fun K hK => wp_value (exec_move rfl fr.1) (hK _ _ ⟨Touch.refl _ _, rfl⟩)⟩),
                                  (fun Q aq ww own hS hBg fr kn => .inl ⟨kn.1, fun K hK => wp_value (exec_ixT (i := 0) rfl kn.2.1 rfl hm0) (hK _ _ ⟨Touch.refl _ _, rfl⟩)⟩),
                                  (fun Q aq ww own hS hBg fr kn => .inl ⟨kn.1, fun K hK => wp_value (exec_fto (k := 0) rfl kn.2.1 (by decide)) (hK _ _ ⟨Touch.refl _ _, rfl⟩)⟩),
                                  (fun Q aq ww own hS hBg fr kn => .inl ⟨kn.1, fun K hK => wp_value (exec_ld rfl kn.2.1 (ld_int (HW.out ww hS 0 hm0))) (hK _ _ ⟨Touch.refl _ _, rfl⟩)⟩),
                                  (fun Q aq ww own hS hBg fr kn => .inl ⟨kn.1, fun K hK => wp_value (exec_eqI rfl kn.2.1 rfl (by exact decide_eq_true (by omega))) (hK _ _ ⟨Touch.refl _ _, rfl⟩)⟩),
                                  (fun Q aq ww own hS hBg fr kn => .inl ⟨trivial, fun K hK => wp_value (exec_pick (v := .bool true) rfl kn.1 kn.2.1) (hK _ _ ⟨Touch.refl _ _, rfl⟩)⟩),
                                  (fun Q aq ww own hS hBg fr kn => .inl ⟨trivial, fun K hK => wp_value (exec_move rfl kn.1) (hK _ _ ⟨Touch.refl _ _, rfl⟩)⟩),
                                  (fun Q aq ww own hS hBg fr kn => .inl ⟨kn.1, fun K hK => wp_value (exec_move rfl fr.1) (hK _ _ ⟨Touch.refl _ _, rfl⟩)⟩),
                                  (fun Q aq ww own hS hBg fr kn => .inl ⟨kn.1, fun K hK => wp_value (exec_ixT (i := 1) rfl kn.2.1 rfl hm1) (hK _ _ ⟨Touch.refl _ _, rfl⟩)⟩),
                                  (fun Q aq ww own hS hBg fr kn => .inl ⟨kn.1, fun K hK => wp_value (exec_fto (k := 0) rfl kn.2.1 (by decide)) (hK _ _ ⟨Touch.refl _ _, rfl⟩)⟩),
                                  (fun Q aq ww own hS hBg fr kn => .inl ⟨kn.1, fun K hK => wp_value (exec_ld rfl kn.2.1 (ld_int (HW.out ww hS 1 hm1))) (hK _ _ ⟨Touch.refl _ _, rfl⟩)⟩),
                                  (fun Q aq ww own hS hBg fr kn => .inl ⟨kn.1, fun K hK => wp_value (exec_eqI rfl kn.2.1 rfl (by exact decide_eq_false (by omega))) (hK _ _ ⟨Touch.refl _ _, rfl⟩)⟩),
                                  (fun Q aq ww own hS hBg fr kn => .inl ⟨trivial, fun K hK => wp_value (exec_pick (v := .bool false) rfl kn.1 kn.2.1) (hK _ _ ⟨Touch.refl _ _, rfl⟩)⟩),
                                  (fun Q aq ww own hS hBg fr kn => .inl ⟨trivial, fun K hK => wp_value (exec_move rfl kn.1) (hK _ _ ⟨Touch.refl _ _, rfl⟩)⟩),
                                  (fun Q aq ww own hS hBg fr kn => .inr ⟨.inl kn.1, ⟨Touch.refl _ _, rfl⟩⟩),
                                  (fun Q aq ww own hS hBg fr kn => .inr ⟨.inl kn.1, ⟨Touch.refl _ _, rfl⟩⟩),
                                  (fun Q aq ww own hS hBg fr kn => .inr ⟨.inl kn.1, ⟨Touch.refl _ _, rfl⟩⟩),
                                  (fun Q aq ww own hS hBg fr kn => .inr ⟨.inl kn.1, ⟨Touch.refl _ _, rfl⟩⟩),
                                  (fun Q aq ww own hS hBg fr kn => .inr ⟨.inl kn.1, ⟨Touch.refl _ _, rfl⟩⟩),
                                  (fun Q aq ww own hS hBg fr kn => .inr ⟨.inl kn.1, ⟨Touch.refl _ _, rfl⟩⟩),
                                  (fun Q aq ww own hS hBg fr kn => .inr ⟨.inl kn.1, ⟨Touch.refl _ _, rfl⟩⟩),
                                  (fun Q aq ww own hS hBg fr kn => .inr ⟨.inl kn.1, ⟨Touch.refl _ _, rfl⟩⟩),
                                  (fun Q aq ww own hS hBg fr kn => .inr ⟨.inl kn.1, ⟨Touch.refl _ _, rfl⟩⟩),
                                  (fun Q aq ww own hS hBg fr kn => .inl ⟨trivial, fun K hK => wp_value (exec_pickF (v := .bool false) rfl kn.1 rfl) (hK _ _ ⟨Touch.refl _ _, rfl⟩)⟩),
                                  (fun Q aq ww own hS hBg fr kn => .inl ⟨trivial, fun K hK => wp_value (exec_move rfl kn.1) (hK _ _ ⟨Touch.refl _ _, rfl⟩)⟩),
                                  (fun Q aq ww own hS hBg fr kn => .inr ⟨.inl kn.1, ⟨Touch.refl _ _, rfl⟩⟩),
                                  (fun Q aq ww own hS hBg fr kn => .inr ⟨.inl kn.1, ⟨Touch.refl _ _, rfl⟩⟩),
                                  (fun Q aq ww own hS hBg fr kn => .inr ⟨.inl kn.1, ⟨Touch.refl _ _, rfl⟩⟩),
                                  (fun Q aq ww own hS hBg fr kn => .inr ⟨.inl kn.1, ⟨Touch.refl _ _, rfl⟩⟩),
                                  (fun Q aq ww own hS hBg fr kn => .inr ⟨.inl kn.1, ⟨Touch.refl _ _, rfl⟩⟩),
                                  (fun Q aq ww own hS hBg fr kn => .inr ⟨.inl kn.1, ⟨Touch.refl _ _, rfl⟩⟩),
                                  (fun Q aq ww own hS hBg fr kn => .inr ⟨.inl kn.1, ⟨Touch.refl _ _, rfl⟩⟩),
                                  (fun Q aq ww own hS hBg fr kn => .inr ⟨.inl kn.1, ⟨Touch.refl _ _, rfl⟩⟩),
                                  (fun Q aq ww own hS hBg fr kn => .inr ⟨.inl kn.1, ⟨Touch.refl _ _, rfl⟩⟩),
                                  (fun Q aq ww own hS hBg fr kn => .inl ⟨trivial, fun K hK => wp_value (exec_pickF (v := .bool false) rfl kn.1 rfl) (hK _ _ ⟨Touch.refl _ _, rfl⟩)⟩),
                                  trivial⟩ ?_
                            intro vs own u10 hQ hsz kn inj
                            have e217 : vs 217 = .bool false := kn.1
                            clear kn inj hsz
                            simp only [putAll, Act.put, List.setIfInBounds_toArray, List.set_cons_zero, List.set_cons_succ, e217]
                            clear e217
                            have HF := Hid.mk (H7.out.below hQ)
                            clear hQ
                            go_wp2_with fail
                            go_roundg (n - (i + 1))
                            case rel => exact ⟨i + 1, σ', (nowF now x.after), rfl, by omega, by omega, by rw [hcc], by rfl, by go_num, hw0, by omega, Hid.mk ⟨HF.out, HOK.out⟩⟩
                            case measure => omega
                        ·
                          refine wp_region3 (Below u7.heap.size u7) wr.heap.size
                              ([] : List (Nat × Cont))
                              (kv (.slice (some ⟨g, 0, none⟩) m cp) :: kv (.int .i64 (m : Int)) :: kv (.bool true) :: kv (.bool true) :: kv (.slice (some ⟨g, 0, none⟩) m cp) :: kv (.pointer (some ⟨g, 8 * 0, none⟩)) :: kv (.pointer (some ⟨g, 8 * 0 + 0, none⟩)) :: kv (.int .i64 (W 0)) :: kv (.bool false) :: kv (.bool false) :: kv (.bool false) :: kv (undef) :: kv (undef) :: kv (undef) :: kv (undef) :: kv (undef) :: kv (.bool false) :: kv (.bool false) :: kv (undef) :: kv (undef) :: kv (undef) :: kv (undef) :: kv (undef) :: kv (undef) :: kv (undef) :: kv (undef) :: kv (undef) :: kv (.bool false) :: kv (.bool false) :: kv (undef) :: kv (undef) :: kv (undef) :: kv (undef) :: kv (undef) :: kv (undef) :: kv (undef) :: kv (undef) :: kv (undef) :: kv (.bool false) :: [])
                              (.none :: .none :: .none :: .none :: .none :: .none :: .none :: .none :: .none :: .none :: .none :: .none :: .none :: .none :: .none :: .none :: .none :: .none :: .none :: .none :: .none :: .none :: .none :: .none :: .none :: .none :: .none :: .none :: .none :: .none :: .none :: .none :: .none :: .none :: .none :: .none :: .none :: .none :: .none :: [])
                              (some 179 :: some 180 :: some 181 :: some 182 :: some 183 :: some 184 :: some 185 :: some 186 :: some 187 :: some 188 :: some 189 :: some 190 :: some 191 :: some 192 :: some 193 :: some 194 :: some 195 :: some 196 :: some 197 :: some 198 :: some 199 :: some 200 :: some 201 :: some 202 :: some 203 :: some 204 :: some 205 :: some 206 :: some 207 :: some 208 :: some 209 :: some 210 :: some 211 :: some 212 :: some 213 :: some 214 :: some 215 :: some 216 :: some 217 :: [])
                              [(12, .slice (some ⟨g, 0, none⟩) m cp)]
                              ([] :: [.slot 0] :: [.slot 1] :: [.slot 2] :: [.slot 3] :: [.slot 3, .slot 4] :: [.slot 3, .slot 5] :: [.slot 3, .slot 6] :: [.slot 3, .slot 7] :: [.slot 3, .slot 8] :: [.slot 9] :: [.slot 10] :: [.slot 10] :: [.slot 10] :: [.slot 10] :: [.slot 10] :: [.slot 10] :: [.slot 16] :: [.slot 17] :: [.slot 17] :: [.slot 17] :: [.slot 17] :: [.slot 17] :: [.slot 17] :: [.slot 17] :: [.slot 17] :: [.slot 17] :: [.slot 17] :: [.slot 27] :: [.slot 28] :: [.slot 28] :: [.slot 28] :: [.slot 28] :: [.slot 28] :: [.slot 28] :: [.slot 28] :: [.slot 28] :: [.slot 28] :: [.slot 28] :: [])
                              [.slot 38] (179 :: 180 :: 181 :: 182 :: 183 :: 184 :: 185 :: 186 :: 187 :: 188 :: 189 :: 190 :: 191 :: 192 :: 193 :: 194 :: 195 :: 196 :: 197 :: 198 :: 199 :: 200 :: 201 :: 202 :: 203 :: 204 :: 205 :: 206 :: 207 :: 208 :: 209 :: 210 :: 211 :: 212 :: 213 :: 214 :: 215 :: 216 :: 217 :: [])
                              rfl (by kernel_rfl) ⟨rfl, trivial⟩ (hQ8.drew) (Nat.le_refl _) trivial trivial (below_Gc7 (by have := hQ8.size; omega))
                              ⟨
                                (fun Q aq ww own hS hBg fr kn => .inl ⟨trivial, fun K hK => wp_value (exec_move rfl fr.1) (hK _ _ ⟨Touch.refl _ _, rfl⟩)⟩),
                                (fun Q aq ww own hS hBg fr kn => .inl ⟨trivial, fun K hK => wp_value (exec_lenT rfl kn.1) (hK _ _ ⟨Touch.refl _ _, rfl⟩)⟩),
                                (fun Q aq ww own hS hBg fr kn => .inl ⟨trivial, fun K hK => wp_value (exec_gtrI rfl kn.1 rfl (by exact decide_eq_true (by omega))) (hK _ _ ⟨Touch.refl _ _, rfl⟩)⟩),
                                (fun Q aq ww own hS hBg fr kn => .inl ⟨trivial, fun K hK => wp_value (exec_move rfl kn.1) (hK _ _ ⟨Touch.refl _ _, rfl⟩)⟩),
                                (fun Q aq ww own hS hBg fr kn => .inl ⟨kn.1, fun K hK => wp_value (exec_move rfl fr.1) (hK _ _ ⟨Touch.refl _ _, rfl⟩)⟩),
                                (fun Q aq ww own hS hBg fr kn => .inl ⟨kn.1, fun K hK => wp_value (exec_ixT (i := 0) rfl kn.2.1 rfl hm0) (hK _ _ ⟨Touch.refl _ _, rfl⟩)⟩),
                                (fun Q aq ww own hS hBg fr kn => .inl ⟨kn.1, fun K hK => wp_value (exec_fto (k := 0) rfl kn.2.1 (by decide)) (hK _ _ ⟨Touch.refl _ _, rfl⟩)⟩),
                                (fun Q aq ww own hS hBg fr kn => .inl ⟨kn.1, fun K hK => wp_value (exec_ld rfl kn.2.1 (ld_int (HW.out ww hS 0 hm0))) (hK _ _ ⟨Touch.refl _ _, rfl⟩)⟩),
                                (fun Q aq ww own hS hBg fr kn => .inl ⟨kn.1, fun K hK => wp_value (exec_eqI rfl kn.2.1 rfl (by exact decide_eq_false (by omega))) (hK _ _ ⟨Touch.refl _ _, rfl⟩)⟩),
                                (fun Q aq ww own hS hBg fr kn => .inl ⟨trivial, fun K hK => wp_value (exec_pick (v := .bool false) rfl kn.1 kn.2.1) (hK _ _ ⟨Touch.refl _ _, rfl⟩)⟩),
                                (fun Q aq ww own hS hBg fr kn => .inl ⟨trivial, fun K hK => wp_value (exec_move rfl kn.1) (hK _ _ ⟨Touch.refl _ _, rfl⟩)⟩),
                                (fun Q aq ww own hS hBg fr kn => .inr ⟨.inl kn.1, ⟨Touch.refl _ _, rfl⟩⟩),
                                (fun Q aq ww own hS hBg fr kn => .inr ⟨.inl kn.1, ⟨Touch.refl _ _, rfl⟩⟩),
                                (fun Q aq ww own hS hBg fr kn => .inr ⟨.inl kn.1, ⟨Touch.refl _ _, rfl⟩⟩),
                                (fun Q aq ww own hS hBg fr kn => .inr ⟨.inl kn.1, ⟨Touch.refl _ _, rfl⟩⟩),
                                (fun Q aq ww own hS hBg fr kn => .inr ⟨.inl kn.1, ⟨Touch.refl _ _, rfl⟩⟩),
                                (fun Q aq ww own hS hBg fr kn => .inl ⟨trivial, fun K hK => wp_value (exec_pickF (v := .bool false) rfl kn.1 rfl) (hK _ _ ⟨Touch.refl _ _, rfl⟩)⟩),
                                (fun Q aq ww own hS hBg fr kn => .inl ⟨trivial, fun K hK => wp_value (exec_move rfl kn.1) (hK _ _ ⟨Touch.refl _ _, rfl⟩)⟩),
                                (fun Q aq ww own hS hBg fr kn => .inr ⟨.inl kn.1, ⟨Touch.refl _ _, rfl⟩⟩),
                                (fun Q aq ww own hS hBg fr kn => .inr ⟨.inl kn.1, ⟨Touch.refl _ _, rfl⟩⟩),
                                (fun Q aq ww own hS hBg fr kn => .inr ⟨.inl kn.1, ⟨Touch.refl _ _, rfl⟩⟩),
                                (fun Q aq ww own hS hBg fr kn => .inr ⟨.inl kn.1, ⟨Touch.refl _ _, rfl⟩⟩),
                                (fun Q aq ww own hS hBg fr kn => .inr ⟨.inl kn.1, ⟨Touch.refl _ _, rfl⟩⟩),
                                (fun Q aq ww own hS hBg fr kn => .inr ⟨.inl kn.1, ⟨Touch.refl _ _, rfl⟩⟩),
                                (fun Q aq ww own hS hBg fr kn => .inr ⟨.inl kn.1, ⟨Touch.refl _ _, rfl⟩⟩),
                                (fun Q aq ww own hS hBg fr kn => .inr ⟨.inl kn.1, ⟨Touch.refl _ _, rfl⟩⟩),
                                (fun Q aq ww own hS hBg fr kn => .inr ⟨.inl kn.1, ⟨Touch.refl _ _, rfl⟩⟩),
                                (fun Q aq ww own hS hBg fr kn => .inl ⟨trivial, fun K hK => wp_value (exec_pickF (v := .bool false) rfl kn.1 rfl) (hK _ _ ⟨Touch.refl _ _, rfl⟩)⟩),
                                (fun Q aq ww own hS hBg fr kn => .inl ⟨trivial, fun K hK => wp_value (exec_move rfl kn.1) (hK _ _ ⟨Touch.refl _ _, rfl⟩)⟩),
                                (fun Q aq ww own hS hBg fr kn => .inr ⟨.inl kn.1, ⟨Touch.refl _ _, rfl⟩⟩),
                                (fun Q aq ww own hS hBg fr kn => .inr ⟨.inl kn.1, ⟨Touch.refl _ _, rfl⟩⟩),
                                (fun Q aq ww own hS hBg fr kn => .inr ⟨.inl kn.1, ⟨Touch.refl _ _, rfl⟩⟩),
                                (fun Q aq ww own hS hBg fr kn => .inr ⟨.inl kn.1, ⟨Touch.refl _ _, rfl⟩⟩),
                                (fun Q aq ww own hS hBg fr kn => .inr ⟨.inl kn.1, ⟨Touch.refl _ _, rfl⟩⟩),
                                (fun Q aq ww own hS hBg fr kn => .inr ⟨.inl kn.1, ⟨Touch.refl _ _, rfl⟩⟩),
                                (fun Q aq ww own hS hBg fr kn => .inr ⟨.inl kn.1, ⟨Touch.refl _ _, rfl⟩⟩),
                                (fun Q aq ww own hS hBg fr kn => .inr ⟨.inl kn.1, ⟨Touch.refl _ _, rfl⟩⟩),
                                (fun Q aq ww own hS hBg fr kn => .inr ⟨.inl kn.1, ⟨Touch.refl _ _, rfl⟩⟩),
                                (fun Q aq ww own hS hBg fr kn => .inl ⟨trivial, fun K hK => wp_value (exec_pickF (v := .bool false) rfl kn.1 rfl) (hK _ _ ⟨Touch.refl _ _, rfl⟩)⟩),
                                trivial⟩ ?_
                          intro vs own u10 hQ hsz kn inj
                          have e217 : vs 217 = .bool false := kn.1
                          clear kn inj hsz
                          simp only [putAll, Act.put, List.setIfInBounds_toArray, List.set_cons_zero, List.set_cons_succ, e217]
                          clear e217
                          have HF := Hid.mk (H7.out.below hQ)
                          clear hQ
                          go_wp2_with fail
                          go_roundg (n - (i + 1))
                          case rel => exact ⟨i + 1, σ', (nowF now x.after), rfl, by omega, by omega, by rw [hcc], by rfl, by go_num, hw0, by omega, Hid.mk ⟨HF.out, HOK.out⟩⟩
                          case measure => omega
      · have h100i : ¬ (i : Int) < 100 := by omega
        have hlti : (i : Int) < (n : Int) := by omega
        have hd1 : decide ((i : Int) < (n : Int)) = true := decide_eq_true hlti
        have hd2 : decide ((i : Int) < 100) = false := decide_eq_false h100i
        as_aux_lemma =>
          go_wp2_with fail
          go_ret
          exact ⟨rfl, HS.out.1.bel⟩
    · have hlti : ¬ (i : Int) < (n : Int) := by omega
      have hd1 : decide ((i : Int) < (n : Int)) = false := decide_eq_false hlti
      as_aux_lemma =>
        go_wp2_with fail
        go_ret
        exact ⟨rfl, HS.out.1.bel⟩
end Go.Proofs.Ytbkbcfimpaolmaa
