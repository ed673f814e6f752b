/-
  Own text. The law SessionOnce, walked.
-/
import Derived.Test.YtbkbcfimpaolmaaSYC
import Derived.Deep.CutBlock
namespace Go.Proofs.Ytbkbcfimpaolmaa
open Go.RowKit Go.Proofs
set_option maxRecDepth 100000
set_option maxHeartbeats 32000000 in
theorem once_walk (v : Value) (n : Nat) (X : Nat → Int × Int × Int × Bool) (w : World) (hv : StepsAt w v n X) : Calls Try.prog 3 #[v] w fun e w' => e = .returned (.bool true) ∧ Below w.heap.size w w' := by
  obtain ⟨a0, cap0, hv0, hv1⟩ := id hv
  clear hv1
  subst hv0
  have HV := Hid.mk hv
  clear hv
  go_enter Try.func3, Try.ntmps3
  go_wp2_with fail
  refine (awake_run w).mono ?_
  rintro e v1 ⟨rfl, hA1⟩
  go_wp2_with (refine wl_alO rfl rfl zero2s ?_; intro bs u1 hbs g1 hB1; refine Hid.out ?_)
  refine Hid.mk ?_
  go_wp2_with fail
  refine (New_run9 u1).mono ?_
  rintro e u2 ⟨b0, rfl, hs2, hb0, hB2⟩
  have hl1 := SAt.lt g1
  have g2 := SAt.kept g1 hB2
  have c2 : u2.cell? ⟨bs, 0, none⟩ = some (.pointer none) := SAt.at g2 0 (by omega)
  have f2 : u2.frozen? ⟨bs, 0, none⟩ = false := frozen_of_row u2 bs 0 _ _ g2
  have HT := Hid.mk (And.intro (SAt.set g2 0 (.pointer (some ⟨b0, 0, none⟩)) (by omega)) (only_set (w := u2) (g := bs) (i := 0) (v := .pointer (some ⟨b0, 0, none⟩))))
  go_upto_region 4 with fail
  refine wp_gen (fun u => SAt u bs 25 2 (fun x => if x = 0 then .pointer (some ⟨b0, 0, none⟩) else .pointer none) ∧ Only bs u2 u) HT.out ?_
  rintro u3 ⟨g3, o3⟩
  clear c2 f2 HT g2
  have hs3 := hs2.same (w' := u3) (fun k hk => o3.block k (by omega))
  have hz3 := o3.size
  go_wp2_with fail
  refine (New_run9 u3).mono ?_
  rintro e u4 ⟨b1, rfl, hs4, hb1, hB4⟩
  have hs30 := hs3.lt b0 rfl
  have hs4' := hs3.below hB4
  have g4 := SAt.kept g3 hB4
  have c4 : u4.cell? ⟨bs, 1, none⟩ = some (.pointer none) := SAt.at g4 1 (by omega)
  have f4 : u4.frozen? ⟨bs, 1, none⟩ = false := frozen_of_row u4 bs 1 _ _ g4
  have HT := Hid.mk (And.intro (SAt.set g4 1 (.pointer (some ⟨b1, 0, none⟩)) (by omega)) (only_set (w := u4) (g := bs) (i := 1) (v := .pointer (some ⟨b1, 0, none⟩))))
  go_upto_region 5 with fail
  refine wp_gen (fun u => SAt u bs 25 2 (fun x => if x = 1 then .pointer (some ⟨b1, 0, none⟩) else if x = 0 then .pointer (some ⟨b0, 0, none⟩) else .pointer none) ∧ Only bs u4 u) HT.out ?_
  rintro u5 ⟨g5, o5⟩
  clear c4 f4 HT g4
  have hs5 := hs4.same (w' := u5) (fun k hk => o5.block k (by omega))
  have hs5' := hs4'.same (w' := u5) (fun k hk => o5.block k (by omega))
  have hz5 := o5.size
  have c5 : u5.cell? ⟨bs, 0, none⟩ = some (.pointer (some ⟨b0, 0, none⟩)) := SAt.at g5 0 (by omega)
  have c6 : u5.cell? ⟨bs, 1, none⟩ = some (.pointer (some ⟨b1, 0, none⟩)) := SAt.at g5 1 (by omega)
  have g5' : SAt u5 bs 25 2 (fun e => .pointer (some ⟨if e = 0 then b0 else b1, 0, none⟩)) := g5.congr (fun j hj => by
    match j, hj with
    | 0, _ => rfl
    | 1, _ => rfl)
  have hz2 := hB2.size
  have hz4 := hB4.size
  have hz1 := hB1.size
  have hzA := hA1.size
  have hB5 : Below w.heap.size w u5 := hA1.trans ((hB1.trans ((hB2.mono hz1).trans ((o3.below (B := v1.heap.size) hbs).trans ((hB4.mono (by omega)).trans (o5.below hbs))))).mono hzA)
  go_wp2_with (refine wl_alO rfl rfl zero2w ?_; intro bw u6 hbw g6 hB6; refine Hid.out ?_)
  refine Hid.mk ?_
  have hN := on_start (w := w) hs5' hs5 g5' g6 hB6 hbw (by omega) (by omega) (by omega) (by omega) (by omega) (by omega) hB5
  clear hs2 hs3 hs4 hs4' hs5 hs5' g1 g3 g5 g5' g6 c5 c6 hB1 hB2 hB4 hB5 hB6 hA1 o3 o5 hbs hb0 hb1 hbw hz1 hz2 hz3 hz4 hz5 hzA hl1 hs30
  generalize (fun e : Nat => if e = 0 then b0 else b1) = b at hN
  go_wp2_with fail
  go_loopg [6, 7] n (fun gm s6 s7 v => ∃ (i : Nat) (σ : Nat → Ses) (vv : Nat → Value) (nn : Nat → Nat) (Z : Nat → Nat → El) (now : Int), gm = n - i ∧ i ≤ n ∧ i ≤ 200 ∧ s6 = .int .i64 now ∧ s7 = .int .i64 (i : Int) ∧ 0 ≤ now ∧ now ≤ 40000 * (i : Int) ∧ Hid (OnSt w bs bw b (fun _ => False) v σ vv nn Z ∧ OnI i σ nn Z))
  case atStart => exact ⟨0, _, _, _, _, 0, rfl, by omega, by omega, rfl, rfl, by omega, by omega, Hid.mk ⟨hN, on0⟩⟩
  case round =>
    obtain ⟨i, σ, vv, nn, Z, now, hgm, hin, hi1, rfl, rfl, hn0, hn1, HS⟩ := hrel
    clear hN
    by_cases hlt : i < n
    · by_cases h200 : i < 200
      · obtain ⟨ad, cap, hva, hc, hX1, hX2, hX3⟩ := HV.out.at HS.out.1.bel i hlt
        obtain ⟨rfl, rfl⟩ : a0 = some ad ∧ cap0 = cap := by simpa using hva
        clear hva
        have hlti : (i : Int) < (n : Int) := by omega
        have h200i : (i : Int) < 200 := by omega
        go_upto_block 1 with fail
        go_cut [6] (fun s6 wx => ∃ (σ' : Nat → Ses) (vv' : Nat → Value) (nn' : Nat → Nat) (Z' : Nat → Nat → El) (now' : Int), s6 = .int .i64 now' ∧ 0 ≤ now' ∧ now' ≤ 40000 * ((i : Int) + 1) ∧ Hid (OnSt w bs bw b (fun _ => False) wx σ' vv' nn' Z' ∧ OnI (i + 1) σ' nn' Z'))
        case first =>
          go_wp2_with (first | (refine wl_value rfl (exec_ixStp rfl (by rfl) (by rfl) hlt) ?_) | (refine wl_value rfl (exec_ldStp rfl (by rfl) hc) ?_) | (refine wl_alO rfl rfl zeroStp ?_; intro g8 u1 hg8 g1 hB1; refine Hid.out ?_))
          refine Hid.mk ?_
          have h1 := HS.out.1.keep hg8 hB1
          have hgw : w.heap.size ≤ g8 := Nat.le_trans HS.out.1.size hg8
          go_wp2_with (refine st_st isStp (stpV_one _) g1 (by rfl) (by rfl) ?_; intro u2 g2 o2; refine Hid.out ?_)
          refine Hid.mk ?_
          have h2 := (h1.only (.inr rfl) o2 hgw).sub (N' := fun k => k = g8) (fun k e => .inr e)
          have on := HS.out.2
          clear h1 g1 hB1 o2 hg8 HS hc hgw
          generalize X i = x at *
          obtain ⟨xk, xw, xa, xe⟩ := x
          replace hX1 : I9 xk := hX1
          replace hX2 : I9 xw := hX2
          replace hX3 : I9 xa := hX3
          have ce : u2.cell? ⟨g8, 3, none⟩ = some (.bool xe) := stp_e g2
          simp only [Act.put]
          go_upto_if 58 with fail
          go_cut [9] (fun s9 wx => ∃ e : Nat, s9 = .int .i64 (e : Int) ∧ e < 2 ∧ wx = u2)
          case first =>
            cases xe
            · as_aux_lemma =>
                go_wp2_with fail
                go_meet
                case rel => exact ⟨0, rfl, by omega, rfl⟩
            · as_aux_lemma =>
                go_wp2_with fail
                go_meet
                case rel => exact ⟨1, rfl, by omega, rfl⟩
          case rest =>
            obtain ⟨e, rfl, he, hwc⟩ := hcut
            subst hwc
            clear ce
            obtain ⟨o, heo⟩ : ∃ o : Nat, e + o = 1 := ⟨1 - e, by omega⟩
            have ho : o < 2 := by omega
            have hoe : o ≠ e := by omega
            have ck : wc.cell? ⟨g8, 0, none⟩ = some (.int .i64 xk) := stp_k g2
            go_wp2_with (refine wl_value rfl (exec_oth rfl (by rfl) (by rfl) heo) ?_)
            refine (pick9_run xk 6 wc hX1 (by omega)).mono ?_
            rintro e' u3 ⟨rfl, hu3⟩
            subst hu3
            clear ck
            obtain ⟨hk0, hk6⟩ := pkF_range (c := xk) (n := 6) (by omega)
            generalize pkF xk 6 = km at *
            by_cases k0 : km = 0
            · subst k0
              go_wp2_with fail
              refine (pair_run (i : Int) _).mono ?_
              rintro e' u3 ⟨rfl, hB3⟩
              have h3 := h2.below hB3
              clear h2 g2 hB3
              go_wp2_with (refine wl_alO rfl rfl zeroPairV ?_; intro g9 u4 hg9 g4 hB4; refine Hid.out ?_)
              refine Hid.mk ?_
              have h4 := h3.keep hg9 hB4
              have hg9w : w.heap.size ≤ g9 := Nat.le_trans h3.size hg9
              clear h3 hB4
              go_wp2_with (refine st_st isPair (paiV_one _ _ _ _) g4 (by rfl) (by rfl) ?_; intro u5 g5 o5; refine Hid.out ?_)
              refine Hid.mk ?_
              have h5 := (h4.only (.inr rfl) o5 hg9w).sub (N' := fun k => k = g9) (fun k e => .inr e)
              clear h4 g4 o5 hg9 hg9w
              obtain ⟨q1, q2, on'⟩ := on.put h200 (now := now) (by omega) he ho
              have HPe : Hid (∀ v, (OnSt w bs bw b (fun k => k = g9) v σ vv nn Z ∧ SAt v g9 35 66 (paiV (pks (i : Int)) (pkr (i : Int)) (ploc (i : Int)) (pfar (i : Int)))) → Calls Try.prog 12 #[.pointer (some ⟨b e, 0, none⟩), .int .i64 now, .agg (SC 66 (paiV (pks (i : Int)) (pkr (i : Int)) (ploc (i : Int)) (pfar (i : Int)))), .bool true] v fun en w' => ∃ y, en = .returned y ∧ y = .tuple #[.int .i64 ((σ e).c + 1), .int .i64 0] ∧ OnSt w bs bw b (fun k => k = g9) w' (setG σ e (putS (σ e) now (pks (i : Int)) (pkr (i : Int)) (ploc (i : Int)) (pfar (i : Int)) true)) vv nn Z ∧ SAt w' g9 35 66 (paiV (pks (i : Int)) (pkr (i : Int)) (ploc (i : Int)) (pfar (i : Int)))) := Hid.mk (fun v hv => by
                have l9 := SAt.lt hv.2
                refine (hv.1.call he (s' := (putS (σ e) now (pks (i : Int)) (pkr (i : Int)) (ploc (i : Int)) (pfar (i : Int)) true)) (P := fun en _ => en = .returned (.tuple #[.int .i64 ((σ e).c + 1), .int .i64 0])) (fun k e => by subst e; exact l9) (fun S hS => by
                  skip
                  have hc := on.ok e he
                  have := Put_run now (pks (i : Int)) (pkr (i : Int)) (ploc (i : Int)) (pfar (i : Int)) true hS hc.c0 (by have := hc.c1; omega)
                  rw [q1] at this
                  exact this)).mono ?_
                rintro en w' ⟨rfl, p1, p2⟩
                exact ⟨_, rfl, rfl, p1, hv.2.block (p2.2 g9 l9 rfl)⟩)
              have HPo : Hid (∀ v, (OnSt w bs bw b (fun k => k = g9) v (setG σ e (putS (σ e) now (pks (i : Int)) (pkr (i : Int)) (ploc (i : Int)) (pfar (i : Int)) true)) vv nn Z ∧ SAt v g9 35 66 (paiV (pks (i : Int)) (pkr (i : Int)) (ploc (i : Int)) (pfar (i : Int)))) → Calls Try.prog 12 #[.pointer (some ⟨b o, 0, none⟩), .int .i64 now, .agg (SC 66 (paiV (pkr (i : Int)) (pks (i : Int)) (pfar (i : Int)) (ploc (i : Int)))), .bool false] v fun en w' => ∃ y, en = .returned y ∧ y = .tuple #[.int .i64 ((σ o).c + 1), .int .i64 0] ∧ OnSt w bs bw b (fun k => k = g9) w' (setG (setG σ e (putS (σ e) now (pks (i : Int)) (pkr (i : Int)) (ploc (i : Int)) (pfar (i : Int)) true)) o (putS (σ o) now (pkr (i : Int)) (pks (i : Int)) (pfar (i : Int)) (ploc (i : Int)) false)) vv nn Z ∧ SAt w' g9 35 66 (paiV (pks (i : Int)) (pkr (i : Int)) (ploc (i : Int)) (pfar (i : Int)))) := Hid.mk (fun v hv => by
                have l9 := SAt.lt hv.2
                refine (hv.1.call ho (s' := (putS (σ o) now (pkr (i : Int)) (pks (i : Int)) (pfar (i : Int)) (ploc (i : Int)) false)) (P := fun en _ => en = .returned (.tuple #[.int .i64 ((σ o).c + 1), .int .i64 0])) (fun k e => by subst e; exact l9) (fun S hS => by
                  rw [gD _ _ _ hoe] at hS
                  have hc := on.ok o ho
                  have := Put_run now (pkr (i : Int)) (pks (i : Int)) (pfar (i : Int)) (ploc (i : Int)) false hS hc.c0 (by have := hc.c1; omega)
                  rw [q2] at this
                  exact this)).mono ?_
                rintro en w' ⟨rfl, p1, p2⟩
                exact ⟨_, rfl, rfl, p1, hv.2.block (p2.2 g9 l9 rfl)⟩)
              have ON := Hid.mk on'
              clear q1 q2 on on'
              generalize putS (σ e) now (pks (i : Int)) (pkr (i : Int)) (ploc (i : Int)) (pfar (i : Int)) true = σ1 at *
              generalize putS (σ o) now (pkr (i : Int)) (pks (i : Int)) (pfar (i : Int)) (ploc (i : Int)) false = σ2 at *
              generalize (σ e).c + 1 = cce at *
              generalize (σ o).c + 1 = cco at *
              simp only [Act.put]
              as_aux_lemma =>
                go_wp2_with fail
                refine wp_region_steps4 (SL (fun v => OnSt w bs bw b (fun k => k = g9) v σ vv nn Z ∧ SAt v g9 35 66 (paiV (pks (i : Int)) (pkr (i : Int)) (ploc (i : Int)) (pfar (i : Int)))) (fun v => OnSt w bs bw b (fun k => k = g9) v (setG σ e σ1) vv nn Z ∧ SAt v g9 35 66 (paiV (pks (i : Int)) (pkr (i : Int)) (ploc (i : Int)) (pfar (i : Int)))) 5) (fun j vv => vv = ([.int .i64 (e : Int), .pointer (some ⟨bs, e, none⟩), .pointer (some ⟨b e, 0, none⟩), .int .i64 now, .agg (SC 66 (paiV (pks (i : Int)) (pkr (i : Int)) (ploc (i : Int)) (pfar (i : Int)))), .tuple #[.int .i64 cce, .int .i64 0], .tuple #[.int .i64 cce, .int .i64 0], .int .i64 cce, .int .i64 0, .int .i64 cce, .int .i64 0] : List Value).getD j undef)
                    [82, 83, 84, 85, 86, 87, 81, 88, 89, 12, 13]
                    [(9, .int .i64 (e : Int)), (4, .pointer (some ⟨bs, 0, none⟩)), (6, .int .i64 now), (11, .pointer (some ⟨g9, 0, none⟩))]
                    [[], [0], [1], [], [], [2, 3, 4], [5], [6], [6], [7], [8]]
                    [[], [], [], [], [], [2, 4], [2, 4, 5], [2, 4, 5], [2, 4, 5], [2, 4, 5], [2, 4, 5]]
                    [[], [], [5], [], [5], [], [], [], [], [], []]
                    rfl (by kernel_rfl) ⟨rfl, rfl, rfl, rfl, trivial⟩ (sl_start ⟨h5.below (below_drew _), SAt.kept g5 (below_drew _)⟩)
                    ⟨
                      (fun Q L aq ww hS hun hq hd fr kn => ⟨trivial, fun K hK => wp_value (exec_move rfl fr.1) (hK _ _ rfl (sl_same (by decide) hS))⟩),
                      (fun Q L aq ww hS hun hq hd fr kn => ⟨trivial, fun K hK => wp_value (exec_ix2s (e := e) rfl fr.2.1 kn.1 he) (hK _ _ rfl (sl_same (by decide) hS))⟩),
                      (fun Q L aq ww hS hun hq hd fr kn => ⟨trivial, fun K hK => wp_value (exec_ld rfl kn.1 (ld_ses ((sl_a hS hd.1).1.ptr he))) (hK _ _ rfl (sl_same (by decide) hS))⟩),
                      (fun Q L aq ww hS hun hq hd fr kn => ⟨trivial, fun K hK => wp_value (exec_move rfl fr.2.2.1) (hK _ _ rfl (sl_same (by decide) hS))⟩),
                      (fun Q L aq ww hS hun hq hd fr kn => ⟨trivial, fun K hK => wp_value (look_st rfl isPair (sl_a hS hd.1).2 fr.2.2.2.1) (hK _ _ rfl (sl_same (by decide) hS))⟩),
                      (fun Q L aq ww hS hun hq hd fr kn => ⟨trivial, fun K hK => stepp enterPut9 rfl (args4 kn.1 kn.2.1 kn.2.2.1 rfl) (HPe.out ww (sl_a hS hun)) (fun v w' hv => hK _ _ hv.1 (sl_done hv.2))⟩),
                      (fun Q L aq ww hS hun hq hd fr kn => ⟨trivial, fun K hK => wp_value (exec_move rfl kn.1) (hK _ _ rfl (sl_same (by decide) hS))⟩),
                      (fun Q L aq ww hS hun hq hd fr kn => ⟨trivial, fun K hK => wp_value (exec_ext rfl kn.1 rfl) (hK _ _ rfl (sl_same (by decide) hS))⟩),
                      (fun Q L aq ww hS hun hq hd fr kn => ⟨trivial, fun K hK => wp_value (exec_ext rfl kn.1 rfl) (hK _ _ rfl (sl_same (by decide) hS))⟩),
                      (fun Q L aq ww hS hun hq hd fr kn => ⟨trivial, fun K hK => wp_value (exec_assign rfl kn.1) (hK _ _ rfl (sl_same (by decide) hS))⟩),
                      (fun Q L aq ww hS hun hq hd fr kn => ⟨trivial, fun K hK => wp_value (exec_assign rfl kn.1) (hK _ _ rfl (sl_same (by decide) hS))⟩),
                      trivial⟩ ?_
                intro vs L u6 hS6 hL6 hk6
                obtain ⟨h6, g6⟩ := sl_b hS6 (hL6 5 (by decide))
                have e12 : vs 12 = .int .i64 cce := hk6 9 (by decide)
                have e13 : vs 13 = .int .i64 0 := hk6 10 (by decide)
                clear hk6 hS6 hL6 HPe h5 g5
                simp only [putAll, Act.put, List.setIfInBounds_toArray, List.set_cons_zero, List.set_cons_succ, e12, e13]
                clear e12 e13
                go_wp2_with fail
                refine wp_region_steps4 (SL (fun v => OnSt w bs bw b (fun k => k = g9) v (setG σ e σ1) vv nn Z ∧ SAt v g9 35 66 (paiV (pks (i : Int)) (pkr (i : Int)) (ploc (i : Int)) (pfar (i : Int)))) (fun v => OnSt w bs bw b (fun k => k = g9) v (setG (setG σ e σ1) o σ2) vv nn Z ∧ SAt v g9 35 66 (paiV (pks (i : Int)) (pkr (i : Int)) (ploc (i : Int)) (pfar (i : Int)))) 6) (fun j vv => vv = ([.int .i64 (o : Int), .pointer (some ⟨bs, o, none⟩), .pointer (some ⟨b o, 0, none⟩), .int .i64 now, .agg (SC 66 (paiV (pks (i : Int)) (pkr (i : Int)) (ploc (i : Int)) (pfar (i : Int)))), .agg (SC 66 (paiV (pkr (i : Int)) (pks (i : Int)) (pfar (i : Int)) (ploc (i : Int)))), .tuple #[.int .i64 cco, .int .i64 0], .tuple #[.int .i64 cco, .int .i64 0], .int .i64 cco, .int .i64 0, .int .i64 cco, .int .i64 0] : List Value).getD j undef)
                    [91, 92, 93, 94, 95, 96, 97, 90, 98, 99, 14, 15]
                    [(10, .int .i64 (o : Int)), (4, .pointer (some ⟨bs, 0, none⟩)), (6, .int .i64 now), (11, .pointer (some ⟨g9, 0, none⟩))]
                    [[], [0], [1], [], [], [4], [2, 3, 5], [6], [7], [7], [8], [9]]
                    [[], [], [], [], [], [4], [2, 4, 5], [2, 4, 5, 6], [2, 4, 5, 6], [2, 4, 5, 6], [2, 4, 5, 6], [2, 4, 5, 6]]
                    [[], [], [6], [], [6], [6], [], [], [], [], [], []]
                    rfl (by kernel_rfl) ⟨rfl, rfl, rfl, rfl, trivial⟩ (sl_start ⟨h6.below (below_drew _), SAt.kept g6 (below_drew _)⟩)
                    ⟨
                      (fun Q L aq ww hS hun hq hd fr kn => ⟨trivial, fun K hK => wp_value (exec_move rfl fr.1) (hK _ _ rfl (sl_same (by decide) hS))⟩),
                      (fun Q L aq ww hS hun hq hd fr kn => ⟨trivial, fun K hK => wp_value (exec_ix2s (e := o) rfl fr.2.1 kn.1 ho) (hK _ _ rfl (sl_same (by decide) hS))⟩),
                      (fun Q L aq ww hS hun hq hd fr kn => ⟨trivial, fun K hK => wp_value (exec_ld rfl kn.1 (ld_ses ((sl_a hS hd.1).1.ptr ho))) (hK _ _ rfl (sl_same (by decide) hS))⟩),
                      (fun Q L aq ww hS hun hq hd fr kn => ⟨trivial, fun K hK => wp_value (exec_move rfl fr.2.2.1) (hK _ _ rfl (sl_same (by decide) hS))⟩),
                      (fun Q L aq ww hS hun hq hd fr kn => ⟨trivial, fun K hK => wp_value (look_st rfl isPair (sl_a hS hd.1).2 fr.2.2.2.1) (hK _ _ rfl (sl_same (by decide) hS))⟩),
                      (fun Q L aq ww hS hun hq hd fr kn => ⟨trivial, fun K hK => stepc enterMirror9 rfl (args1 kn.1) (mirror_run (pks (i : Int)) (pkr (i : Int)) (ploc (i : Int)) (pfar (i : Int)) ww) (fun w' hb => hK _ _ rfl (sl_ahead (by decide) hd.1 (And.intro ((sl_a hS hd.1).1.below hb) (SAt.kept (sl_a hS hd.1).2 hb))))⟩),
                      (fun Q L aq ww hS hun hq hd fr kn => ⟨trivial, fun K hK => stepp enterPut9 rfl (args4 kn.1 kn.2.1 kn.2.2.1 rfl) (HPo.out ww (sl_a hS hun)) (fun v w' hv => hK _ _ hv.1 (sl_done hv.2))⟩),
                      (fun Q L aq ww hS hun hq hd fr kn => ⟨trivial, fun K hK => wp_value (exec_move rfl kn.1) (hK _ _ rfl (sl_same (by decide) hS))⟩),
                      (fun Q L aq ww hS hun hq hd fr kn => ⟨trivial, fun K hK => wp_value (exec_ext rfl kn.1 rfl) (hK _ _ rfl (sl_same (by decide) hS))⟩),
                      (fun Q L aq ww hS hun hq hd fr kn => ⟨trivial, fun K hK => wp_value (exec_ext rfl kn.1 rfl) (hK _ _ rfl (sl_same (by decide) hS))⟩),
                      (fun Q L aq ww hS hun hq hd fr kn => ⟨trivial, fun K hK => wp_value (exec_assign rfl kn.1) (hK _ _ rfl (sl_same (by decide) hS))⟩),
                      (fun Q L aq ww hS hun hq hd fr kn => ⟨trivial, fun K hK => wp_value (exec_assign rfl kn.1) (hK _ _ rfl (sl_same (by decide) hS))⟩),
                      trivial⟩ ?_
                intro vs L u7 hS6 hL6 hk6
                obtain ⟨h7, g7⟩ := sl_b hS6 (hL6 6 (by decide))
                have e14 : vs 14 = .int .i64 cco := hk6 10 (by decide)
                have e15 : vs 15 = .int .i64 0 := hk6 11 (by decide)
                clear hk6 hS6 hL6 HPo h6 g6
                simp only [putAll, Act.put, List.setIfInBounds_toArray, List.set_cons_zero, List.set_cons_succ, e14, e15]
                clear e14 e15
                have HX := Hid.mk (And.intro (h7.sub (N' := fun _ => False) (fun k e => e.elim)) ON.out)
                clear h7 g7 ON
                go_wp2_with fail
                go_meet
                case rel => exact ⟨_, vv, nn, Z, now, rfl, by omega, by omega, HX⟩
            · have n0 : (km == 0) = false := beq_eq_false_iff_ne.2 k0
              go_upto_if 106 with fail
              go_cut [106] (fun s106 wx => s106 = .bool (decide (km = 1 ∨ km = 2)) ∧ wx = u3)
              case first =>
                by_cases k1 : km = 1
                · subst k1
                  as_aux_lemma =>
                    go_wp2_with fail
                    go_meet
                    case rel => exact ⟨rfl, rfl⟩
                · have n1 : (km == 1) = false := beq_eq_false_iff_ne.2 k1
                  by_cases k2 : km = 2
                  · subst k2
                    as_aux_lemma =>
                      go_wp2_with fail
                      go_meet
                      case rel => exact ⟨rfl, rfl⟩
                  · have n2 : (km == 2) = false := beq_eq_false_iff_ne.2 k2
                    as_aux_lemma =>
                      go_wp2_with fail
                      go_meet
                      case rel => exact ⟨by rw [decide_eq_false (fun e => e.elim k1 k2)], rfl⟩
              case rest =>
                obtain ⟨rfl, hwc⟩ := hcut
                subst hwc
                by_cases ks : km = 1 ∨ km = 2
                · have hd1 : decide (km = 1 ∨ km = 2) = true := decide_eq_true ks
                  as_aux_lemma =>
                    go_wp2_with (first | (refine wl_value rfl (exec_cv8 rfl (by rfl)) ?_) | (refine wl_bs3O rfl rfl (by rfl) (by rfl) (by rfl) (mod256 _) (mod256 _) (mod256 _) ?_; intro g9 u3 hcv hB3; refine Hid.out ?_))
                    refine Hid.mk ?_
                    have h3 := (h2.below hB3).sub (N' := fun _ => False) (fun k e => e.elim)
                    clear h2 g2 hB3
                    go_wp2_with (first | (refine wl_value rfl (exec_conv rfl (by rfl) hcv.out) ?_) | (refine wl_cat8O rfl rfl (by rfl) (by rfl) (by rw [mkS_size]; rfl) ?_; intro T hT; refine Hid.out ?_))
                    refine Hid.mk ?_
                    clear hcv
                    have c3 := h3.ptr he
                    by_cases hso : sealOk (σ e) now = true
                    · obtain ⟨r1, r2⟩ := seal_yes (text := T) hso
                      have on' := on.seal_yes h200 (now := now) (by omega) he ho hT hso
                      have hlen := on.nn o ho
                      have HSE : Hid (Calls Try.prog 14 #[.pointer (some ⟨b e, 0, none⟩), .int .i64 now, .string T] u3 fun en w' => en = .returned (.tuple #[.int .u32 ((σ e).K 1).far, .int .u64 ((σ e).K 1).sent, .string (boxT ((σ e).K 1).ks (nonN ((σ e).K 1).sent) T ByteArray.empty), .int .i64 0]) ∧ OnSt w bs bw b (fun _ => False) w' (setG σ e (sealS (σ e) now)) vv nn Z) := Hid.mk (by
                        refine (h3.call he (s' := sealS (σ e) now) (P := fun en _ => en = .returned (.tuple #[.int .u32 ((σ e).K 1).far, .int .u64 ((σ e).K 1).sent, .string (boxT ((σ e).K 1).ks (nonN ((σ e).K 1).sent) T ByteArray.empty), .int .i64 0])) (fun k e => e.elim) (fun S hS => by
                          have := Seal_run9 now T hS (on.ok e he) (by omega) (by omega) (by omega)
                          rw [r1] at this
                          exact this)).mono ?_
                        rintro en w' ⟨rfl, p1, p2⟩
                        exact ⟨rfl, p1⟩)
                      clear r1 r2 hso on
                      have ON := Hid.mk on'
                      clear on'
                      generalize boxT ((σ e).K 1).ks (nonN ((σ e).K 1).sent) T ByteArray.empty = bx at *
                      generalize ((σ e).K 1).far = far at *
                      generalize ((σ e).K 1).sent = ctr at *
                      generalize sealS (σ e) now = σ1 at *
                      as_aux_lemma =>
                        go_wp2_with (refine wl_value rfl (exec_ix2s (e := e) rfl (by rfl) (by rfl) he) ?_)
                        refine HSE.out.mono ?_
                        rintro e' u4 ⟨rfl, h4⟩
                        clear HSE h3 c3
                        go_wp2_with (first | (refine wl_value rfl (exec_ix2w (e := o) rfl (by rfl) (by rfl) ho) ?_) | (refine wl_value rfl (exec_ld (p := ⟨bw, o, none⟩) rfl (by rfl) (ld_els (h4.wayc ho))) ?_) | (refine wl_value rfl (exec_el4 rfl (by rfl) (by rfl) (by rfl) (by rfl)) ?_) | (refine wl_bsEO rfl rfl (by rfl) ?_; intro g9 u5 hg9 g5 hB5; refine Hid.out ?_))
                        refine Hid.mk ?_
                        have h5 := h4.below hB5
                        have hr5 := h5.row ho
                        have hz5 := h5.size
                        clear h4 hB5
                        go_wp2_with (at_builtin; refine ap_el (by rfl) (by rfl) hr5 g5 (by omega) hz5 ?_; intro v6 u6 hD6 hgr hq6; refine Hid.out ?_)
                        refine Hid.mk ?_
                        obtain ⟨c6, f6⟩ := h5.grown ho hgr
                        obtain ⟨h7, _⟩ := h5.more ho (fun k e => e.elim) hD6 hgr hq6
                        obtain ⟨p6, cp6, e6, _⟩ := ownM_shape hD6
                        subst e6
                        have HX := Hid.mk (And.intro h7 ON.out)
                        clear h5 hr5 g5 hD6 hgr hq6 h7 ON
                        go_wp2_with (refine wl_value rfl (exec_ix2w (e := o) rfl (by rfl) (by rfl) ho) ?_)
                        go_meet
                        case rel => exact ⟨_, _, _, _, now, rfl, by omega, by omega, HX⟩
                    · replace hso : sealOk (σ e) now = false := by simpa using hso
                      obtain ⟨r1, r2⟩ := seal_no (text := T) hso
                      have on' := on.seal_no (now := now) (by omega) he
                      have HSE : Hid (Calls Try.prog 14 #[.pointer (some ⟨b e, 0, none⟩), .int .i64 now, .string T] u3 fun en w' => en = .returned (.tuple #[.int .u32 0, .int .u64 0, .string ByteArray.empty, .int .i64 19]) ∧ OnSt w bs bw b (fun _ => False) w' (setG σ e (sealS (σ e) now)) vv nn Z) := Hid.mk (by
                        refine (h3.call he (s' := sealS (σ e) now) (P := fun en _ => en = .returned (.tuple #[.int .u32 0, .int .u64 0, .string ByteArray.empty, .int .i64 19])) (fun k e => e.elim) (fun S hS => by
                          have := Seal_run9 now T hS (on.ok e he) (by omega) (by omega) (by omega)
                          rw [r1] at this
                          exact this)).mono ?_
                        rintro en w' ⟨rfl, p1, p2⟩
                        exact ⟨rfl, p1⟩)
                      clear r1 r2 hso on
                      have ON := Hid.mk on'
                      clear on'
                      generalize sealS (σ e) now = σ1 at *
                      as_aux_lemma =>
                        go_wp2_with (refine wl_value rfl (exec_ix2s (e := e) rfl (by rfl) (by rfl) he) ?_)
                        refine HSE.out.mono ?_
                        rintro e' u4 ⟨rfl, h4⟩
                        clear HSE h3 c3
                        have HX := Hid.mk (And.intro h4 ON.out)
                        clear h4 ON
                        go_wp2_with (refine wl_value rfl (exec_neqS (s := ByteArray.empty) (t := ByteArray.empty) rfl (by rfl) (by rfl) rfl) ?_)
                        go_meet
                        case rel => exact ⟨_, vv, nn, Z, now, rfl, by omega, by omega, HX⟩
                · have hd1 : decide (km = 1 ∨ km = 2) = false := decide_eq_false ks
                  go_upto_if 156 with fail
                  go_cut [156] (fun s156 wx => s156 = .bool (decide (km = 3 ∨ km = 4)) ∧ wx = wc)
                  case first =>
                    by_cases k1 : km = 3
                    · subst k1
                      as_aux_lemma =>
                        go_wp2_with fail
                        go_meet
                        case rel => exact ⟨rfl, rfl⟩
                    · have n1 : (km == 3) = false := beq_eq_false_iff_ne.2 k1
                      by_cases k2 : km = 4
                      · subst k2
                        as_aux_lemma =>
                          go_wp2_with fail
                          go_meet
                          case rel => exact ⟨rfl, rfl⟩
                      · have n2 : (km == 4) = false := beq_eq_false_iff_ne.2 k2
                        as_aux_lemma =>
                          go_wp2_with fail
                          go_meet
                          case rel => exact ⟨by rw [decide_eq_false (fun e => e.elim k1 k2)], rfl⟩
                  case rest =>
                    obtain ⟨rfl, hwc⟩ := hcut
                    subst hwc
                    by_cases kt : km = 3 ∨ km = 4
                    · have hd2 : decide (km = 3 ∨ km = 4) = true := decide_eq_true kt
                      obtain ⟨p, cap, hvp, hpos⟩ := ownM_shape (h2.row he)
                      have cw := h2.wayc he
                      rw [hvp] at cw
                      by_cases hz : nn e = 0
                      · rw [hz] at cw
                        have HX := Hid.mk (And.intro (h2.sub (N' := fun _ => False) (fun k e => e.elim)) on.next)
                        as_aux_lemma =>
                          go_wp2_with (first | (refine wl_value rfl (exec_ix2w (e := e) rfl (by rfl) (by rfl) he) ?_) | (refine wl_value rfl (exec_ld (p := ⟨bw, e, none⟩) rfl (by rfl) (ld_els cw)) ?_) | (refine wl_value rfl (exec_lenE rfl (by rfl)) ?_))
                          go_meet
                          case rel => exact ⟨_, vv, nn, Z, now, rfl, by omega, by omega, HX⟩
                      · obtain ⟨g, rfl⟩ := hpos (by omega)
                        have hzi : ((nn e : Int) == 0) = false := beq_eq_false_iff_ne.2 (by omega)
                        have hle := on.nn e he
                        as_aux_lemma =>
                          go_wp2_with (first | (refine wl_value rfl (exec_ix2w (e := e) rfl (by rfl) (by rfl) he) ?_) | (refine wl_value rfl (exec_ld (p := ⟨bw, e, none⟩) rfl (by rfl) (ld_els cw)) ?_) | (refine wl_value rfl (exec_lenE rfl (by rfl)) ?_))
                          obtain ⟨k, hk, HPK⟩ : ∃ k : Nat, k < nn e ∧ Hid (∀ v, (OnSt w bs bw b (fun k => k = g8) v σ vv nn Z ∧ SAt v g8 30 4 (stpV (xk, xw, xa, xe))) → Calls Try.prog 10 #[.int .i64 xw, .int .i64 (nn e : Int)] v fun en w' => ∃ y, en = .returned y ∧ y = .int .i64 (k : Int) ∧ OnSt w bs bw b (fun k => k = g8) w' σ vv nn Z ∧ SAt w' g8 30 4 (stpV (xk, xw, xa, xe))) := by
                            obtain ⟨r0, r1⟩ := pkF_range (c := xw) (n := (nn e : Int)) (by omega)
                            refine ⟨(pkF xw (nn e : Int)).toNat, by omega, Hid.mk (fun v hv => (pick9_run xw (nn e : Int) v hX2 (by omega)).mono ?_)⟩
                            rintro en w' ⟨rfl, rfl⟩
                            exact ⟨_, rfl, by rw [Int.toNat_of_nonneg r0], hv.1, hv.2⟩
                          refine wp_region_steps4 (SL (fun v => OnSt w bs bw b (fun k => k = g8) v σ vv nn Z ∧ SAt v g8 30 4 (stpV (xk, xw, xa, xe))) (fun v => OnSt w bs bw b (fun k => k = g8) v σ vv nn Z ∧ SAt v g8 30 4 (stpV (xk, xw, xa, xe))) 6) (fun j vv => vv = ([.pointer (some ⟨g8, 0 + 1, none⟩), .int .i64 xw, .int .i64 (e : Int), .pointer (some ⟨bw, e, none⟩), .slice (some ⟨g, 0, none⟩) (nn e) cap, .int .i64 (nn e : Int), .int .i64 (k : Int), .int .i64 (k : Int)] : List Value).getD j undef)
                              [164, 165, 166, 167, 168, 169, 170, 21]
                              [(9, .int .i64 (e : Int)), (5, .pointer (some ⟨bw, 0, none⟩)), (8, .pointer (some ⟨g8, 0, none⟩))]
                              [[], [0], [], [2], [3], [4], [1, 5], [6]]
                              [[], [], [], [], [], [4], [1, 4], [1, 4, 6]]
                              [[], [6], [], [], [6], [], [], []]
                              rfl (by kernel_rfl) ⟨rfl, rfl, rfl, trivial⟩ (sl_start ⟨h2.below (below_drew _), SAt.kept g2 (below_drew _)⟩)
                              ⟨
                                (fun Q L aq ww hS hun hq hd fr kn => ⟨trivial, fun K hK => wp_value (exec_fstp (k := 1) rfl fr.2.2.1 (by decide)) (hK _ _ rfl (sl_same (by decide) hS))⟩),
                                (fun Q L aq ww hS hun hq hd fr kn => ⟨trivial, fun K hK => wp_value (exec_ld rfl kn.1 (ld_int (stp_w (sl_a hS hd.1).2))) (hK _ _ rfl (sl_same (by decide) hS))⟩),
                                (fun Q L aq ww hS hun hq hd fr kn => ⟨trivial, fun K hK => wp_value (exec_move rfl fr.1) (hK _ _ rfl (sl_same (by decide) hS))⟩),
                                (fun Q L aq ww hS hun hq hd fr kn => ⟨trivial, fun K hK => wp_value (exec_ix2w (e := e) rfl fr.2.1 kn.1 he) (hK _ _ rfl (sl_same (by decide) hS))⟩),
                                (fun Q L aq ww hS hun hq hd fr kn => ⟨trivial, fun K hK => wp_value (exec_ld rfl kn.1 (ld_els (((sl_a hS hd.1).1.wayc he).trans (congrArg some hvp)))) (hK _ _ rfl (sl_same (by decide) hS))⟩),
                                (fun Q L aq ww hS hun hq hd fr kn => ⟨trivial, fun K hK => wp_value (exec_lenE rfl kn.1) (hK _ _ rfl (sl_same (by decide) hS))⟩),
                                (fun Q L aq ww hS hun hq hd fr kn => ⟨trivial, fun K hK => stepp enterPick9 rfl (args2 kn.1 kn.2.1) (HPK.out ww (sl_a hS hun)) (fun v w' hv => hK _ _ hv.1 (sl_done hv.2))⟩),
                                (fun Q L aq ww hS hun hq hd fr kn => ⟨trivial, fun K hK => wp_value (exec_assign rfl kn.1) (hK _ _ rfl (sl_same (by decide) hS))⟩),
                                trivial⟩ ?_
                          intro vs L u3 hS6 hL6 hk6
                          obtain ⟨h3, g3⟩ := sl_b hS6 (hL6 6 (by decide))
                          have e21 : vs 21 = .int .i64 (k : Int) := hk6 7 (by decide)
                          clear hk6 hS6 hL6 HPK h2 g2 cw hzi
                          simp only [putAll, Act.put, List.setIfInBounds_toArray, List.set_cons_zero, List.set_cons_succ, e21]
                          clear e21 g3
                          have cw := h3.wayc he
                          rw [hvp] at cw
                          have hr3 := h3.row he
                          rw [hvp] at hr3
                          have ce := own_el hr3 hk
                          as_aux_lemma =>
                            go_wp2_with (first | (refine wl_value rfl (exec_ix2w (e := e) rfl (by rfl) (by rfl) he) ?_) | (refine wl_value rfl (exec_ld (p := ⟨bw, e, none⟩) rfl (by rfl) (ld_els cw)) ?_) | (refine wl_value rfl (exec_ixE (i := k) rfl (by rfl) (by rfl) hk) ?_) | (refine wl_value rfl (exec_ldE (i := k) rfl (by rfl) ce) ?_) | (refine wl_alO rfl rfl zeroEl ?_; intro g9 u4 hg9 g4 hB4; refine Hid.out ?_))
                            refine Hid.mk ?_
                            have h4 := h3.keep hg9 hB4
                            have hg9w : w.heap.size ≤ g9 := Nat.le_trans h3.size hg9
                            clear h3 hB4 cw ce hr3
                            go_wp2_with (refine st_st isEl (elV_one _) g4 (by rfl) (by rfl) ?_; intro u5 g5 o5; refine Hid.out ?_)
                            refine Hid.mk ?_
                            have h5 := (h4.only (.inr rfl) o5 hg9w).sub (N' := fun k => k = g9) (fun k e => .inr e)
                            clear h4 g4 o5 hg9 hg9w
                            have onO := on.open (now := now) (by omega) he hk
                            have hyo := on.el e k he hk
                            have HO : Hid (∀ v, (OnSt w bs bw b (fun k => k = g9) v σ vv nn Z ∧ SAt v g9 46 5 (elV (Z e k))) → Calls Try.prog 15 #[.pointer (some ⟨b e, 0, none⟩), .int .i64 now, .int .u32 (Z e k).idx, .int .u64 (Z e k).ctr, .string (Z e k).box] v fun en w' => ∃ y, en = .returned y ∧ y = .tuple #[.string (openS (σ e) now (Z e k).idx (Z e k).ctr (Z e k).box).1.1, .int .i64 (openS (σ e) now (Z e k).idx (Z e k).ctr (Z e k).box).1.2.1, .int .i64 (openS (σ e) now (Z e k).idx (Z e k).ctr (Z e k).box).1.2.2] ∧ OnSt w bs bw b (fun k => k = g9) w' (setG σ e (openS (σ e) now (Z e k).idx (Z e k).ctr (Z e k).box).2) vv nn Z ∧ SAt w' g9 46 5 (elV (Z e k))) := Hid.mk (fun v hv => by
                              have l9 := SAt.lt hv.2
                              refine (hv.1.call he (s' := (openS (σ e) now (Z e k).idx (Z e k).ctr (Z e k).box).2) (P := fun en _ => en = .returned (.tuple #[.string (openS (σ e) now (Z e k).idx (Z e k).ctr (Z e k).box).1.1, .int .i64 (openS (σ e) now (Z e k).idx (Z e k).ctr (Z e k).box).1.2.1, .int .i64 (openS (σ e) now (Z e k).idx (Z e k).ctr (Z e k).box).1.2.2])) (fun k e => by subst e; exact l9) (fun S hS => Open_run9 now (Z e k).idx (Z e k).ctr (Z e k).box hS (on.ok e he) (by omega) (by omega) hyo.u (by rw [hyo.bx, boxT_size, hyo.sz]; omega))).mono ?_
                              rintro en w' ⟨rfl, p1, p2⟩
                              exact ⟨_, rfl, rfl, p1, hv.2.block (p2.2 g9 l9 rfl)⟩)
                            clear hyo on
                            have ONO := Hid.mk onO
                            clear onO
                            generalize (openS (σ e) now (Z e k).idx (Z e k).ctr (Z e k).box).1.1 = tx at *
                            generalize (openS (σ e) now (Z e k).idx (Z e k).ctr (Z e k).box).1.2.1 = ep at *
                            generalize (openS (σ e) now (Z e k).idx (Z e k).ctr (Z e k).box).1.2.2 = er at *
                            generalize (openS (σ e) now (Z e k).idx (Z e k).ctr (Z e k).box).2 = σ1 at *
                            simp only [Act.put]
                            as_aux_lemma =>
                              go_wp2_with fail
                              refine wp_region_steps4 (SL (fun v => OnSt w bs bw b (fun k => k = g9) v σ vv nn Z ∧ SAt v g9 46 5 (elV (Z e k))) (fun v => OnSt w bs bw b (fun k => k = g9) v (setG σ e σ1) vv nn Z ∧ SAt v g9 46 5 (elV (Z e k))) 10) (fun j vv => vv = ([.int .i64 (e : Int), .pointer (some ⟨bs, e, none⟩), .pointer (some ⟨b e, 0, none⟩), .int .i64 now, .pointer (some ⟨g9, 0 + 2, none⟩), .int .u32 (Z e k).idx, .pointer (some ⟨g9, 0 + 3, none⟩), .int .u64 (Z e k).ctr, .pointer (some ⟨g9, 0 + 1, none⟩), .string (Z e k).box, .tuple #[.string tx, .int .i64 ep, .int .i64 er], .tuple #[.string tx, .int .i64 ep, .int .i64 er], .string tx, .int .i64 ep, .int .i64 er, .string tx, .int .i64 ep, .int .i64 er] : List Value).getD j undef)
                                  [178, 179, 180, 181, 182, 183, 184, 185, 186, 187, 188, 177, 189, 190, 191, 23, 24, 25]
                                  [(9, .int .i64 (e : Int)), (4, .pointer (some ⟨bs, 0, none⟩)), (6, .int .i64 now), (22, .pointer (some ⟨g9, 0, none⟩))]
                                  [[], [0], [1], [], [], [4], [], [6], [], [8], [2, 3, 5, 7, 9], [10], [11], [11], [11], [12], [13], [14]]
                                  [[], [], [], [], [], [], [], [], [], [], [2, 5, 7, 9], [2, 5, 7, 9, 10], [2, 5, 7, 9, 10], [2, 5, 7, 9, 10], [2, 5, 7, 9, 10], [2, 5, 7, 9, 10], [2, 5, 7, 9, 10], [2, 5, 7, 9, 10]]
                                  [[], [], [10], [], [], [10], [], [10], [], [10], [], [], [], [], [], [], [], []]
                                  rfl (by kernel_rfl) ⟨rfl, rfl, rfl, rfl, trivial⟩ (sl_start ⟨h5.below (below_drew _), SAt.kept g5 (below_drew _)⟩)
                                  ⟨
                                    (fun Q L aq ww hS hun hq hd fr kn => ⟨trivial, fun K hK => wp_value (exec_move rfl fr.1) (hK _ _ rfl (sl_same (by decide) hS))⟩),
                                    (fun Q L aq ww hS hun hq hd fr kn => ⟨trivial, fun K hK => wp_value (exec_ix2s (e := e) rfl fr.2.1 kn.1 he) (hK _ _ rfl (sl_same (by decide) hS))⟩),
                                    (fun Q L aq ww hS hun hq hd fr kn => ⟨trivial, fun K hK => wp_value (exec_ld rfl kn.1 (ld_ses ((sl_a hS hd.1).1.ptr he))) (hK _ _ rfl (sl_same (by decide) hS))⟩),
                                    (fun Q L aq ww hS hun hq hd fr kn => ⟨trivial, fun K hK => wp_value (exec_move rfl fr.2.2.1) (hK _ _ rfl (sl_same (by decide) hS))⟩),
                                    (fun Q L aq ww hS hun hq hd fr kn => ⟨trivial, fun K hK => wp_value (exec_fel (k := 2) rfl fr.2.2.2.1 (by decide)) (hK _ _ rfl (sl_same (by decide) hS))⟩),
                                    (fun Q L aq ww hS hun hq hd fr kn => ⟨trivial, fun K hK => wp_value (exec_ld rfl kn.1 (ld_u32 (el_i (sl_a hS hd.1).2))) (hK _ _ rfl (sl_same (by decide) hS))⟩),
                                    (fun Q L aq ww hS hun hq hd fr kn => ⟨trivial, fun K hK => wp_value (exec_fel (k := 3) rfl fr.2.2.2.1 (by decide)) (hK _ _ rfl (sl_same (by decide) hS))⟩),
                                    (fun Q L aq ww hS hun hq hd fr kn => ⟨trivial, fun K hK => wp_value (exec_ld rfl kn.1 (ld_u64 (el_c (sl_a hS hd.1).2))) (hK _ _ rfl (sl_same (by decide) hS))⟩),
                                    (fun Q L aq ww hS hun hq hd fr kn => ⟨trivial, fun K hK => wp_value (exec_fel (k := 1) rfl fr.2.2.2.1 (by decide)) (hK _ _ rfl (sl_same (by decide) hS))⟩),
                                    (fun Q L aq ww hS hun hq hd fr kn => ⟨trivial, fun K hK => wp_value (exec_ld rfl kn.1 (load_str (el_b (sl_a hS hd.1).2))) (hK _ _ rfl (sl_same (by decide) hS))⟩),
                                    (fun Q L aq ww hS hun hq hd fr kn => ⟨trivial, fun K hK => stepp enterOpenS9 rfl (args5 kn.1 kn.2.1 kn.2.2.1 kn.2.2.2.1 kn.2.2.2.2.1) (HO.out ww (sl_a hS hun)) (fun v w' hv => hK _ _ hv.1 (sl_done hv.2))⟩),
                                    (fun Q L aq ww hS hun hq hd fr kn => ⟨trivial, fun K hK => wp_value (exec_move rfl kn.1) (hK _ _ rfl (sl_same (by decide) hS))⟩),
                                    (fun Q L aq ww hS hun hq hd fr kn => ⟨trivial, fun K hK => wp_value (exec_ext rfl kn.1 rfl) (hK _ _ rfl (sl_same (by decide) hS))⟩),
                                    (fun Q L aq ww hS hun hq hd fr kn => ⟨trivial, fun K hK => wp_value (exec_ext rfl kn.1 rfl) (hK _ _ rfl (sl_same (by decide) hS))⟩),
                                    (fun Q L aq ww hS hun hq hd fr kn => ⟨trivial, fun K hK => wp_value (exec_ext rfl kn.1 rfl) (hK _ _ rfl (sl_same (by decide) hS))⟩),
                                    (fun Q L aq ww hS hun hq hd fr kn => ⟨trivial, fun K hK => wp_value (exec_assign rfl kn.1) (hK _ _ rfl (sl_same (by decide) hS))⟩),
                                    (fun Q L aq ww hS hun hq hd fr kn => ⟨trivial, fun K hK => wp_value (exec_assign rfl kn.1) (hK _ _ rfl (sl_same (by decide) hS))⟩),
                                    (fun Q L aq ww hS hun hq hd fr kn => ⟨trivial, fun K hK => wp_value (exec_assign rfl kn.1) (hK _ _ rfl (sl_same (by decide) hS))⟩),
                                    trivial⟩ ?_
                              intro vs L u6 hS6 hL6 hk6
                              obtain ⟨h6, g6⟩ := sl_b hS6 (hL6 10 (by decide))
                              have e23 : vs 23 = .string tx := hk6 15 (by decide)
                              have e24 : vs 24 = .int .i64 ep := hk6 16 (by decide)
                              have e25 : vs 25 = .int .i64 er := hk6 17 (by decide)
                              clear hk6 hS6 hL6 HO h5 g5
                              simp only [putAll, Act.put, List.setIfInBounds_toArray, List.set_cons_zero, List.set_cons_succ, e23, e24, e25]
                              clear e23 e24 e25
                              have ct := el_t g6
                              have cd := el_d g6
                              have cw := h6.wayc he
                              rw [hvp] at cw
                              have hr6 := h6.row he
                              rw [hvp] at hr6
                              have c4 : u6.cell? ⟨g, k * 5 + 4, none⟩ = some (.bool (Z e k).done) := by rw [Nat.mul_comm k 5]; exact own_el hr6 hk 4 (by omega)
                              have f4 := own_free hr6 (k * 5 + 4)
                              have hmk : ∀ d : Bool, OnSt w bs bw b (fun _ => False) (u6.setCell ⟨g, k * 5 + 4, none⟩ (.bool d)).drew (setG σ e σ1) vv nn (setG Z e (setG (Z e) k (elDone (Z e k) d))) := fun d => by rw [Nat.mul_comm k 5]; exact ((h6.sub (N' := fun _ => False) (fun k e => e.elim)).mark he hvp hk d).1.below (below_drew _)
                              clear hr6
                              have hki : (k : Int) < (nn e : Int) := by omega
                              rcases ONO.out with ⟨rfl, rfl, hdn, on'⟩ | ⟨her, rfl, on'⟩
                              · have HX := Hid.mk (And.intro (hmk true) on')
                                clear ONO on' h6 hmk
                                rw [hdn] at cd c4
                                as_aux_lemma =>
                                  go_wp2_with (refine wl_value rfl (exec_neqS (s := (Z e k).text) (t := (Z e k).text) rfl (by rfl) (by rfl) rfl) ?_)
                                  go_region
                                  go_wp2_with fail
                                  go_meet
                                  case rel => exact ⟨_, vv, nn, _, now, rfl, by omega, by omega, HX⟩
                              · have her1 : (er == 0) = false := beq_eq_false_iff_ne.2 her
                                cases hdn : (Z e k).done
                                · rw [hdn] at cd c4 on'
                                  have HX := Hid.mk (And.intro (hmk false) on')
                                  clear ONO on' h6 hmk
                                  as_aux_lemma =>
                                    go_wp2_with (refine wl_value rfl (exec_neqS (s := ByteArray.empty) (t := ByteArray.empty) rfl (by rfl) (by rfl) rfl) ?_)
                                    go_region
                                    go_wp2_with fail
                                    go_meet
                                    case rel => exact ⟨_, vv, nn, _, now, rfl, by omega, by omega, HX⟩
                                · rw [hdn] at cd c4 on'
                                  have HX := Hid.mk (And.intro (hmk true) on')
                                  clear ONO on' h6 hmk
                                  as_aux_lemma =>
                                    go_wp2_with (refine wl_value rfl (exec_neqS (s := ByteArray.empty) (t := ByteArray.empty) rfl (by rfl) (by rfl) rfl) ?_)
                                    go_region
                                    go_wp2_with fail
                                    go_meet
                                    case rel => exact ⟨_, vv, nn, _, now, rfl, by omega, by omega, HX⟩
                    · have hd2 : decide (km = 3 ∨ km = 4) = false := decide_eq_false kt
                      have ca : wc.cell? ⟨g8, 2, none⟩ = some (.int .i64 xa) := stp_a g2
                      as_aux_lemma =>
                        go_wp2_with fail
                        refine (pick9_run xa 40000 wc hX3 (by omega)).mono ?_
                        rintro e' u3 ⟨rfl, hu3⟩
                        subst hu3
                        obtain ⟨hd0, hd4⟩ := pkF_range (c := xa) (n := 40000) (by omega)
                        generalize pkF xa 40000 = d at *
                        have h3 := h2.sub (N' := fun _ => False) (fun k e => e.elim)
                        clear h2 g2 ca
                        have hs0 : 0 ≤ now + d := by omega
                        have hs1 : now + d ≤ 9223372036854775807 := by omega
                        have on' := on.expire (now := now + d) (by omega) (e := 0) (o := 1) (by omega) (by omega)
                        have HE : ∀ (s : Nat) (τ : Nat → Ses) (u : World), s < 2 → τ s = σ s → OnSt w bs bw b (fun _ => False) u τ vv nn Z → Calls Try.prog 16 #[.pointer (some ⟨b s, 0, none⟩), .int .i64 (now + d)] u fun en w' => (∃ vo, en = .returned vo) ∧ OnSt w bs bw b (fun _ => False) w' (setG τ s (expireS (σ s) (now + d))) vv nn Z := fun s τ u hs hτ hu => by
                          refine (hu.call hs (s' := expireS (σ s) (now + d)) (P := fun en _ => ∃ vo, en = .returned vo) (fun k e => e.elim) (fun S hS => by
                            rw [hτ] at hS
                            refine (Expire_run (now + d) hS (on.ok s hs) (by omega)).mono ?_
                            rintro en w' ⟨vo, rfl, p1, p2⟩
                            exact ⟨⟨vo, rfl⟩, p2⟩)).mono ?_
                          rintro en w' ⟨p0, p1, p2⟩
                          exact ⟨p0, p1⟩
                        have HE0 := Hid.mk (HE 0 σ u3 (by omega) rfl h3)
                        have HE1 := Hid.mk (fun u hu => HE 1 (setG σ 0 (expireS (σ 0) (now + d))) u (by omega) (gD _ _ _ (by omega)) hu)
                        clear HE on
                        have ON := Hid.mk on'
                        clear on'
                        generalize expireS (σ 0) (now + d) = σ1 at *
                        generalize expireS (σ 1) (now + d) = σ2 at *
                        have c3 := h3.ptr (e := 0) (by omega)
                        clear h3
                        as_aux_lemma =>
                          go_wp2_with fail
                          refine HE0.out.mono ?_
                          rintro e' u4 ⟨⟨vo, rfl⟩, h4⟩
                          have c4 := h4.ptr (e := 1) (by omega)
                          clear HE0 c3
                          go_wp2_with fail
                          refine (HE1.out u4 h4).mono ?_
                          rintro e' u5 ⟨⟨vo1, rfl⟩, h5⟩
                          have HX := Hid.mk (And.intro h5 ON.out)
                          clear HE1 ON h4 h5 c4
                          go_wp2_with fail
                          go_meet
                          case rel => exact ⟨_, vv, nn, Z, now + d, rfl, by omega, by omega, HX⟩
        case rest =>
          obtain ⟨σ', vv', nn', Z', now', rfl, hm0, hm1, HS'⟩ := hcut
          as_aux_lemma =>
            go_wp2_with fail
            go_roundg (n - (i + 1))
            case rel => exact ⟨i + 1, σ', vv', nn', Z', now', rfl, by omega, by omega, rfl, by go_num, by omega, by omega, HS'⟩
            case measure => omega
      · have h200i : ¬ (i : Int) < 200 := by omega
        have hlti : (i : Int) < (n : Int) := by omega
        have hd1 : decide ((i : Int) < (n : Int)) = true := decide_eq_true hlti
        have hd2 : decide ((i : Int) < 200) = false := decide_eq_false h200i
        as_aux_lemma =>
          go_wp2_with fail
          go_ret
          exact ⟨rfl, HS.out.1.bel⟩
    · have hlti : ¬ (i : Int) < (n : Int) := by omega
      have hd1 : decide ((i : Int) < (n : Int)) = false := decide_eq_false hlti
      as_aux_lemma =>
        go_wp2_with fail
        go_ret
        exact ⟨rfl, HS.out.1.bel⟩
end Go.Proofs.Ytbkbcfimpaolmaa
