/-
  Own text. The law SessionRetires, walked.
-/
import Derived.Test.YtbkbcfimpaolmaaJ9
namespace Go.Proofs.Ytbkbcfimpaolmaa
open Go.RowKit Go.Proofs
set_option maxRecDepth 100000
set_option maxHeartbeats 16000000 in
theorem retires_gone (n c : Int) (f : Bool) (w : World) {σ1 σ2 σ3 σ4 : Ses} (hn : 0 ≤ n) (hc : n % 20000 = c) (_h0 : 0 ≤ c) (_h1 : c < 20000) (hg : 8192 ≤ c + 1)
    (HP1 : Hid (∀ u sb S, SesAt u sb ses0 S → Calls Try.prog 12 #[.pointer (some ⟨sb, 0, none⟩), .int .i64 0, .agg (SC 66 (paiV (pks 1) (pkr 1) (ploc 1) (pfar 1))), .bool true] u fun e w' => e = .returned (.tuple #[.int .i64 1, .int .i64 0]) ∧ Goes SesAt u sb S σ1 w'))
    (HP2 : Hid (∀ u sb S, SesAt u sb σ1 S → Calls Try.prog 12 #[.pointer (some ⟨sb, 0, none⟩), .int .i64 1, .agg (SC 66 (paiV (pks 2) (pkr 2) (ploc 2) (pfar 2))), .bool f] u fun e w' => e = .returned (.tuple #[.int .i64 2, .int .i64 0]) ∧ Goes SesAt u sb S σ2 w'))
    (HO1 : Hid (∀ u sb S, SesAt u sb σ2 S → Calls Try.prog 15 #[.pointer (some ⟨sb, 0, none⟩), .int .i64 2, .int .u32 (ploc 2), .int .u64 c, .string (boxT (pkr 2) (nonN c) ⟨#[120]⟩ ByteArray.empty)] u fun e w' => e = .returned (.tuple #[.string ⟨#[120]⟩, .int .i64 2, .int .i64 0]) ∧ Goes SesAt u sb S σ3 w'))
    (HO2 : Hid (∀ u sb S, SesAt u sb σ3 S → Calls Try.prog 15 #[.pointer (some ⟨sb, 0, none⟩), .int .i64 3, .int .u32 (ploc 1), .int .u64 5, .string (boxT (pkr 1) (nonN 5) ⟨#[121]⟩ ByteArray.empty)] u fun e w' => e = .returned (.tuple #[.string ByteArray.empty, .int .i64 0, .int .i64 15]) ∧ Goes SesAt u sb S σ4 w'))
    (HSL : Hid (∀ u sb S, SesAt u sb σ4 S → Calls Try.prog 19 #[.pointer (some ⟨sb, 0, none⟩)] u fun e w' => (∃ p cap, e = .returned (.slice p 1 cap)) ∧ Below u.heap.size u w')) :
    Calls Try.prog 4 #[.int .u64 n, .bool f] w fun e w' => e = .returned (.bool true) ∧ Below w.heap.size w w' := by
  have hdec : decide (8192 ≤ c + 1) = true := decide_eq_true hg
  have HF : ∀ k : Nat, False → k < 0 := fun k e => e.elim
  go_enter Try.func4, Try.ntmps4
  go_wp2_with fail
  refine (awake_run w).mono ?_
  rintro e v1 ⟨rfl, hA1⟩
  go_wp2_with fail
  refine (New_run9 v1).mono ?_
  rintro e v2 ⟨sb, rfl, hs2, hsb, hA2⟩
  have hN := SeSt.new hA1 hs2 hsb hA2
  clear hs2 hsb hA2 hA1
  go_wp2_with fail
  refine (pair_run 1 _).mono ?_
  rintro e v1 ⟨rfl, hB1⟩
  go_wp2_with fail
  refine ((hN.below hB1).call (fun k e => e.elim) (fun S hS => HP1.out v1 sb S hS)).mono ?_
  rintro e v3 ⟨rfl, hN3, k3⟩
  clear hN hB1 k3
  go_wp2_with fail
  refine (pair_run 2 _).mono ?_
  rintro e v1 ⟨rfl, hB1⟩
  go_wp2_with fail
  refine ((hN3.below hB1).call (fun k e => e.elim) (fun S hS => HP2.out v1 sb S hS)).mono ?_
  rintro e v4 ⟨rfl, hN4, k4⟩
  clear hN3 hB1 k4
  go_wp2_with fail
  refine (pair_run 2 _).mono ?_
  rintro e v1 ⟨rfl, hB1⟩
  have h1 := hN4.below hB1
  go_wp2_with (refine wl_al zeroPairV ?_; intro gp v2 hgp g2 hB2; refine Hid.out ?_)
  refine Hid.mk ?_
  have h2' := (h1.keep hgp hB2)
  have hgw : w.heap.size ≤ gp := Nat.le_trans h1.size hgp
  clear h1 hN4 hB1
  go_wp2_with (refine st_st isPair (paiV_one _ _ _ _) g2 (by rfl) (by rfl) ?_; intro v3 g3 o3; refine Hid.out ?_)
  refine Hid.mk ?_
  have h3 := st_sub (st_only h2' o3 hgw) (N' := fun k => k = gp) (fun k e => .inr e)
  clear h2' g2 hB2 o3 hgp hgw
  have HO : Hid (∀ v, (SeSt w sb (fun k => k = gp) v σ2 ∧ SAt v gp 35 66 (paiV (pks 2) (pkr 2) (ploc 2) (pfar 2))) → Calls Try.prog 15 #[.pointer (some ⟨sb, 0, none⟩), .int .i64 2, .int .u32 (ploc 2), .int .u64 c, .string (boxT (pkr 2) (nonN c) ⟨#[120]⟩ ByteArray.empty)] v fun e w' => ∃ x, e = .returned x ∧ x = .tuple #[.string ⟨#[120]⟩, .int .i64 2, .int .i64 0] ∧ (SeSt w sb (fun k => k = gp) w' σ3 ∧ SAt w' gp 35 66 (paiV (pks 2) (pkr 2) (ploc 2) (pfar 2)))) := Hid.mk (fun v hv => by
    have gl := SAt.lt hv.2
    refine (hv.1.call (fun k e => e ▸ gl) (fun S hS => HO1.out v sb S hS)).mono ?_
    rintro e w' ⟨rfl, q1, q2⟩
    exact ⟨_, rfl, rfl, q1, SAt.block hv.2 (q2.2 gp gl rfl)⟩)
  go_wp2_with fail
  refine wp_region_steps4 (SL (fun v => SeSt w sb (fun k => k = gp) v σ2 ∧ SAt v gp 35 66 (paiV (pks 2) (pkr 2) (ploc 2) (pfar 2))) (fun v => SeSt w sb (fun k => k = gp) v σ3 ∧ SAt v gp 35 66 (paiV (pks 2) (pkr 2) (ploc 2) (pfar 2))) 9) (fun j x => x = ([.pointer (some ⟨sb, 0, none⟩), .pointer (some ⟨gp, 0 + 64, none⟩), .int .u32 (ploc 2), .int .u64 c, .pointer (some ⟨gp, 0 + 32, none⟩), .agg (WA .u8 32 (pkr 2)), .int .u64 c, .agg (WA .u8 12 (nonN c)), .string (boxT (pkr 2) (nonN c) ⟨#[120]⟩ ByteArray.empty), .tuple #[.string ⟨#[120]⟩, .int .i64 2, .int .i64 0], .tuple #[.string ⟨#[120]⟩, .int .i64 2, .int .i64 0], .string ⟨#[120]⟩, .int .i64 2, .int .i64 0, .string ⟨#[120]⟩, .int .i64 2, .int .i64 0] : List Value).getD j undef)
      [35, 36, 37, 38, 39, 40, 41, 42, 43, 44, 34, 45, 46, 47, 9, 10, 11]
      [(6, .pointer (some ⟨sb, 0, none⟩)), (7, .int .u64 c), (8, .pointer (some ⟨gp, 0, none⟩))]
      [[], [], [1], [], [], [4], [], [6], [5, 7], [0, 2, 3, 8], [9], [10], [10], [10], [11], [12], [13]]
      [[], [], [], [], [], [], [], [], [5, 7], [2, 5, 7, 8], [2, 5, 7, 8, 9], [2, 5, 7, 8, 9], [2, 5, 7, 8, 9], [2, 5, 7, 8, 9], [2, 5, 7, 8, 9], [2, 5, 7, 8, 9], [2, 5, 7, 8, 9]]
      [[], [], [9], [], [], [9], [], [9], [9], [], [], [], [], [], [], [], []]
      rfl (by kernel_rfl) ⟨rfl, rfl, rfl, trivial⟩ (sl_start ⟨h3.below (below_drew _), SAt.kept g3 (below_drew _)⟩)
      ⟨
        (fun Q L aq ww hS hun hq hd fr kn => ⟨trivial, fun K hK => wp_value (exec_move rfl fr.1) (hK _ _ rfl (sl_same (by decide) hS))⟩),
        (fun Q L aq ww hS hun hq hd fr kn => ⟨trivial, fun K hK => wp_value (exec_fpa (k := 2) rfl fr.2.2.1 (by decide)) (hK _ _ rfl (sl_same (by decide) hS))⟩),
        (fun Q L aq ww hS hun hq hd fr kn => ⟨trivial, fun K hK => wp_value (exec_ld rfl kn.1 (ld_u32 (pai_l (sl_a hS hd.1).2))) (hK _ _ rfl (sl_same (by decide) hS))⟩),
        (fun Q L aq ww hS hun hq hd fr kn => ⟨trivial, fun K hK => wp_value (exec_move rfl fr.2.1) (hK _ _ rfl (sl_same (by decide) hS))⟩),
        (fun Q L aq ww hS hun hq hd fr kn => ⟨trivial, fun K hK => wp_value (exec_fpa (k := 1) rfl fr.2.2.1 (by decide)) (hK _ _ rfl (sl_same (by decide) hS))⟩),
        (fun Q L aq ww hS hun hq hd fr kn => ⟨trivial, fun K hK => wp_value (exec_ldmid rfl isArr32 kn.1 (pai_r (sl_a hS hd.1).2)) (hK _ _ rfl (sl_same (by decide) hS))⟩),
        (fun Q L aq ww hS hun hq hd fr kn => ⟨trivial, fun K hK => wp_value (exec_move rfl fr.2.1) (hK _ _ rfl (sl_same (by decide) hS))⟩),
        (fun Q L aq ww hS hun hq hd fr kn => ⟨trivial, fun K hK => stepc enterRNonce9 rfl (args1 kn.1) (rNonce_run c ww (by omega)) (fun w' hb => hK _ _ rfl (sl_ahead (by decide) hd.1 (And.intro ((sl_a hS hd.1).1.below hb) (SAt.kept (sl_a hS hd.1).2 hb))))⟩),
        (fun Q L aq ww hS hun hq hd fr kn => ⟨trivial, fun K hK => stepc enterRSeal9 rfl (args4 kn.1 kn.2.1 rfl rfl) (rSeal_run (pkr 2) (nonN c) ⟨#[120]⟩ ByteArray.empty ww (pkr_b 2) nonN_b (by decide) (by decide)) (fun w' hb => hK _ _ rfl (sl_ahead (by decide) hd.1 (And.intro ((sl_a hS hd.1).1.below hb) (SAt.kept (sl_a hS hd.1).2 hb))))⟩),
        (fun Q L aq ww hS hun hq hd fr kn => ⟨trivial, fun K hK => stepp enterOpenS9 rfl (args5 kn.1 rfl kn.2.1 kn.2.2.1 kn.2.2.2.1) (HO.out ww (sl_a hS hun)) (fun v w' hv => hK _ _ hv.1 (sl_done hv.2))⟩),
        (fun Q L aq ww hS hun hq hd fr kn => ⟨trivial, fun K hK => wp_value (exec_move rfl kn.1) (hK _ _ rfl (sl_same (by decide) hS))⟩),
        (fun Q L aq ww hS hun hq hd fr kn => ⟨trivial, fun K hK => wp_value (exec_ext rfl kn.1 rfl) (hK _ _ rfl (sl_same (by decide) hS))⟩),
        (fun Q L aq ww hS hun hq hd fr kn => ⟨trivial, fun K hK => wp_value (exec_ext rfl kn.1 rfl) (hK _ _ rfl (sl_same (by decide) hS))⟩),
        (fun Q L aq ww hS hun hq hd fr kn => ⟨trivial, fun K hK => wp_value (exec_ext rfl kn.1 rfl) (hK _ _ rfl (sl_same (by decide) hS))⟩),
        (fun Q L aq ww hS hun hq hd fr kn => ⟨trivial, fun K hK => wp_value (exec_assign rfl kn.1) (hK _ _ rfl (sl_same (by decide) hS))⟩),
        (fun Q L aq ww hS hun hq hd fr kn => ⟨trivial, fun K hK => wp_value (exec_assign rfl kn.1) (hK _ _ rfl (sl_same (by decide) hS))⟩),
        (fun Q L aq ww hS hun hq hd fr kn => ⟨trivial, fun K hK => wp_value (exec_assign rfl kn.1) (hK _ _ rfl (sl_same (by decide) hS))⟩),
        trivial⟩ ?_
  intro vs L u6 hS6 hL6 hk6
  obtain ⟨h5, g6⟩ := sl_b hS6 (hL6 9 (by decide))
  have e9 : vs 9 = .string ⟨#[120]⟩ := hk6 14 (by decide)
  have e10 : vs 10 = .int .i64 2 := hk6 15 (by decide)
  have e11 : vs 11 = .int .i64 0 := hk6 16 (by decide)
  clear hk6 hS6 hL6 HO h3 g3 g6
  simp only [putAll, Act.put, List.setIfInBounds_toArray, List.set_cons_zero, List.set_cons_succ, e9, e10, e11]
  clear e9 e10 e11
  go_wp2_with fail
  refine (pair_run 1 _).mono ?_
  rintro e v1 ⟨rfl, hB1⟩
  have h1 := h5.below hB1
  go_wp2_with (refine wl_al zeroPairV ?_; intro gq v2 hgp g2 hB2; refine Hid.out ?_)
  refine Hid.mk ?_
  have h2' := (h1.keep hgp hB2)
  have hgw : w.heap.size ≤ gq := Nat.le_trans h1.size hgp
  clear h1 h5 hB1
  go_wp2_with (refine st_st isPair (paiV_one _ _ _ _) g2 (by rfl) (by rfl) ?_; intro v3 g3 o3; refine Hid.out ?_)
  refine Hid.mk ?_
  have h3 := st_sub (st_only h2' o3 hgw) (N' := fun k => k = gq) (fun k e => .inr e)
  clear h2' g2 hB2 o3 hgp hgw
  have HO : Hid (∀ v, (SeSt w sb (fun k => k = gq) v σ3 ∧ SAt v gq 35 66 (paiV (pks 1) (pkr 1) (ploc 1) (pfar 1))) → Calls Try.prog 15 #[.pointer (some ⟨sb, 0, none⟩), .int .i64 3, .int .u32 (ploc 1), .int .u64 5, .string (boxT (pkr 1) (nonN 5) ⟨#[121]⟩ ByteArray.empty)] v fun e w' => ∃ x, e = .returned x ∧ x = .tuple #[.string ByteArray.empty, .int .i64 0, .int .i64 15] ∧ (SeSt w sb (fun k => k = gq) w' σ4 ∧ SAt w' gq 35 66 (paiV (pks 1) (pkr 1) (ploc 1) (pfar 1)))) := Hid.mk (fun v hv => by
    have gl := SAt.lt hv.2
    refine (hv.1.call (fun k e => e ▸ gl) (fun S hS => HO2.out v sb S hS)).mono ?_
    rintro e w' ⟨rfl, q1, q2⟩
    exact ⟨_, rfl, rfl, q1, SAt.block hv.2 (q2.2 gq gl rfl)⟩)
  go_wp2_with fail
  refine wp_region_steps4 (SL (fun v => SeSt w sb (fun k => k = gq) v σ3 ∧ SAt v gq 35 66 (paiV (pks 1) (pkr 1) (ploc 1) (pfar 1))) (fun v => SeSt w sb (fun k => k = gq) v σ4 ∧ SAt v gq 35 66 (paiV (pks 1) (pkr 1) (ploc 1) (pfar 1))) 7) (fun j x => x = ([.pointer (some ⟨sb, 0, none⟩), .pointer (some ⟨gq, 0 + 64, none⟩), .int .u32 (ploc 1), .pointer (some ⟨gq, 0 + 32, none⟩), .agg (WA .u8 32 (pkr 1)), .agg (WA .u8 12 (nonN 5)), .string (boxT (pkr 1) (nonN 5) ⟨#[121]⟩ ByteArray.empty), .tuple #[.string ByteArray.empty, .int .i64 0, .int .i64 15], .tuple #[.string ByteArray.empty, .int .i64 0, .int .i64 15], .string ByteArray.empty, .int .i64 0, .int .i64 15, .string ByteArray.empty, .int .i64 0, .int .i64 15] : List Value).getD j undef)
      [50, 51, 52, 53, 54, 55, 56, 57, 49, 58, 59, 60, 13, 14, 15]
      [(6, .pointer (some ⟨sb, 0, none⟩)), (12, .pointer (some ⟨gq, 0, none⟩))]
      [[], [], [1], [], [3], [], [4, 5], [0, 2, 6], [7], [8], [8], [8], [9], [10], [11]]
      [[], [], [], [], [], [], [4, 5], [2, 4, 5, 6], [2, 4, 5, 6, 7], [2, 4, 5, 6, 7], [2, 4, 5, 6, 7], [2, 4, 5, 6, 7], [2, 4, 5, 6, 7], [2, 4, 5, 6, 7], [2, 4, 5, 6, 7]]
      [[], [], [7], [], [7], [7], [7], [], [], [], [], [], [], [], []]
      rfl (by kernel_rfl) ⟨rfl, rfl, trivial⟩ (sl_start ⟨h3.below (below_drew _), SAt.kept g3 (below_drew _)⟩)
      ⟨
        (fun Q L aq ww hS hun hq hd fr kn => ⟨trivial, fun K hK => wp_value (exec_move rfl fr.1) (hK _ _ rfl (sl_same (by decide) hS))⟩),
        (fun Q L aq ww hS hun hq hd fr kn => ⟨trivial, fun K hK => wp_value (exec_fpa (k := 2) rfl fr.2.1 (by decide)) (hK _ _ rfl (sl_same (by decide) hS))⟩),
        (fun Q L aq ww hS hun hq hd fr kn => ⟨trivial, fun K hK => wp_value (exec_ld rfl kn.1 (ld_u32 (pai_l (sl_a hS hd.1).2))) (hK _ _ rfl (sl_same (by decide) hS))⟩),
        (fun Q L aq ww hS hun hq hd fr kn => ⟨trivial, fun K hK => wp_value (exec_fpa (k := 1) rfl fr.2.1 (by decide)) (hK _ _ rfl (sl_same (by decide) hS))⟩),
        (fun Q L aq ww hS hun hq hd fr kn => ⟨trivial, fun K hK => wp_value (exec_ldmid rfl isArr32 kn.1 (pai_r (sl_a hS hd.1).2)) (hK _ _ rfl (sl_same (by decide) hS))⟩),
        (fun Q L aq ww hS hun hq hd fr kn => ⟨trivial, fun K hK => stepc enterRNonce9 rfl (args1 rfl) (rNonce_run 5 ww (by omega)) (fun w' hb => hK _ _ rfl (sl_ahead (by decide) hd.1 (And.intro ((sl_a hS hd.1).1.below hb) (SAt.kept (sl_a hS hd.1).2 hb))))⟩),
        (fun Q L aq ww hS hun hq hd fr kn => ⟨trivial, fun K hK => stepc enterRSeal9 rfl (args4 kn.1 kn.2.1 rfl rfl) (rSeal_run (pkr 1) (nonN 5) ⟨#[121]⟩ ByteArray.empty ww (pkr_b 1) nonN_b (by decide) (by decide)) (fun w' hb => hK _ _ rfl (sl_ahead (by decide) hd.1 (And.intro ((sl_a hS hd.1).1.below hb) (SAt.kept (sl_a hS hd.1).2 hb))))⟩),
        (fun Q L aq ww hS hun hq hd fr kn => ⟨trivial, fun K hK => stepp enterOpenS9 rfl (args5 kn.1 rfl kn.2.1 rfl kn.2.2.1) (HO.out ww (sl_a hS hun)) (fun v w' hv => hK _ _ hv.1 (sl_done hv.2))⟩),
        (fun Q L aq ww hS hun hq hd fr kn => ⟨trivial, fun K hK => wp_value (exec_move rfl kn.1) (hK _ _ rfl (sl_same (by decide) hS))⟩),
        (fun Q L aq ww hS hun hq hd fr kn => ⟨trivial, fun K hK => wp_value (exec_ext rfl kn.1 rfl) (hK _ _ rfl (sl_same (by decide) hS))⟩),
        (fun Q L aq ww hS hun hq hd fr kn => ⟨trivial, fun K hK => wp_value (exec_ext rfl kn.1 rfl) (hK _ _ rfl (sl_same (by decide) hS))⟩),
        (fun Q L aq ww hS hun hq hd fr kn => ⟨trivial, fun K hK => wp_value (exec_ext rfl kn.1 rfl) (hK _ _ rfl (sl_same (by decide) hS))⟩),
        (fun Q L aq ww hS hun hq hd fr kn => ⟨trivial, fun K hK => wp_value (exec_assign rfl kn.1) (hK _ _ rfl (sl_same (by decide) hS))⟩),
        (fun Q L aq ww hS hun hq hd fr kn => ⟨trivial, fun K hK => wp_value (exec_assign rfl kn.1) (hK _ _ rfl (sl_same (by decide) hS))⟩),
        (fun Q L aq ww hS hun hq hd fr kn => ⟨trivial, fun K hK => wp_value (exec_assign rfl kn.1) (hK _ _ rfl (sl_same (by decide) hS))⟩),
        trivial⟩ ?_
  intro vs L u7 hS6 hL6 hk6
  obtain ⟨h7, g6⟩ := sl_b hS6 (hL6 7 (by decide))
  have e13 : vs 13 = .string ByteArray.empty := hk6 12 (by decide)
  have e14 : vs 14 = .int .i64 0 := hk6 13 (by decide)
  have e15 : vs 15 = .int .i64 15 := hk6 14 (by decide)
  clear hk6 hS6 hL6 HO h3 g3 g6
  simp only [putAll, Act.put, List.setIfInBounds_toArray, List.set_cons_zero, List.set_cons_succ, e13, e14, e15]
  clear e13 e14 e15
  go_wp2_with fail
  refine (h7.reads (fun S hS => HSL.out u7 sb S hS)).mono ?_
  rintro e u8 ⟨⟨p, cap, rfl⟩, hB8⟩
  have hB := h7.bel.trans (hB8.mono h7.size)
  clear h7 hB8
  go_wp2_with fail
  go_ret
  exact ⟨rfl, hB⟩
set_option maxHeartbeats 16000000 in
theorem retires_there (n c : Int) (f : Bool) (w : World) {σ1 σ2 σ3 σ4 : Ses} (hn : 0 ≤ n) (hc : n % 20000 = c) (_h0 : 0 ≤ c) (_h1 : c < 20000) (hg : c + 1 < 8192)
    (HP1 : Hid (∀ u sb S, SesAt u sb ses0 S → Calls Try.prog 12 #[.pointer (some ⟨sb, 0, none⟩), .int .i64 0, .agg (SC 66 (paiV (pks 1) (pkr 1) (ploc 1) (pfar 1))), .bool true] u fun e w' => e = .returned (.tuple #[.int .i64 1, .int .i64 0]) ∧ Goes SesAt u sb S σ1 w'))
    (HP2 : Hid (∀ u sb S, SesAt u sb σ1 S → Calls Try.prog 12 #[.pointer (some ⟨sb, 0, none⟩), .int .i64 1, .agg (SC 66 (paiV (pks 2) (pkr 2) (ploc 2) (pfar 2))), .bool f] u fun e w' => e = .returned (.tuple #[.int .i64 2, .int .i64 0]) ∧ Goes SesAt u sb S σ2 w'))
    (HO1 : Hid (∀ u sb S, SesAt u sb σ2 S → Calls Try.prog 15 #[.pointer (some ⟨sb, 0, none⟩), .int .i64 2, .int .u32 (ploc 2), .int .u64 c, .string (boxT (pkr 2) (nonN c) ⟨#[120]⟩ ByteArray.empty)] u fun e w' => e = .returned (.tuple #[.string ⟨#[120]⟩, .int .i64 2, .int .i64 0]) ∧ Goes SesAt u sb S σ3 w'))
    (HO2 : Hid (∀ u sb S, SesAt u sb σ3 S → Calls Try.prog 15 #[.pointer (some ⟨sb, 0, none⟩), .int .i64 3, .int .u32 (ploc 1), .int .u64 5, .string (boxT (pkr 1) (nonN 5) ⟨#[121]⟩ ByteArray.empty)] u fun e w' => e = .returned (.tuple #[.string ⟨#[121]⟩, .int .i64 1, .int .i64 0]) ∧ Goes SesAt u sb S σ4 w'))
    (HSL : Hid (∀ u sb S, SesAt u sb σ4 S → Calls Try.prog 19 #[.pointer (some ⟨sb, 0, none⟩)] u fun e w' => (∃ p cap, e = .returned (.slice p 2 cap)) ∧ Below u.heap.size u w')) :
    Calls Try.prog 4 #[.int .u64 n, .bool f] w fun e w' => e = .returned (.bool true) ∧ Below w.heap.size w w' := by
  have hdec : decide (8192 ≤ c + 1) = false := decide_eq_false (by omega)
  have HF : ∀ k : Nat, False → k < 0 := fun k e => e.elim
  go_enter Try.func4, Try.ntmps4
  go_wp2_with fail
  refine (awake_run w).mono ?_
  rintro e v1 ⟨rfl, hA1⟩
  go_wp2_with fail
  refine (New_run9 v1).mono ?_
  rintro e v2 ⟨sb, rfl, hs2, hsb, hA2⟩
  have hN := SeSt.new hA1 hs2 hsb hA2
  clear hs2 hsb hA2 hA1
  go_wp2_with fail
  refine (pair_run 1 _).mono ?_
  rintro e v1 ⟨rfl, hB1⟩
  go_wp2_with fail
  refine ((hN.below hB1).call (fun k e => e.elim) (fun S hS => HP1.out v1 sb S hS)).mono ?_
  rintro e v3 ⟨rfl, hN3, k3⟩
  clear hN hB1 k3
  go_wp2_with fail
  refine (pair_run 2 _).mono ?_
  rintro e v1 ⟨rfl, hB1⟩
  go_wp2_with fail
  refine ((hN3.below hB1).call (fun k e => e.elim) (fun S hS => HP2.out v1 sb S hS)).mono ?_
  rintro e v4 ⟨rfl, hN4, k4⟩
  clear hN3 hB1 k4
  go_wp2_with fail
  refine (pair_run 2 _).mono ?_
  rintro e v1 ⟨rfl, hB1⟩
  have h1 := hN4.below hB1
  go_wp2_with (refine wl_al zeroPairV ?_; intro gp v2 hgp g2 hB2; refine Hid.out ?_)
  refine Hid.mk ?_
  have h2' := (h1.keep hgp hB2)
  have hgw : w.heap.size ≤ gp := Nat.le_trans h1.size hgp
  clear h1 hN4 hB1
  go_wp2_with (refine st_st isPair (paiV_one _ _ _ _) g2 (by rfl) (by rfl) ?_; intro v3 g3 o3; refine Hid.out ?_)
  refine Hid.mk ?_
  have h3 := st_sub (st_only h2' o3 hgw) (N' := fun k => k = gp) (fun k e => .inr e)
  clear h2' g2 hB2 o3 hgp hgw
  have HO : Hid (∀ v, (SeSt w sb (fun k => k = gp) v σ2 ∧ SAt v gp 35 66 (paiV (pks 2) (pkr 2) (ploc 2) (pfar 2))) → Calls Try.prog 15 #[.pointer (some ⟨sb, 0, none⟩), .int .i64 2, .int .u32 (ploc 2), .int .u64 c, .string (boxT (pkr 2) (nonN c) ⟨#[120]⟩ ByteArray.empty)] v fun e w' => ∃ x, e = .returned x ∧ x = .tuple #[.string ⟨#[120]⟩, .int .i64 2, .int .i64 0] ∧ (SeSt w sb (fun k => k = gp) w' σ3 ∧ SAt w' gp 35 66 (paiV (pks 2) (pkr 2) (ploc 2) (pfar 2)))) := Hid.mk (fun v hv => by
    have gl := SAt.lt hv.2
    refine (hv.1.call (fun k e => e ▸ gl) (fun S hS => HO1.out v sb S hS)).mono ?_
    rintro e w' ⟨rfl, q1, q2⟩
    exact ⟨_, rfl, rfl, q1, SAt.block hv.2 (q2.2 gp gl rfl)⟩)
  go_wp2_with fail
  refine wp_region_steps4 (SL (fun v => SeSt w sb (fun k => k = gp) v σ2 ∧ SAt v gp 35 66 (paiV (pks 2) (pkr 2) (ploc 2) (pfar 2))) (fun v => SeSt w sb (fun k => k = gp) v σ3 ∧ SAt v gp 35 66 (paiV (pks 2) (pkr 2) (ploc 2) (pfar 2))) 9) (fun j x => x = ([.pointer (some ⟨sb, 0, none⟩), .pointer (some ⟨gp, 0 + 64, none⟩), .int .u32 (ploc 2), .int .u64 c, .pointer (some ⟨gp, 0 + 32, none⟩), .agg (WA .u8 32 (pkr 2)), .int .u64 c, .agg (WA .u8 12 (nonN c)), .string (boxT (pkr 2) (nonN c) ⟨#[120]⟩ ByteArray.empty), .tuple #[.string ⟨#[120]⟩, .int .i64 2, .int .i64 0], .tuple #[.string ⟨#[120]⟩, .int .i64 2, .int .i64 0], .string ⟨#[120]⟩, .int .i64 2, .int .i64 0, .string ⟨#[120]⟩, .int .i64 2, .int .i64 0] : List Value).getD j undef)
      [35, 36, 37, 38, 39, 40, 41, 42, 43, 44, 34, 45, 46, 47, 9, 10, 11]
      [(6, .pointer (some ⟨sb, 0, none⟩)), (7, .int .u64 c), (8, .pointer (some ⟨gp, 0, none⟩))]
      [[], [], [1], [], [], [4], [], [6], [5, 7], [0, 2, 3, 8], [9], [10], [10], [10], [11], [12], [13]]
      [[], [], [], [], [], [], [], [], [5, 7], [2, 5, 7, 8], [2, 5, 7, 8, 9], [2, 5, 7, 8, 9], [2, 5, 7, 8, 9], [2, 5, 7, 8, 9], [2, 5, 7, 8, 9], [2, 5, 7, 8, 9], [2, 5, 7, 8, 9]]
      [[], [], [9], [], [], [9], [], [9], [9], [], [], [], [], [], [], [], []]
      rfl (by kernel_rfl) ⟨rfl, rfl, rfl, trivial⟩ (sl_start ⟨h3.below (below_drew _), SAt.kept g3 (below_drew _)⟩)
      ⟨
        (fun Q L aq ww hS hun hq hd fr kn => ⟨trivial, fun K hK => wp_value (exec_move rfl fr.1) (hK _ _ rfl (sl_same (by decide) hS))⟩),
        (fun Q L aq ww hS hun hq hd fr kn => ⟨trivial, fun K hK => wp_value (exec_fpa (k := 2) rfl fr.2.2.1 (by decide)) (hK _ _ rfl (sl_same (by decide) hS))⟩),
        (fun Q L aq ww hS hun hq hd fr kn => ⟨trivial, fun K hK => wp_value (exec_ld rfl kn.1 (ld_u32 (pai_l (sl_a hS hd.1).2))) (hK _ _ rfl (sl_same (by decide) hS))⟩),
        (fun Q L aq ww hS hun hq hd fr kn => ⟨trivial, fun K hK => wp_value (exec_move rfl fr.2.1) (hK _ _ rfl (sl_same (by decide) hS))⟩),
        (fun Q L aq ww hS hun hq hd fr kn => ⟨trivial, fun K hK => wp_value (exec_fpa (k := 1) rfl fr.2.2.1 (by decide)) (hK _ _ rfl (sl_same (by decide) hS))⟩),
        (fun Q L aq ww hS hun hq hd fr kn => ⟨trivial, fun K hK => wp_value (exec_ldmid rfl isArr32 kn.1 (pai_r (sl_a hS hd.1).2)) (hK _ _ rfl (sl_same (by decide) hS))⟩),
        (fun Q L aq ww hS hun hq hd fr kn => ⟨trivial, fun K hK => wp_value (exec_move rfl fr.2.1) (hK _ _ rfl (sl_same (by decide) hS))⟩),
        (fun Q L aq ww hS hun hq hd fr kn => ⟨trivial, fun K hK => stepc enterRNonce9 rfl (args1 kn.1) (rNonce_run c ww (by omega)) (fun w' hb => hK _ _ rfl (sl_ahead (by decide) hd.1 (And.intro ((sl_a hS hd.1).1.below hb) (SAt.kept (sl_a hS hd.1).2 hb))))⟩),
        (fun Q L aq ww hS hun hq hd fr kn => ⟨trivial, fun K hK => stepc enterRSeal9 rfl (args4 kn.1 kn.2.1 rfl rfl) (rSeal_run (pkr 2) (nonN c) ⟨#[120]⟩ ByteArray.empty ww (pkr_b 2) nonN_b (by decide) (by decide)) (fun w' hb => hK _ _ rfl (sl_ahead (by decide) hd.1 (And.intro ((sl_a hS hd.1).1.below hb) (SAt.kept (sl_a hS hd.1).2 hb))))⟩),
        (fun Q L aq ww hS hun hq hd fr kn => ⟨trivial, fun K hK => stepp enterOpenS9 rfl (args5 kn.1 rfl kn.2.1 kn.2.2.1 kn.2.2.2.1) (HO.out ww (sl_a hS hun)) (fun v w' hv => hK _ _ hv.1 (sl_done hv.2))⟩),
        (fun Q L aq ww hS hun hq hd fr kn => ⟨trivial, fun K hK => wp_value (exec_move rfl kn.1) (hK _ _ rfl (sl_same (by decide) hS))⟩),
        (fun Q L aq ww hS hun hq hd fr kn => ⟨trivial, fun K hK => wp_value (exec_ext rfl kn.1 rfl) (hK _ _ rfl (sl_same (by decide) hS))⟩),
        (fun Q L aq ww hS hun hq hd fr kn => ⟨trivial, fun K hK => wp_value (exec_ext rfl kn.1 rfl) (hK _ _ rfl (sl_same (by decide) hS))⟩),
        (fun Q L aq ww hS hun hq hd fr kn => ⟨trivial, fun K hK => wp_value (exec_ext rfl kn.1 rfl) (hK _ _ rfl (sl_same (by decide) hS))⟩),
        (fun Q L aq ww hS hun hq hd fr kn => ⟨trivial, fun K hK => wp_value (exec_assign rfl kn.1) (hK _ _ rfl (sl_same (by decide) hS))⟩),
        (fun Q L aq ww hS hun hq hd fr kn => ⟨trivial, fun K hK => wp_value (exec_assign rfl kn.1) (hK _ _ rfl (sl_same (by decide) hS))⟩),
        (fun Q L aq ww hS hun hq hd fr kn => ⟨trivial, fun K hK => wp_value (exec_assign rfl kn.1) (hK _ _ rfl (sl_same (by decide) hS))⟩),
        trivial⟩ ?_
  intro vs L u6 hS6 hL6 hk6
  obtain ⟨h5, g6⟩ := sl_b hS6 (hL6 9 (by decide))
  have e9 : vs 9 = .string ⟨#[120]⟩ := hk6 14 (by decide)
  have e10 : vs 10 = .int .i64 2 := hk6 15 (by decide)
  have e11 : vs 11 = .int .i64 0 := hk6 16 (by decide)
  clear hk6 hS6 hL6 HO h3 g3 g6
  simp only [putAll, Act.put, List.setIfInBounds_toArray, List.set_cons_zero, List.set_cons_succ, e9, e10, e11]
  clear e9 e10 e11
  go_wp2_with fail
  refine (pair_run 1 _).mono ?_
  rintro e v1 ⟨rfl, hB1⟩
  have h1 := h5.below hB1
  go_wp2_with (refine wl_al zeroPairV ?_; intro gq v2 hgp g2 hB2; refine Hid.out ?_)
  refine Hid.mk ?_
  have h2' := (h1.keep hgp hB2)
  have hgw : w.heap.size ≤ gq := Nat.le_trans h1.size hgp
  clear h1 h5 hB1
  go_wp2_with (refine st_st isPair (paiV_one _ _ _ _) g2 (by rfl) (by rfl) ?_; intro v3 g3 o3; refine Hid.out ?_)
  refine Hid.mk ?_
  have h3 := st_sub (st_only h2' o3 hgw) (N' := fun k => k = gq) (fun k e => .inr e)
  clear h2' g2 hB2 o3 hgp hgw
  have HO : Hid (∀ v, (SeSt w sb (fun k => k = gq) v σ3 ∧ SAt v gq 35 66 (paiV (pks 1) (pkr 1) (ploc 1) (pfar 1))) → Calls Try.prog 15 #[.pointer (some ⟨sb, 0, none⟩), .int .i64 3, .int .u32 (ploc 1), .int .u64 5, .string (boxT (pkr 1) (nonN 5) ⟨#[121]⟩ ByteArray.empty)] v fun e w' => ∃ x, e = .returned x ∧ x = .tuple #[.string ⟨#[121]⟩, .int .i64 1, .int .i64 0] ∧ (SeSt w sb (fun k => k = gq) w' σ4 ∧ SAt w' gq 35 66 (paiV (pks 1) (pkr 1) (ploc 1) (pfar 1)))) := Hid.mk (fun v hv => by
    have gl := SAt.lt hv.2
    refine (hv.1.call (fun k e => e ▸ gl) (fun S hS => HO2.out v sb S hS)).mono ?_
    rintro e w' ⟨rfl, q1, q2⟩
    exact ⟨_, rfl, rfl, q1, SAt.block hv.2 (q2.2 gq gl rfl)⟩)
  go_wp2_with fail
  refine wp_region_steps4 (SL (fun v => SeSt w sb (fun k => k = gq) v σ3 ∧ SAt v gq 35 66 (paiV (pks 1) (pkr 1) (ploc 1) (pfar 1))) (fun v => SeSt w sb (fun k => k = gq) v σ4 ∧ SAt v gq 35 66 (paiV (pks 1) (pkr 1) (ploc 1) (pfar 1))) 7) (fun j x => x = ([.pointer (some ⟨sb, 0, none⟩), .pointer (some ⟨gq, 0 + 64, none⟩), .int .u32 (ploc 1), .pointer (some ⟨gq, 0 + 32, none⟩), .agg (WA .u8 32 (pkr 1)), .agg (WA .u8 12 (nonN 5)), .string (boxT (pkr 1) (nonN 5) ⟨#[121]⟩ ByteArray.empty), .tuple #[.string ⟨#[121]⟩, .int .i64 1, .int .i64 0], .tuple #[.string ⟨#[121]⟩, .int .i64 1, .int .i64 0], .string ⟨#[121]⟩, .int .i64 1, .int .i64 0, .string ⟨#[121]⟩, .int .i64 1, .int .i64 0] : List Value).getD j undef)
      [50, 51, 52, 53, 54, 55, 56, 57, 49, 58, 59, 60, 13, 14, 15]
      [(6, .pointer (some ⟨sb, 0, none⟩)), (12, .pointer (some ⟨gq, 0, none⟩))]
      [[], [], [1], [], [3], [], [4, 5], [0, 2, 6], [7], [8], [8], [8], [9], [10], [11]]
      [[], [], [], [], [], [], [4, 5], [2, 4, 5, 6], [2, 4, 5, 6, 7], [2, 4, 5, 6, 7], [2, 4, 5, 6, 7], [2, 4, 5, 6, 7], [2, 4, 5, 6, 7], [2, 4, 5, 6, 7], [2, 4, 5, 6, 7]]
      [[], [], [7], [], [7], [7], [7], [], [], [], [], [], [], [], []]
      rfl (by kernel_rfl) ⟨rfl, rfl, trivial⟩ (sl_start ⟨h3.below (below_drew _), SAt.kept g3 (below_drew _)⟩)
      ⟨
        (fun Q L aq ww hS hun hq hd fr kn => ⟨trivial, fun K hK => wp_value (exec_move rfl fr.1) (hK _ _ rfl (sl_same (by decide) hS))⟩),
        (fun Q L aq ww hS hun hq hd fr kn => ⟨trivial, fun K hK => wp_value (exec_fpa (k := 2) rfl fr.2.1 (by decide)) (hK _ _ rfl (sl_same (by decide) hS))⟩),
        (fun Q L aq ww hS hun hq hd fr kn => ⟨trivial, fun K hK => wp_value (exec_ld rfl kn.1 (ld_u32 (pai_l (sl_a hS hd.1).2))) (hK _ _ rfl (sl_same (by decide) hS))⟩),
        (fun Q L aq ww hS hun hq hd fr kn => ⟨trivial, fun K hK => wp_value (exec_fpa (k := 1) rfl fr.2.1 (by decide)) (hK _ _ rfl (sl_same (by decide) hS))⟩),
        (fun Q L aq ww hS hun hq hd fr kn => ⟨trivial, fun K hK => wp_value (exec_ldmid rfl isArr32 kn.1 (pai_r (sl_a hS hd.1).2)) (hK _ _ rfl (sl_same (by decide) hS))⟩),
        (fun Q L aq ww hS hun hq hd fr kn => ⟨trivial, fun K hK => stepc enterRNonce9 rfl (args1 rfl) (rNonce_run 5 ww (by omega)) (fun w' hb => hK _ _ rfl (sl_ahead (by decide) hd.1 (And.intro ((sl_a hS hd.1).1.below hb) (SAt.kept (sl_a hS hd.1).2 hb))))⟩),
        (fun Q L aq ww hS hun hq hd fr kn => ⟨trivial, fun K hK => stepc enterRSeal9 rfl (args4 kn.1 kn.2.1 rfl rfl) (rSeal_run (pkr 1) (nonN 5) ⟨#[121]⟩ ByteArray.empty ww (pkr_b 1) nonN_b (by decide) (by decide)) (fun w' hb => hK _ _ rfl (sl_ahead (by decide) hd.1 (And.intro ((sl_a hS hd.1).1.below hb) (SAt.kept (sl_a hS hd.1).2 hb))))⟩),
        (fun Q L aq ww hS hun hq hd fr kn => ⟨trivial, fun K hK => stepp enterOpenS9 rfl (args5 kn.1 rfl kn.2.1 rfl kn.2.2.1) (HO.out ww (sl_a hS hun)) (fun v w' hv => hK _ _ hv.1 (sl_done hv.2))⟩),
        (fun Q L aq ww hS hun hq hd fr kn => ⟨trivial, fun K hK => wp_value (exec_move rfl kn.1) (hK _ _ rfl (sl_same (by decide) hS))⟩),
        (fun Q L aq ww hS hun hq hd fr kn => ⟨trivial, fun K hK => wp_value (exec_ext rfl kn.1 rfl) (hK _ _ rfl (sl_same (by decide) hS))⟩),
        (fun Q L aq ww hS hun hq hd fr kn => ⟨trivial, fun K hK => wp_value (exec_ext rfl kn.1 rfl) (hK _ _ rfl (sl_same (by decide) hS))⟩),
        (fun Q L aq ww hS hun hq hd fr kn => ⟨trivial, fun K hK => wp_value (exec_ext rfl kn.1 rfl) (hK _ _ rfl (sl_same (by decide) hS))⟩),
        (fun Q L aq ww hS hun hq hd fr kn => ⟨trivial, fun K hK => wp_value (exec_assign rfl kn.1) (hK _ _ rfl (sl_same (by decide) hS))⟩),
        (fun Q L aq ww hS hun hq hd fr kn => ⟨trivial, fun K hK => wp_value (exec_assign rfl kn.1) (hK _ _ rfl (sl_same (by decide) hS))⟩),
        (fun Q L aq ww hS hun hq hd fr kn => ⟨trivial, fun K hK => wp_value (exec_assign rfl kn.1) (hK _ _ rfl (sl_same (by decide) hS))⟩),
        trivial⟩ ?_
  intro vs L u7 hS6 hL6 hk6
  obtain ⟨h7, g6⟩ := sl_b hS6 (hL6 7 (by decide))
  have e13 : vs 13 = .string ⟨#[121]⟩ := hk6 12 (by decide)
  have e14 : vs 14 = .int .i64 1 := hk6 13 (by decide)
  have e15 : vs 15 = .int .i64 0 := hk6 14 (by decide)
  clear hk6 hS6 hL6 HO h3 g3 g6
  simp only [putAll, Act.put, List.setIfInBounds_toArray, List.set_cons_zero, List.set_cons_succ, e13, e14, e15]
  clear e13 e14 e15
  go_wp2_with fail
  refine (h7.reads (fun S hS => HSL.out u7 sb S hS)).mono ?_
  rintro e u8 ⟨⟨p, cap, rfl⟩, hB8⟩
  have hB := h7.bel.trans (hB8.mono h7.size)
  clear h7 hB8
  go_wp2_with fail
  go_ret
  exact ⟨rfl, hB⟩
set_option maxHeartbeats 4000000 in
theorem retires_walk (n : Int) (f : Bool) (w : World) (hn : 0 ≤ n) : Calls Try.prog 4 #[.int .u64 n, .bool f] w fun e w' => e = .returned (.bool true) ∧ Below w.heap.size w w' := by
  obtain ⟨c, hc⟩ : ∃ c, n % 20000 = c := ⟨_, rfl⟩
  have h0 : 0 ≤ c := by omega
  have h1 : c < 20000 := by omega
  have hU : U64 c := by unfold U64; omega
  have hU5 : U64 5 := by unfold U64; omega
  have hbx : (boxT (pkr 2) (nonN c) ⟨#[120]⟩ ByteArray.empty).size ≤ 140737488355328 := by rw [boxT_size]; decide
  have hby : (boxT (pkr 1) (nonN 5) ⟨#[121]⟩ ByteArray.empty).size ≤ 140737488355328 := by rw [boxT_size]; decide
  have HP1 : Hid (∀ u sb S, SesAt u sb ses0 S → Calls Try.prog 12 #[.pointer (some ⟨sb, 0, none⟩), .int .i64 0, .agg (SC 66 (paiV (pks 1) (pkr 1) (ploc 1) (pfar 1))), .bool true] u fun e w' => e = .returned (.tuple #[.int .i64 1, .int .i64 0]) ∧ Goes SesAt u sb S rs1 w') := Hid.mk (fun u sb S h => by
    have := Put_run 0 (pks 1) (pkr 1) (ploc 1) (pfar 1) true h (by decide) (by decide)
    rw [sg_a] at this
    exact this)
  have HP2 : Hid (∀ u sb S, SesAt u sb rs1 S → Calls Try.prog 12 #[.pointer (some ⟨sb, 0, none⟩), .int .i64 1, .agg (SC 66 (paiV (pks 2) (pkr 2) (ploc 2) (pfar 2))), .bool f] u fun e w' => e = .returned (.tuple #[.int .i64 2, .int .i64 0]) ∧ Goes SesAt u sb S (rs2 f) w') := Hid.mk (fun u sb S h => by
    have := Put_run 1 (pks 2) (pkr 2) (ploc 2) (pfar 2) f h rs_ok1.c0 (by have := rs_ok1.c1; omega)
    rw [rs_a] at this
    exact this)
  obtain ⟨e3, o3, t3⟩ := rs3 f c h0 h1 ⟨#[120]⟩
  have ok3 := (rs_ok2 f).open (now := 2) (x := ploc 2) (c := c) (box := boxT (pkr 2) (nonN c) ⟨#[120]⟩ ByteArray.empty) (by omega) hU
  have HO1 : Hid (∀ u sb S, SesAt u sb (rs2 f) S → Calls Try.prog 15 #[.pointer (some ⟨sb, 0, none⟩), .int .i64 2, .int .u32 (ploc 2), .int .u64 c, .string (boxT (pkr 2) (nonN c) ⟨#[120]⟩ ByteArray.empty)] u fun e w' => e = .returned (.tuple #[.string ⟨#[120]⟩, .int .i64 2, .int .i64 0]) ∧ Goes SesAt u sb S (openS (rs2 f) 2 (ploc 2) c (boxT (pkr 2) (nonN c) ⟨#[120]⟩ ByteArray.empty)).2 w') := Hid.mk (fun u sb S h => by
    have := Open_run9 2 (ploc 2) c (boxT (pkr 2) (nonN c) ⟨#[120]⟩ ByteArray.empty) h (rs_ok2 f) (by omega) (by omega) hU hbx
    rw [e3] at this
    exact this)
  generalize hs3 : (openS (rs2 f) 2 (ploc 2) c (boxT (pkr 2) (nonN c) ⟨#[120]⟩ ByteArray.empty)).2 = σ3 at *
  by_cases hg : 8192 ≤ c + 1
  · rw [if_pos hg] at o3
    obtain ⟨e4, l4⟩ := rs4_gone o3 3 5 (boxT (pkr 1) (nonN 5) ⟨#[121]⟩ ByteArray.empty)
    have HO2 : Hid (∀ u sb S, SesAt u sb σ3 S → Calls Try.prog 15 #[.pointer (some ⟨sb, 0, none⟩), .int .i64 3, .int .u32 (ploc 1), .int .u64 5, .string (boxT (pkr 1) (nonN 5) ⟨#[121]⟩ ByteArray.empty)] u fun e w' => e = .returned (.tuple #[.string ByteArray.empty, .int .i64 0, .int .i64 15]) ∧ Goes SesAt u sb S (openS σ3 3 (ploc 1) 5 (boxT (pkr 1) (nonN 5) ⟨#[121]⟩ ByteArray.empty)).2 w') := Hid.mk (fun u sb S h => by
      have := Open_run9 3 (ploc 1) 5 (boxT (pkr 1) (nonN 5) ⟨#[121]⟩ ByteArray.empty) h ok3 (by omega) (by omega) hU5 hby
      rw [e4] at this
      exact this)
    have HSL : Hid (∀ u sb S, SesAt u sb (openS σ3 3 (ploc 1) 5 (boxT (pkr 1) (nonN 5) ⟨#[121]⟩ ByteArray.empty)).2 S → Calls Try.prog 19 #[.pointer (some ⟨sb, 0, none⟩)] u fun e w' => (∃ p cap, e = .returned (.slice p 1 cap)) ∧ Below u.heap.size u w') := Hid.mk (fun u sb S h => by
      refine (Slots_run h).mono ?_
      rintro e w' ⟨vo, rfl, q1, q2⟩
      obtain ⟨p, cap, rfl, _⟩ := own_told q1
      exact ⟨⟨p, cap, by rw [l4]⟩, q2⟩)
    exact retires_gone n c f w hn hc h0 h1 hg HP1 HP2 HO1 HO2 HSL
  · rw [if_neg hg] at o3
    obtain ⟨e4, l4⟩ := rs4_there o3 t3 ⟨#[121]⟩
    have HO2 : Hid (∀ u sb S, SesAt u sb σ3 S → Calls Try.prog 15 #[.pointer (some ⟨sb, 0, none⟩), .int .i64 3, .int .u32 (ploc 1), .int .u64 5, .string (boxT (pkr 1) (nonN 5) ⟨#[121]⟩ ByteArray.empty)] u fun e w' => e = .returned (.tuple #[.string ⟨#[121]⟩, .int .i64 1, .int .i64 0]) ∧ Goes SesAt u sb S (openS σ3 3 (ploc 1) 5 (boxT (pkr 1) (nonN 5) ⟨#[121]⟩ ByteArray.empty)).2 w') := Hid.mk (fun u sb S h => by
      have := Open_run9 3 (ploc 1) 5 (boxT (pkr 1) (nonN 5) ⟨#[121]⟩ ByteArray.empty) h ok3 (by omega) (by omega) hU5 hby
      rw [e4] at this
      exact this)
    have HSL : Hid (∀ u sb S, SesAt u sb (openS σ3 3 (ploc 1) 5 (boxT (pkr 1) (nonN 5) ⟨#[121]⟩ ByteArray.empty)).2 S → Calls Try.prog 19 #[.pointer (some ⟨sb, 0, none⟩)] u fun e w' => (∃ p cap, e = .returned (.slice p 2 cap)) ∧ Below u.heap.size u w') := Hid.mk (fun u sb S h => by
      refine (Slots_run h).mono ?_
      rintro e w' ⟨vo, rfl, q1, q2⟩
      obtain ⟨p, cap, rfl, _⟩ := own_told q1
      exact ⟨⟨p, cap, by rw [l4]⟩, q2⟩)
    exact retires_there n c f w hn hc h0 h1 (by omega) HP1 HP2 HO1 HO2 HSL
end Go.Proofs.Ytbkbcfimpaolmaa
