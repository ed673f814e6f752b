/-
  Own text. The law SessionDies, walked.
-/
import Derived.Test.YtbkbcfimpaolmaaJ8
namespace Go.Proofs.Ytbkbcfimpaolmaa
open Go.RowKit Go.Proofs
set_option maxRecDepth 100000
theorem enterRNonce9 (args : Array Value) (w : World) : (callFunc 18 args).run Try.prog w = .ok (.enter 18 args) w := by kernel_rfl
theorem enterRSeal9 (args : Array Value) (w : World) : (callFunc 17 args).run Try.prog w = .ok (.enter 17 args) w := by kernel_rfl
theorem enterOpenS9 (args : Array Value) (w : World) : (callFunc 15 args).run Try.prog w = .ok (.enter 15 args) w := by kernel_rfl
theorem enterDue9 (args : Array Value) (w : World) : (callFunc 22 args).run Try.prog w = .ok (.enter 22 args) w := by kernel_rfl
theorem below_drew (w : World) : Below w.heap.size w w.drew := (Below.refl _ w).drew
theorem tmod_gt (n : Int) {m : Int} (hm : 0 < m) : -m < Int.tmod n m := by
  have h := Int.tmod_lt_of_pos (-n) hm
  rw [Int.neg_tmod] at h
  omega
theorem st_only {w0 w w' : World} {sb g : Nat} {N : Nat → Prop} {σ : Ses} (h : SeSt w0 sb (fun k => N k ∨ k = g) w σ) (o : Only g w w') (hg : w0.heap.size ≤ g) : SeSt w0 sb (fun k => N k ∨ k = g) w' σ := by
  obtain ⟨S, a, h1, hB⟩ := h
  exact ⟨S, a.same (fun k hk => o.block k (fun e => (h1 k hk).2 (.inr e))), h1, hB.trans (o.below hg)⟩
theorem st_sub {w0 w : World} {sb : Nat} {N N' : Nat → Prop} {σ : Ses} (h : SeSt w0 sb N w σ) (hN : ∀ k, N' k → N k) : SeSt w0 sb N' w σ := by
  obtain ⟨S, a, h1, hB⟩ := h
  exact ⟨S, a, fun k hk => ⟨(h1 k hk).1, fun e => (h1 k hk).2 (hN k e)⟩, hB⟩
theorem exec_len32 {a : Act} {o : Oper} {w : World} {x : Operand} (ho : o.op = .call { callee := .builtin .len, args := #[x], argTypes := #[49] }) {ad : Option Addr} {n c : Nat} (hx : a.eval x = .slice ad n c) : (execOp a.eval o).run Try.prog w = .ok (.value (.int .i64 (n : Int))) w := by
  have hr : (Builtin.len_ #[49] o.type #[.slice ad n c]).run Try.prog w = .ok (goInt n) w := by simp [go_sem]
  simp [execOp, ho, resolve, invoke, builtin, hx, hr, goInt]
theorem exec_ixu32 {a : Act} {o : Oper} {w : World} {x : Operand} (ho : o.op = .indexAddr 49 x (.const (.int .i64 0))) {g n c : Nat} (hx : a.eval x = .slice (some ⟨g, 0, none⟩) (n + 1) c) : (execOp a.eval o).run Try.prog w = .ok (.value (.pointer (some ⟨g, 0, none⟩))) w := by
  unfold execOp
  simp only [ho, hx]
  simp [go_sem]
set_option maxHeartbeats 16000000 in
theorem dies_old (born after a b : Int) (w : World) {σ1 σ2 σ3 σ4 : Ses} (hb0 : 0 ≤ b) (hb1 : b < 1000000000) (ha0 : 0 ≤ a) (ha1 : a < 400000) (hold : 180000 ≤ a)
    (hb : b = if Int.tmod born 1000000000 < 0 then -(Int.tmod born 1000000000) else Int.tmod born 1000000000) (ha : a = if Int.tmod after 400000 < 0 then -(Int.tmod after 400000) else Int.tmod after 400000)
    (HPU : Hid (∀ u sb S, SesAt u sb ses0 S → Calls Try.prog 12 #[.pointer (some ⟨sb, 0, none⟩), .int .i64 b, .agg (SC 66 (paiV (pks 3) (pkr 3) (ploc 3) (pfar 3))), .bool true] u fun e w' => e = .returned (.tuple #[.int .i64 1, .int .i64 0]) ∧ Goes SesAt u sb S σ1 w'))
    (HSE : Hid (∀ u sb S, SesAt u sb σ1 S → Calls Try.prog 14 #[.pointer (some ⟨sb, 0, none⟩), .int .i64 (b + a), .string ⟨#[120]⟩] u fun e w' => e = .returned (.tuple #[.int .u32 0, .int .u64 0, .string ByteArray.empty, .int .i64 19]) ∧ Goes SesAt u sb S σ2 w'))
    (HOP : Hid (∀ u sb S, SesAt u sb σ2 S → Calls Try.prog 15 #[.pointer (some ⟨sb, 0, none⟩), .int .i64 (b + a), .int .u32 (ploc 3), .int .u64 7, .string (boxT (pkr 3) (nonN 7) ⟨#[121]⟩ ByteArray.empty)] u fun e w' => e = .returned (.tuple #[.string ByteArray.empty, .int .i64 0, .int .i64 19]) ∧ Goes SesAt u sb S σ3 w'))
    (HEX : Hid (∀ u sb S, SesAt u sb σ3 S → Calls Try.prog 16 #[.pointer (some ⟨sb, 0, none⟩), .int .i64 (b + a)] u fun e w' => (∃ vo, e = .returned vo ∧ w'.ownsRow u.heap.size 33 1 vo 1 (u32X [ploc 3])) ∧ Goes SesAt u sb S σ4 w'))
    (HDE : Hid (∀ u sb S, SesAt u sb σ4 S → Calls Try.prog 22 #[.pointer (some ⟨sb, 0, none⟩)] u fun e w' => e = .returned (.int .i64 (-1)) ∧ Below u.heap.size u w')) :
    Calls Try.prog 7 #[.int .i64 born, .int .i64 after] w fun e w' => e = .returned (.bool true) ∧ Below w.heap.size w w' := by
  have hdec : decide (180000 ≤ a) = true := decide_eq_true hold
  have hbr := Int.tmod_lt_of_pos born (show (0 : Int) < 1000000000 by omega)
  have har := Int.tmod_lt_of_pos after (show (0 : Int) < 400000 by omega)
  have hbl := tmod_gt born (show (0 : Int) < 1000000000 by omega)
  have hal := tmod_gt after (show (0 : Int) < 400000 by omega)
  generalize hbm : Int.tmod born 1000000000 = bm at *
  generalize ham : Int.tmod after 400000 = am at *
  by_cases hbs : bm < 0
  · rw [if_pos hbs] at hb
    by_cases has : am < 0
    · rw [if_pos has] at ha
      have HBB := Hid.mk hb
      have HAA := Hid.mk ha
      clear hb ha
      go_enter Try.func7, Try.ntmps7
      go_wp2_with fail
      refine (awake_run w).mono ?_
      rintro e v1 ⟨rfl, hA1⟩
      go_wp2_with fail
      refine (New_run9 v1).mono ?_
      rintro e v2 ⟨sb, rfl, hs2, hsb, hA2⟩
      have hN := SeSt.new hA1 hs2 hsb hA2
      clear hs2 hsb hA2 hA1
      go_wp2_with fail
      rw [← HBB.out, ← HAA.out]
      clear hbm ham HBB HAA hbs has hbr har hbl hal
      refine (pair_run 3 _).mono ?_
      rintro e u1 ⟨rfl, hB1⟩
      have h1 := hN.below hB1
      go_wp2_with (refine wl_al zeroPairV ?_; intro gp u2 hgp g2 hB2; refine Hid.out ?_)
      refine Hid.mk ?_
      have h2' := (h1.keep hgp hB2)
      have hgw : w.heap.size ≤ gp := Nat.le_trans h1.size hgp
      clear h1 hN hB1
      go_wp2_with (refine st_st isPair (paiV_one _ _ _ _) g2 (by rfl) (by rfl) ?_; intro u3 g3 o3; refine Hid.out ?_)
      refine Hid.mk ?_
      have h3 := st_only h2' o3 hgw
      have gl3 := SAt.lt g3
      clear h2' g2 hB2 o3 hgp
      go_wp2_with (refine wl_value rfl (look_st rfl isPair g3 (by rfl)) ?_)
      refine (h3.call (fun k e => by rcases e with e | e; exact e.elim; exact e ▸ gl3) (fun S hS => HPU.out u3 sb S hS)).mono ?_
      rintro e u4 ⟨rfl, h4, k4⟩
      have g4 : SAt u4 gp 35 66 (paiV (pks 3) (pkr 3) (ploc 3) (pfar 3)) := SAt.block g3 (k4.2 gp gl3 (.inr rfl))
      have gl4 := SAt.lt g4
      clear h3 g3 gl3 k4
      go_wp2_with fail
      refine (h4.call (fun k e => by rcases e with e | e; exact e.elim; exact e ▸ gl4) (fun S hS => HSE.out u4 sb S hS)).mono ?_
      rintro e u5 ⟨rfl, h5, k5⟩
      have g2 : SAt u5 gp 35 66 (paiV (pks 3) (pkr 3) (ploc 3) (pfar 3)) := SAt.block g4 (k5.2 gp gl4 (.inr rfl))
      have h2 : SeSt w sb (fun k => k = gp) u5 σ2 := st_sub h5 (fun k e => .inr e)
      clear h4 h5 g4 gl4 k5
      have HO : Hid (∀ v, (SeSt w sb (fun k => k = gp) v σ2 ∧ SAt v gp 35 66 (paiV (pks 3) (pkr 3) (ploc 3) (pfar 3))) → Calls Try.prog 15 #[.pointer (some ⟨sb, 0, none⟩), .int .i64 (b + a), .int .u32 (ploc 3), .int .u64 7, .string (boxT (pkr 3) (nonN 7) ⟨#[121]⟩ ByteArray.empty)] v fun e w' => ∃ x, e = .returned x ∧ x = .tuple #[.string ByteArray.empty, .int .i64 0, .int .i64 19] ∧ (SeSt w sb (fun k => k = gp) w' σ3 ∧ SAt w' gp 35 66 (paiV (pks 3) (pkr 3) (ploc 3) (pfar 3)))) := Hid.mk (fun v hv => by
        have gl := SAt.lt hv.2
        refine (hv.1.call (fun k e => e ▸ gl) (fun S hS => HOP.out v sb S hS)).mono ?_
        rintro e w' ⟨rfl, q1, q2⟩
        exact ⟨_, rfl, rfl, q1, SAt.block hv.2 (q2.2 gp gl rfl)⟩)
      go_wp2_with fail
      refine wp_region_steps4 (SL (fun v => SeSt w sb (fun k => k = gp) v σ2 ∧ SAt v gp 35 66 (paiV (pks 3) (pkr 3) (ploc 3) (pfar 3))) (fun v => SeSt w sb (fun k => k = gp) v σ3 ∧ SAt v gp 35 66 (paiV (pks 3) (pkr 3) (ploc 3) (pfar 3))) 10) (fun j x => x = ([.pointer (some ⟨sb, 0, none⟩), .int .i64 b, .int .i64 a, .int .i64 (b + a), .pointer (some ⟨gp, 0 + 64, none⟩), .int .u32 (ploc 3), .pointer (some ⟨gp, 0 + 32, none⟩), .agg (WA .u8 32 (pkr 3)), .agg (WA .u8 12 (nonN 7)), .string (boxT (pkr 3) (nonN 7) ⟨#[121]⟩ ByteArray.empty), .tuple #[.string ByteArray.empty, .int .i64 0, .int .i64 19], .tuple #[.string ByteArray.empty, .int .i64 0, .int .i64 19], .string ByteArray.empty, .int .i64 0, .int .i64 19, .string ByteArray.empty, .int .i64 0, .int .i64 19] : List Value).getD j undef)
          [54, 55, 56, 57, 58, 59, 60, 61, 62, 63, 64, 53, 65, 66, 67, 14, 15, 16]
          [(6, .pointer (some ⟨sb, 0, none⟩)), (7, .int .i64 b), (8, .int .i64 a), (9, .pointer (some ⟨gp, 0, none⟩))]
          [[], [], [], [1, 2], [], [4], [], [6], [], [7, 8], [0, 3, 5, 9], [10], [11], [11], [11], [12], [13], [14]]
          [[], [], [], [], [], [], [], [], [], [7, 8], [5, 7, 8, 9], [5, 7, 8, 9, 10], [5, 7, 8, 9, 10], [5, 7, 8, 9, 10], [5, 7, 8, 9, 10], [5, 7, 8, 9, 10], [5, 7, 8, 9, 10], [5, 7, 8, 9, 10]]
          [[], [], [], [], [], [10], [], [10], [10], [10], [], [], [], [], [], [], [], []]
          rfl (by kernel_rfl) ⟨rfl, rfl, rfl, rfl, trivial⟩ (sl_start ⟨h2.below (below_drew _), SAt.kept g2 (below_drew _)⟩)
          ⟨
            (fun Q L aq ww hS hun hq hd fr kn => ⟨trivial, fun K hK => wp_value (exec_move rfl fr.1) (hK _ _ rfl (sl_same (by decide) hS))⟩),
            (fun Q L aq ww hS hun hq hd fr kn => ⟨trivial, fun K hK => wp_value (exec_move rfl fr.2.1) (hK _ _ rfl (sl_same (by decide) hS))⟩),
            (fun Q L aq ww hS hun hq hd fr kn => ⟨trivial, fun K hK => wp_value (exec_move rfl fr.2.2.1) (hK _ _ rfl (sl_same (by decide) hS))⟩),
            (fun Q L aq ww hS hun hq hd fr kn => ⟨trivial, fun K hK => wp_value (exec_addI rfl kn.1 kn.2.1 (by omega) (by omega)) (hK _ _ rfl (sl_same (by decide) hS))⟩),
            (fun Q L aq ww hS hun hq hd fr kn => ⟨trivial, fun K hK => wp_value (exec_fpa (k := 2) rfl fr.2.2.2.1 (by decide)) (hK _ _ rfl (sl_same (by decide) hS))⟩),
            (fun Q L aq ww hS hun hq hd fr kn => ⟨trivial, fun K hK => wp_value (exec_ld rfl kn.1 (ld_u32 (pai_l (sl_a hS hd.1).2))) (hK _ _ rfl (sl_same (by decide) hS))⟩),
            (fun Q L aq ww hS hun hq hd fr kn => ⟨trivial, fun K hK => wp_value (exec_fpa (k := 1) rfl fr.2.2.2.1 (by decide)) (hK _ _ rfl (sl_same (by decide) hS))⟩),
            (fun Q L aq ww hS hun hq hd fr kn => ⟨trivial, fun K hK => wp_value (exec_ldmid rfl isArr32 kn.1 (pai_r (sl_a hS hd.1).2)) (hK _ _ rfl (sl_same (by decide) hS))⟩),
            (fun Q L aq ww hS hun hq hd fr kn => ⟨trivial, fun K hK => stepc enterRNonce9 rfl (args1 rfl) (rNonce_run 7 ww (by omega)) (fun w' hb => hK _ _ rfl (sl_ahead (by decide) hd.1 (And.intro ((sl_a hS hd.1).1.below hb) (SAt.kept (sl_a hS hd.1).2 hb))))⟩),
            (fun Q L aq ww hS hun hq hd fr kn => ⟨trivial, fun K hK => stepc enterRSeal9 rfl (args4 kn.1 kn.2.1 rfl rfl) (rSeal_run (pkr 3) (nonN 7) ⟨#[121]⟩ ByteArray.empty ww (pkr_b 3) nonN_b (by decide) (by decide)) (fun w' hb => hK _ _ rfl (sl_ahead (by decide) hd.1 (And.intro ((sl_a hS hd.1).1.below hb) (SAt.kept (sl_a hS hd.1).2 hb))))⟩),
            (fun Q L aq ww hS hun hq hd fr kn => ⟨trivial, fun K hK => stepp enterOpenS9 rfl (args5 kn.1 kn.2.1 kn.2.2.1 rfl kn.2.2.2.1) (HO.out ww (sl_a hS hun)) (fun v w' hv => hK _ _ hv.1 (sl_done hv.2))⟩),
            (fun Q L aq ww hS hun hq hd fr kn => ⟨trivial, fun K hK => wp_value (exec_move rfl kn.1) (hK _ _ rfl (sl_same (by decide) hS))⟩),
            (fun Q L aq ww hS hun hq hd fr kn => ⟨trivial, fun K hK => wp_value (exec_ext rfl kn.1 rfl) (hK _ _ rfl (sl_same (by decide) hS))⟩),
            (fun Q L aq ww hS hun hq hd fr kn => ⟨trivial, fun K hK => wp_value (exec_ext rfl kn.1 rfl) (hK _ _ rfl (sl_same (by decide) hS))⟩),
            (fun Q L aq ww hS hun hq hd fr kn => ⟨trivial, fun K hK => wp_value (exec_ext rfl kn.1 rfl) (hK _ _ rfl (sl_same (by decide) hS))⟩),
            (fun Q L aq ww hS hun hq hd fr kn => ⟨trivial, fun K hK => wp_value (exec_assign rfl kn.1) (hK _ _ rfl (sl_same (by decide) hS))⟩),
            (fun Q L aq ww hS hun hq hd fr kn => ⟨trivial, fun K hK => wp_value (exec_assign rfl kn.1) (hK _ _ rfl (sl_same (by decide) hS))⟩),
            (fun Q L aq ww hS hun hq hd fr kn => ⟨trivial, fun K hK => wp_value (exec_assign rfl kn.1) (hK _ _ rfl (sl_same (by decide) hS))⟩),
            trivial⟩ ?_
      intro vs L u6 hS6 hL6 hk6
      obtain ⟨h6, g6⟩ := sl_b hS6 (hL6 10 (by decide))
      have e14 : vs 14 = .string ByteArray.empty := hk6 15 (by decide)
      have e15 : vs 15 = .int .i64 0 := hk6 16 (by decide)
      have e16 : vs 16 = .int .i64 19 := hk6 17 (by decide)
      clear hk6 hS6 hL6 HO h2 g2
      simp only [putAll, Act.put, List.setIfInBounds_toArray, List.set_cons_zero, List.set_cons_succ, e14, e15, e16]
      clear e14 e15 e16
      have gl6 := SAt.lt g6
      go_wp2_with fail
      refine (h6.call (fun k e => e ▸ gl6) (fun S hS => HEX.out u6 sb S hS)).mono ?_
      rintro e u4 ⟨⟨vo, rfl, hO⟩, h4, k4⟩
      have g4 : SAt u4 gp 35 66 (paiV (pks 3) (pkr 3) (ploc 3) (pfar 3)) := SAt.block g6 (k4.2 gp gl6 rfl)
      clear h6 g6 gl6 k4
      obtain ⟨hn1, p, cl, rfl, hp⟩ := own_u32 hO
      clear hn1
      clear hO
      obtain ⟨gl, rfl, hcl⟩ := hp (by decide)
      have c0 : u4.cell? ⟨gl, 0, none⟩ = some (.int .u32 (ploc 3)) := hcl 0 (by decide)
      have HCL : Hid (∀ v, Below u4.heap.size u4 v → v.cell? ⟨gl, 0, none⟩ = some (.int .u32 (ploc 3))) := Hid.mk (fun v hv => by rw [hv.cell (p := ⟨gl, 0, none⟩) (World.block_lt_of_cell? _ _ c0)]; exact c0)
      have HDU : Hid (∀ v, Below u4.heap.size u4 v → Calls Try.prog 22 #[.pointer (some ⟨sb, 0, none⟩)] v fun e w' => e = .returned (.int .i64 (-1)) ∧ Below v.heap.size v w') := Hid.mk (fun v hv => by
        refine ((h4.below hv).reads (fun S hS => HDE.out v sb S hS)).mono ?_
        rintro e w' ⟨rfl, hb⟩
        exact ⟨rfl, hb⟩)
      have hB4 := h4.bel
      clear c0 hcl hp h4
      go_wp2_with fail
      refine wp_region3 (Below u4.heap.size u4) u4.heap.size
          ([] : List (Nat × Cont))
          (kv (.int .i64 19) :: kv (.bool true) :: kv (.bool true) :: kv (.int .i64 19) :: kv (.bool true) :: kv (.bool true) :: kv (.bool true) :: kv (.string ByteArray.empty) :: kv (.bool true) :: kv (.bool true) :: kv (.bool true) :: kv (.string ByteArray.empty) :: kv (.bool true) :: kv (.bool true) :: kv (.bool true) :: kv (.slice (some ⟨gl, 0, none⟩) 1 cl) :: kv (.int .i64 1) :: kv (.bool true) :: kv (.bool true) :: kv (.bool true) :: kv (.slice (some ⟨gl, 0, none⟩) 1 cl) :: kv (.pointer (some ⟨gl, 0, none⟩)) :: kv (.int .u32 (ploc 3)) :: kv (.pointer (some ⟨gp, 0 + 64, none⟩)) :: kv (.int .u32 (ploc 3)) :: kv (.bool true) :: kv (.bool true) :: kv (.bool true) :: kv (.pointer (some ⟨sb, 0, none⟩)) :: kv (.int .i64 (-1)) :: kv (.bool true) :: kv (.bool true) :: kv (.bool true) :: [])
          (.none :: .none :: .none :: .none :: .none :: .none :: .none :: .none :: .none :: .none :: .none :: .none :: .none :: .none :: .none :: .none :: .none :: .none :: .none :: .none :: .none :: .none :: .none :: .none :: .none :: .none :: .none :: .none :: .none :: .none :: .none :: .none :: .none :: [])
          (some 75 :: some 76 :: some 77 :: some 78 :: some 79 :: some 80 :: some 81 :: some 82 :: some 83 :: some 84 :: some 85 :: some 86 :: some 87 :: some 88 :: some 89 :: some 90 :: some 91 :: some 92 :: some 93 :: some 94 :: some 95 :: some 96 :: some 97 :: some 98 :: some 99 :: some 100 :: some 101 :: some 102 :: some 103 :: some 104 :: some 105 :: some 106 :: some 4 :: [])
          [(13, .int .i64 19), (16, .int .i64 19), (12, .string ByteArray.empty), (14, .string ByteArray.empty), (17, .slice (some ⟨gl, 0, none⟩) 1 cl), (9, .pointer (some ⟨gp, 0, none⟩)), (6, .pointer (some ⟨sb, 0, none⟩))]
          ([] :: [.slot 0] :: [.slot 1] :: [.slot 2] :: [.slot 2, .slot 3] :: [.slot 2, .slot 4] :: [.slot 5] :: [.slot 6] :: [.slot 6, .slot 7] :: [.slot 6, .slot 8] :: [.slot 9] :: [.slot 10] :: [.slot 10, .slot 11] :: [.slot 10, .slot 12] :: [.slot 13] :: [.slot 14] :: [.slot 14, .slot 15] :: [.slot 14, .slot 16] :: [.slot 14, .slot 17] :: [.slot 18] :: [.slot 19] :: [.slot 19, .slot 20] :: [.slot 19, .slot 21] :: [.slot 19] :: [.slot 19, .slot 23] :: [.slot 19, .slot 22, .slot 24] :: [.slot 19, .slot 25] :: [.slot 26] :: [.slot 27] :: [.slot 27, .slot 28] :: [.slot 27, .slot 29] :: [.slot 27, .slot 30] :: [.slot 31] :: [])
          [.slot 32] (75 :: 76 :: 77 :: 78 :: 79 :: 80 :: 81 :: 82 :: 83 :: 84 :: 85 :: 86 :: 87 :: 88 :: 89 :: 90 :: 91 :: 92 :: 93 :: 94 :: 95 :: 96 :: 97 :: 98 :: 99 :: 100 :: 101 :: 102 :: 103 :: 104 :: 105 :: 106 :: 4 :: [])
          rfl (by kernel_rfl) ⟨rfl, rfl, rfl, rfl, rfl, rfl, rfl, trivial⟩ (Below.refl _ u4).drew (Nat.le_refl _) trivial trivial (below_G (Nat.le_refl _) trivial)
          ⟨
            (fun Q aq ww own hS hBg fr kn => .inl ⟨trivial, fun K hK => wp_value (exec_move rfl fr.1) (hK _ _ ⟨Touch.refl _ _, rfl⟩)⟩),
            (fun Q aq ww own hS hBg fr kn => .inl ⟨trivial, fun K hK => wp_value (exec_bin2 (V := .bool true) rfl kn.1 rfl rfl (by simp [go_sem])) (hK _ _ ⟨Touch.refl _ _, rfl⟩)⟩),
            (fun Q aq ww own hS hBg fr kn => .inl ⟨trivial, fun K hK => wp_value (exec_move rfl kn.1) (hK _ _ ⟨Touch.refl _ _, rfl⟩)⟩),
            (fun Q aq ww own hS hBg fr kn => .inl ⟨kn.1, fun K hK => wp_value (exec_move rfl fr.2.1) (hK _ _ ⟨Touch.refl _ _, rfl⟩)⟩),
            (fun Q aq ww own hS hBg fr kn => .inl ⟨kn.1, fun K hK => wp_value (exec_bin2 (V := .bool true) rfl kn.2.1 rfl rfl (by simp [go_sem])) (hK _ _ ⟨Touch.refl _ _, rfl⟩)⟩),
            (fun Q aq ww own hS hBg fr kn => .inl ⟨trivial, fun K hK => wp_value (exec_pick rfl kn.1 kn.2.1) (hK _ _ ⟨Touch.refl _ _, rfl⟩)⟩),
            (fun Q aq ww own hS hBg fr kn => .inl ⟨trivial, fun K hK => wp_value (exec_move rfl kn.1) (hK _ _ ⟨Touch.refl _ _, rfl⟩)⟩),
            (fun Q aq ww own hS hBg fr kn => .inl ⟨kn.1, fun K hK => wp_value (exec_move rfl fr.2.2.1) (hK _ _ ⟨Touch.refl _ _, rfl⟩)⟩),
            (fun Q aq ww own hS hBg fr kn => .inl ⟨kn.1, fun K hK => wp_value (exec_eqS rfl kn.2.1 rfl) (hK _ _ ⟨Touch.refl _ _, rfl⟩)⟩),
            (fun Q aq ww own hS hBg fr kn => .inl ⟨trivial, fun K hK => wp_value (exec_pick rfl kn.1 kn.2.1) (hK _ _ ⟨Touch.refl _ _, rfl⟩)⟩),
            (fun Q aq ww own hS hBg fr kn => .inl ⟨trivial, fun K hK => wp_value (exec_move rfl kn.1) (hK _ _ ⟨Touch.refl _ _, rfl⟩)⟩),
            (fun Q aq ww own hS hBg fr kn => .inl ⟨kn.1, fun K hK => wp_value (exec_move rfl fr.2.2.2.1) (hK _ _ ⟨Touch.refl _ _, rfl⟩)⟩),
            (fun Q aq ww own hS hBg fr kn => .inl ⟨kn.1, fun K hK => wp_value (exec_eqS rfl kn.2.1 rfl) (hK _ _ ⟨Touch.refl _ _, rfl⟩)⟩),
            (fun Q aq ww own hS hBg fr kn => .inl ⟨trivial, fun K hK => wp_value (exec_pick rfl kn.1 kn.2.1) (hK _ _ ⟨Touch.refl _ _, rfl⟩)⟩),
            (fun Q aq ww own hS hBg fr kn => .inl ⟨trivial, fun K hK => wp_value (exec_move rfl kn.1) (hK _ _ ⟨Touch.refl _ _, rfl⟩)⟩),
            (fun Q aq ww own hS hBg fr kn => .inl ⟨kn.1, fun K hK => wp_value (exec_move rfl fr.2.2.2.2.1) (hK _ _ ⟨Touch.refl _ _, rfl⟩)⟩),
            (fun Q aq ww own hS hBg fr kn => .inl ⟨kn.1, fun K hK => wp_value (exec_len32 rfl kn.2.1) (hK _ _ ⟨Touch.refl _ _, rfl⟩)⟩),
            (fun Q aq ww own hS hBg fr kn => .inl ⟨kn.1, fun K hK => wp_value (exec_bin2 (V := .bool true) rfl kn.2.1 rfl rfl (by simp [go_sem])) (hK _ _ ⟨Touch.refl _ _, rfl⟩)⟩),
            (fun Q aq ww own hS hBg fr kn => .inl ⟨trivial, fun K hK => wp_value (exec_pick rfl kn.1 kn.2.1) (hK _ _ ⟨Touch.refl _ _, rfl⟩)⟩),
            (fun Q aq ww own hS hBg fr kn => .inl ⟨trivial, fun K hK => wp_value (exec_move rfl kn.1) (hK _ _ ⟨Touch.refl _ _, rfl⟩)⟩),
            (fun Q aq ww own hS hBg fr kn => .inl ⟨kn.1, fun K hK => wp_value (exec_move rfl fr.2.2.2.2.1) (hK _ _ ⟨Touch.refl _ _, rfl⟩)⟩),
            (fun Q aq ww own hS hBg fr kn => .inl ⟨kn.1, fun K hK => wp_value (exec_ixu32 rfl kn.2.1) (hK _ _ ⟨Touch.refl _ _, rfl⟩)⟩),
            (fun Q aq ww own hS hBg fr kn => .inl ⟨kn.1, fun K hK => wp_value (exec_ld rfl kn.2.1 (ld_u32 (HCL.out ww hS))) (hK _ _ ⟨Touch.refl _ _, rfl⟩)⟩),
            (fun Q aq ww own hS hBg fr kn => .inl ⟨kn.1, fun K hK => wp_value (exec_fpa (k := 2) rfl fr.2.2.2.2.2.1 (by decide)) (hK _ _ ⟨Touch.refl _ _, rfl⟩)⟩),
            (fun Q aq ww own hS hBg fr kn => .inl ⟨kn.1, fun K hK => wp_value (exec_ld rfl kn.2.1 (ld_u32 (pai_l (SAt.kept g4 hS)))) (hK _ _ ⟨Touch.refl _ _, rfl⟩)⟩),
            (fun Q aq ww own hS hBg fr kn => .inl ⟨kn.1, fun K hK => wp_value (exec_bin2 (V := .bool true) rfl kn.2.1 kn.2.2.1 rfl (by simp [go_sem])) (hK _ _ ⟨Touch.refl _ _, rfl⟩)⟩),
            (fun Q aq ww own hS hBg fr kn => .inl ⟨trivial, fun K hK => wp_value (exec_pick rfl kn.1 kn.2.1) (hK _ _ ⟨Touch.refl _ _, rfl⟩)⟩),
            (fun Q aq ww own hS hBg fr kn => .inl ⟨trivial, fun K hK => wp_value (exec_move rfl kn.1) (hK _ _ ⟨Touch.refl _ _, rfl⟩)⟩),
            (fun Q aq ww own hS hBg fr kn => .inl ⟨kn.1, fun K hK => wp_value (exec_move rfl fr.2.2.2.2.2.2.1) (hK _ _ ⟨Touch.refl _ _, rfl⟩)⟩),
            (fun Q aq ww own hS hBg fr kn => .inl ⟨kn.1, fun K hK => stepc enterDue9 rfl (args1 kn.2.1) (HDU.out ww hS) (fun w' hb => hK _ _ ⟨touch_below hb, rfl⟩)⟩),
            (fun Q aq ww own hS hBg fr kn => .inl ⟨kn.1, fun K hK => wp_value (exec_bin2 (V := .bool true) rfl kn.2.1 rfl rfl (by simp [go_sem])) (hK _ _ ⟨Touch.refl _ _, rfl⟩)⟩),
            (fun Q aq ww own hS hBg fr kn => .inl ⟨trivial, fun K hK => wp_value (exec_pick rfl kn.1 kn.2.1) (hK _ _ ⟨Touch.refl _ _, rfl⟩)⟩),
            (fun Q aq ww own hS hBg fr kn => .inl ⟨trivial, fun K hK => wp_value (exec_assign rfl kn.1) (hK _ _ ⟨Touch.refl _ _, rfl⟩)⟩),
            trivial⟩ ?_
      intro vs own u7 hB7 hsz kn inj
      have e4 : vs 4 = _ := kn.1
      clear kn inj hsz HCL HDU
      simp only [putAll, Act.put, List.setIfInBounds_toArray, List.set_cons_zero, List.set_cons_succ, e4]
      go_wp2_with fail
      go_ret
      exact ⟨rfl, hB4.trans (hB7.mono hB4.size)⟩
    · rw [if_neg has] at ha
      have HBB := Hid.mk hb
      have HAA := Hid.mk ha
      clear hb ha
      go_enter Try.func7, Try.ntmps7
      go_wp2_with fail
      refine (awake_run w).mono ?_
      rintro e v1 ⟨rfl, hA1⟩
      go_wp2_with fail
      refine (New_run9 v1).mono ?_
      rintro e v2 ⟨sb, rfl, hs2, hsb, hA2⟩
      have hN := SeSt.new hA1 hs2 hsb hA2
      clear hs2 hsb hA2 hA1
      go_wp2_with fail
      rw [← HBB.out, ← HAA.out]
      clear hbm ham HBB HAA hbs has hbr har hbl hal
      refine (pair_run 3 _).mono ?_
      rintro e u1 ⟨rfl, hB1⟩
      have h1 := hN.below hB1
      go_wp2_with (refine wl_al zeroPairV ?_; intro gp u2 hgp g2 hB2; refine Hid.out ?_)
      refine Hid.mk ?_
      have h2' := (h1.keep hgp hB2)
      have hgw : w.heap.size ≤ gp := Nat.le_trans h1.size hgp
      clear h1 hN hB1
      go_wp2_with (refine st_st isPair (paiV_one _ _ _ _) g2 (by rfl) (by rfl) ?_; intro u3 g3 o3; refine Hid.out ?_)
      refine Hid.mk ?_
      have h3 := st_only h2' o3 hgw
      have gl3 := SAt.lt g3
      clear h2' g2 hB2 o3 hgp
      go_wp2_with (refine wl_value rfl (look_st rfl isPair g3 (by rfl)) ?_)
      refine (h3.call (fun k e => by rcases e with e | e; exact e.elim; exact e ▸ gl3) (fun S hS => HPU.out u3 sb S hS)).mono ?_
      rintro e u4 ⟨rfl, h4, k4⟩
      have g4 : SAt u4 gp 35 66 (paiV (pks 3) (pkr 3) (ploc 3) (pfar 3)) := SAt.block g3 (k4.2 gp gl3 (.inr rfl))
      have gl4 := SAt.lt g4
      clear h3 g3 gl3 k4
      go_wp2_with fail
      refine (h4.call (fun k e => by rcases e with e | e; exact e.elim; exact e ▸ gl4) (fun S hS => HSE.out u4 sb S hS)).mono ?_
      rintro e u5 ⟨rfl, h5, k5⟩
      have g2 : SAt u5 gp 35 66 (paiV (pks 3) (pkr 3) (ploc 3) (pfar 3)) := SAt.block g4 (k5.2 gp gl4 (.inr rfl))
      have h2 : SeSt w sb (fun k => k = gp) u5 σ2 := st_sub h5 (fun k e => .inr e)
      clear h4 h5 g4 gl4 k5
      have HO : Hid (∀ v, (SeSt w sb (fun k => k = gp) v σ2 ∧ SAt v gp 35 66 (paiV (pks 3) (pkr 3) (ploc 3) (pfar 3))) → Calls Try.prog 15 #[.pointer (some ⟨sb, 0, none⟩), .int .i64 (b + a), .int .u32 (ploc 3), .int .u64 7, .string (boxT (pkr 3) (nonN 7) ⟨#[121]⟩ ByteArray.empty)] v fun e w' => ∃ x, e = .returned x ∧ x = .tuple #[.string ByteArray.empty, .int .i64 0, .int .i64 19] ∧ (SeSt w sb (fun k => k = gp) w' σ3 ∧ SAt w' gp 35 66 (paiV (pks 3) (pkr 3) (ploc 3) (pfar 3)))) := Hid.mk (fun v hv => by
        have gl := SAt.lt hv.2
        refine (hv.1.call (fun k e => e ▸ gl) (fun S hS => HOP.out v sb S hS)).mono ?_
        rintro e w' ⟨rfl, q1, q2⟩
        exact ⟨_, rfl, rfl, q1, SAt.block hv.2 (q2.2 gp gl rfl)⟩)
      go_wp2_with fail
      refine wp_region_steps4 (SL (fun v => SeSt w sb (fun k => k = gp) v σ2 ∧ SAt v gp 35 66 (paiV (pks 3) (pkr 3) (ploc 3) (pfar 3))) (fun v => SeSt w sb (fun k => k = gp) v σ3 ∧ SAt v gp 35 66 (paiV (pks 3) (pkr 3) (ploc 3) (pfar 3))) 10) (fun j x => x = ([.pointer (some ⟨sb, 0, none⟩), .int .i64 b, .int .i64 a, .int .i64 (b + a), .pointer (some ⟨gp, 0 + 64, none⟩), .int .u32 (ploc 3), .pointer (some ⟨gp, 0 + 32, none⟩), .agg (WA .u8 32 (pkr 3)), .agg (WA .u8 12 (nonN 7)), .string (boxT (pkr 3) (nonN 7) ⟨#[121]⟩ ByteArray.empty), .tuple #[.string ByteArray.empty, .int .i64 0, .int .i64 19], .tuple #[.string ByteArray.empty, .int .i64 0, .int .i64 19], .string ByteArray.empty, .int .i64 0, .int .i64 19, .string ByteArray.empty, .int .i64 0, .int .i64 19] : List Value).getD j undef)
          [54, 55, 56, 57, 58, 59, 60, 61, 62, 63, 64, 53, 65, 66, 67, 14, 15, 16]
          [(6, .pointer (some ⟨sb, 0, none⟩)), (7, .int .i64 b), (8, .int .i64 a), (9, .pointer (some ⟨gp, 0, none⟩))]
          [[], [], [], [1, 2], [], [4], [], [6], [], [7, 8], [0, 3, 5, 9], [10], [11], [11], [11], [12], [13], [14]]
          [[], [], [], [], [], [], [], [], [], [7, 8], [5, 7, 8, 9], [5, 7, 8, 9, 10], [5, 7, 8, 9, 10], [5, 7, 8, 9, 10], [5, 7, 8, 9, 10], [5, 7, 8, 9, 10], [5, 7, 8, 9, 10], [5, 7, 8, 9, 10]]
          [[], [], [], [], [], [10], [], [10], [10], [10], [], [], [], [], [], [], [], []]
          rfl (by kernel_rfl) ⟨rfl, rfl, rfl, rfl, trivial⟩ (sl_start ⟨h2.below (below_drew _), SAt.kept g2 (below_drew _)⟩)
          ⟨
            (fun Q L aq ww hS hun hq hd fr kn => ⟨trivial, fun K hK => wp_value (exec_move rfl fr.1) (hK _ _ rfl (sl_same (by decide) hS))⟩),
            (fun Q L aq ww hS hun hq hd fr kn => ⟨trivial, fun K hK => wp_value (exec_move rfl fr.2.1) (hK _ _ rfl (sl_same (by decide) hS))⟩),
            (fun Q L aq ww hS hun hq hd fr kn => ⟨trivial, fun K hK => wp_value (exec_move rfl fr.2.2.1) (hK _ _ rfl (sl_same (by decide) hS))⟩),
            (fun Q L aq ww hS hun hq hd fr kn => ⟨trivial, fun K hK => wp_value (exec_addI rfl kn.1 kn.2.1 (by omega) (by omega)) (hK _ _ rfl (sl_same (by decide) hS))⟩),
            (fun Q L aq ww hS hun hq hd fr kn => ⟨trivial, fun K hK => wp_value (exec_fpa (k := 2) rfl fr.2.2.2.1 (by decide)) (hK _ _ rfl (sl_same (by decide) hS))⟩),
            (fun Q L aq ww hS hun hq hd fr kn => ⟨trivial, fun K hK => wp_value (exec_ld rfl kn.1 (ld_u32 (pai_l (sl_a hS hd.1).2))) (hK _ _ rfl (sl_same (by decide) hS))⟩),
            (fun Q L aq ww hS hun hq hd fr kn => ⟨trivial, fun K hK => wp_value (exec_fpa (k := 1) rfl fr.2.2.2.1 (by decide)) (hK _ _ rfl (sl_same (by decide) hS))⟩),
            (fun Q L aq ww hS hun hq hd fr kn => ⟨trivial, fun K hK => wp_value (exec_ldmid rfl isArr32 kn.1 (pai_r (sl_a hS hd.1).2)) (hK _ _ rfl (sl_same (by decide) hS))⟩),
            (fun Q L aq ww hS hun hq hd fr kn => ⟨trivial, fun K hK => stepc enterRNonce9 rfl (args1 rfl) (rNonce_run 7 ww (by omega)) (fun w' hb => hK _ _ rfl (sl_ahead (by decide) hd.1 (And.intro ((sl_a hS hd.1).1.below hb) (SAt.kept (sl_a hS hd.1).2 hb))))⟩),
            (fun Q L aq ww hS hun hq hd fr kn => ⟨trivial, fun K hK => stepc enterRSeal9 rfl (args4 kn.1 kn.2.1 rfl rfl) (rSeal_run (pkr 3) (nonN 7) ⟨#[121]⟩ ByteArray.empty ww (pkr_b 3) nonN_b (by decide) (by decide)) (fun w' hb => hK _ _ rfl (sl_ahead (by decide) hd.1 (And.intro ((sl_a hS hd.1).1.below hb) (SAt.kept (sl_a hS hd.1).2 hb))))⟩),
            (fun Q L aq ww hS hun hq hd fr kn => ⟨trivial, fun K hK => stepp enterOpenS9 rfl (args5 kn.1 kn.2.1 kn.2.2.1 rfl kn.2.2.2.1) (HO.out ww (sl_a hS hun)) (fun v w' hv => hK _ _ hv.1 (sl_done hv.2))⟩),
            (fun Q L aq ww hS hun hq hd fr kn => ⟨trivial, fun K hK => wp_value (exec_move rfl kn.1) (hK _ _ rfl (sl_same (by decide) hS))⟩),
            (fun Q L aq ww hS hun hq hd fr kn => ⟨trivial, fun K hK => wp_value (exec_ext rfl kn.1 rfl) (hK _ _ rfl (sl_same (by decide) hS))⟩),
            (fun Q L aq ww hS hun hq hd fr kn => ⟨trivial, fun K hK => wp_value (exec_ext rfl kn.1 rfl) (hK _ _ rfl (sl_same (by decide) hS))⟩),
            (fun Q L aq ww hS hun hq hd fr kn => ⟨trivial, fun K hK => wp_value (exec_ext rfl kn.1 rfl) (hK _ _ rfl (sl_same (by decide) hS))⟩),
            (fun Q L aq ww hS hun hq hd fr kn => ⟨trivial, fun K hK => wp_value (exec_assign rfl kn.1) (hK _ _ rfl (sl_same (by decide) hS))⟩),
            (fun Q L aq ww hS hun hq hd fr kn => ⟨trivial, fun K hK => wp_value (exec_assign rfl kn.1) (hK _ _ rfl (sl_same (by decide) hS))⟩),
            (fun Q L aq ww hS hun hq hd fr kn => ⟨trivial, fun K hK => wp_value (exec_assign rfl kn.1) (hK _ _ rfl (sl_same (by decide) hS))⟩),
            trivial⟩ ?_
      intro vs L u6 hS6 hL6 hk6
      obtain ⟨h6, g6⟩ := sl_b hS6 (hL6 10 (by decide))
      have e14 : vs 14 = .string ByteArray.empty := hk6 15 (by decide)
      have e15 : vs 15 = .int .i64 0 := hk6 16 (by decide)
      have e16 : vs 16 = .int .i64 19 := hk6 17 (by decide)
      clear hk6 hS6 hL6 HO h2 g2
      simp only [putAll, Act.put, List.setIfInBounds_toArray, List.set_cons_zero, List.set_cons_succ, e14, e15, e16]
      clear e14 e15 e16
      have gl6 := SAt.lt g6
      go_wp2_with fail
      refine (h6.call (fun k e => e ▸ gl6) (fun S hS => HEX.out u6 sb S hS)).mono ?_
      rintro e u4 ⟨⟨vo, rfl, hO⟩, h4, k4⟩
      have g4 : SAt u4 gp 35 66 (paiV (pks 3) (pkr 3) (ploc 3) (pfar 3)) := SAt.block g6 (k4.2 gp gl6 rfl)
      clear h6 g6 gl6 k4
      obtain ⟨hn1, p, cl, rfl, hp⟩ := own_u32 hO
      clear hn1
      clear hO
      obtain ⟨gl, rfl, hcl⟩ := hp (by decide)
      have c0 : u4.cell? ⟨gl, 0, none⟩ = some (.int .u32 (ploc 3)) := hcl 0 (by decide)
      have HCL : Hid (∀ v, Below u4.heap.size u4 v → v.cell? ⟨gl, 0, none⟩ = some (.int .u32 (ploc 3))) := Hid.mk (fun v hv => by rw [hv.cell (p := ⟨gl, 0, none⟩) (World.block_lt_of_cell? _ _ c0)]; exact c0)
      have HDU : Hid (∀ v, Below u4.heap.size u4 v → Calls Try.prog 22 #[.pointer (some ⟨sb, 0, none⟩)] v fun e w' => e = .returned (.int .i64 (-1)) ∧ Below v.heap.size v w') := Hid.mk (fun v hv => by
        refine ((h4.below hv).reads (fun S hS => HDE.out v sb S hS)).mono ?_
        rintro e w' ⟨rfl, hb⟩
        exact ⟨rfl, hb⟩)
      have hB4 := h4.bel
      clear c0 hcl hp h4
      go_wp2_with fail
      refine wp_region3 (Below u4.heap.size u4) u4.heap.size
          ([] : List (Nat × Cont))
          (kv (.int .i64 19) :: kv (.bool true) :: kv (.bool true) :: kv (.int .i64 19) :: kv (.bool true) :: kv (.bool true) :: kv (.bool true) :: kv (.string ByteArray.empty) :: kv (.bool true) :: kv (.bool true) :: kv (.bool true) :: kv (.string ByteArray.empty) :: kv (.bool true) :: kv (.bool true) :: kv (.bool true) :: kv (.slice (some ⟨gl, 0, none⟩) 1 cl) :: kv (.int .i64 1) :: kv (.bool true) :: kv (.bool true) :: kv (.bool true) :: kv (.slice (some ⟨gl, 0, none⟩) 1 cl) :: kv (.pointer (some ⟨gl, 0, none⟩)) :: kv (.int .u32 (ploc 3)) :: kv (.pointer (some ⟨gp, 0 + 64, none⟩)) :: kv (.int .u32 (ploc 3)) :: kv (.bool true) :: kv (.bool true) :: kv (.bool true) :: kv (.pointer (some ⟨sb, 0, none⟩)) :: kv (.int .i64 (-1)) :: kv (.bool true) :: kv (.bool true) :: kv (.bool true) :: [])
          (.none :: .none :: .none :: .none :: .none :: .none :: .none :: .none :: .none :: .none :: .none :: .none :: .none :: .none :: .none :: .none :: .none :: .none :: .none :: .none :: .none :: .none :: .none :: .none :: .none :: .none :: .none :: .none :: .none :: .none :: .none :: .none :: .none :: [])
          (some 75 :: some 76 :: some 77 :: some 78 :: some 79 :: some 80 :: some 81 :: some 82 :: some 83 :: some 84 :: some 85 :: some 86 :: some 87 :: some 88 :: some 89 :: some 90 :: some 91 :: some 92 :: some 93 :: some 94 :: some 95 :: some 96 :: some 97 :: some 98 :: some 99 :: some 100 :: some 101 :: some 102 :: some 103 :: some 104 :: some 105 :: some 106 :: some 4 :: [])
          [(13, .int .i64 19), (16, .int .i64 19), (12, .string ByteArray.empty), (14, .string ByteArray.empty), (17, .slice (some ⟨gl, 0, none⟩) 1 cl), (9, .pointer (some ⟨gp, 0, none⟩)), (6, .pointer (some ⟨sb, 0, none⟩))]
          ([] :: [.slot 0] :: [.slot 1] :: [.slot 2] :: [.slot 2, .slot 3] :: [.slot 2, .slot 4] :: [.slot 5] :: [.slot 6] :: [.slot 6, .slot 7] :: [.slot 6, .slot 8] :: [.slot 9] :: [.slot 10] :: [.slot 10, .slot 11] :: [.slot 10, .slot 12] :: [.slot 13] :: [.slot 14] :: [.slot 14, .slot 15] :: [.slot 14, .slot 16] :: [.slot 14, .slot 17] :: [.slot 18] :: [.slot 19] :: [.slot 19, .slot 20] :: [.slot 19, .slot 21] :: [.slot 19] :: [.slot 19, .slot 23] :: [.slot 19, .slot 22, .slot 24] :: [.slot 19, .slot 25] :: [.slot 26] :: [.slot 27] :: [.slot 27, .slot 28] :: [.slot 27, .slot 29] :: [.slot 27, .slot 30] :: [.slot 31] :: [])
          [.slot 32] (75 :: 76 :: 77 :: 78 :: 79 :: 80 :: 81 :: 82 :: 83 :: 84 :: 85 :: 86 :: 87 :: 88 :: 89 :: 90 :: 91 :: 92 :: 93 :: 94 :: 95 :: 96 :: 97 :: 98 :: 99 :: 100 :: 101 :: 102 :: 103 :: 104 :: 105 :: 106 :: 4 :: [])
          rfl (by kernel_rfl) ⟨rfl, rfl, rfl, rfl, rfl, rfl, rfl, trivial⟩ (Below.refl _ u4).drew (Nat.le_refl _) trivial trivial (below_G (Nat.le_refl _) trivial)
          ⟨
            (fun Q aq ww own hS hBg fr kn => .inl ⟨trivial, fun K hK => wp_value (exec_move rfl fr.1) (hK _ _ ⟨Touch.refl _ _, rfl⟩)⟩),
            (fun Q aq ww own hS hBg fr kn => .inl ⟨trivial, fun K hK => wp_value (exec_bin2 (V := .bool true) rfl kn.1 rfl rfl (by simp [go_sem])) (hK _ _ ⟨Touch.refl _ _, rfl⟩)⟩),
            (fun Q aq ww own hS hBg fr kn => .inl ⟨trivial, fun K hK => wp_value (exec_move rfl kn.1) (hK _ _ ⟨Touch.refl _ _, rfl⟩)⟩),
            (fun Q aq ww own hS hBg fr kn => .inl ⟨kn.1, fun K hK => wp_value (exec_move rfl fr.2.1) (hK _ _ ⟨Touch.refl _ _, rfl⟩)⟩),
            (fun Q aq ww own hS hBg fr kn => .inl ⟨kn.1, fun K hK => wp_value (exec_bin2 (V := .bool true) rfl kn.2.1 rfl rfl (by simp [go_sem])) (hK _ _ ⟨Touch.refl _ _, rfl⟩)⟩),
            (fun Q aq ww own hS hBg fr kn => .inl ⟨trivial, fun K hK => wp_value (exec_pick rfl kn.1 kn.2.1) (hK _ _ ⟨Touch.refl _ _, rfl⟩)⟩),
            (fun Q aq ww own hS hBg fr kn => .inl ⟨trivial, fun K hK => wp_value (exec_move rfl kn.1) (hK _ _ ⟨Touch.refl _ _, rfl⟩)⟩),
            (fun Q aq ww own hS hBg fr kn => .inl ⟨kn.1, fun K hK => wp_value (exec_move rfl fr.2.2.1) (hK _ _ ⟨Touch.refl _ _, rfl⟩)⟩),
            (fun Q aq ww own hS hBg fr kn => .inl ⟨kn.1, fun K hK => wp_value (exec_eqS rfl kn.2.1 rfl) (hK _ _ ⟨Touch.refl _ _, rfl⟩)⟩),
            (fun Q aq ww own hS hBg fr kn => .inl ⟨trivial, fun K hK => wp_value (exec_pick rfl kn.1 kn.2.1) (hK _ _ ⟨Touch.refl _ _, rfl⟩)⟩),
            (fun Q aq ww own hS hBg fr kn => .inl ⟨trivial, fun K hK => wp_value (exec_move rfl kn.1) (hK _ _ ⟨Touch.refl _ _, rfl⟩)⟩),
            (fun Q aq ww own hS hBg fr kn => .inl ⟨kn.1, fun K hK => wp_value (exec_move rfl fr.2.2.2.1) (hK _ _ ⟨Touch.refl _ _, rfl⟩)⟩),
            (fun Q aq ww own hS hBg fr kn => .inl ⟨kn.1, fun K hK => wp_value (exec_eqS rfl kn.2.1 rfl) (hK _ _ ⟨Touch.refl _ _, rfl⟩)⟩),
            (fun Q aq ww own hS hBg fr kn => .inl ⟨trivial, fun K hK => wp_value (exec_pick rfl kn.1 kn.2.1) (hK _ _ ⟨Touch.refl _ _, rfl⟩)⟩),
            (fun Q aq ww own hS hBg fr kn => .inl ⟨trivial, fun K hK => wp_value (exec_move rfl kn.1) (hK _ _ ⟨Touch.refl _ _, rfl⟩)⟩),
            (fun Q aq ww own hS hBg fr kn => .inl ⟨kn.1, fun K hK => wp_value (exec_move rfl fr.2.2.2.2.1) (hK _ _ ⟨Touch.refl _ _, rfl⟩)⟩),
            (fun Q aq ww own hS hBg fr kn => .inl ⟨kn.1, fun K hK => wp_value (exec_len32 rfl kn.2.1) (hK _ _ ⟨Touch.refl _ _, rfl⟩)⟩),
            (fun Q aq ww own hS hBg fr kn => .inl ⟨kn.1, fun K hK => wp_value (exec_bin2 (V := .bool true) rfl kn.2.1 rfl rfl (by simp [go_sem])) (hK _ _ ⟨Touch.refl _ _, rfl⟩)⟩),
            (fun Q aq ww own hS hBg fr kn => .inl ⟨trivial, fun K hK => wp_value (exec_pick rfl kn.1 kn.2.1) (hK _ _ ⟨Touch.refl _ _, rfl⟩)⟩),
            (fun Q aq ww own hS hBg fr kn => .inl ⟨trivial, fun K hK => wp_value (exec_move rfl kn.1) (hK _ _ ⟨Touch.refl _ _, rfl⟩)⟩),
            (fun Q aq ww own hS hBg fr kn => .inl ⟨kn.1, fun K hK => wp_value (exec_move rfl fr.2.2.2.2.1) (hK _ _ ⟨Touch.refl _ _, rfl⟩)⟩),
            (fun Q aq ww own hS hBg fr kn => .inl ⟨kn.1, fun K hK => wp_value (exec_ixu32 rfl kn.2.1) (hK _ _ ⟨Touch.refl _ _, rfl⟩)⟩),
            (fun Q aq ww own hS hBg fr kn => .inl ⟨kn.1, fun K hK => wp_value (exec_ld rfl kn.2.1 (ld_u32 (HCL.out ww hS))) (hK _ _ ⟨Touch.refl _ _, rfl⟩)⟩),
            (fun Q aq ww own hS hBg fr kn => .inl ⟨kn.1, fun K hK => wp_value (exec_fpa (k := 2) rfl fr.2.2.2.2.2.1 (by decide)) (hK _ _ ⟨Touch.refl _ _, rfl⟩)⟩),
            (fun Q aq ww own hS hBg fr kn => .inl ⟨kn.1, fun K hK => wp_value (exec_ld rfl kn.2.1 (ld_u32 (pai_l (SAt.kept g4 hS)))) (hK _ _ ⟨Touch.refl _ _, rfl⟩)⟩),
            (fun Q aq ww own hS hBg fr kn => .inl ⟨kn.1, fun K hK => wp_value (exec_bin2 (V := .bool true) rfl kn.2.1 kn.2.2.1 rfl (by simp [go_sem])) (hK _ _ ⟨Touch.refl _ _, rfl⟩)⟩),
            (fun Q aq ww own hS hBg fr kn => .inl ⟨trivial, fun K hK => wp_value (exec_pick rfl kn.1 kn.2.1) (hK _ _ ⟨Touch.refl _ _, rfl⟩)⟩),
            (fun Q aq ww own hS hBg fr kn => .inl ⟨trivial, fun K hK => wp_value (exec_move rfl kn.1) (hK _ _ ⟨Touch.refl _ _, rfl⟩)⟩),
            (fun Q aq ww own hS hBg fr kn => .inl ⟨kn.1, fun K hK => wp_value (exec_move rfl fr.2.2.2.2.2.2.1) (hK _ _ ⟨Touch.refl _ _, rfl⟩)⟩),
            (fun Q aq ww own hS hBg fr kn => .inl ⟨kn.1, fun K hK => stepc enterDue9 rfl (args1 kn.2.1) (HDU.out ww hS) (fun w' hb => hK _ _ ⟨touch_below hb, rfl⟩)⟩),
            (fun Q aq ww own hS hBg fr kn => .inl ⟨kn.1, fun K hK => wp_value (exec_bin2 (V := .bool true) rfl kn.2.1 rfl rfl (by simp [go_sem])) (hK _ _ ⟨Touch.refl _ _, rfl⟩)⟩),
            (fun Q aq ww own hS hBg fr kn => .inl ⟨trivial, fun K hK => wp_value (exec_pick rfl kn.1 kn.2.1) (hK _ _ ⟨Touch.refl _ _, rfl⟩)⟩),
            (fun Q aq ww own hS hBg fr kn => .inl ⟨trivial, fun K hK => wp_value (exec_assign rfl kn.1) (hK _ _ ⟨Touch.refl _ _, rfl⟩)⟩),
            trivial⟩ ?_
      intro vs own u7 hB7 hsz kn inj
      have e4 : vs 4 = _ := kn.1
      clear kn inj hsz HCL HDU
      simp only [putAll, Act.put, List.setIfInBounds_toArray, List.set_cons_zero, List.set_cons_succ, e4]
      go_wp2_with fail
      go_ret
      exact ⟨rfl, hB4.trans (hB7.mono hB4.size)⟩
  · rw [if_neg hbs] at hb
    by_cases has : am < 0
    · rw [if_pos has] at ha
      have HBB := Hid.mk hb
      have HAA := Hid.mk ha
      clear hb ha
      go_enter Try.func7, Try.ntmps7
      go_wp2_with fail
      refine (awake_run w).mono ?_
      rintro e v1 ⟨rfl, hA1⟩
      go_wp2_with fail
      refine (New_run9 v1).mono ?_
      rintro e v2 ⟨sb, rfl, hs2, hsb, hA2⟩
      have hN := SeSt.new hA1 hs2 hsb hA2
      clear hs2 hsb hA2 hA1
      go_wp2_with fail
      rw [← HBB.out, ← HAA.out]
      clear hbm ham HBB HAA hbs has hbr har hbl hal
      refine (pair_run 3 _).mono ?_
      rintro e u1 ⟨rfl, hB1⟩
      have h1 := hN.below hB1
      go_wp2_with (refine wl_al zeroPairV ?_; intro gp u2 hgp g2 hB2; refine Hid.out ?_)
      refine Hid.mk ?_
      have h2' := (h1.keep hgp hB2)
      have hgw : w.heap.size ≤ gp := Nat.le_trans h1.size hgp
      clear h1 hN hB1
      go_wp2_with (refine st_st isPair (paiV_one _ _ _ _) g2 (by rfl) (by rfl) ?_; intro u3 g3 o3; refine Hid.out ?_)
      refine Hid.mk ?_
      have h3 := st_only h2' o3 hgw
      have gl3 := SAt.lt g3
      clear h2' g2 hB2 o3 hgp
      go_wp2_with (refine wl_value rfl (look_st rfl isPair g3 (by rfl)) ?_)
      refine (h3.call (fun k e => by rcases e with e | e; exact e.elim; exact e ▸ gl3) (fun S hS => HPU.out u3 sb S hS)).mono ?_
      rintro e u4 ⟨rfl, h4, k4⟩
      have g4 : SAt u4 gp 35 66 (paiV (pks 3) (pkr 3) (ploc 3) (pfar 3)) := SAt.block g3 (k4.2 gp gl3 (.inr rfl))
      have gl4 := SAt.lt g4
      clear h3 g3 gl3 k4
      go_wp2_with fail
      refine (h4.call (fun k e => by rcases e with e | e; exact e.elim; exact e ▸ gl4) (fun S hS => HSE.out u4 sb S hS)).mono ?_
      rintro e u5 ⟨rfl, h5, k5⟩
      have g2 : SAt u5 gp 35 66 (paiV (pks 3) (pkr 3) (ploc 3) (pfar 3)) := SAt.block g4 (k5.2 gp gl4 (.inr rfl))
      have h2 : SeSt w sb (fun k => k = gp) u5 σ2 := st_sub h5 (fun k e => .inr e)
      clear h4 h5 g4 gl4 k5
      have HO : Hid (∀ v, (SeSt w sb (fun k => k = gp) v σ2 ∧ SAt v gp 35 66 (paiV (pks 3) (pkr 3) (ploc 3) (pfar 3))) → Calls Try.prog 15 #[.pointer (some ⟨sb, 0, none⟩), .int .i64 (b + a), .int .u32 (ploc 3), .int .u64 7, .string (boxT (pkr 3) (nonN 7) ⟨#[121]⟩ ByteArray.empty)] v fun e w' => ∃ x, e = .returned x ∧ x = .tuple #[.string ByteArray.empty, .int .i64 0, .int .i64 19] ∧ (SeSt w sb (fun k => k = gp) w' σ3 ∧ SAt w' gp 35 66 (paiV (pks 3) (pkr 3) (ploc 3) (pfar 3)))) := Hid.mk (fun v hv => by
        have gl := SAt.lt hv.2
        refine (hv.1.call (fun k e => e ▸ gl) (fun S hS => HOP.out v sb S hS)).mono ?_
        rintro e w' ⟨rfl, q1, q2⟩
        exact ⟨_, rfl, rfl, q1, SAt.block hv.2 (q2.2 gp gl rfl)⟩)
      go_wp2_with fail
      refine wp_region_steps4 (SL (fun v => SeSt w sb (fun k => k = gp) v σ2 ∧ SAt v gp 35 66 (paiV (pks 3) (pkr 3) (ploc 3) (pfar 3))) (fun v => SeSt w sb (fun k => k = gp) v σ3 ∧ SAt v gp 35 66 (paiV (pks 3) (pkr 3) (ploc 3) (pfar 3))) 10) (fun j x => x = ([.pointer (some ⟨sb, 0, none⟩), .int .i64 b, .int .i64 a, .int .i64 (b + a), .pointer (some ⟨gp, 0 + 64, none⟩), .int .u32 (ploc 3), .pointer (some ⟨gp, 0 + 32, none⟩), .agg (WA .u8 32 (pkr 3)), .agg (WA .u8 12 (nonN 7)), .string (boxT (pkr 3) (nonN 7) ⟨#[121]⟩ ByteArray.empty), .tuple #[.string ByteArray.empty, .int .i64 0, .int .i64 19], .tuple #[.string ByteArray.empty, .int .i64 0, .int .i64 19], .string ByteArray.empty, .int .i64 0, .int .i64 19, .string ByteArray.empty, .int .i64 0, .int .i64 19] : List Value).getD j undef)
          [54, 55, 56, 57, 58, 59, 60, 61, 62, 63, 64, 53, 65, 66, 67, 14, 15, 16]
          [(6, .pointer (some ⟨sb, 0, none⟩)), (7, .int .i64 b), (8, .int .i64 a), (9, .pointer (some ⟨gp, 0, none⟩))]
          [[], [], [], [1, 2], [], [4], [], [6], [], [7, 8], [0, 3, 5, 9], [10], [11], [11], [11], [12], [13], [14]]
          [[], [], [], [], [], [], [], [], [], [7, 8], [5, 7, 8, 9], [5, 7, 8, 9, 10], [5, 7, 8, 9, 10], [5, 7, 8, 9, 10], [5, 7, 8, 9, 10], [5, 7, 8, 9, 10], [5, 7, 8, 9, 10], [5, 7, 8, 9, 10]]
          [[], [], [], [], [], [10], [], [10], [10], [10], [], [], [], [], [], [], [], []]
          rfl (by kernel_rfl) ⟨rfl, rfl, rfl, rfl, trivial⟩ (sl_start ⟨h2.below (below_drew _), SAt.kept g2 (below_drew _)⟩)
          ⟨
            (fun Q L aq ww hS hun hq hd fr kn => ⟨trivial, fun K hK => wp_value (exec_move rfl fr.1) (hK _ _ rfl (sl_same (by decide) hS))⟩),
            (fun Q L aq ww hS hun hq hd fr kn => ⟨trivial, fun K hK => wp_value (exec_move rfl fr.2.1) (hK _ _ rfl (sl_same (by decide) hS))⟩),
            (fun Q L aq ww hS hun hq hd fr kn => ⟨trivial, fun K hK => wp_value (exec_move rfl fr.2.2.1) (hK _ _ rfl (sl_same (by decide) hS))⟩),
            (fun Q L aq ww hS hun hq hd fr kn => ⟨trivial, fun K hK => wp_value (exec_addI rfl kn.1 kn.2.1 (by omega) (by omega)) (hK _ _ rfl (sl_same (by decide) hS))⟩),
            (fun Q L aq ww hS hun hq hd fr kn => ⟨trivial, fun K hK => wp_value (exec_fpa (k := 2) rfl fr.2.2.2.1 (by decide)) (hK _ _ rfl (sl_same (by decide) hS))⟩),
            (fun Q L aq ww hS hun hq hd fr kn => ⟨trivial, fun K hK => wp_value (exec_ld rfl kn.1 (ld_u32 (pai_l (sl_a hS hd.1).2))) (hK _ _ rfl (sl_same (by decide) hS))⟩),
            (fun Q L aq ww hS hun hq hd fr kn => ⟨trivial, fun K hK => wp_value (exec_fpa (k := 1) rfl fr.2.2.2.1 (by decide)) (hK _ _ rfl (sl_same (by decide) hS))⟩),
            (fun Q L aq ww hS hun hq hd fr kn => ⟨trivial, fun K hK => wp_value (exec_ldmid rfl isArr32 kn.1 (pai_r (sl_a hS hd.1).2)) (hK _ _ rfl (sl_same (by decide) hS))⟩),
            (fun Q L aq ww hS hun hq hd fr kn => ⟨trivial, fun K hK => stepc enterRNonce9 rfl (args1 rfl) (rNonce_run 7 ww (by omega)) (fun w' hb => hK _ _ rfl (sl_ahead (by decide) hd.1 (And.intro ((sl_a hS hd.1).1.below hb) (SAt.kept (sl_a hS hd.1).2 hb))))⟩),
            (fun Q L aq ww hS hun hq hd fr kn => ⟨trivial, fun K hK => stepc enterRSeal9 rfl (args4 kn.1 kn.2.1 rfl rfl) (rSeal_run (pkr 3) (nonN 7) ⟨#[121]⟩ ByteArray.empty ww (pkr_b 3) nonN_b (by decide) (by decide)) (fun w' hb => hK _ _ rfl (sl_ahead (by decide) hd.1 (And.intro ((sl_a hS hd.1).1.below hb) (SAt.kept (sl_a hS hd.1).2 hb))))⟩),
            (fun Q L aq ww hS hun hq hd fr kn => ⟨trivial, fun K hK => stepp enterOpenS9 rfl (args5 kn.1 kn.2.1 kn.2.2.1 rfl kn.2.2.2.1) (HO.out ww (sl_a hS hun)) (fun v w' hv => hK _ _ hv.1 (sl_done hv.2))⟩),
            (fun Q L aq ww hS hun hq hd fr kn => ⟨trivial, fun K hK => wp_value (exec_move rfl kn.1) (hK _ _ rfl (sl_same (by decide) hS))⟩),
            (fun Q L aq ww hS hun hq hd fr kn => ⟨trivial, fun K hK => wp_value (exec_ext rfl kn.1 rfl) (hK _ _ rfl (sl_same (by decide) hS))⟩),
            (fun Q L aq ww hS hun hq hd fr kn => ⟨trivial, fun K hK => wp_value (exec_ext rfl kn.1 rfl) (hK _ _ rfl (sl_same (by decide) hS))⟩),
            (fun Q L aq ww hS hun hq hd fr kn => ⟨trivial, fun K hK => wp_value (exec_ext rfl kn.1 rfl) (hK _ _ rfl (sl_same (by decide) hS))⟩),
            (fun Q L aq ww hS hun hq hd fr kn => ⟨trivial, fun K hK => wp_value (exec_assign rfl kn.1) (hK _ _ rfl (sl_same (by decide) hS))⟩),
            (fun Q L aq ww hS hun hq hd fr kn => ⟨trivial, fun K hK => wp_value (exec_assign rfl kn.1) (hK _ _ rfl (sl_same (by decide) hS))⟩),
            (fun Q L aq ww hS hun hq hd fr kn => ⟨trivial, fun K hK => wp_value (exec_assign rfl kn.1) (hK _ _ rfl (sl_same (by decide) hS))⟩),
            trivial⟩ ?_
      intro vs L u6 hS6 hL6 hk6
      obtain ⟨h6, g6⟩ := sl_b hS6 (hL6 10 (by decide))
      have e14 : vs 14 = .string ByteArray.empty := hk6 15 (by decide)
      have e15 : vs 15 = .int .i64 0 := hk6 16 (by decide)
      have e16 : vs 16 = .int .i64 19 := hk6 17 (by decide)
      clear hk6 hS6 hL6 HO h2 g2
      simp only [putAll, Act.put, List.setIfInBounds_toArray, List.set_cons_zero, List.set_cons_succ, e14, e15, e16]
      clear e14 e15 e16
      have gl6 := SAt.lt g6
      go_wp2_with fail
      refine (h6.call (fun k e => e ▸ gl6) (fun S hS => HEX.out u6 sb S hS)).mono ?_
      rintro e u4 ⟨⟨vo, rfl, hO⟩, h4, k4⟩
      have g4 : SAt u4 gp 35 66 (paiV (pks 3) (pkr 3) (ploc 3) (pfar 3)) := SAt.block g6 (k4.2 gp gl6 rfl)
      clear h6 g6 gl6 k4
      obtain ⟨hn1, p, cl, rfl, hp⟩ := own_u32 hO
      clear hn1
      clear hO
      obtain ⟨gl, rfl, hcl⟩ := hp (by decide)
      have c0 : u4.cell? ⟨gl, 0, none⟩ = some (.int .u32 (ploc 3)) := hcl 0 (by decide)
      have HCL : Hid (∀ v, Below u4.heap.size u4 v → v.cell? ⟨gl, 0, none⟩ = some (.int .u32 (ploc 3))) := Hid.mk (fun v hv => by rw [hv.cell (p := ⟨gl, 0, none⟩) (World.block_lt_of_cell? _ _ c0)]; exact c0)
      have HDU : Hid (∀ v, Below u4.heap.size u4 v → Calls Try.prog 22 #[.pointer (some ⟨sb, 0, none⟩)] v fun e w' => e = .returned (.int .i64 (-1)) ∧ Below v.heap.size v w') := Hid.mk (fun v hv => by
        refine ((h4.below hv).reads (fun S hS => HDE.out v sb S hS)).mono ?_
        rintro e w' ⟨rfl, hb⟩
        exact ⟨rfl, hb⟩)
      have hB4 := h4.bel
      clear c0 hcl hp h4
      go_wp2_with fail
      refine wp_region3 (Below u4.heap.size u4) u4.heap.size
          ([] : List (Nat × Cont))
          (kv (.int .i64 19) :: kv (.bool true) :: kv (.bool true) :: kv (.int .i64 19) :: kv (.bool true) :: kv (.bool true) :: kv (.bool true) :: kv (.string ByteArray.empty) :: kv (.bool true) :: kv (.bool true) :: kv (.bool true) :: kv (.string ByteArray.empty) :: kv (.bool true) :: kv (.bool true) :: kv (.bool true) :: kv (.slice (some ⟨gl, 0, none⟩) 1 cl) :: kv (.int .i64 1) :: kv (.bool true) :: kv (.bool true) :: kv (.bool true) :: kv (.slice (some ⟨gl, 0, none⟩) 1 cl) :: kv (.pointer (some ⟨gl, 0, none⟩)) :: kv (.int .u32 (ploc 3)) :: kv (.pointer (some ⟨gp, 0 + 64, none⟩)) :: kv (.int .u32 (ploc 3)) :: kv (.bool true) :: kv (.bool true) :: kv (.bool true) :: kv (.pointer (some ⟨sb, 0, none⟩)) :: kv (.int .i64 (-1)) :: kv (.bool true) :: kv (.bool true) :: kv (.bool true) :: [])
          (.none :: .none :: .none :: .none :: .none :: .none :: .none :: .none :: .none :: .none :: .none :: .none :: .none :: .none :: .none :: .none :: .none :: .none :: .none :: .none :: .none :: .none :: .none :: .none :: .none :: .none :: .none :: .none :: .none :: .none :: .none :: .none :: .none :: [])
          (some 75 :: some 76 :: some 77 :: some 78 :: some 79 :: some 80 :: some 81 :: some 82 :: some 83 :: some 84 :: some 85 :: some 86 :: some 87 :: some 88 :: some 89 :: some 90 :: some 91 :: some 92 :: some 93 :: some 94 :: some 95 :: some 96 :: some 97 :: some 98 :: some 99 :: some 100 :: some 101 :: some 102 :: some 103 :: some 104 :: some 105 :: some 106 :: some 4 :: [])
          [(13, .int .i64 19), (16, .int .i64 19), (12, .string ByteArray.empty), (14, .string ByteArray.empty), (17, .slice (some ⟨gl, 0, none⟩) 1 cl), (9, .pointer (some ⟨gp, 0, none⟩)), (6, .pointer (some ⟨sb, 0, none⟩))]
          ([] :: [.slot 0] :: [.slot 1] :: [.slot 2] :: [.slot 2, .slot 3] :: [.slot 2, .slot 4] :: [.slot 5] :: [.slot 6] :: [.slot 6, .slot 7] :: [.slot 6, .slot 8] :: [.slot 9] :: [.slot 10] :: [.slot 10, .slot 11] :: [.slot 10, .slot 12] :: [.slot 13] :: [.slot 14] :: [.slot 14, .slot 15] :: [.slot 14, .slot 16] :: [.slot 14, .slot 17] :: [.slot 18] :: [.slot 19] :: [.slot 19, .slot 20] :: [.slot 19, .slot 21] :: [.slot 19] :: [.slot 19, .slot 23] :: [.slot 19, .slot 22, .slot 24] :: [.slot 19, .slot 25] :: [.slot 26] :: [.slot 27] :: [.slot 27, .slot 28] :: [.slot 27, .slot 29] :: [.slot 27, .slot 30] :: [.slot 31] :: [])
          [.slot 32] (75 :: 76 :: 77 :: 78 :: 79 :: 80 :: 81 :: 82 :: 83 :: 84 :: 85 :: 86 :: 87 :: 88 :: 89 :: 90 :: 91 :: 92 :: 93 :: 94 :: 95 :: 96 :: 97 :: 98 :: 99 :: 100 :: 101 :: 102 :: 103 :: 104 :: 105 :: 106 :: 4 :: [])
          rfl (by kernel_rfl) ⟨rfl, rfl, rfl, rfl, rfl, rfl, rfl, trivial⟩ (Below.refl _ u4).drew (Nat.le_refl _) trivial trivial (below_G (Nat.le_refl _) trivial)
          ⟨
            (fun Q aq ww own hS hBg fr kn => .inl ⟨trivial, fun K hK => wp_value (exec_move rfl fr.1) (hK _ _ ⟨Touch.refl _ _, rfl⟩)⟩),
            (fun Q aq ww own hS hBg fr kn => .inl ⟨trivial, fun K hK => wp_value (exec_bin2 (V := .bool true) rfl kn.1 rfl rfl (by simp [go_sem])) (hK _ _ ⟨Touch.refl _ _, rfl⟩)⟩),
            (fun Q aq ww own hS hBg fr kn => .inl ⟨trivial, fun K hK => wp_value (exec_move rfl kn.1) (hK _ _ ⟨Touch.refl _ _, rfl⟩)⟩),
            (fun Q aq ww own hS hBg fr kn => .inl ⟨kn.1, fun K hK => wp_value (exec_move rfl fr.2.1) (hK _ _ ⟨Touch.refl _ _, rfl⟩)⟩),
            (fun Q aq ww own hS hBg fr kn => .inl ⟨kn.1, fun K hK => wp_value (exec_bin2 (V := .bool true) rfl kn.2.1 rfl rfl (by simp [go_sem])) (hK _ _ ⟨Touch.refl _ _, rfl⟩)⟩),
            (fun Q aq ww own hS hBg fr kn => .inl ⟨trivial, fun K hK => wp_value (exec_pick rfl kn.1 kn.2.1) (hK _ _ ⟨Touch.refl _ _, rfl⟩)⟩),
            (fun Q aq ww own hS hBg fr kn => .inl ⟨trivial, fun K hK => wp_value (exec_move rfl kn.1) (hK _ _ ⟨Touch.refl _ _, rfl⟩)⟩),
            (fun Q aq ww own hS hBg fr kn => .inl ⟨kn.1, fun K hK => wp_value (exec_move rfl fr.2.2.1) (hK _ _ ⟨Touch.refl _ _, rfl⟩)⟩),
            (fun Q aq ww own hS hBg fr kn => .inl ⟨kn.1, fun K hK => wp_value (exec_eqS rfl kn.2.1 rfl) (hK _ _ ⟨Touch.refl _ _, rfl⟩)⟩),
            (fun Q aq ww own hS hBg fr kn => .inl ⟨trivial, fun K hK => wp_value (exec_pick rfl kn.1 kn.2.1) (hK _ _ ⟨Touch.refl _ _, rfl⟩)⟩),
            (fun Q aq ww own hS hBg fr kn => .inl ⟨trivial, fun K hK => wp_value (exec_move rfl kn.1) (hK _ _ ⟨Touch.refl _ _, rfl⟩)⟩),
            (fun Q aq ww own hS hBg fr kn => .inl ⟨kn.1, fun K hK => wp_value (exec_move rfl fr.2.2.2.1) (hK _ _ ⟨Touch.refl _ _, rfl⟩)⟩),
            (fun Q aq ww own hS hBg fr kn => .inl ⟨kn.1, fun K hK => wp_value (exec_eqS rfl kn.2.1 rfl) (hK _ _ ⟨Touch.refl _ _, rfl⟩)⟩),
            (fun Q aq ww own hS hBg fr kn => .inl ⟨trivial, fun K hK => wp_value (exec_pick rfl kn.1 kn.2.1) (hK _ _ ⟨Touch.refl _ _, rfl⟩)⟩),
            (fun Q aq ww own hS hBg fr kn => .inl ⟨trivial, fun K hK => wp_value (exec_move rfl kn.1) (hK _ _ ⟨Touch.refl _ _, rfl⟩)⟩),
            (fun Q aq ww own hS hBg fr kn => .inl ⟨kn.1, fun K hK => wp_value (exec_move rfl fr.2.2.2.2.1) (hK _ _ ⟨Touch.refl _ _, rfl⟩)⟩),
            (fun Q aq ww own hS hBg fr kn => .inl ⟨kn.1, fun K hK => wp_value (exec_len32 rfl kn.2.1) (hK _ _ ⟨Touch.refl _ _, rfl⟩)⟩),
            (fun Q aq ww own hS hBg fr kn => .inl ⟨kn.1, fun K hK => wp_value (exec_bin2 (V := .bool true) rfl kn.2.1 rfl rfl (by simp [go_sem])) (hK _ _ ⟨Touch.refl _ _, rfl⟩)⟩),
            (fun Q aq ww own hS hBg fr kn => .inl ⟨trivial, fun K hK => wp_value (exec_pick rfl kn.1 kn.2.1) (hK _ _ ⟨Touch.refl _ _, rfl⟩)⟩),
            (fun Q aq ww own hS hBg fr kn => .inl ⟨trivial, fun K hK => wp_value (exec_move rfl kn.1) (hK _ _ ⟨Touch.refl _ _, rfl⟩)⟩),
            (fun Q aq ww own hS hBg fr kn => .inl ⟨kn.1, fun K hK => wp_value (exec_move rfl fr.2.2.2.2.1) (hK _ _ ⟨Touch.refl _ _, rfl⟩)⟩),
            (fun Q aq ww own hS hBg fr kn => .inl ⟨kn.1, fun K hK => wp_value (exec_ixu32 rfl kn.2.1) (hK _ _ ⟨Touch.refl _ _, rfl⟩)⟩),
            (fun Q aq ww own hS hBg fr kn => .inl ⟨kn.1, fun K hK => wp_value (exec_ld rfl kn.2.1 (ld_u32 (HCL.out ww hS))) (hK _ _ ⟨Touch.refl _ _, rfl⟩)⟩),
            (fun Q aq ww own hS hBg fr kn => .inl ⟨kn.1, fun K hK => wp_value (exec_fpa (k := 2) rfl fr.2.2.2.2.2.1 (by decide)) (hK _ _ ⟨Touch.refl _ _, rfl⟩)⟩),
            (fun Q aq ww own hS hBg fr kn => .inl ⟨kn.1, fun K hK => wp_value (exec_ld rfl kn.2.1 (ld_u32 (pai_l (SAt.kept g4 hS)))) (hK _ _ ⟨Touch.refl _ _, rfl⟩)⟩),
            (fun Q aq ww own hS hBg fr kn => .inl ⟨kn.1, fun K hK => wp_value (exec_bin2 (V := .bool true) rfl kn.2.1 kn.2.2.1 rfl (by simp [go_sem])) (hK _ _ ⟨Touch.refl _ _, rfl⟩)⟩),
            (fun Q aq ww own hS hBg fr kn => .inl ⟨trivial, fun K hK => wp_value (exec_pick rfl kn.1 kn.2.1) (hK _ _ ⟨Touch.refl _ _, rfl⟩)⟩),
            (fun Q aq ww own hS hBg fr kn => .inl ⟨trivial, fun K hK => wp_value (exec_move rfl kn.1) (hK _ _ ⟨Touch.refl _ _, rfl⟩)⟩),
            (fun Q aq ww own hS hBg fr kn => .inl ⟨kn.1, fun K hK => wp_value (exec_move rfl fr.2.2.2.2.2.2.1) (hK _ _ ⟨Touch.refl _ _, rfl⟩)⟩),
            (fun Q aq ww own hS hBg fr kn => .inl ⟨kn.1, fun K hK => stepc enterDue9 rfl (args1 kn.2.1) (HDU.out ww hS) (fun w' hb => hK _ _ ⟨touch_below hb, rfl⟩)⟩),
            (fun Q aq ww own hS hBg fr kn => .inl ⟨kn.1, fun K hK => wp_value (exec_bin2 (V := .bool true) rfl kn.2.1 rfl rfl (by simp [go_sem])) (hK _ _ ⟨Touch.refl _ _, rfl⟩)⟩),
            (fun Q aq ww own hS hBg fr kn => .inl ⟨trivial, fun K hK => wp_value (exec_pick rfl kn.1 kn.2.1) (hK _ _ ⟨Touch.refl _ _, rfl⟩)⟩),
            (fun Q aq ww own hS hBg fr kn => .inl ⟨trivial, fun K hK => wp_value (exec_assign rfl kn.1) (hK _ _ ⟨Touch.refl _ _, rfl⟩)⟩),
            trivial⟩ ?_
      intro vs own u7 hB7 hsz kn inj
      have e4 : vs 4 = _ := kn.1
      clear kn inj hsz HCL HDU
      simp only [putAll, Act.put, List.setIfInBounds_toArray, List.set_cons_zero, List.set_cons_succ, e4]
      go_wp2_with fail
      go_ret
      exact ⟨rfl, hB4.trans (hB7.mono hB4.size)⟩
    · rw [if_neg has] at ha
      have HBB := Hid.mk hb
      have HAA := Hid.mk ha
      clear hb ha
      go_enter Try.func7, Try.ntmps7
      go_wp2_with fail
      refine (awake_run w).mono ?_
      rintro e v1 ⟨rfl, hA1⟩
      go_wp2_with fail
      refine (New_run9 v1).mono ?_
      rintro e v2 ⟨sb, rfl, hs2, hsb, hA2⟩
      have hN := SeSt.new hA1 hs2 hsb hA2
      clear hs2 hsb hA2 hA1
      go_wp2_with fail
      rw [← HBB.out, ← HAA.out]
      clear hbm ham HBB HAA hbs has hbr har hbl hal
      refine (pair_run 3 _).mono ?_
      rintro e u1 ⟨rfl, hB1⟩
      have h1 := hN.below hB1
      go_wp2_with (refine wl_al zeroPairV ?_; intro gp u2 hgp g2 hB2; refine Hid.out ?_)
      refine Hid.mk ?_
      have h2' := (h1.keep hgp hB2)
      have hgw : w.heap.size ≤ gp := Nat.le_trans h1.size hgp
      clear h1 hN hB1
      go_wp2_with (refine st_st isPair (paiV_one _ _ _ _) g2 (by rfl) (by rfl) ?_; intro u3 g3 o3; refine Hid.out ?_)
      refine Hid.mk ?_
      have h3 := st_only h2' o3 hgw
      have gl3 := SAt.lt g3
      clear h2' g2 hB2 o3 hgp
      go_wp2_with (refine wl_value rfl (look_st rfl isPair g3 (by rfl)) ?_)
      refine (h3.call (fun k e => by rcases e with e | e; exact e.elim; exact e ▸ gl3) (fun S hS => HPU.out u3 sb S hS)).mono ?_
      rintro e u4 ⟨rfl, h4, k4⟩
      have g4 : SAt u4 gp 35 66 (paiV (pks 3) (pkr 3) (ploc 3) (pfar 3)) := SAt.block g3 (k4.2 gp gl3 (.inr rfl))
      have gl4 := SAt.lt g4
      clear h3 g3 gl3 k4
      go_wp2_with fail
      refine (h4.call (fun k e => by rcases e with e | e; exact e.elim; exact e ▸ gl4) (fun S hS => HSE.out u4 sb S hS)).mono ?_
      rintro e u5 ⟨rfl, h5, k5⟩
      have g2 : SAt u5 gp 35 66 (paiV (pks 3) (pkr 3) (ploc 3) (pfar 3)) := SAt.block g4 (k5.2 gp gl4 (.inr rfl))
      have h2 : SeSt w sb (fun k => k = gp) u5 σ2 := st_sub h5 (fun k e => .inr e)
      clear h4 h5 g4 gl4 k5
      have HO : Hid (∀ v, (SeSt w sb (fun k => k = gp) v σ2 ∧ SAt v gp 35 66 (paiV (pks 3) (pkr 3) (ploc 3) (pfar 3))) → Calls Try.prog 15 #[.pointer (some ⟨sb, 0, none⟩), .int .i64 (b + a), .int .u32 (ploc 3), .int .u64 7, .string (boxT (pkr 3) (nonN 7) ⟨#[121]⟩ ByteArray.empty)] v fun e w' => ∃ x, e = .returned x ∧ x = .tuple #[.string ByteArray.empty, .int .i64 0, .int .i64 19] ∧ (SeSt w sb (fun k => k = gp) w' σ3 ∧ SAt w' gp 35 66 (paiV (pks 3) (pkr 3) (ploc 3) (pfar 3)))) := Hid.mk (fun v hv => by
        have gl := SAt.lt hv.2
        refine (hv.1.call (fun k e => e ▸ gl) (fun S hS => HOP.out v sb S hS)).mono ?_
        rintro e w' ⟨rfl, q1, q2⟩
        exact ⟨_, rfl, rfl, q1, SAt.block hv.2 (q2.2 gp gl rfl)⟩)
      go_wp2_with fail
      refine wp_region_steps4 (SL (fun v => SeSt w sb (fun k => k = gp) v σ2 ∧ SAt v gp 35 66 (paiV (pks 3) (pkr 3) (ploc 3) (pfar 3))) (fun v => SeSt w sb (fun k => k = gp) v σ3 ∧ SAt v gp 35 66 (paiV (pks 3) (pkr 3) (ploc 3) (pfar 3))) 10) (fun j x => x = ([.pointer (some ⟨sb, 0, none⟩), .int .i64 b, .int .i64 a, .int .i64 (b + a), .pointer (some ⟨gp, 0 + 64, none⟩), .int .u32 (ploc 3), .pointer (some ⟨gp, 0 + 32, none⟩), .agg (WA .u8 32 (pkr 3)), .agg (WA .u8 12 (nonN 7)), .string (boxT (pkr 3) (nonN 7) ⟨#[121]⟩ ByteArray.empty), .tuple #[.string ByteArray.empty, .int .i64 0, .int .i64 19], .tuple #[.string ByteArray.empty, .int .i64 0, .int .i64 19], .string ByteArray.empty, .int .i64 0, .int .i64 19, .string ByteArray.empty, .int .i64 0, .int .i64 19] : List Value).getD j undef)
          [54, 55, 56, 57, 58, 59, 60, 61, 62, 63, 64, 53, 65, 66, 67, 14, 15, 16]
          [(6, .pointer (some ⟨sb, 0, none⟩)), (7, .int .i64 b), (8, .int .i64 a), (9, .pointer (some ⟨gp, 0, none⟩))]
          [[], [], [], [1, 2], [], [4], [], [6], [], [7, 8], [0, 3, 5, 9], [10], [11], [11], [11], [12], [13], [14]]
          [[], [], [], [], [], [], [], [], [], [7, 8], [5, 7, 8, 9], [5, 7, 8, 9, 10], [5, 7, 8, 9, 10], [5, 7, 8, 9, 10], [5, 7, 8, 9, 10], [5, 7, 8, 9, 10], [5, 7, 8, 9, 10], [5, 7, 8, 9, 10]]
          [[], [], [], [], [], [10], [], [10], [10], [10], [], [], [], [], [], [], [], []]
          rfl (by kernel_rfl) ⟨rfl, rfl, rfl, rfl, trivial⟩ (sl_start ⟨h2.below (below_drew _), SAt.kept g2 (below_drew _)⟩)
          ⟨
            (fun Q L aq ww hS hun hq hd fr kn => ⟨trivial, fun K hK => wp_value (exec_move rfl fr.1) (hK _ _ rfl (sl_same (by decide) hS))⟩),
            (fun Q L aq ww hS hun hq hd fr kn => ⟨trivial, fun K hK => wp_value (exec_move rfl fr.2.1) (hK _ _ rfl (sl_same (by decide) hS))⟩),
            (fun Q L aq ww hS hun hq hd fr kn => ⟨trivial, fun K hK => wp_value (exec_move rfl fr.2.2.1) (hK _ _ rfl (sl_same (by decide) hS))⟩),
            (fun Q L aq ww hS hun hq hd fr kn => ⟨trivial, fun K hK => wp_value (exec_addI rfl kn.1 kn.2.1 (by omega) (by omega)) (hK _ _ rfl (sl_same (by decide) hS))⟩),
            (fun Q L aq ww hS hun hq hd fr kn => ⟨trivial, fun K hK => wp_value (exec_fpa (k := 2) rfl fr.2.2.2.1 (by decide)) (hK _ _ rfl (sl_same (by decide) hS))⟩),
            (fun Q L aq ww hS hun hq hd fr kn => ⟨trivial, fun K hK => wp_value (exec_ld rfl kn.1 (ld_u32 (pai_l (sl_a hS hd.1).2))) (hK _ _ rfl (sl_same (by decide) hS))⟩),
            (fun Q L aq ww hS hun hq hd fr kn => ⟨trivial, fun K hK => wp_value (exec_fpa (k := 1) rfl fr.2.2.2.1 (by decide)) (hK _ _ rfl (sl_same (by decide) hS))⟩),
            (fun Q L aq ww hS hun hq hd fr kn => ⟨trivial, fun K hK => wp_value (exec_ldmid rfl isArr32 kn.1 (pai_r (sl_a hS hd.1).2)) (hK _ _ rfl (sl_same (by decide) hS))⟩),
            (fun Q L aq ww hS hun hq hd fr kn => ⟨trivial, fun K hK => stepc enterRNonce9 rfl (args1 rfl) (rNonce_run 7 ww (by omega)) (fun w' hb => hK _ _ rfl (sl_ahead (by decide) hd.1 (And.intro ((sl_a hS hd.1).1.below hb) (SAt.kept (sl_a hS hd.1).2 hb))))⟩),
            (fun Q L aq ww hS hun hq hd fr kn => ⟨trivial, fun K hK => stepc enterRSeal9 rfl (args4 kn.1 kn.2.1 rfl rfl) (rSeal_run (pkr 3) (nonN 7) ⟨#[121]⟩ ByteArray.empty ww (pkr_b 3) nonN_b (by decide) (by decide)) (fun w' hb => hK _ _ rfl (sl_ahead (by decide) hd.1 (And.intro ((sl_a hS hd.1).1.below hb) (SAt.kept (sl_a hS hd.1).2 hb))))⟩),
            (fun Q L aq ww hS hun hq hd fr kn => ⟨trivial, fun K hK => stepp enterOpenS9 rfl (args5 kn.1 kn.2.1 kn.2.2.1 rfl kn.2.2.2.1) (HO.out ww (sl_a hS hun)) (fun v w' hv => hK _ _ hv.1 (sl_done hv.2))⟩),
            (fun Q L aq ww hS hun hq hd fr kn => ⟨trivial, fun K hK => wp_value (exec_move rfl kn.1) (hK _ _ rfl (sl_same (by decide) hS))⟩),
            (fun Q L aq ww hS hun hq hd fr kn => ⟨trivial, fun K hK => wp_value (exec_ext rfl kn.1 rfl) (hK _ _ rfl (sl_same (by decide) hS))⟩),
            (fun Q L aq ww hS hun hq hd fr kn => ⟨trivial, fun K hK => wp_value (exec_ext rfl kn.1 rfl) (hK _ _ rfl (sl_same (by decide) hS))⟩),
            (fun Q L aq ww hS hun hq hd fr kn => ⟨trivial, fun K hK => wp_value (exec_ext rfl kn.1 rfl) (hK _ _ rfl (sl_same (by decide) hS))⟩),
            (fun Q L aq ww hS hun hq hd fr kn => ⟨trivial, fun K hK => wp_value (exec_assign rfl kn.1) (hK _ _ rfl (sl_same (by decide) hS))⟩),
            (fun Q L aq ww hS hun hq hd fr kn => ⟨trivial, fun K hK => wp_value (exec_assign rfl kn.1) (hK _ _ rfl (sl_same (by decide) hS))⟩),
            (fun Q L aq ww hS hun hq hd fr kn => ⟨trivial, fun K hK => wp_value (exec_assign rfl kn.1) (hK _ _ rfl (sl_same (by decide) hS))⟩),
            trivial⟩ ?_
      intro vs L u6 hS6 hL6 hk6
      obtain ⟨h6, g6⟩ := sl_b hS6 (hL6 10 (by decide))
      have e14 : vs 14 = .string ByteArray.empty := hk6 15 (by decide)
      have e15 : vs 15 = .int .i64 0 := hk6 16 (by decide)
      have e16 : vs 16 = .int .i64 19 := hk6 17 (by decide)
      clear hk6 hS6 hL6 HO h2 g2
      simp only [putAll, Act.put, List.setIfInBounds_toArray, List.set_cons_zero, List.set_cons_succ, e14, e15, e16]
      clear e14 e15 e16
      have gl6 := SAt.lt g6
      go_wp2_with fail
      refine (h6.call (fun k e => e ▸ gl6) (fun S hS => HEX.out u6 sb S hS)).mono ?_
      rintro e u4 ⟨⟨vo, rfl, hO⟩, h4, k4⟩
      have g4 : SAt u4 gp 35 66 (paiV (pks 3) (pkr 3) (ploc 3) (pfar 3)) := SAt.block g6 (k4.2 gp gl6 rfl)
      clear h6 g6 gl6 k4
      obtain ⟨hn1, p, cl, rfl, hp⟩ := own_u32 hO
      clear hn1
      clear hO
      obtain ⟨gl, rfl, hcl⟩ := hp (by decide)
      have c0 : u4.cell? ⟨gl, 0, none⟩ = some (.int .u32 (ploc 3)) := hcl 0 (by decide)
      have HCL : Hid (∀ v, Below u4.heap.size u4 v → v.cell? ⟨gl, 0, none⟩ = some (.int .u32 (ploc 3))) := Hid.mk (fun v hv => by rw [hv.cell (p := ⟨gl, 0, none⟩) (World.block_lt_of_cell? _ _ c0)]; exact c0)
      have HDU : Hid (∀ v, Below u4.heap.size u4 v → Calls Try.prog 22 #[.pointer (some ⟨sb, 0, none⟩)] v fun e w' => e = .returned (.int .i64 (-1)) ∧ Below v.heap.size v w') := Hid.mk (fun v hv => by
        refine ((h4.below hv).reads (fun S hS => HDE.out v sb S hS)).mono ?_
        rintro e w' ⟨rfl, hb⟩
        exact ⟨rfl, hb⟩)
      have hB4 := h4.bel
      clear c0 hcl hp h4
      go_wp2_with fail
      refine wp_region3 (Below u4.heap.size u4) u4.heap.size
          ([] : List (Nat × Cont))
          (kv (.int .i64 19) :: kv (.bool true) :: kv (.bool true) :: kv (.int .i64 19) :: kv (.bool true) :: kv (.bool true) :: kv (.bool true) :: kv (.string ByteArray.empty) :: kv (.bool true) :: kv (.bool true) :: kv (.bool true) :: kv (.string ByteArray.empty) :: kv (.bool true) :: kv (.bool true) :: kv (.bool true) :: kv (.slice (some ⟨gl, 0, none⟩) 1 cl) :: kv (.int .i64 1) :: kv (.bool true) :: kv (.bool true) :: kv (.bool true) :: kv (.slice (some ⟨gl, 0, none⟩) 1 cl) :: kv (.pointer (some ⟨gl, 0, none⟩)) :: kv (.int .u32 (ploc 3)) :: kv (.pointer (some ⟨gp, 0 + 64, none⟩)) :: kv (.int .u32 (ploc 3)) :: kv (.bool true) :: kv (.bool true) :: kv (.bool true) :: kv (.pointer (some ⟨sb, 0, none⟩)) :: kv (.int .i64 (-1)) :: kv (.bool true) :: kv (.bool true) :: kv (.bool true) :: [])
          (.none :: .none :: .none :: .none :: .none :: .none :: .none :: .none :: .none :: .none :: .none :: .none :: .none :: .none :: .none :: .none :: .none :: .none :: .none :: .none :: .none :: .none :: .none :: .none :: .none :: .none :: .none :: .none :: .none :: .none :: .none :: .none :: .none :: [])
          (some 75 :: some 76 :: some 77 :: some 78 :: some 79 :: some 80 :: some 81 :: some 82 :: some 83 :: some 84 :: some 85 :: some 86 :: some 87 :: some 88 :: some 89 :: some 90 :: some 91 :: some 92 :: some 93 :: some 94 :: some 95 :: some 96 :: some 97 :: some 98 :: some 99 :: some 100 :: some 101 :: some 102 :: some 103 :: some 104 :: some 105 :: some 106 :: some 4 :: [])
          [(13, .int .i64 19), (16, .int .i64 19), (12, .string ByteArray.empty), (14, .string ByteArray.empty), (17, .slice (some ⟨gl, 0, none⟩) 1 cl), (9, .pointer (some ⟨gp, 0, none⟩)), (6, .pointer (some ⟨sb, 0, none⟩))]
          ([] :: [.slot 0] :: [.slot 1] :: [.slot 2] :: [.slot 2, .slot 3] :: [.slot 2, .slot 4] :: [.slot 5] :: [.slot 6] :: [.slot 6, .slot 7] :: [.slot 6, .slot 8] :: [.slot 9] :: [.slot 10] :: [.slot 10, .slot 11] :: [.slot 10, .slot 12] :: [.slot 13] :: [.slot 14] :: [.slot 14, .slot 15] :: [.slot 14, .slot 16] :: [.slot 14, .slot 17] :: [.slot 18] :: [.slot 19] :: [.slot 19, .slot 20] :: [.slot 19, .slot 21] :: [.slot 19] :: [.slot 19, .slot 23] :: [.slot 19, .slot 22, .slot 24] :: [.slot 19, .slot 25] :: [.slot 26] :: [.slot 27] :: [.slot 27, .slot 28] :: [.slot 27, .slot 29] :: [.slot 27, .slot 30] :: [.slot 31] :: [])
          [.slot 32] (75 :: 76 :: 77 :: 78 :: 79 :: 80 :: 81 :: 82 :: 83 :: 84 :: 85 :: 86 :: 87 :: 88 :: 89 :: 90 :: 91 :: 92 :: 93 :: 94 :: 95 :: 96 :: 97 :: 98 :: 99 :: 100 :: 101 :: 102 :: 103 :: 104 :: 105 :: 106 :: 4 :: [])
          rfl (by kernel_rfl) ⟨rfl, rfl, rfl, rfl, rfl, rfl, rfl, trivial⟩ (Below.refl _ u4).drew (Nat.le_refl _) trivial trivial (below_G (Nat.le_refl _) trivial)
          ⟨
            (fun Q aq ww own hS hBg fr kn => .inl ⟨trivial, fun K hK => wp_value (exec_move rfl fr.1) (hK _ _ ⟨Touch.refl _ _, rfl⟩)⟩),
            (fun Q aq ww own hS hBg fr kn => .inl ⟨trivial, fun K hK => wp_value (exec_bin2 (V := .bool true) rfl kn.1 rfl rfl (by simp [go_sem])) (hK _ _ ⟨Touch.refl _ _, rfl⟩)⟩),
            (fun Q aq ww own hS hBg fr kn => .inl ⟨trivial, fun K hK => wp_value (exec_move rfl kn.1) (hK _ _ ⟨Touch.refl _ _, rfl⟩)⟩),
            (fun Q aq ww own hS hBg fr kn => .inl ⟨kn.1, fun K hK => wp_value (exec_move rfl fr.2.1) (hK _ _ ⟨Touch.refl _ _, rfl⟩)⟩),
            (fun Q aq ww own hS hBg fr kn => .inl ⟨kn.1, fun K hK => wp_value (exec_bin2 (V := .bool true) rfl kn.2.1 rfl rfl (by simp [go_sem])) (hK _ _ ⟨Touch.refl _ _, rfl⟩)⟩),
            (fun Q aq ww own hS hBg fr kn => .inl ⟨trivial, fun K hK => wp_value (exec_pick rfl kn.1 kn.2.1) (hK _ _ ⟨Touch.refl _ _, rfl⟩)⟩),
            (fun Q aq ww own hS hBg fr kn => .inl ⟨trivial, fun K hK => wp_value (exec_move rfl kn.1) (hK _ _ ⟨Touch.refl _ _, rfl⟩)⟩),
            (fun Q aq ww own hS hBg fr kn => .inl ⟨kn.1, fun K hK => wp_value (exec_move rfl fr.2.2.1) (hK _ _ ⟨Touch.refl _ _, rfl⟩)⟩),
            (fun Q aq ww own hS hBg fr kn => .inl ⟨kn.1, fun K hK => wp_value (exec_eqS rfl kn.2.1 rfl) (hK _ _ ⟨Touch.refl _ _, rfl⟩)⟩),
            (fun Q aq ww own hS hBg fr kn => .inl ⟨trivial, fun K hK => wp_value (exec_pick rfl kn.1 kn.2.1) (hK _ _ ⟨Touch.refl _ _, rfl⟩)⟩),
            (fun Q aq ww own hS hBg fr kn => .inl ⟨trivial, fun K hK => wp_value (exec_move rfl kn.1) (hK _ _ ⟨Touch.refl _ _, rfl⟩)⟩),
            (fun Q aq ww own hS hBg fr kn => .inl ⟨kn.1, fun K hK => wp_value (exec_move rfl fr.2.2.2.1) (hK _ _ ⟨Touch.refl _ _, rfl⟩)⟩),
            (fun Q aq ww own hS hBg fr kn => .inl ⟨kn.1, fun K hK => wp_value (exec_eqS rfl kn.2.1 rfl) (hK _ _ ⟨Touch.refl _ _, rfl⟩)⟩),
            (fun Q aq ww own hS hBg fr kn => .inl ⟨trivial, fun K hK => wp_value (exec_pick rfl kn.1 kn.2.1) (hK _ _ ⟨Touch.refl _ _, rfl⟩)⟩),
            (fun Q aq ww own hS hBg fr kn => .inl ⟨trivial, fun K hK => wp_value (exec_move rfl kn.1) (hK _ _ ⟨Touch.refl _ _, rfl⟩)⟩),
            (fun Q aq ww own hS hBg fr kn => .inl ⟨kn.1, fun K hK => wp_value (exec_move rfl fr.2.2.2.2.1) (hK _ _ ⟨Touch.refl _ _, rfl⟩)⟩),
            (fun Q aq ww own hS hBg fr kn => .inl ⟨kn.1, fun K hK => wp_value (exec_len32 rfl kn.2.1) (hK _ _ ⟨Touch.refl _ _, rfl⟩)⟩),
            (fun Q aq ww own hS hBg fr kn => .inl ⟨kn.1, fun K hK => wp_value (exec_bin2 (V := .bool true) rfl kn.2.1 rfl rfl (by simp [go_sem])) (hK _ _ ⟨Touch.refl _ _, rfl⟩)⟩),
            (fun Q aq ww own hS hBg fr kn => .inl ⟨trivial, fun K hK => wp_value (exec_pick rfl kn.1 kn.2.1) (hK _ _ ⟨Touch.refl _ _, rfl⟩)⟩),
            (fun Q aq ww own hS hBg fr kn => .inl ⟨trivial, fun K hK => wp_value (exec_move rfl kn.1) (hK _ _ ⟨Touch.refl _ _, rfl⟩)⟩),
            (fun Q aq ww own hS hBg fr kn => .inl ⟨kn.1, fun K hK => wp_value (exec_move rfl fr.2.2.2.2.1) (hK _ _ ⟨Touch.refl _ _, rfl⟩)⟩),
            (fun Q aq ww own hS hBg fr kn => .inl ⟨kn.1, fun K hK => wp_value (exec_ixu32 rfl kn.2.1) (hK _ _ ⟨Touch.refl _ _, rfl⟩)⟩),
            (fun Q aq ww own hS hBg fr kn => .inl ⟨kn.1, fun K hK => wp_value (exec_ld rfl kn.2.1 (ld_u32 (HCL.out ww hS))) (hK _ _ ⟨Touch.refl _ _, rfl⟩)⟩),
            (fun Q aq ww own hS hBg fr kn => .inl ⟨kn.1, fun K hK => wp_value (exec_fpa (k := 2) rfl fr.2.2.2.2.2.1 (by decide)) (hK _ _ ⟨Touch.refl _ _, rfl⟩)⟩),
            (fun Q aq ww own hS hBg fr kn => .inl ⟨kn.1, fun K hK => wp_value (exec_ld rfl kn.2.1 (ld_u32 (pai_l (SAt.kept g4 hS)))) (hK _ _ ⟨Touch.refl _ _, rfl⟩)⟩),
            (fun Q aq ww own hS hBg fr kn => .inl ⟨kn.1, fun K hK => wp_value (exec_bin2 (V := .bool true) rfl kn.2.1 kn.2.2.1 rfl (by simp [go_sem])) (hK _ _ ⟨Touch.refl _ _, rfl⟩)⟩),
            (fun Q aq ww own hS hBg fr kn => .inl ⟨trivial, fun K hK => wp_value (exec_pick rfl kn.1 kn.2.1) (hK _ _ ⟨Touch.refl _ _, rfl⟩)⟩),
            (fun Q aq ww own hS hBg fr kn => .inl ⟨trivial, fun K hK => wp_value (exec_move rfl kn.1) (hK _ _ ⟨Touch.refl _ _, rfl⟩)⟩),
            (fun Q aq ww own hS hBg fr kn => .inl ⟨kn.1, fun K hK => wp_value (exec_move rfl fr.2.2.2.2.2.2.1) (hK _ _ ⟨Touch.refl _ _, rfl⟩)⟩),
            (fun Q aq ww own hS hBg fr kn => .inl ⟨kn.1, fun K hK => stepc enterDue9 rfl (args1 kn.2.1) (HDU.out ww hS) (fun w' hb => hK _ _ ⟨touch_below hb, rfl⟩)⟩),
            (fun Q aq ww own hS hBg fr kn => .inl ⟨kn.1, fun K hK => wp_value (exec_bin2 (V := .bool true) rfl kn.2.1 rfl rfl (by simp [go_sem])) (hK _ _ ⟨Touch.refl _ _, rfl⟩)⟩),
            (fun Q aq ww own hS hBg fr kn => .inl ⟨trivial, fun K hK => wp_value (exec_pick rfl kn.1 kn.2.1) (hK _ _ ⟨Touch.refl _ _, rfl⟩)⟩),
            (fun Q aq ww own hS hBg fr kn => .inl ⟨trivial, fun K hK => wp_value (exec_assign rfl kn.1) (hK _ _ ⟨Touch.refl _ _, rfl⟩)⟩),
            trivial⟩ ?_
      intro vs own u7 hB7 hsz kn inj
      have e4 : vs 4 = _ := kn.1
      clear kn inj hsz HCL HDU
      simp only [putAll, Act.put, List.setIfInBounds_toArray, List.set_cons_zero, List.set_cons_succ, e4]
      go_wp2_with fail
      go_ret
      exact ⟨rfl, hB4.trans (hB7.mono hB4.size)⟩
set_option maxHeartbeats 16000000 in
theorem dies_new (born after a b : Int) (w : World) {σ1 σ2 σ3 σ4 : Ses} {X0 : Int} {X1 : ByteArray} (hb0 : 0 ≤ b) (hb1 : b < 1000000000) (ha0 : 0 ≤ a) (ha1 : a < 400000) (hold : a < 180000)
    (hb : b = if Int.tmod born 1000000000 < 0 then -(Int.tmod born 1000000000) else Int.tmod born 1000000000) (ha : a = if Int.tmod after 400000 < 0 then -(Int.tmod after 400000) else Int.tmod after 400000)
    (HPU : Hid (∀ u sb S, SesAt u sb ses0 S → Calls Try.prog 12 #[.pointer (some ⟨sb, 0, none⟩), .int .i64 b, .agg (SC 66 (paiV (pks 3) (pkr 3) (ploc 3) (pfar 3))), .bool true] u fun e w' => e = .returned (.tuple #[.int .i64 1, .int .i64 0]) ∧ Goes SesAt u sb S σ1 w'))
    (HSE : Hid (∀ u sb S, SesAt u sb σ1 S → Calls Try.prog 14 #[.pointer (some ⟨sb, 0, none⟩), .int .i64 (b + a), .string ⟨#[120]⟩] u fun e w' => e = .returned (.tuple #[.int .u32 X0, .int .u64 0, .string X1, .int .i64 0]) ∧ Goes SesAt u sb S σ2 w'))
    (HOP : Hid (∀ u sb S, SesAt u sb σ2 S → Calls Try.prog 15 #[.pointer (some ⟨sb, 0, none⟩), .int .i64 (b + a), .int .u32 (ploc 3), .int .u64 7, .string (boxT (pkr 3) (nonN 7) ⟨#[121]⟩ ByteArray.empty)] u fun e w' => e = .returned (.tuple #[.string ⟨#[121]⟩, .int .i64 1, .int .i64 0]) ∧ Goes SesAt u sb S σ3 w'))
    (HEX : Hid (∀ u sb S, SesAt u sb σ3 S → Calls Try.prog 16 #[.pointer (some ⟨sb, 0, none⟩), .int .i64 (b + a)] u fun e w' => (∃ vo, e = .returned vo ∧ w'.ownsRow u.heap.size 33 1 vo 0 (u32X [])) ∧ Goes SesAt u sb S σ4 w'))
    (HDE : Hid (∀ u sb S, SesAt u sb σ4 S → Calls Try.prog 22 #[.pointer (some ⟨sb, 0, none⟩)] u fun e w' => e = .returned (.int .i64 (b + 180000)) ∧ Below u.heap.size u w')) :
    Calls Try.prog 7 #[.int .i64 born, .int .i64 after] w fun e w' => e = .returned (.bool true) ∧ Below w.heap.size w w' := by
  have hdec : decide (180000 ≤ a) = false := decide_eq_false (by omega)
  have hbr := Int.tmod_lt_of_pos born (show (0 : Int) < 1000000000 by omega)
  have har := Int.tmod_lt_of_pos after (show (0 : Int) < 400000 by omega)
  have hbl := tmod_gt born (show (0 : Int) < 1000000000 by omega)
  have hal := tmod_gt after (show (0 : Int) < 400000 by omega)
  generalize hbm : Int.tmod born 1000000000 = bm at *
  generalize ham : Int.tmod after 400000 = am at *
  by_cases hbs : bm < 0
  · rw [if_pos hbs] at hb
    by_cases has : am < 0
    · rw [if_pos has] at ha
      have HBB := Hid.mk hb
      have HAA := Hid.mk ha
      clear hb ha
      go_enter Try.func7, Try.ntmps7
      go_wp2_with fail
      refine (awake_run w).mono ?_
      rintro e v1 ⟨rfl, hA1⟩
      go_wp2_with fail
      refine (New_run9 v1).mono ?_
      rintro e v2 ⟨sb, rfl, hs2, hsb, hA2⟩
      have hN := SeSt.new hA1 hs2 hsb hA2
      clear hs2 hsb hA2 hA1
      go_wp2_with fail
      rw [← HBB.out, ← HAA.out]
      clear hbm ham HBB HAA hbs has hbr har hbl hal
      refine (pair_run 3 _).mono ?_
      rintro e u1 ⟨rfl, hB1⟩
      have h1 := hN.below hB1
      go_wp2_with (refine wl_al zeroPairV ?_; intro gp u2 hgp g2 hB2; refine Hid.out ?_)
      refine Hid.mk ?_
      have h2' := (h1.keep hgp hB2)
      have hgw : w.heap.size ≤ gp := Nat.le_trans h1.size hgp
      clear h1 hN hB1
      go_wp2_with (refine st_st isPair (paiV_one _ _ _ _) g2 (by rfl) (by rfl) ?_; intro u3 g3 o3; refine Hid.out ?_)
      refine Hid.mk ?_
      have h3 := st_only h2' o3 hgw
      have gl3 := SAt.lt g3
      clear h2' g2 hB2 o3 hgp
      go_wp2_with (refine wl_value rfl (look_st rfl isPair g3 (by rfl)) ?_)
      refine (h3.call (fun k e => by rcases e with e | e; exact e.elim; exact e ▸ gl3) (fun S hS => HPU.out u3 sb S hS)).mono ?_
      rintro e u4 ⟨rfl, h4, k4⟩
      have g4 : SAt u4 gp 35 66 (paiV (pks 3) (pkr 3) (ploc 3) (pfar 3)) := SAt.block g3 (k4.2 gp gl3 (.inr rfl))
      have gl4 := SAt.lt g4
      clear h3 g3 gl3 k4
      go_wp2_with fail
      refine (h4.call (fun k e => by rcases e with e | e; exact e.elim; exact e ▸ gl4) (fun S hS => HSE.out u4 sb S hS)).mono ?_
      rintro e u5 ⟨rfl, h5, k5⟩
      have g2 : SAt u5 gp 35 66 (paiV (pks 3) (pkr 3) (ploc 3) (pfar 3)) := SAt.block g4 (k5.2 gp gl4 (.inr rfl))
      have h2 : SeSt w sb (fun k => k = gp) u5 σ2 := st_sub h5 (fun k e => .inr e)
      clear h4 h5 g4 gl4 k5
      have HO : Hid (∀ v, (SeSt w sb (fun k => k = gp) v σ2 ∧ SAt v gp 35 66 (paiV (pks 3) (pkr 3) (ploc 3) (pfar 3))) → Calls Try.prog 15 #[.pointer (some ⟨sb, 0, none⟩), .int .i64 (b + a), .int .u32 (ploc 3), .int .u64 7, .string (boxT (pkr 3) (nonN 7) ⟨#[121]⟩ ByteArray.empty)] v fun e w' => ∃ x, e = .returned x ∧ x = .tuple #[.string ⟨#[121]⟩, .int .i64 1, .int .i64 0] ∧ (SeSt w sb (fun k => k = gp) w' σ3 ∧ SAt w' gp 35 66 (paiV (pks 3) (pkr 3) (ploc 3) (pfar 3)))) := Hid.mk (fun v hv => by
        have gl := SAt.lt hv.2
        refine (hv.1.call (fun k e => e ▸ gl) (fun S hS => HOP.out v sb S hS)).mono ?_
        rintro e w' ⟨rfl, q1, q2⟩
        exact ⟨_, rfl, rfl, q1, SAt.block hv.2 (q2.2 gp gl rfl)⟩)
      go_wp2_with fail
      refine wp_region_steps4 (SL (fun v => SeSt w sb (fun k => k = gp) v σ2 ∧ SAt v gp 35 66 (paiV (pks 3) (pkr 3) (ploc 3) (pfar 3))) (fun v => SeSt w sb (fun k => k = gp) v σ3 ∧ SAt v gp 35 66 (paiV (pks 3) (pkr 3) (ploc 3) (pfar 3))) 10) (fun j x => x = ([.pointer (some ⟨sb, 0, none⟩), .int .i64 b, .int .i64 a, .int .i64 (b + a), .pointer (some ⟨gp, 0 + 64, none⟩), .int .u32 (ploc 3), .pointer (some ⟨gp, 0 + 32, none⟩), .agg (WA .u8 32 (pkr 3)), .agg (WA .u8 12 (nonN 7)), .string (boxT (pkr 3) (nonN 7) ⟨#[121]⟩ ByteArray.empty), .tuple #[.string ⟨#[121]⟩, .int .i64 1, .int .i64 0], .tuple #[.string ⟨#[121]⟩, .int .i64 1, .int .i64 0], .string ⟨#[121]⟩, .int .i64 1, .int .i64 0, .string ⟨#[121]⟩, .int .i64 1, .int .i64 0] : List Value).getD j undef)
          [54, 55, 56, 57, 58, 59, 60, 61, 62, 63, 64, 53, 65, 66, 67, 14, 15, 16]
          [(6, .pointer (some ⟨sb, 0, none⟩)), (7, .int .i64 b), (8, .int .i64 a), (9, .pointer (some ⟨gp, 0, none⟩))]
          [[], [], [], [1, 2], [], [4], [], [6], [], [7, 8], [0, 3, 5, 9], [10], [11], [11], [11], [12], [13], [14]]
          [[], [], [], [], [], [], [], [], [], [7, 8], [5, 7, 8, 9], [5, 7, 8, 9, 10], [5, 7, 8, 9, 10], [5, 7, 8, 9, 10], [5, 7, 8, 9, 10], [5, 7, 8, 9, 10], [5, 7, 8, 9, 10], [5, 7, 8, 9, 10]]
          [[], [], [], [], [], [10], [], [10], [10], [10], [], [], [], [], [], [], [], []]
          rfl (by kernel_rfl) ⟨rfl, rfl, rfl, rfl, trivial⟩ (sl_start ⟨h2.below (below_drew _), SAt.kept g2 (below_drew _)⟩)
          ⟨
            (fun Q L aq ww hS hun hq hd fr kn => ⟨trivial, fun K hK => wp_value (exec_move rfl fr.1) (hK _ _ rfl (sl_same (by decide) hS))⟩),
            (fun Q L aq ww hS hun hq hd fr kn => ⟨trivial, fun K hK => wp_value (exec_move rfl fr.2.1) (hK _ _ rfl (sl_same (by decide) hS))⟩),
            (fun Q L aq ww hS hun hq hd fr kn => ⟨trivial, fun K hK => wp_value (exec_move rfl fr.2.2.1) (hK _ _ rfl (sl_same (by decide) hS))⟩),
            (fun Q L aq ww hS hun hq hd fr kn => ⟨trivial, fun K hK => wp_value (exec_addI rfl kn.1 kn.2.1 (by omega) (by omega)) (hK _ _ rfl (sl_same (by decide) hS))⟩),
            (fun Q L aq ww hS hun hq hd fr kn => ⟨trivial, fun K hK => wp_value (exec_fpa (k := 2) rfl fr.2.2.2.1 (by decide)) (hK _ _ rfl (sl_same (by decide) hS))⟩),
            (fun Q L aq ww hS hun hq hd fr kn => ⟨trivial, fun K hK => wp_value (exec_ld rfl kn.1 (ld_u32 (pai_l (sl_a hS hd.1).2))) (hK _ _ rfl (sl_same (by decide) hS))⟩),
            (fun Q L aq ww hS hun hq hd fr kn => ⟨trivial, fun K hK => wp_value (exec_fpa (k := 1) rfl fr.2.2.2.1 (by decide)) (hK _ _ rfl (sl_same (by decide) hS))⟩),
            (fun Q L aq ww hS hun hq hd fr kn => ⟨trivial, fun K hK => wp_value (exec_ldmid rfl isArr32 kn.1 (pai_r (sl_a hS hd.1).2)) (hK _ _ rfl (sl_same (by decide) hS))⟩),
            (fun Q L aq ww hS hun hq hd fr kn => ⟨trivial, fun K hK => stepc enterRNonce9 rfl (args1 rfl) (rNonce_run 7 ww (by omega)) (fun w' hb => hK _ _ rfl (sl_ahead (by decide) hd.1 (And.intro ((sl_a hS hd.1).1.below hb) (SAt.kept (sl_a hS hd.1).2 hb))))⟩),
            (fun Q L aq ww hS hun hq hd fr kn => ⟨trivial, fun K hK => stepc enterRSeal9 rfl (args4 kn.1 kn.2.1 rfl rfl) (rSeal_run (pkr 3) (nonN 7) ⟨#[121]⟩ ByteArray.empty ww (pkr_b 3) nonN_b (by decide) (by decide)) (fun w' hb => hK _ _ rfl (sl_ahead (by decide) hd.1 (And.intro ((sl_a hS hd.1).1.below hb) (SAt.kept (sl_a hS hd.1).2 hb))))⟩),
            (fun Q L aq ww hS hun hq hd fr kn => ⟨trivial, fun K hK => stepp enterOpenS9 rfl (args5 kn.1 kn.2.1 kn.2.2.1 rfl kn.2.2.2.1) (HO.out ww (sl_a hS hun)) (fun v w' hv => hK _ _ hv.1 (sl_done hv.2))⟩),
            (fun Q L aq ww hS hun hq hd fr kn => ⟨trivial, fun K hK => wp_value (exec_move rfl kn.1) (hK _ _ rfl (sl_same (by decide) hS))⟩),
            (fun Q L aq ww hS hun hq hd fr kn => ⟨trivial, fun K hK => wp_value (exec_ext rfl kn.1 rfl) (hK _ _ rfl (sl_same (by decide) hS))⟩),
            (fun Q L aq ww hS hun hq hd fr kn => ⟨trivial, fun K hK => wp_value (exec_ext rfl kn.1 rfl) (hK _ _ rfl (sl_same (by decide) hS))⟩),
            (fun Q L aq ww hS hun hq hd fr kn => ⟨trivial, fun K hK => wp_value (exec_ext rfl kn.1 rfl) (hK _ _ rfl (sl_same (by decide) hS))⟩),
            (fun Q L aq ww hS hun hq hd fr kn => ⟨trivial, fun K hK => wp_value (exec_assign rfl kn.1) (hK _ _ rfl (sl_same (by decide) hS))⟩),
            (fun Q L aq ww hS hun hq hd fr kn => ⟨trivial, fun K hK => wp_value (exec_assign rfl kn.1) (hK _ _ rfl (sl_same (by decide) hS))⟩),
            (fun Q L aq ww hS hun hq hd fr kn => ⟨trivial, fun K hK => wp_value (exec_assign rfl kn.1) (hK _ _ rfl (sl_same (by decide) hS))⟩),
            trivial⟩ ?_
      intro vs L u6 hS6 hL6 hk6
      obtain ⟨h6, g6⟩ := sl_b hS6 (hL6 10 (by decide))
      have e14 : vs 14 = .string ⟨#[121]⟩ := hk6 15 (by decide)
      have e15 : vs 15 = .int .i64 1 := hk6 16 (by decide)
      have e16 : vs 16 = .int .i64 0 := hk6 17 (by decide)
      clear hk6 hS6 hL6 HO h2 g2
      simp only [putAll, Act.put, List.setIfInBounds_toArray, List.set_cons_zero, List.set_cons_succ, e14, e15, e16]
      clear e14 e15 e16
      have gl6 := SAt.lt g6
      go_wp2_with fail
      refine (h6.call (fun k e => e ▸ gl6) (fun S hS => HEX.out u6 sb S hS)).mono ?_
      rintro e u4 ⟨⟨vo, rfl, hO⟩, h4, k4⟩
      have g4 : SAt u4 gp 35 66 (paiV (pks 3) (pkr 3) (ploc 3) (pfar 3)) := SAt.block g6 (k4.2 gp gl6 rfl)
      clear h6 g6 gl6 k4
      obtain ⟨hn1, p, cl, rfl, hp⟩ := own_u32 hO
      clear hn1
      clear hO
      clear hp g4
      go_wp2_with fail
      refine (h4.reads (fun S hS => HDE.out u4 sb S hS)).mono ?_
      rintro e u7 ⟨rfl, hB7⟩
      have hB4 := h4.bel
      clear h4
      go_wp2_with fail
      go_ret
      exact ⟨rfl, hB4.trans (hB7.mono hB4.size)⟩
    · rw [if_neg has] at ha
      have HBB := Hid.mk hb
      have HAA := Hid.mk ha
      clear hb ha
      go_enter Try.func7, Try.ntmps7
      go_wp2_with fail
      refine (awake_run w).mono ?_
      rintro e v1 ⟨rfl, hA1⟩
      go_wp2_with fail
      refine (New_run9 v1).mono ?_
      rintro e v2 ⟨sb, rfl, hs2, hsb, hA2⟩
      have hN := SeSt.new hA1 hs2 hsb hA2
      clear hs2 hsb hA2 hA1
      go_wp2_with fail
      rw [← HBB.out, ← HAA.out]
      clear hbm ham HBB HAA hbs has hbr har hbl hal
      refine (pair_run 3 _).mono ?_
      rintro e u1 ⟨rfl, hB1⟩
      have h1 := hN.below hB1
      go_wp2_with (refine wl_al zeroPairV ?_; intro gp u2 hgp g2 hB2; refine Hid.out ?_)
      refine Hid.mk ?_
      have h2' := (h1.keep hgp hB2)
      have hgw : w.heap.size ≤ gp := Nat.le_trans h1.size hgp
      clear h1 hN hB1
      go_wp2_with (refine st_st isPair (paiV_one _ _ _ _) g2 (by rfl) (by rfl) ?_; intro u3 g3 o3; refine Hid.out ?_)
      refine Hid.mk ?_
      have h3 := st_only h2' o3 hgw
      have gl3 := SAt.lt g3
      clear h2' g2 hB2 o3 hgp
      go_wp2_with (refine wl_value rfl (look_st rfl isPair g3 (by rfl)) ?_)
      refine (h3.call (fun k e => by rcases e with e | e; exact e.elim; exact e ▸ gl3) (fun S hS => HPU.out u3 sb S hS)).mono ?_
      rintro e u4 ⟨rfl, h4, k4⟩
      have g4 : SAt u4 gp 35 66 (paiV (pks 3) (pkr 3) (ploc 3) (pfar 3)) := SAt.block g3 (k4.2 gp gl3 (.inr rfl))
      have gl4 := SAt.lt g4
      clear h3 g3 gl3 k4
      go_wp2_with fail
      refine (h4.call (fun k e => by rcases e with e | e; exact e.elim; exact e ▸ gl4) (fun S hS => HSE.out u4 sb S hS)).mono ?_
      rintro e u5 ⟨rfl, h5, k5⟩
      have g2 : SAt u5 gp 35 66 (paiV (pks 3) (pkr 3) (ploc 3) (pfar 3)) := SAt.block g4 (k5.2 gp gl4 (.inr rfl))
      have h2 : SeSt w sb (fun k => k = gp) u5 σ2 := st_sub h5 (fun k e => .inr e)
      clear h4 h5 g4 gl4 k5
      have HO : Hid (∀ v, (SeSt w sb (fun k => k = gp) v σ2 ∧ SAt v gp 35 66 (paiV (pks 3) (pkr 3) (ploc 3) (pfar 3))) → Calls Try.prog 15 #[.pointer (some ⟨sb, 0, none⟩), .int .i64 (b + a), .int .u32 (ploc 3), .int .u64 7, .string (boxT (pkr 3) (nonN 7) ⟨#[121]⟩ ByteArray.empty)] v fun e w' => ∃ x, e = .returned x ∧ x = .tuple #[.string ⟨#[121]⟩, .int .i64 1, .int .i64 0] ∧ (SeSt w sb (fun k => k = gp) w' σ3 ∧ SAt w' gp 35 66 (paiV (pks 3) (pkr 3) (ploc 3) (pfar 3)))) := Hid.mk (fun v hv => by
        have gl := SAt.lt hv.2
        refine (hv.1.call (fun k e => e ▸ gl) (fun S hS => HOP.out v sb S hS)).mono ?_
        rintro e w' ⟨rfl, q1, q2⟩
        exact ⟨_, rfl, rfl, q1, SAt.block hv.2 (q2.2 gp gl rfl)⟩)
      go_wp2_with fail
      refine wp_region_steps4 (SL (fun v => SeSt w sb (fun k => k = gp) v σ2 ∧ SAt v gp 35 66 (paiV (pks 3) (pkr 3) (ploc 3) (pfar 3))) (fun v => SeSt w sb (fun k => k = gp) v σ3 ∧ SAt v gp 35 66 (paiV (pks 3) (pkr 3) (ploc 3) (pfar 3))) 10) (fun j x => x = ([.pointer (some ⟨sb, 0, none⟩), .int .i64 b, .int .i64 a, .int .i64 (b + a), .pointer (some ⟨gp, 0 + 64, none⟩), .int .u32 (ploc 3), .pointer (some ⟨gp, 0 + 32, none⟩), .agg (WA .u8 32 (pkr 3)), .agg (WA .u8 12 (nonN 7)), .string (boxT (pkr 3) (nonN 7) ⟨#[121]⟩ ByteArray.empty), .tuple #[.string ⟨#[121]⟩, .int .i64 1, .int .i64 0], .tuple #[.string ⟨#[121]⟩, .int .i64 1, .int .i64 0], .string ⟨#[121]⟩, .int .i64 1, .int .i64 0, .string ⟨#[121]⟩, .int .i64 1, .int .i64 0] : List Value).getD j undef)
          [54, 55, 56, 57, 58, 59, 60, 61, 62, 63, 64, 53, 65, 66, 67, 14, 15, 16]
          [(6, .pointer (some ⟨sb, 0, none⟩)), (7, .int .i64 b), (8, .int .i64 a), (9, .pointer (some ⟨gp, 0, none⟩))]
          [[], [], [], [1, 2], [], [4], [], [6], [], [7, 8], [0, 3, 5, 9], [10], [11], [11], [11], [12], [13], [14]]
          [[], [], [], [], [], [], [], [], [], [7, 8], [5, 7, 8, 9], [5, 7, 8, 9, 10], [5, 7, 8, 9, 10], [5, 7, 8, 9, 10], [5, 7, 8, 9, 10], [5, 7, 8, 9, 10], [5, 7, 8, 9, 10], [5, 7, 8, 9, 10]]
          [[], [], [], [], [], [10], [], [10], [10], [10], [], [], [], [], [], [], [], []]
          rfl (by kernel_rfl) ⟨rfl, rfl, rfl, rfl, trivial⟩ (sl_start ⟨h2.below (below_drew _), SAt.kept g2 (below_drew _)⟩)
          ⟨
            (fun Q L aq ww hS hun hq hd fr kn => ⟨trivial, fun K hK => wp_value (exec_move rfl fr.1) (hK _ _ rfl (sl_same (by decide) hS))⟩),
            (fun Q L aq ww hS hun hq hd fr kn => ⟨trivial, fun K hK => wp_value (exec_move rfl fr.2.1) (hK _ _ rfl (sl_same (by decide) hS))⟩),
            (fun Q L aq ww hS hun hq hd fr kn => ⟨trivial, fun K hK => wp_value (exec_move rfl fr.2.2.1) (hK _ _ rfl (sl_same (by decide) hS))⟩),
            (fun Q L aq ww hS hun hq hd fr kn => ⟨trivial, fun K hK => wp_value (exec_addI rfl kn.1 kn.2.1 (by omega) (by omega)) (hK _ _ rfl (sl_same (by decide) hS))⟩),
            (fun Q L aq ww hS hun hq hd fr kn => ⟨trivial, fun K hK => wp_value (exec_fpa (k := 2) rfl fr.2.2.2.1 (by decide)) (hK _ _ rfl (sl_same (by decide) hS))⟩),
            (fun Q L aq ww hS hun hq hd fr kn => ⟨trivial, fun K hK => wp_value (exec_ld rfl kn.1 (ld_u32 (pai_l (sl_a hS hd.1).2))) (hK _ _ rfl (sl_same (by decide) hS))⟩),
            (fun Q L aq ww hS hun hq hd fr kn => ⟨trivial, fun K hK => wp_value (exec_fpa (k := 1) rfl fr.2.2.2.1 (by decide)) (hK _ _ rfl (sl_same (by decide) hS))⟩),
            (fun Q L aq ww hS hun hq hd fr kn => ⟨trivial, fun K hK => wp_value (exec_ldmid rfl isArr32 kn.1 (pai_r (sl_a hS hd.1).2)) (hK _ _ rfl (sl_same (by decide) hS))⟩),
            (fun Q L aq ww hS hun hq hd fr kn => ⟨trivial, fun K hK => stepc enterRNonce9 rfl (args1 rfl) (rNonce_run 7 ww (by omega)) (fun w' hb => hK _ _ rfl (sl_ahead (by decide) hd.1 (And.intro ((sl_a hS hd.1).1.below hb) (SAt.kept (sl_a hS hd.1).2 hb))))⟩),
            (fun Q L aq ww hS hun hq hd fr kn => ⟨trivial, fun K hK => stepc enterRSeal9 rfl (args4 kn.1 kn.2.1 rfl rfl) (rSeal_run (pkr 3) (nonN 7) ⟨#[121]⟩ ByteArray.empty ww (pkr_b 3) nonN_b (by decide) (by decide)) (fun w' hb => hK _ _ rfl (sl_ahead (by decide) hd.1 (And.intro ((sl_a hS hd.1).1.below hb) (SAt.kept (sl_a hS hd.1).2 hb))))⟩),
            (fun Q L aq ww hS hun hq hd fr kn => ⟨trivial, fun K hK => stepp enterOpenS9 rfl (args5 kn.1 kn.2.1 kn.2.2.1 rfl kn.2.2.2.1) (HO.out ww (sl_a hS hun)) (fun v w' hv => hK _ _ hv.1 (sl_done hv.2))⟩),
            (fun Q L aq ww hS hun hq hd fr kn => ⟨trivial, fun K hK => wp_value (exec_move rfl kn.1) (hK _ _ rfl (sl_same (by decide) hS))⟩),
            (fun Q L aq ww hS hun hq hd fr kn => ⟨trivial, fun K hK => wp_value (exec_ext rfl kn.1 rfl) (hK _ _ rfl (sl_same (by decide) hS))⟩),
            (fun Q L aq ww hS hun hq hd fr kn => ⟨trivial, fun K hK => wp_value (exec_ext rfl kn.1 rfl) (hK _ _ rfl (sl_same (by decide) hS))⟩),
            (fun Q L aq ww hS hun hq hd fr kn => ⟨trivial, fun K hK => wp_value (exec_ext rfl kn.1 rfl) (hK _ _ rfl (sl_same (by decide) hS))⟩),
            (fun Q L aq ww hS hun hq hd fr kn => ⟨trivial, fun K hK => wp_value (exec_assign rfl kn.1) (hK _ _ rfl (sl_same (by decide) hS))⟩),
            (fun Q L aq ww hS hun hq hd fr kn => ⟨trivial, fun K hK => wp_value (exec_assign rfl kn.1) (hK _ _ rfl (sl_same (by decide) hS))⟩),
            (fun Q L aq ww hS hun hq hd fr kn => ⟨trivial, fun K hK => wp_value (exec_assign rfl kn.1) (hK _ _ rfl (sl_same (by decide) hS))⟩),
            trivial⟩ ?_
      intro vs L u6 hS6 hL6 hk6
      obtain ⟨h6, g6⟩ := sl_b hS6 (hL6 10 (by decide))
      have e14 : vs 14 = .string ⟨#[121]⟩ := hk6 15 (by decide)
      have e15 : vs 15 = .int .i64 1 := hk6 16 (by decide)
      have e16 : vs 16 = .int .i64 0 := hk6 17 (by decide)
      clear hk6 hS6 hL6 HO h2 g2
      simp only [putAll, Act.put, List.setIfInBounds_toArray, List.set_cons_zero, List.set_cons_succ, e14, e15, e16]
      clear e14 e15 e16
      have gl6 := SAt.lt g6
      go_wp2_with fail
      refine (h6.call (fun k e => e ▸ gl6) (fun S hS => HEX.out u6 sb S hS)).mono ?_
      rintro e u4 ⟨⟨vo, rfl, hO⟩, h4, k4⟩
      have g4 : SAt u4 gp 35 66 (paiV (pks 3) (pkr 3) (ploc 3) (pfar 3)) := SAt.block g6 (k4.2 gp gl6 rfl)
      clear h6 g6 gl6 k4
      obtain ⟨hn1, p, cl, rfl, hp⟩ := own_u32 hO
      clear hn1
      clear hO
      clear hp g4
      go_wp2_with fail
      refine (h4.reads (fun S hS => HDE.out u4 sb S hS)).mono ?_
      rintro e u7 ⟨rfl, hB7⟩
      have hB4 := h4.bel
      clear h4
      go_wp2_with fail
      go_ret
      exact ⟨rfl, hB4.trans (hB7.mono hB4.size)⟩
  · rw [if_neg hbs] at hb
    by_cases has : am < 0
    · rw [if_pos has] at ha
      have HBB := Hid.mk hb
      have HAA := Hid.mk ha
      clear hb ha
      go_enter Try.func7, Try.ntmps7
      go_wp2_with fail
      refine (awake_run w).mono ?_
      rintro e v1 ⟨rfl, hA1⟩
      go_wp2_with fail
      refine (New_run9 v1).mono ?_
      rintro e v2 ⟨sb, rfl, hs2, hsb, hA2⟩
      have hN := SeSt.new hA1 hs2 hsb hA2
      clear hs2 hsb hA2 hA1
      go_wp2_with fail
      rw [← HBB.out, ← HAA.out]
      clear hbm ham HBB HAA hbs has hbr har hbl hal
      refine (pair_run 3 _).mono ?_
      rintro e u1 ⟨rfl, hB1⟩
      have h1 := hN.below hB1
      go_wp2_with (refine wl_al zeroPairV ?_; intro gp u2 hgp g2 hB2; refine Hid.out ?_)
      refine Hid.mk ?_
      have h2' := (h1.keep hgp hB2)
      have hgw : w.heap.size ≤ gp := Nat.le_trans h1.size hgp
      clear h1 hN hB1
      go_wp2_with (refine st_st isPair (paiV_one _ _ _ _) g2 (by rfl) (by rfl) ?_; intro u3 g3 o3; refine Hid.out ?_)
      refine Hid.mk ?_
      have h3 := st_only h2' o3 hgw
      have gl3 := SAt.lt g3
      clear h2' g2 hB2 o3 hgp
      go_wp2_with (refine wl_value rfl (look_st rfl isPair g3 (by rfl)) ?_)
      refine (h3.call (fun k e => by rcases e with e | e; exact e.elim; exact e ▸ gl3) (fun S hS => HPU.out u3 sb S hS)).mono ?_
      rintro e u4 ⟨rfl, h4, k4⟩
      have g4 : SAt u4 gp 35 66 (paiV (pks 3) (pkr 3) (ploc 3) (pfar 3)) := SAt.block g3 (k4.2 gp gl3 (.inr rfl))
      have gl4 := SAt.lt g4
      clear h3 g3 gl3 k4
      go_wp2_with fail
      refine (h4.call (fun k e => by rcases e with e | e; exact e.elim; exact e ▸ gl4) (fun S hS => HSE.out u4 sb S hS)).mono ?_
      rintro e u5 ⟨rfl, h5, k5⟩
      have g2 : SAt u5 gp 35 66 (paiV (pks 3) (pkr 3) (ploc 3) (pfar 3)) := SAt.block g4 (k5.2 gp gl4 (.inr rfl))
      have h2 : SeSt w sb (fun k => k = gp) u5 σ2 := st_sub h5 (fun k e => .inr e)
      clear h4 h5 g4 gl4 k5
      have HO : Hid (∀ v, (SeSt w sb (fun k => k = gp) v σ2 ∧ SAt v gp 35 66 (paiV (pks 3) (pkr 3) (ploc 3) (pfar 3))) → Calls Try.prog 15 #[.pointer (some ⟨sb, 0, none⟩), .int .i64 (b + a), .int .u32 (ploc 3), .int .u64 7, .string (boxT (pkr 3) (nonN 7) ⟨#[121]⟩ ByteArray.empty)] v fun e w' => ∃ x, e = .returned x ∧ x = .tuple #[.string ⟨#[121]⟩, .int .i64 1, .int .i64 0] ∧ (SeSt w sb (fun k => k = gp) w' σ3 ∧ SAt w' gp 35 66 (paiV (pks 3) (pkr 3) (ploc 3) (pfar 3)))) := Hid.mk (fun v hv => by
        have gl := SAt.lt hv.2
        refine (hv.1.call (fun k e => e ▸ gl) (fun S hS => HOP.out v sb S hS)).mono ?_
        rintro e w' ⟨rfl, q1, q2⟩
        exact ⟨_, rfl, rfl, q1, SAt.block hv.2 (q2.2 gp gl rfl)⟩)
      go_wp2_with fail
      refine wp_region_steps4 (SL (fun v => SeSt w sb (fun k => k = gp) v σ2 ∧ SAt v gp 35 66 (paiV (pks 3) (pkr 3) (ploc 3) (pfar 3))) (fun v => SeSt w sb (fun k => k = gp) v σ3 ∧ SAt v gp 35 66 (paiV (pks 3) (pkr 3) (ploc 3) (pfar 3))) 10) (fun j x => x = ([.pointer (some ⟨sb, 0, none⟩), .int .i64 b, .int .i64 a, .int .i64 (b + a), .pointer (some ⟨gp, 0 + 64, none⟩), .int .u32 (ploc 3), .pointer (some ⟨gp, 0 + 32, none⟩), .agg (WA .u8 32 (pkr 3)), .agg (WA .u8 12 (nonN 7)), .string (boxT (pkr 3) (nonN 7) ⟨#[121]⟩ ByteArray.empty), .tuple #[.string ⟨#[121]⟩, .int .i64 1, .int .i64 0], .tuple #[.string ⟨#[121]⟩, .int .i64 1, .int .i64 0], .string ⟨#[121]⟩, .int .i64 1, .int .i64 0, .string ⟨#[121]⟩, .int .i64 1, .int .i64 0] : List Value).getD j undef)
          [54, 55, 56, 57, 58, 59, 60, 61, 62, 63, 64, 53, 65, 66, 67, 14, 15, 16]
          [(6, .pointer (some ⟨sb, 0, none⟩)), (7, .int .i64 b), (8, .int .i64 a), (9, .pointer (some ⟨gp, 0, none⟩))]
          [[], [], [], [1, 2], [], [4], [], [6], [], [7, 8], [0, 3, 5, 9], [10], [11], [11], [11], [12], [13], [14]]
          [[], [], [], [], [], [], [], [], [], [7, 8], [5, 7, 8, 9], [5, 7, 8, 9, 10], [5, 7, 8, 9, 10], [5, 7, 8, 9, 10], [5, 7, 8, 9, 10], [5, 7, 8, 9, 10], [5, 7, 8, 9, 10], [5, 7, 8, 9, 10]]
          [[], [], [], [], [], [10], [], [10], [10], [10], [], [], [], [], [], [], [], []]
          rfl (by kernel_rfl) ⟨rfl, rfl, rfl, rfl, trivial⟩ (sl_start ⟨h2.below (below_drew _), SAt.kept g2 (below_drew _)⟩)
          ⟨
            (fun Q L aq ww hS hun hq hd fr kn => ⟨trivial, fun K hK => wp_value (exec_move rfl fr.1) (hK _ _ rfl (sl_same (by decide) hS))⟩),
            (fun Q L aq ww hS hun hq hd fr kn => ⟨trivial, fun K hK => wp_value (exec_move rfl fr.2.1) (hK _ _ rfl (sl_same (by decide) hS))⟩),
            (fun Q L aq ww hS hun hq hd fr kn => ⟨trivial, fun K hK => wp_value (exec_move rfl fr.2.2.1) (hK _ _ rfl (sl_same (by decide) hS))⟩),
            (fun Q L aq ww hS hun hq hd fr kn => ⟨trivial, fun K hK => wp_value (exec_addI rfl kn.1 kn.2.1 (by omega) (by omega)) (hK _ _ rfl (sl_same (by decide) hS))⟩),
            (fun Q L aq ww hS hun hq hd fr kn => ⟨trivial, fun K hK => wp_value (exec_fpa (k := 2) rfl fr.2.2.2.1 (by decide)) (hK _ _ rfl (sl_same (by decide) hS))⟩),
            (fun Q L aq ww hS hun hq hd fr kn => ⟨trivial, fun K hK => wp_value (exec_ld rfl kn.1 (ld_u32 (pai_l (sl_a hS hd.1).2))) (hK _ _ rfl (sl_same (by decide) hS))⟩),
            (fun Q L aq ww hS hun hq hd fr kn => ⟨trivial, fun K hK => wp_value (exec_fpa (k := 1) rfl fr.2.2.2.1 (by decide)) (hK _ _ rfl (sl_same (by decide) hS))⟩),
            (fun Q L aq ww hS hun hq hd fr kn => ⟨trivial, fun K hK => wp_value (exec_ldmid rfl isArr32 kn.1 (pai_r (sl_a hS hd.1).2)) (hK _ _ rfl (sl_same (by decide) hS))⟩),
            (fun Q L aq ww hS hun hq hd fr kn => ⟨trivial, fun K hK => stepc enterRNonce9 rfl (args1 rfl) (rNonce_run 7 ww (by omega)) (fun w' hb => hK _ _ rfl (sl_ahead (by decide) hd.1 (And.intro ((sl_a hS hd.1).1.below hb) (SAt.kept (sl_a hS hd.1).2 hb))))⟩),
            (fun Q L aq ww hS hun hq hd fr kn => ⟨trivial, fun K hK => stepc enterRSeal9 rfl (args4 kn.1 kn.2.1 rfl rfl) (rSeal_run (pkr 3) (nonN 7) ⟨#[121]⟩ ByteArray.empty ww (pkr_b 3) nonN_b (by decide) (by decide)) (fun w' hb => hK _ _ rfl (sl_ahead (by decide) hd.1 (And.intro ((sl_a hS hd.1).1.below hb) (SAt.kept (sl_a hS hd.1).2 hb))))⟩),
            (fun Q L aq ww hS hun hq hd fr kn => ⟨trivial, fun K hK => stepp enterOpenS9 rfl (args5 kn.1 kn.2.1 kn.2.2.1 rfl kn.2.2.2.1) (HO.out ww (sl_a hS hun)) (fun v w' hv => hK _ _ hv.1 (sl_done hv.2))⟩),
            (fun Q L aq ww hS hun hq hd fr kn => ⟨trivial, fun K hK => wp_value (exec_move rfl kn.1) (hK _ _ rfl (sl_same (by decide) hS))⟩),
            (fun Q L aq ww hS hun hq hd fr kn => ⟨trivial, fun K hK => wp_value (exec_ext rfl kn.1 rfl) (hK _ _ rfl (sl_same (by decide) hS))⟩),
            (fun Q L aq ww hS hun hq hd fr kn => ⟨trivial, fun K hK => wp_value (exec_ext rfl kn.1 rfl) (hK _ _ rfl (sl_same (by decide) hS))⟩),
            (fun Q L aq ww hS hun hq hd fr kn => ⟨trivial, fun K hK => wp_value (exec_ext rfl kn.1 rfl) (hK _ _ rfl (sl_same (by decide) hS))⟩),
            (fun Q L aq ww hS hun hq hd fr kn => ⟨trivial, fun K hK => wp_value (exec_assign rfl kn.1) (hK _ _ rfl (sl_same (by decide) hS))⟩),
            (fun Q L aq ww hS hun hq hd fr kn => ⟨trivial, fun K hK => wp_value (exec_assign rfl kn.1) (hK _ _ rfl (sl_same (by decide) hS))⟩),
            (fun Q L aq ww hS hun hq hd fr kn => ⟨trivial, fun K hK => wp_value (exec_assign rfl kn.1) (hK _ _ rfl (sl_same (by decide) hS))⟩),
            trivial⟩ ?_
      intro vs L u6 hS6 hL6 hk6
      obtain ⟨h6, g6⟩ := sl_b hS6 (hL6 10 (by decide))
      have e14 : vs 14 = .string ⟨#[121]⟩ := hk6 15 (by decide)
      have e15 : vs 15 = .int .i64 1 := hk6 16 (by decide)
      have e16 : vs 16 = .int .i64 0 := hk6 17 (by decide)
      clear hk6 hS6 hL6 HO h2 g2
      simp only [putAll, Act.put, List.setIfInBounds_toArray, List.set_cons_zero, List.set_cons_succ, e14, e15, e16]
      clear e14 e15 e16
      have gl6 := SAt.lt g6
      go_wp2_with fail
      refine (h6.call (fun k e => e ▸ gl6) (fun S hS => HEX.out u6 sb S hS)).mono ?_
      rintro e u4 ⟨⟨vo, rfl, hO⟩, h4, k4⟩
      have g4 : SAt u4 gp 35 66 (paiV (pks 3) (pkr 3) (ploc 3) (pfar 3)) := SAt.block g6 (k4.2 gp gl6 rfl)
      clear h6 g6 gl6 k4
      obtain ⟨hn1, p, cl, rfl, hp⟩ := own_u32 hO
      clear hn1
      clear hO
      clear hp g4
      go_wp2_with fail
      refine (h4.reads (fun S hS => HDE.out u4 sb S hS)).mono ?_
      rintro e u7 ⟨rfl, hB7⟩
      have hB4 := h4.bel
      clear h4
      go_wp2_with fail
      go_ret
      exact ⟨rfl, hB4.trans (hB7.mono hB4.size)⟩
    · rw [if_neg has] at ha
      have HBB := Hid.mk hb
      have HAA := Hid.mk ha
      clear hb ha
      go_enter Try.func7, Try.ntmps7
      go_wp2_with fail
      refine (awake_run w).mono ?_
      rintro e v1 ⟨rfl, hA1⟩
      go_wp2_with fail
      refine (New_run9 v1).mono ?_
      rintro e v2 ⟨sb, rfl, hs2, hsb, hA2⟩
      have hN := SeSt.new hA1 hs2 hsb hA2
      clear hs2 hsb hA2 hA1
      go_wp2_with fail
      rw [← HBB.out, ← HAA.out]
      clear hbm ham HBB HAA hbs has hbr har hbl hal
      refine (pair_run 3 _).mono ?_
      rintro e u1 ⟨rfl, hB1⟩
      have h1 := hN.below hB1
      go_wp2_with (refine wl_al zeroPairV ?_; intro gp u2 hgp g2 hB2; refine Hid.out ?_)
      refine Hid.mk ?_
      have h2' := (h1.keep hgp hB2)
      have hgw : w.heap.size ≤ gp := Nat.le_trans h1.size hgp
      clear h1 hN hB1
      go_wp2_with (refine st_st isPair (paiV_one _ _ _ _) g2 (by rfl) (by rfl) ?_; intro u3 g3 o3; refine Hid.out ?_)
      refine Hid.mk ?_
      have h3 := st_only h2' o3 hgw
      have gl3 := SAt.lt g3
      clear h2' g2 hB2 o3 hgp
      go_wp2_with (refine wl_value rfl (look_st rfl isPair g3 (by rfl)) ?_)
      refine (h3.call (fun k e => by rcases e with e | e; exact e.elim; exact e ▸ gl3) (fun S hS => HPU.out u3 sb S hS)).mono ?_
      rintro e u4 ⟨rfl, h4, k4⟩
      have g4 : SAt u4 gp 35 66 (paiV (pks 3) (pkr 3) (ploc 3) (pfar 3)) := SAt.block g3 (k4.2 gp gl3 (.inr rfl))
      have gl4 := SAt.lt g4
      clear h3 g3 gl3 k4
      go_wp2_with fail
      refine (h4.call (fun k e => by rcases e with e | e; exact e.elim; exact e ▸ gl4) (fun S hS => HSE.out u4 sb S hS)).mono ?_
      rintro e u5 ⟨rfl, h5, k5⟩
      have g2 : SAt u5 gp 35 66 (paiV (pks 3) (pkr 3) (ploc 3) (pfar 3)) := SAt.block g4 (k5.2 gp gl4 (.inr rfl))
      have h2 : SeSt w sb (fun k => k = gp) u5 σ2 := st_sub h5 (fun k e => .inr e)
      clear h4 h5 g4 gl4 k5
      have HO : Hid (∀ v, (SeSt w sb (fun k => k = gp) v σ2 ∧ SAt v gp 35 66 (paiV (pks 3) (pkr 3) (ploc 3) (pfar 3))) → Calls Try.prog 15 #[.pointer (some ⟨sb, 0, none⟩), .int .i64 (b + a), .int .u32 (ploc 3), .int .u64 7, .string (boxT (pkr 3) (nonN 7) ⟨#[121]⟩ ByteArray.empty)] v fun e w' => ∃ x, e = .returned x ∧ x = .tuple #[.string ⟨#[121]⟩, .int .i64 1, .int .i64 0] ∧ (SeSt w sb (fun k => k = gp) w' σ3 ∧ SAt w' gp 35 66 (paiV (pks 3) (pkr 3) (ploc 3) (pfar 3)))) := Hid.mk (fun v hv => by
        have gl := SAt.lt hv.2
        refine (hv.1.call (fun k e => e ▸ gl) (fun S hS => HOP.out v sb S hS)).mono ?_
        rintro e w' ⟨rfl, q1, q2⟩
        exact ⟨_, rfl, rfl, q1, SAt.block hv.2 (q2.2 gp gl rfl)⟩)
      go_wp2_with fail
      refine wp_region_steps4 (SL (fun v => SeSt w sb (fun k => k = gp) v σ2 ∧ SAt v gp 35 66 (paiV (pks 3) (pkr 3) (ploc 3) (pfar 3))) (fun v => SeSt w sb (fun k => k = gp) v σ3 ∧ SAt v gp 35 66 (paiV (pks 3) (pkr 3) (ploc 3) (pfar 3))) 10) (fun j x => x = ([.pointer (some ⟨sb, 0, none⟩), .int .i64 b, .int .i64 a, .int .i64 (b + a), .pointer (some ⟨gp, 0 + 64, none⟩), .int .u32 (ploc 3), .pointer (some ⟨gp, 0 + 32, none⟩), .agg (WA .u8 32 (pkr 3)), .agg (WA .u8 12 (nonN 7)), .string (boxT (pkr 3) (nonN 7) ⟨#[121]⟩ ByteArray.empty), .tuple #[.string ⟨#[121]⟩, .int .i64 1, .int .i64 0], .tuple #[.string ⟨#[121]⟩, .int .i64 1, .int .i64 0], .string ⟨#[121]⟩, .int .i64 1, .int .i64 0, .string ⟨#[121]⟩, .int .i64 1, .int .i64 0] : List Value).getD j undef)
          [54, 55, 56, 57, 58, 59, 60, 61, 62, 63, 64, 53, 65, 66, 67, 14, 15, 16]
          [(6, .pointer (some ⟨sb, 0, none⟩)), (7, .int .i64 b), (8, .int .i64 a), (9, .pointer (some ⟨gp, 0, none⟩))]
          [[], [], [], [1, 2], [], [4], [], [6], [], [7, 8], [0, 3, 5, 9], [10], [11], [11], [11], [12], [13], [14]]
          [[], [], [], [], [], [], [], [], [], [7, 8], [5, 7, 8, 9], [5, 7, 8, 9, 10], [5, 7, 8, 9, 10], [5, 7, 8, 9, 10], [5, 7, 8, 9, 10], [5, 7, 8, 9, 10], [5, 7, 8, 9, 10], [5, 7, 8, 9, 10]]
          [[], [], [], [], [], [10], [], [10], [10], [10], [], [], [], [], [], [], [], []]
          rfl (by kernel_rfl) ⟨rfl, rfl, rfl, rfl, trivial⟩ (sl_start ⟨h2.below (below_drew _), SAt.kept g2 (below_drew _)⟩)
          ⟨
            (fun Q L aq ww hS hun hq hd fr kn => ⟨trivial, fun K hK => wp_value (exec_move rfl fr.1) (hK _ _ rfl (sl_same (by decide) hS))⟩),
            (fun Q L aq ww hS hun hq hd fr kn => ⟨trivial, fun K hK => wp_value (exec_move rfl fr.2.1) (hK _ _ rfl (sl_same (by decide) hS))⟩),
            (fun Q L aq ww hS hun hq hd fr kn => ⟨trivial, fun K hK => wp_value (exec_move rfl fr.2.2.1) (hK _ _ rfl (sl_same (by decide) hS))⟩),
            (fun Q L aq ww hS hun hq hd fr kn => ⟨trivial, fun K hK => wp_value (exec_addI rfl kn.1 kn.2.1 (by omega) (by omega)) (hK _ _ rfl (sl_same (by decide) hS))⟩),
            (fun Q L aq ww hS hun hq hd fr kn => ⟨trivial, fun K hK => wp_value (exec_fpa (k := 2) rfl fr.2.2.2.1 (by decide)) (hK _ _ rfl (sl_same (by decide) hS))⟩),
            (fun Q L aq ww hS hun hq hd fr kn => ⟨trivial, fun K hK => wp_value (exec_ld rfl kn.1 (ld_u32 (pai_l (sl_a hS hd.1).2))) (hK _ _ rfl (sl_same (by decide) hS))⟩),
            (fun Q L aq ww hS hun hq hd fr kn => ⟨trivial, fun K hK => wp_value (exec_fpa (k := 1) rfl fr.2.2.2.1 (by decide)) (hK _ _ rfl (sl_same (by decide) hS))⟩),
            (fun Q L aq ww hS hun hq hd fr kn => ⟨trivial, fun K hK => wp_value (exec_ldmid rfl isArr32 kn.1 (pai_r (sl_a hS hd.1).2)) (hK _ _ rfl (sl_same (by decide) hS))⟩),
            (fun Q L aq ww hS hun hq hd fr kn => ⟨trivial, fun K hK => stepc enterRNonce9 rfl (args1 rfl) (rNonce_run 7 ww (by omega)) (fun w' hb => hK _ _ rfl (sl_ahead (by decide) hd.1 (And.intro ((sl_a hS hd.1).1.below hb) (SAt.kept (sl_a hS hd.1).2 hb))))⟩),
            (fun Q L aq ww hS hun hq hd fr kn => ⟨trivial, fun K hK => stepc enterRSeal9 rfl (args4 kn.1 kn.2.1 rfl rfl) (rSeal_run (pkr 3) (nonN 7) ⟨#[121]⟩ ByteArray.empty ww (pkr_b 3) nonN_b (by decide) (by decide)) (fun w' hb => hK _ _ rfl (sl_ahead (by decide) hd.1 (And.intro ((sl_a hS hd.1).1.below hb) (SAt.kept (sl_a hS hd.1).2 hb))))⟩),
            (fun Q L aq ww hS hun hq hd fr kn => ⟨trivial, fun K hK => stepp enterOpenS9 rfl (args5 kn.1 kn.2.1 kn.2.2.1 rfl kn.2.2.2.1) (HO.out ww (sl_a hS hun)) (fun v w' hv => hK _ _ hv.1 (sl_done hv.2))⟩),
            (fun Q L aq ww hS hun hq hd fr kn => ⟨trivial, fun K hK => wp_value (exec_move rfl kn.1) (hK _ _ rfl (sl_same (by decide) hS))⟩),
            (fun Q L aq ww hS hun hq hd fr kn => ⟨trivial, fun K hK => wp_value (exec_ext rfl kn.1 rfl) (hK _ _ rfl (sl_same (by decide) hS))⟩),
            (fun Q L aq ww hS hun hq hd fr kn => ⟨trivial, fun K hK => wp_value (exec_ext rfl kn.1 rfl) (hK _ _ rfl (sl_same (by decide) hS))⟩),
            (fun Q L aq ww hS hun hq hd fr kn => ⟨trivial, fun K hK => wp_value (exec_ext rfl kn.1 rfl) (hK _ _ rfl (sl_same (by decide) hS))⟩),
            (fun Q L aq ww hS hun hq hd fr kn => ⟨trivial, fun K hK => wp_value (exec_assign rfl kn.1) (hK _ _ rfl (sl_same (by decide) hS))⟩),
            (fun Q L aq ww hS hun hq hd fr kn => ⟨trivial, fun K hK => wp_value (exec_assign rfl kn.1) (hK _ _ rfl (sl_same (by decide) hS))⟩),
            (fun Q L aq ww hS hun hq hd fr kn => ⟨trivial, fun K hK => wp_value (exec_assign rfl kn.1) (hK _ _ rfl (sl_same (by decide) hS))⟩),
            trivial⟩ ?_
      intro vs L u6 hS6 hL6 hk6
      obtain ⟨h6, g6⟩ := sl_b hS6 (hL6 10 (by decide))
      have e14 : vs 14 = .string ⟨#[121]⟩ := hk6 15 (by decide)
      have e15 : vs 15 = .int .i64 1 := hk6 16 (by decide)
      have e16 : vs 16 = .int .i64 0 := hk6 17 (by decide)
      clear hk6 hS6 hL6 HO h2 g2
      simp only [putAll, Act.put, List.setIfInBounds_toArray, List.set_cons_zero, List.set_cons_succ, e14, e15, e16]
      clear e14 e15 e16
      have gl6 := SAt.lt g6
      go_wp2_with fail
      refine (h6.call (fun k e => e ▸ gl6) (fun S hS => HEX.out u6 sb S hS)).mono ?_
      rintro e u4 ⟨⟨vo, rfl, hO⟩, h4, k4⟩
      have g4 : SAt u4 gp 35 66 (paiV (pks 3) (pkr 3) (ploc 3) (pfar 3)) := SAt.block g6 (k4.2 gp gl6 rfl)
      clear h6 g6 gl6 k4
      obtain ⟨hn1, p, cl, rfl, hp⟩ := own_u32 hO
      clear hn1
      clear hO
      clear hp g4
      go_wp2_with fail
      refine (h4.reads (fun S hS => HDE.out u4 sb S hS)).mono ?_
      rintro e u7 ⟨rfl, hB7⟩
      have hB4 := h4.bel
      clear h4
      go_wp2_with fail
      go_ret
      exact ⟨rfl, hB4.trans (hB7.mono hB4.size)⟩
end Go.Proofs.Ytbkbcfimpaolmaa
/-
  Own text. The law SessionDies: its numbers.
-/
namespace Go.Proofs.Ytbkbcfimpaolmaa
open Go.RowKit Go.Proofs
set_option maxRecDepth 100000
def kd (b : Int) : Kp := kpNew (pks 3) (pkr 3) (ploc 3) (pfar 3) 1 b true
theorem one_born {σ : Ses} {k : Kp} (h : One σ k) (h0 : 0 ≤ k.born) (h1 : k.born ≤ 4611686018427387904) : ∀ i, i < 3 → 0 ≤ (σ.K i).born ∧ (σ.K i).born ≤ 4611686018427387904 := fun i hi => by
  rcases three hi with rfl | rfl | rfl
  · rw [h.z]; exact ⟨Int.le_refl _, by decide⟩
  · rw [h.o]; exact ⟨h0, h1⟩
  · rw [h.x]; exact ⟨Int.le_refl _, by decide⟩
theorem fresh0 (s : Nat → Int) {c : Int} (h : c ≠ L64) : freshD L64 8192 0 s c = true := fresh_iff.2 ⟨h, fun i hi => by omega, fun i hi => by omega⟩
theorem top0 (s : Nat → Int) {c : Int} (h : 0 ≤ c) : topF (cat 0 s (fun _ => c)) 1 = c + 1 := by
  have := topF_cat (s := s) (n := 0) (c := c)
  rw [this, if_pos (by show (0 : Int) < c + 1; omega)]
set_option maxHeartbeats 4000000 in
theorem dies_walk (born after : Int) (w : World) : Calls Try.prog 7 #[.int .i64 born, .int .i64 after] w fun e w' => e = .returned (.bool true) ∧ Below w.heap.size w w' := by
  have hbr := Int.tmod_lt_of_pos born (show (0 : Int) < 1000000000 by omega)
  have har := Int.tmod_lt_of_pos after (show (0 : Int) < 400000 by omega)
  have hbl := tmod_gt born (show (0 : Int) < 1000000000 by omega)
  have hal := tmod_gt after (show (0 : Int) < 400000 by omega)
  obtain ⟨b, hb⟩ : ∃ b : Int, b = if Int.tmod born 1000000000 < 0 then -(Int.tmod born 1000000000) else Int.tmod born 1000000000 := ⟨_, rfl⟩
  obtain ⟨a, ha⟩ : ∃ a : Int, a = if Int.tmod after 400000 < 0 then -(Int.tmod after 400000) else Int.tmod after 400000 := ⟨_, rfl⟩
  have hb0 : 0 ≤ b := by split at hb <;> omega
  have hb1 : b < 1000000000 := by split at hb <;> omega
  have ha0 : 0 ≤ a := by split at ha <;> omega
  have ha1 : a < 400000 := by split at ha <;> omega
  have hma : max b (b + a) = b + a := by omega
  obtain ⟨o1, t1⟩ := one_put (ks := pks 3) (kr := pkr 3) (loc := ploc 3) (far := pfar 3) hb0
  have ok1 : SesOk 1 (putS ses0 b (pks 3) (pkr 3) (ploc 3) (pfar 3) true) := ok0.put (by omega) true (pks_b 3) (pkr_b 3) (by decide) (by decide) (by decide) (by decide)
  have HPU : Hid (∀ u sb S, SesAt u sb ses0 S → Calls Try.prog 12 #[.pointer (some ⟨sb, 0, none⟩), .int .i64 b, .agg (SC 66 (paiV (pks 3) (pkr 3) (ploc 3) (pfar 3))), .bool true] u fun e w' => e = .returned (.tuple #[.int .i64 1, .int .i64 0]) ∧ Goes SesAt u sb S (putS ses0 b (pks 3) (pkr 3) (ploc 3) (pfar 3) true) w') := Hid.mk (fun u sb S h => by
    have := Put_run b (pks 3) (pkr 3) (ploc 3) (pfar 3) true h (by decide) (by decide)
    rw [show putR ses0 (ploc 3) = (1, 0) by decide +kernel] at this
    exact this)
  generalize hs1 : putS ses0 b (pks 3) (pkr 3) (ploc 3) (pfar 3) true = σ1 at *
  have ok2 := ok1.seal (now := b + a) (by omega)
  have hep : (kpNew (pks 3) (pkr 3) (ploc 3) (pfar 3) 1 b true).ep ≠ 0 := by show (1 : Int) ≠ 0; omega
  have hbxs : (boxT (pkr 3) (nonN 7) ⟨#[121]⟩ ByteArray.empty).size ≤ 140737488355328 := by rw [boxT_size]; decide
  have hU7 : U64 7 := by unfold U64; omega
  by_cases hold : 180000 ≤ a
  · have ho : oldF (max σ1.t (b + a)) (kpNew (pks 3) (pkr 3) (ploc 3) (pfar 3) 1 b true) = true := by
      rw [t1, hma]
      exact decide_eq_true (by show 180000 ≤ b + a - b; omega)
    obtain ⟨e2, o2, t2⟩ := one_seal_old (text := ⟨#[120]⟩) o1 ho
    have HSE : Hid (∀ u sb S, SesAt u sb σ1 S → Calls Try.prog 14 #[.pointer (some ⟨sb, 0, none⟩), .int .i64 (b + a), .string ⟨#[120]⟩] u fun e w' => e = .returned (.tuple #[.int .u32 0, .int .u64 0, .string ByteArray.empty, .int .i64 19]) ∧ Goes SesAt u sb S (sealS σ1 (b + a)) w') := Hid.mk (fun u sb S h => by
      have := Seal_run9 (b + a) ⟨#[120]⟩ h ok1 (by omega) (by omega) (by show 1 ≤ _; omega)
      rw [e2] at this
      exact this)
    rw [t1, hma] at t2
    generalize hs2 : sealS σ1 (b + a) = σ2 at *
    have ho2 : oldF (max σ2.t (b + a)) (kpNew (pks 3) (pkr 3) (ploc 3) (pfar 3) 1 b true) = true := by
      rw [t2]
      exact decide_eq_true (by show 180000 ≤ max (b + a) (b + a) - b; omega)
    obtain ⟨e3, o3, t3⟩ := one_open_old (c := 7) (box := boxT (pkr 3) (nonN 7) ⟨#[121]⟩ ByteArray.empty) o2 hep ho2
    have ok3 := ok2.open (now := b + a) (x := ploc 3) (c := 7) (box := boxT (pkr 3) (nonN 7) ⟨#[121]⟩ ByteArray.empty) (by omega) hU7
    have HOP : Hid (∀ u sb S, SesAt u sb σ2 S → Calls Try.prog 15 #[.pointer (some ⟨sb, 0, none⟩), .int .i64 (b + a), .int .u32 (ploc 3), .int .u64 7, .string (boxT (pkr 3) (nonN 7) ⟨#[121]⟩ ByteArray.empty)] u fun e w' => e = .returned (.tuple #[.string ByteArray.empty, .int .i64 0, .int .i64 19]) ∧ Goes SesAt u sb S (openS σ2 (b + a) (ploc 3) 7 (boxT (pkr 3) (nonN 7) ⟨#[121]⟩ ByteArray.empty)).2 w') := Hid.mk (fun u sb S h => by
      have := Open_run9 (b + a) (ploc 3) 7 (boxT (pkr 3) (nonN 7) ⟨#[121]⟩ ByteArray.empty) h ok2 (by omega) (by omega) hU7 hbxs
      rw [show (openS σ2 (b + a) (ploc 3) 7 (boxT (pkr 3) (nonN 7) ⟨#[121]⟩ ByteArray.empty)).1 = (ByteArray.empty, 0, 19) from e3] at this
      exact this)
    replace o3 : One (openS σ2 (b + a) (ploc 3) 7 (boxT (pkr 3) (nonN 7) ⟨#[121]⟩ ByteArray.empty)).2 (kpNew (pks 3) (pkr 3) (ploc 3) (pfar 3) 1 b true) := o3
    replace t3 : (openS σ2 (b + a) (ploc 3) 7 (boxT (pkr 3) (nonN 7) ⟨#[121]⟩ ByteArray.empty)).2.t = max σ2.t (b + a) := t3
    generalize hs3 : (openS σ2 (b + a) (ploc 3) 7 (boxT (pkr 3) (nonN 7) ⟨#[121]⟩ ByteArray.empty)).2 = σ3 at *
    have hg : goesF (oldF (max σ3.t (b + a))) (kpNew (pks 3) (pkr 3) (ploc 3) (pfar 3) 1 b true) = true := by
      have : oldF (max σ3.t (b + a)) (kpNew (pks 3) (pkr 3) (ploc 3) (pfar 3) 1 b true) = true := by
        rw [t3, t2]
        exact decide_eq_true (by show 180000 ≤ max (max (b + a) (b + a)) (b + a) - b; omega)
      unfold goesF
      rw [this]
      rfl
    obtain ⟨d1, d2, d3, d4⟩ := one_drop o3 (oldF (max σ3.t (b + a)))
    rw [if_pos hg] at d1 d2
    have HEX : Hid (∀ u sb S, SesAt u sb σ3 S → Calls Try.prog 16 #[.pointer (some ⟨sb, 0, none⟩), .int .i64 (b + a)] u fun e w' => (∃ vo, e = .returned vo ∧ w'.ownsRow u.heap.size 33 1 vo 1 (u32X [ploc 3])) ∧ Goes SesAt u sb S (expireS σ3 (b + a)) w') := Hid.mk (fun u sb S h => by
      refine (Expire_run (b + a) h ok3 (by omega)).mono ?_
      rintro e w' ⟨vo, rfl, q1, q2⟩
      rw [d1] at q1
      exact ⟨⟨vo, rfl, q1⟩, q2⟩)
    have o4 : One (expireS σ3 (b + a)) kp0 := ⟨d3, d2, d4⟩
    have HDE : Hid (∀ u sb S, SesAt u sb (expireS σ3 (b + a)) S → Calls Try.prog 22 #[.pointer (some ⟨sb, 0, none⟩)] u fun e w' => e = .returned (.int .i64 (-1)) ∧ Below u.heap.size u w') := Hid.mk (fun u sb S h => by
      have := Due_run h (one_born o4 (Int.le_refl _) (by decide))
      rw [one_due o4, if_pos (show kp0.ep = 0 from rfl)] at this
      exact this)
    exact dies_old born after a b w hb0 hb1 ha0 ha1 hold hb ha HPU HSE HOP HEX HDE
  · have ho : oldF (max σ1.t (b + a)) (kpNew (pks 3) (pkr 3) (ploc 3) (pfar 3) 1 b true) = false := by
      rw [t1, hma]
      exact decide_eq_false (by show ¬ 180000 ≤ b + a - b; omega)
    obtain ⟨e2, o2, t2⟩ := one_seal (text := ⟨#[120]⟩) o1 hep ho
    have HSE : Hid (∀ u sb S, SesAt u sb σ1 S → Calls Try.prog 14 #[.pointer (some ⟨sb, 0, none⟩), .int .i64 (b + a), .string ⟨#[120]⟩] u fun e w' => e = .returned (.tuple #[.int .u32 (pfar 3), .int .u64 0, .string (boxT (pks 3) (nonN 0) ⟨#[120]⟩ ByteArray.empty), .int .i64 0]) ∧ Goes SesAt u sb S (sealS σ1 (b + a)) w') := Hid.mk (fun u sb S h => by
      have := Seal_run9 (b + a) ⟨#[120]⟩ h ok1 (by omega) (by omega) (by show 1 ≤ _; omega)
      rw [e2] at this
      exact this)
    rw [t1, hma] at t2
    generalize hs2 : sealS σ1 (b + a) = σ2 at *
    have ho2 : oldF (max σ2.t (b + a)) (kpSent (kpNew (pks 3) (pkr 3) (ploc 3) (pfar 3) 1 b true)) = false := by
      rw [t2]
      exact decide_eq_false (by show ¬ 180000 ≤ max (b + a) (b + a) - b; omega)
    obtain ⟨e3, o3, t3⟩ := one_open (c := 7) (text := ⟨#[121]⟩) o2 hep ho2 (by omega) (fresh0 _ (by unfold L64; omega)) (by show topF (cat 0 _ (fun _ => 7)) 1 < 8192; rw [top0 _ (by omega)]; omega)
    have ok3 := ok2.open (now := b + a) (x := ploc 3) (c := 7) (box := boxT (pkr 3) (nonN 7) ⟨#[121]⟩ ByteArray.empty) (by omega) hU7
    have HOP : Hid (∀ u sb S, SesAt u sb σ2 S → Calls Try.prog 15 #[.pointer (some ⟨sb, 0, none⟩), .int .i64 (b + a), .int .u32 (ploc 3), .int .u64 7, .string (boxT (pkr 3) (nonN 7) ⟨#[121]⟩ ByteArray.empty)] u fun e w' => e = .returned (.tuple #[.string ⟨#[121]⟩, .int .i64 1, .int .i64 0]) ∧ Goes SesAt u sb S (openS σ2 (b + a) (ploc 3) 7 (boxT (pkr 3) (nonN 7) ⟨#[121]⟩ ByteArray.empty)).2 w') := Hid.mk (fun u sb S h => by
      have := Open_run9 (b + a) (ploc 3) 7 (boxT (pkr 3) (nonN 7) ⟨#[121]⟩ ByteArray.empty) h ok2 (by omega) (by omega) hU7 hbxs
      rw [show (openS σ2 (b + a) (ploc 3) 7 (boxT (pkr 3) (nonN 7) ⟨#[121]⟩ ByteArray.empty)).1 = (⟨#[121]⟩, 1, 0) from e3] at this
      exact this)
    replace o3 : One (openS σ2 (b + a) (ploc 3) 7 (boxT (pkr 3) (nonN 7) ⟨#[121]⟩ ByteArray.empty)).2 (kpTook (kpSent (kpNew (pks 3) (pkr 3) (ploc 3) (pfar 3) 1 b true)) 7) := o3
    replace t3 : (openS σ2 (b + a) (ploc 3) 7 (boxT (pkr 3) (nonN 7) ⟨#[121]⟩ ByteArray.empty)).2.t = max σ2.t (b + a) := t3
    generalize hs3 : (openS σ2 (b + a) (ploc 3) 7 (boxT (pkr 3) (nonN 7) ⟨#[121]⟩ ByteArray.empty)).2 = σ3 at *
    have hg : goesF (oldF (max σ3.t (b + a))) (kpTook (kpSent (kpNew (pks 3) (pkr 3) (ploc 3) (pfar 3) 1 b true)) 7) = false := by
      have : oldF (max σ3.t (b + a)) (kpTook (kpSent (kpNew (pks 3) (pkr 3) (ploc 3) (pfar 3) 1 b true)) 7) = false := by
        rw [t3, t2]
        exact decide_eq_false (by show ¬ 180000 ≤ max (max (b + a) (b + a)) (b + a) - b; omega)
      unfold goesF
      rw [this]
      simp
    obtain ⟨d1, d2, d3, d4⟩ := one_drop o3 (oldF (max σ3.t (b + a)))
    rw [hg] at d1 d2
    replace d1 : dropL (oldF (max σ3.t (b + a))) σ3.K 3 = [] := d1
    have HEX : Hid (∀ u sb S, SesAt u sb σ3 S → Calls Try.prog 16 #[.pointer (some ⟨sb, 0, none⟩), .int .i64 (b + a)] u fun e w' => (∃ vo, e = .returned vo ∧ w'.ownsRow u.heap.size 33 1 vo 0 (u32X [])) ∧ Goes SesAt u sb S (expireS σ3 (b + a)) w') := Hid.mk (fun u sb S h => by
      refine (Expire_run (b + a) h ok3 (by omega)).mono ?_
      rintro e w' ⟨vo, rfl, q1, q2⟩
      rw [d1] at q1
      exact ⟨⟨vo, rfl, q1⟩, q2⟩)
    have o4 : One (expireS σ3 (b + a)) (kpTook (kpSent (kpNew (pks 3) (pkr 3) (ploc 3) (pfar 3) 1 b true)) 7) := ⟨d3, d2, d4⟩
    have HDE : Hid (∀ u sb S, SesAt u sb (expireS σ3 (b + a)) S → Calls Try.prog 22 #[.pointer (some ⟨sb, 0, none⟩)] u fun e w' => e = .returned (.int .i64 (b + 180000)) ∧ Below u.heap.size u w') := Hid.mk (fun u sb S h => by
      have := Due_run h (one_born o4 hb0 (by show b ≤ _; omega))
      rw [one_due o4, if_neg (show (kpTook (kpSent (kpNew (pks 3) (pkr 3) (ploc 3) (pfar 3) 1 b true)) 7).ep ≠ 0 from hep)] at this
      exact this)
    exact dies_new born after a b w hb0 hb1 ha0 ha1 (by omega) hb ha HPU HSE HOP HEX HDE
end Go.Proofs.Ytbkbcfimpaolmaa
/-
  Own text. The law SessionRetires: its numbers.
-/
namespace Go.Proofs.Ytbkbcfimpaolmaa
open Go.RowKit Go.Proofs
set_option maxRecDepth 100000
def rk1 : Kp := kpNew (pks 1) (pkr 1) (ploc 1) (pfar 1) 1 0 true
def rk2 (f : Bool) : Kp := kpNew (pks 2) (pkr 2) (ploc 2) (pfar 2) 2 1 f
def rs1 : Ses := putS ses0 0 (pks 1) (pkr 1) (ploc 1) (pfar 1) true
def rs2 (f : Bool) : Ses := putS rs1 1 (pks 2) (pkr 2) (ploc 2) (pfar 2) f
theorem rs_one : One rs1 rk1 ∧ rs1.t = 0 := one_put (by omega)
theorem rs_a : putR rs1 (ploc 2) = (2, 0) := by decide +kernel
theorem rs_ok1 : SesOk 1 rs1 := ok0.put (by omega) true (pks_b 1) (pkr_b 1) (by decide) (by decide) (by decide) (by decide)
theorem rs_ok2 (f : Bool) : SesOk 2 (rs2 f) := rs_ok1.put (by omega) f (pks_b 2) (pkr_b 2) (by decide) (by decide) (by decide) (by decide)
theorem rs_none : atF rs1.K (ploc 2) = -1 := by decide +kernel
theorem rs_c : rs1.c + 1 = 2 := by decide +kernel
theorem rs2_eq (f : Bool) : (rs2 f).t = 1 ∧ (rs2 f).K = placeG Kp.ep rs1.K (rk2 f) kp0 f := by
  unfold rs2
  rw [putS_yes rs_none, rs_c, rs_one.2]
  exact ⟨by show max (0 : Int) 1 = 1; decide, rfl⟩
theorem rs2_t : (rs2 true).K 0 = rk1 ∧ (rs2 true).K 1 = rk2 true ∧ (rs2 true).K 2 = kp0 := by
  obtain ⟨p1, p2, p0⟩ := plG_t (ep := Kp.ep) (R := rs1.K) (r := rk2 true) (z := kp0)
  rw [(rs2_eq true).2]
  refine ⟨?_, p1, p2⟩
  rw [p0, rs_one.1.x, rs_one.1.o, if_neg (by decide), if_pos (by decide)]
theorem rs2_f : (rs2 false).K 0 = kp0 ∧ (rs2 false).K 1 = rk1 ∧ (rs2 false).K 2 = rk2 false := by
  obtain ⟨p2, p1, p0⟩ := plG_f (ep := Kp.ep) (R := rs1.K) (r := rk2 false) (z := kp0)
  rw [(rs2_eq false).2]
  exact ⟨p0.trans rs_one.1.z, p1.trans rs_one.1.o, p2⟩
/-- Two keypairs: previous a (or none), current b. -/
structure Two (σ : Ses) (a b : Kp) : Prop where
  p : σ.K 0 = a
  o : σ.K 1 = b
  x : σ.K 2 = kp0
theorem rs_fresh (c : Int) (h : c < 20000) (f : Bool) : freshD L64 8192 (rk2 f).n (rk2 f).s c = true := fresh0 _ (by unfold L64; omega)
theorem set_self {α : Type} (K : Nat → α) (i : Nat) (k : α) : setG K i k i = k := by unfold setG; rw [if_pos rfl]
theorem set_other {α : Type} (K : Nat → α) {i j : Nat} (k : α) (h : j ≠ i) : setG K i k j = K j := by unfold setG; rw [if_neg h]
theorem set0 {K : Nat → Kp} {a b : Kp} (h1 : K 1 = a) (h2 : K 2 = b) : setG K 0 kp0 0 = kp0 ∧ setG K 0 kp0 1 = a ∧ setG K 0 kp0 2 = b := ⟨set_self K 0 kp0, (set_other K kp0 (by decide)).trans h1, (set_other K kp0 (by decide)).trans h2⟩
theorem rs3 (f : Bool) (c : Int) (h0 : 0 ≤ c) (h1 : c < 20000) (text : ByteArray) :
    (openS (rs2 f) 2 (ploc 2) c (boxT (pkr 2) (nonN c) text ByteArray.empty)).1 = (text, 2, 0) ∧ Two (openS (rs2 f) 2 (ploc 2) c (boxT (pkr 2) (nonN c) text ByteArray.empty)).2 (if 8192 ≤ c + 1 then kp0 else rk1) (kpTook (rk2 f) c) ∧ (openS (rs2 f) 2 (ploc 2) c (boxT (pkr 2) (nonN c) text ByteArray.empty)).2.t = 2 := by
  have htop : topF (kpTook (rk2 f) c).s (kpTook (rk2 f) c).n = c + 1 := top0 (fun _ => 0) h0
  have hmax : max (rs2 f).t 2 = 2 := by rw [(rs2_eq f).1]; decide
  cases f
  · obtain ⟨q0, q1, q2⟩ := rs2_f
    have hat : atF (rs2 false).K (ploc 2) = ((2 : Nat) : Int) := by
      unfold atF hasL
      rw [q0, q1, q2]
      decide
    have hE : openE (rs2 false) 2 2 c = 0 := openE_ok (by rw [hmax, q2]; decide) (by omega) (by rw [q2]; exact rs_fresh c h1 false)
    have hb := open_box (pkr 2) (nonN c) text ByteArray.empty
    have hkr : ((rs2 false).K 2).kr = pkr 2 := by rw [q2]; rfl
    rw [openS_at hat, openAt_yes hE (by rw [hkr, hb]), hkr, hb, q2, hmax]
    refine ⟨rfl, ?_, rfl⟩
    obtain ⟨m1, m2, m0⟩ := mvG (ep := Kp.ep) (R := setG (rs2 false).K 2 (kpTook (rk2 false) c)) (z := kp0)
    rw [set_self] at m1
    rw [set_other _ _ (by omega), set_other _ _ (by omega), q1, q0, if_pos (by decide)] at m0
    by_cases hc : 8192 ≤ c + 1
    · have e : openedF (setG (rs2 false).K 2 (kpTook (rk2 false) c)) 2 = setG (movedG Kp.ep (setG (rs2 false).K 2 (kpTook (rk2 false) c)) kp0) 0 kp0 := by
        unfold openedF
        simp only [if_true, m1, htop]
        rw [if_pos ⟨by decide, hc⟩]
      rw [e, if_pos hc]
      exact ⟨(set0 m1 m2).1, (set0 m1 m2).2.1, (set0 m1 m2).2.2⟩
    · have e : openedF (setG (rs2 false).K 2 (kpTook (rk2 false) c)) 2 = movedG Kp.ep (setG (rs2 false).K 2 (kpTook (rk2 false) c)) kp0 := by
        unfold openedF
        simp only [if_true, m1, htop]
        rw [if_neg (fun q => hc q.2)]
      rw [e, if_neg hc]
      exact ⟨m0, m1, m2⟩
  · obtain ⟨q0, q1, q2⟩ := rs2_t
    have hat : atF (rs2 true).K (ploc 2) = ((1 : Nat) : Int) := by
      unfold atF hasL
      rw [q0, q1, q2]
      decide
    have hE : openE (rs2 true) 2 1 c = 0 := openE_ok (by rw [hmax, q1]; decide) (by omega) (by rw [q1]; exact rs_fresh c h1 true)
    have hb := open_box (pkr 2) (nonN c) text ByteArray.empty
    have hkr : ((rs2 true).K 1).kr = pkr 2 := by rw [q1]; rfl
    rw [openS_at hat, openAt_yes hE (by rw [hkr, hb]), hkr, hb, q1, hmax]
    refine ⟨rfl, ?_, rfl⟩
    have s1 := set_self (rs2 true).K 1 (kpTook (rk2 true) c)
    have s0 := (set_other (rs2 true).K (i := 1) (j := 0) (kpTook (rk2 true) c) (by omega)).trans q0
    have s2 := (set_other (rs2 true).K (i := 1) (j := 2) (kpTook (rk2 true) c) (by omega)).trans q2
    by_cases hc : 8192 ≤ c + 1
    · have e : openedF (setG (rs2 true).K 1 (kpTook (rk2 true) c)) 1 = setG (setG (rs2 true).K 1 (kpTook (rk2 true) c)) 0 kp0 := by
        unfold openedF
        simp only [show ¬ (1 = 2) by decide, if_false, s1, htop]
        rw [if_pos ⟨by decide, hc⟩]
      rw [e, if_pos hc]
      exact ⟨(set0 s1 s2).1, (set0 s1 s2).2.1, (set0 s1 s2).2.2⟩
    · have e : openedF (setG (rs2 true).K 1 (kpTook (rk2 true) c)) 1 = setG (rs2 true).K 1 (kpTook (rk2 true) c) := by
        unfold openedF
        simp only [show ¬ (1 = 2) by decide, if_false, s1, htop]
        rw [if_neg (fun q => hc q.2)]
      rw [e, if_neg hc]
      exact ⟨s0, s1, s2⟩
/-- Nothing opens by a keypair that is gone. -/
theorem rs4_gone {σ : Ses} {f : Bool} {c : Int} (h : Two σ kp0 (kpTook (rk2 f) c)) (now d : Int) (box : ByteArray) : (openS σ now (ploc 1) d box).1 = (ByteArray.empty, 0, 15) ∧ (slotsL (openS σ now (ploc 1) d box).2.K 3).length = 1 := by
  have hat : atF σ.K (ploc 1) = -1 := by
    unfold atF hasL
    rw [h.p, h.o, h.x]
    have e1 : (kpTook (rk2 f) c).loc = 2 := by show ploc 2 = 2; decide
    rw [e1]
    rfl
  rw [openS_no hat]
  refine ⟨rfl, ?_⟩
  simp only [slotsL, h.p, h.o, h.x]
  rfl
theorem rs4_there {σ : Ses} {f : Bool} {c : Int} (h : Two σ rk1 (kpTook (rk2 f) c)) (ht : σ.t = 2) (text : ByteArray) : (openS σ 3 (ploc 1) 5 (boxT (pkr 1) (nonN 5) text ByteArray.empty)).1 = (text, 1, 0) ∧ (slotsL (openS σ 3 (ploc 1) 5 (boxT (pkr 1) (nonN 5) text ByteArray.empty)).2.K 3).length = 2 := by
  have hat : atF σ.K (ploc 1) = ((0 : Nat) : Int) := by
    have e1 : hasL σ.K (ploc 1) 0 = true := by unfold hasL; rw [h.p]; decide
    unfold atF
    rw [if_pos e1]
    rfl
  have hmax : max σ.t 3 = 3 := by rw [ht]; decide
  have hE : openE σ 3 0 5 = 0 := openE_ok (by rw [hmax, h.p]; decide) (by omega) (by rw [h.p]; exact fresh0 _ (by unfold L64; omega))
  have hb := open_box (pkr 1) (nonN 5) text ByteArray.empty
  have hkr : (σ.K 0).kr = pkr 1 := by rw [h.p]; rfl
  rw [openS_at hat, openAt_yes hE (by rw [hkr, hb]), hkr, hb, h.p]
  refine ⟨rfl, ?_⟩
  have e : openedF (setG σ.K 0 (kpTook rk1 5)) 0 = setG σ.K 0 (kpTook rk1 5) := by unfold openedF; simp
  rw [e]
  have s0 := set_self σ.K 0 (kpTook rk1 5)
  have s1 := (set_other σ.K (i := 0) (j := 1) (kpTook rk1 5) (by omega)).trans h.o
  have s2 := (set_other σ.K (i := 0) (j := 2) (kpTook rk1 5) (by omega)).trans h.x
  simp only [slotsL, s0, s1, s2]
  rfl
end Go.Proofs.Ytbkbcfimpaolmaa
