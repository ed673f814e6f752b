/-
  Own text. The law SessionDies, walked.
-/
import Derived.Test.YtbkbcfimpaolmaaJ8
namespace Go.Proofs.Ytbkbcfimpaolmaa
open Go.RowKit Go.Proofs
set_option maxRecDepth 100000
theorem enterRNonce9 (args : Array Value) (w : World) : (callFunc 18 args).run Try.prog w = .ok (.enter 18 args) w := by kernel_rfl
theorem enterRSeal9 (args : Array Value) (w : World) : (callFunc 17 args).run Try.prog w = .ok (.enter 17 args) w := by kernel_rfl
theorem enterOpenS9 (args : Array Value) (w : World) : (callFunc 15 args).run Try.prog w = .ok (.enter 15 args) w := by kernel_rfl
theorem enterDue9 (args : Array Value) (w : World) : (callFunc 22 args).run Try.prog w = .ok (.enter 22 args) w := by kernel_rfl
theorem below_drew (w : World) : Below w.heap.size w w.drew := (Below.refl _ w).drew
theorem tmod_gt (n : Int) {m : Int} (hm : 0 < m) : -m < Int.tmod n m := by
  have h := Int.tmod_lt_of_pos (-n) hm
  rw [Int.neg_tmod] at h
  omega
theorem st_only {w0 w w' : World} {sb g : Nat} {N : Nat → Prop} {σ : Ses} (h : SeSt w0 sb (fun k => N k ∨ k = g) w σ) (o : Only g w w') (hg : w0.heap.size ≤ g) : SeSt w0 sb (fun k => N k ∨ k = g) w' σ := by
  obtain ⟨S, a, h1, hB⟩ := h
  exact ⟨S, a.same (fun k hk => o.block k (fun e => (h1 k hk).2 (.inr e))), h1, hB.trans (o.below hg)⟩
theorem st_sub {w0 w : World} {sb : Nat} {N N' : Nat → Prop} {σ : Ses} (h : SeSt w0 sb N w σ) (hN : ∀ k, N' k → N k) : SeSt w0 sb N' w σ := by
  obtain ⟨S, a, h1, hB⟩ := h
  exact ⟨S, a, fun k hk => ⟨(h1 k hk).1, fun e => (h1 k hk).2 (hN k e)⟩, hB⟩
theorem exec_len32 {a : Act} {o : Oper} {w : World} {x : Operand} (ho : o.op = .call { callee := .builtin .len, args := #[x], argTypes := #[49] }) {ad : Option Addr} {n c : Nat} (hx : a.eval x = .slice ad n c) : (execOp a.eval o).run Try.prog w = .ok (.value (.int .i64 (n : Int))) w := by
  have hr : (Builtin.len_ #[49] o.type #[.slice ad n c]).run Try.prog w = .ok (goInt n) w := by simp [go_sem]
  simp [execOp, ho, resolve, invoke, builtin, hx, hr, goInt]
theorem exec_ixu32 {a : Act} {o : Oper} {w : World} {x : Operand} (ho : o.op = .indexAddr 49 x (.const (.int .i64 0))) {g n c : Nat} (hx : a.eval x = .slice (some ⟨g, 0, none⟩) (n + 1) c) : (execOp a.eval o).run Try.prog w = .ok (.value (.pointer (some ⟨g, 0, none⟩))) w := by
  unfold execOp
  simp only [ho, hx]
  simp [go_sem]
set_option maxHeartbeats 16000000 in
theorem dies_old (born after a b : Int) (w : World) {σ1 σ2 σ3 σ4 : Ses} (hb0 : 0 ≤ b) (hb1 : b < 1000000000) (ha0 : 0 ≤ a) (ha1 : a < 400000) (hold : 180000 ≤ a)
    (hb : b = if Int.tmod born 1000000000 < 0 then -(Int.tmod born 1000000000) else Int.tmod born 1000000000) (ha : a = if Int.tmod after 400000 < 0 then -(Int.tmod after 400000) else Int.tmod after 400000)
    (HPU : Hid (∀ u sb S, SesAt u sb ses0 S → Calls Try.prog 12 #[.pointer (some ⟨sb, 0, none⟩), .int .i64 b, .agg (SC 66 (paiV (pks 3) (pkr 3) (ploc 3) (pfar 3))), .bool true] u fun e w' => e = .returned (.tuple #[.int .i64 1, .int .i64 0]) ∧ Goes SesAt u sb S σ1 w'))
    (HSE : Hid (∀ u sb S, SesAt u sb σ1 S → Calls Try.prog 14 #[.pointer (some ⟨sb, 0, none⟩), .int .i64 (b + a), .string ⟨#[120]⟩] u fun e w' => e = .returned (.tuple #[.int .u32 0, .int .u64 0, .string ByteArray.empty, .int .i64 19]) ∧ Goes SesAt u sb S σ2 w'))
    (HOP : Hid (∀ u sb S, SesAt u sb σ2 S → Calls Try.prog 15 #[.pointer (some ⟨sb, 0, none⟩), .int .i64 (b + a), .int .u32 (ploc 3), .int .u64 7, .string (boxT (pkr 3) (nonN 7) ⟨#[121]⟩ ByteArray.empty)] u fun e w' => e = .returned (.tuple #[.string ByteArray.empty, .int .i64 0, .int .i64 19]) ∧ Goes SesAt u sb S σ3 w'))
    (HEX : Hid (∀ u sb S, SesAt u sb σ3 S → Calls Try.prog 16 #[.pointer (some ⟨sb, 0, none⟩), .int .i64 (b + a)] u fun e w' => (∃ vo, e = .returned vo ∧ w'.ownsRow u.heap.size 33 1 vo 1 (u32X [ploc 3])) ∧ Goes SesAt u sb S σ4 w'))
    (HDE : Hid (∀ u sb S, SesAt u sb σ4 S → Calls Try.prog 22 #[.pointer (some ⟨sb, 0, none⟩)] u fun e w' => e = .returned (.int .i64 (-1)) ∧ Below u.heap.size u w')) :
    Calls Try.prog 7 #[.int .i64 born, .int .i64 after] w fun e w' => e = .returned (.bool true) ∧ Below w.heap.size w w' := by
  have hdec : decide (180000 ≤ a) = true := decide_eq_true hold
  have hbr := Int.tmod_lt_of_pos born (show (0 : Int) < 1000000000 by omega)
  have har := Int.tmod_lt_of_pos after (show (0 : Int) < 400000 by omega)
  have hbl := tmod_gt born (show (0 : Int) < 1000000000 by omega)
  have hal := tmod_gt after (show (0 : Int) < 400000 by omega)
  generalize hbm : Int.tmod born 1000000000 = bm at *
  generalize ham : Int.tmod after 400000 = am at *
  by_cases hbs : bm < 0
  · rw [if_pos hbs] at hb
    by_cases has : am < 0
    · rw [if_pos has] at ha
      have HBB := Hid.mk hb
      have HAA := Hid.mk ha
      clear hb ha
      go_enter Try.func7, Try.ntmps7
      go_wp2_with fail
      refine (awake_run w).mono ?_
      rintro e v1 ⟨rfl, hA1⟩
      go_wp2_with fail
      refine (New_run9 v1).mono ?_
      rintro e v2 ⟨sb, rfl, hs2, hsb, hA2⟩
      have hN := SeSt.new hA1 hs2 hsb hA2
      clear hs2 hsb hA2 hA1
      go_wp2_with fail
      rw [← HBB.out, ← HAA.out]
      clear hbm ham HBB HAA hbs has hbr har hbl hal
      refine (pair_run 3 _).mono ?_
      rintro e u1 ⟨rfl, hB1⟩
      have h1 := hN.below hB1
      go_wp2_with (refine wl_al zeroPairV ?_; intro gp u2 hgp g2 hB2; refine Hid.out ?_)
      refine Hid.mk ?_
      have h2' := (h1.keep hgp hB2)
      have hgw : w.heap.size ≤ gp := Nat.le_trans h1.size hgp
      clear h1 hN hB1
      go_wp2_with (refine st_st isPair (paiV_one _ _ _ _) g2 (by rfl) (by rfl) ?_; intro u3 g3 o3; refine Hid.out ?_)
      refine Hid.mk ?_
      have h3 := st_only h2' o3 hgw
      have gl3 := SAt.lt g3
      clear h2' g2 hB2 o3 hgp
      go_wp2_with (refine wl_value rfl (look_st rfl isPair g3 (by rfl)) ?_)
      refine (h3.call (fun k e => by rcases e with e | e; exact e.elim; exact e ▸ gl3) (fun S hS => HPU.out u3 sb S hS)).mono ?_
      rintro e u4 ⟨rfl, h4, k4⟩
      have g4 : SAt u4 gp 35 66 (paiV (pks 3) (pkr 3) (ploc 3) (pfar 3)) := SAt.block g3 (k4.2 gp gl3 (.inr rfl))
      have gl4 := SAt.lt g4
      clear h3 g3 gl3 k4
      go_wp2_with fail
      refine (h4.call (fun k e => by rcases e with e | e; exact e.elim; exact e ▸ gl4) (fun S hS => HSE.out u4 sb S hS)).mono ?_
      rintro e u5 ⟨rfl, h5, k5⟩
      have g2 : SAt u5 gp 35 66 (paiV (pks 3) (pkr 3) (ploc 3) (pfar 3)) := SAt.block g4 (k5.2 gp gl4 (.inr rfl))
      have h2 : SeSt w sb (fun k => k = gp) u5 σ2 := st_sub h5 (fun k e => .inr e)
      clear h4 h5 g4 gl4 k5
      have HO : Hid (∀ v, (SeSt w sb (fun k => k = gp) v σ2 ∧ SAt v gp 35 66 (paiV (pks 3) (pkr 3) (ploc 3) (pfar 3))) → Calls Try.prog 15 #[.pointer (some ⟨sb, 0, none⟩), .int .i64 (b + a), .int .u32 (ploc 3), .int .u64 7, .string (boxT (pkr 3) (nonN 7) ⟨#[121]⟩ ByteArray.empty)] v fun e w' => ∃ x, e = .returned x ∧ x = .tuple #[.string ByteArray.empty, .int .i64 0, .int .i64 19] ∧ (SeSt w sb (fun k => k = gp) w' σ3 ∧ SAt w' gp 35 66 (paiV (pks 3) (pkr 3) (ploc 3) (pfar 3)))) := Hid.mk (fun v hv => by
        have gl := SAt.lt hv.2
        refine (hv.1.call (fun k e => e ▸ gl) (fun S hS => HOP.out v sb S hS)).mono ?_
        rintro e w' ⟨rfl, q1, q2⟩
        exact ⟨_, rfl, rfl, q1, SAt.block hv.2 (q2.2 gp gl rfl)⟩)
      go_wp2_with fail
      refine wp_region_steps4 (SL (fun v => SeSt w sb (fun k => k = gp) v σ2 ∧ SAt v gp 35 66 (paiV (pks 3) (pkr 3) (ploc 3) (pfar 3))) (fun v => SeSt w sb (fun k => k = gp) v σ3 ∧ SAt v gp 35 66 (paiV (pks 3) (pkr 3) (ploc 3) (pfar 3))) 10) (fun j x => x = ([.pointer (some ⟨sb, 0, none⟩), .int .i64 b, .int .i64 a, .int .i64 (b + a), .pointer (some ⟨gp, 0 + 64, none⟩), .int .u32 (ploc 3), .pointer (some ⟨gp, 0 + 32, none⟩), .agg (WA .u8 32 (pkr 3)), .agg (WA .u8 12 (nonN 7)), .string (boxT (pkr 3) (nonN 7) ⟨#[121]⟩ ByteArray.empty), .tuple #[.string ByteArray.empty, .int .i64 0, .int .i64 19], .tuple #[.string ByteArray.empty, .int .i64 0, .int .i64 19], .string ByteArray.empty, .int .i64 0, .int .i64 19, .string ByteArray.empty, .int .i64 0, .int .i64 19] : List Value).getD j undef)
          [54, 55, 56, 57, 58, 59, 60, 61, 62, 63, 64, 53, 65, 66, 67, 14, 15, 16]
          [(6, .pointer (some ⟨sb, 0, none⟩)), (7, .int .i64 b), (8, .int .i64 a), (9, .pointer (some ⟨gp, 0, none⟩))]
          [[], [], [], [1, 2], [], [4], [], [6], [], [7, 8], [0, 3, 5, 9], [10], [11], [11], [11], [12], [13], [14]]
          [[], [], [], [], [], [], [], [], [], [7, 8], [5, 7, 8, 9], [5, 7, 8, 9, 10], [5, 7, 8, 9, 10], [5, 7, 8, 9, 10], [5, 7, 8, 9, 10], [5, 7, 8, 9, 10], [5, 7, 8, 9, 10], [5, 7, 8, 9, 10]]
          [[], [], [], [], [], [10], [], [10], [10], [10], [], [], [], [], [], [], [], []]
          rfl (by kernel_rfl) ⟨rfl, rfl, rfl, rfl, trivial⟩ (sl_start ⟨h2.below (below_drew _), SAt.kept g2 (below_drew _)⟩)
          ⟨
            (fun Q L aq ww hS hun hq hd fr kn => ⟨trivial, fun K hK => wp_value (exec_move rfl fr.1) (hK _ _ rfl (sl_same (by decide) hS))⟩),
            (fun Q L aq ww hS hun hq hd fr kn => ⟨trivial, fun K hK => wp_value (exec_move rfl fr.2.1) (hK _ _ rfl (sl_same (by decide) hS))⟩),
            (fun Q L aq ww hS hun hq hd fr kn => ⟨trivial, fun K hK => wp_value (exec_move rfl fr.2.2.1) (hK _ _ rfl (sl_same (by decide) hS))⟩),
            (fun Q L aq ww hS hun hq hd fr kn => ⟨trivial, fun K hK => wp_value (exec_addI rfl kn.1 kn.2.1 (by omega) (by omega)) (hK _ _ rfl (sl_same (by decide) hS))⟩),
            (fun Q L aq ww hS hun hq hd fr kn => ⟨trivial, fun K hK => wp_value (exec_fpa (k := 2) rfl fr.2.2.2.1 (by decide)) (hK _ _ rfl (sl_same (by decide) hS))⟩),
            (fun Q L aq ww hS hun hq hd fr kn => ⟨trivial, fun K hK => wp_value (exec_ld rfl kn.1 (ld_u32 (pai_l (sl_a hS hd.1).2))) (hK _ _ rfl (sl_same (by decide) hS))⟩),
            (fun Q L aq ww hS hun hq hd fr kn => ⟨trivial, fun K hK => wp_value (exec_fpa (k := 1) rfl fr.2.2.2.1 (by decide)) (hK _ _ rfl (sl_same (by decide) hS))⟩),
            (fun Q L aq ww hS hun hq hd fr kn => ⟨trivial, fun K hK => wp_value (exec_ldmid rfl isArr32 kn.1 (pai_r (sl_a hS hd.1).2)) (hK _ _ rfl (sl_same (by decide) hS))⟩),
            (fun Q L aq ww hS hun hq hd fr kn => ⟨trivial, fun K hK => stepc enterRNonce9 rfl (args1 rfl) (rNonce_run 7 ww (by omega)) (fun w' hb => hK _ _ rfl (sl_ahead (by decide) hd.1 (And.intro ((sl_a hS hd.1).1.below hb) (SAt.kept (sl_a hS hd.1).2 hb))))⟩),
            (fun Q L aq ww hS hun hq hd fr kn => ⟨trivial, fun K hK => stepc enterRSeal9 rfl (args4 kn.1 kn.2.1 rfl rfl) (rSeal_run (pkr 3) (nonN 7) ⟨#[121]⟩ ByteArray.empty ww (pkr_b 3) nonN_b (by decide) (by decide)) (fun w' hb => hK _ _ rfl (sl_ahead (by decide) hd.1 (And.intro ((sl_a hS hd.1).1.below hb) (SAt.kept (sl_a hS hd.1).2 hb))))⟩),
            (fun Q L aq ww hS hun hq hd fr kn => ⟨trivial, fun K hK => stepp enterOpenS9 rfl (args5 kn.1 kn.2.1 kn.2.2.1 rfl kn.2.2.2.1) (HO.out ww (sl_a hS hun)) (fun v w' hv => hK _ _ hv.1 (sl_done hv.2))⟩),
            (fun Q L aq ww hS hun hq hd fr kn => ⟨trivial, fun K hK => wp_value (exec_move rfl kn.1) (hK _ _ rfl (sl_same (by decide) hS))⟩),
            (fun Q L aq ww hS hun hq hd fr kn => ⟨trivial, fun K hK => wp_value (exec_ext rfl kn.1 rfl) (hK _ _ rfl (sl_same (by decide) hS))⟩),
            (fun Q L aq ww hS hun hq hd fr kn => ⟨trivial, fun K hK => wp_value (exec_ext rfl kn.1 rfl) (hK _ _ rfl (sl_same (by decide) hS))⟩),
            (fun Q L aq ww hS hun hq hd fr kn => ⟨trivial, fun K hK => wp_value (exec_ext rfl kn.1 rfl) (hK _ _ rfl (sl_same (by decide) hS))⟩),
            (fun Q L aq ww hS hun hq hd fr kn => ⟨trivial, fun K hK => wp_value (exec_assign rfl kn.1) (hK _ _ rfl (sl_same (by decide) hS))⟩),
            (fun Q L aq ww hS hun hq hd fr kn => ⟨trivial, fun K hK => wp_value (exec_assign rfl kn.1) (hK _ _ rfl (sl_same (by decide) hS))⟩),
            (fun Q L aq ww hS hun hq hd fr kn => ⟨trivial, fun K hK => wp_value (exec_assign rfl kn.1) (hK _ _ rfl (sl_same (by decide) hS))⟩),
            trivial⟩ ?_
      intro vs L u6 hS6 hL6 hk6
      obtain ⟨h6, g6⟩ := sl_b hS6 (hL6 10 (by decide))
      have e14 : vs 14 = .string ByteArray.empty := hk6 15 (by decide)
      have e15 : vs 15 = .int .i64 0 := hk6 16 (by decide)
      have e16 : vs 16 = .int .i64 19 := hk6 17 (by decide)
      clear hk6 hS6 hL6 HO h2 g2
      simp only [putAll, Act.put, List.setIfInBounds_toArray, List.set_cons_zero, List.set_cons_succ, e14, e15, e16]
      clear e14 e15 e16
      have gl6 := SAt.lt g6
      go_wp2_with fail
      refine (h6.call (fun k e => e ▸ gl6) (fun S hS => HEX.out u6 sb S hS)).mono ?_
      rintro e u4 ⟨⟨vo, rfl, hO⟩, h4, k4⟩
      have g4 : SAt u4 gp 35 66 (paiV (pks 3) (pkr 3) (ploc 3) (pfar 3)) := SAt.block g6 (k4.2 gp gl6 rfl)
      clear h6 g6 gl6 k4
      obtain ⟨hn1, p, cl, rfl, hp⟩ := own_u32 hO
      clear hn1
      clear hO
      obtain ⟨gl, rfl, hcl⟩ := hp (by decide)
      have c0 : u4.cell? ⟨gl, 0, none⟩ = some (.int .u32 (ploc 3)) := hcl 0 (by decide)
      have HCL : Hid (∀ v, Below u4.heap.size u4 v → v.cell? ⟨gl, 0, none⟩ = some (.int .u32 (ploc 3))) := Hid.mk (fun v hv => by rw [hv.cell (p := ⟨gl, 0, none⟩) (World.block_lt_of_cell? _ _ c0)]; exact c0)
      have HDU : Hid (∀ v, Below u4.heap.size u4 v → Calls Try.prog 22 #[.pointer (some ⟨sb, 0, none⟩)] v fun e w' => e = .returned (.int .i64 (-1)) ∧ Below v.heap.size v w') := Hid.mk (fun v hv => by
        refine ((h4.below hv).reads (fun S hS => HDE.out v sb S hS)).mono ?_
        rintro e w' ⟨rfl, hb⟩
        exact ⟨rfl, hb⟩)
      have hB4 := h4.bel
      clear c0 hcl hp h4
      go_wp2_with fail
      refine wp_region3 (Below u4.heap.size u4) u4.heap.size
          ([] : List (Nat × Cont))
          (kv (.int .i64 19) :: kv (.bool true) :: kv (.bool true) :: kv (.int .i64 19) :: kv (.bool true) :: kv (.bool true) :: kv (.bool true) :: kv (.string ByteArray.empty) :: kv (.bool true) :: kv (.bool true) :: kv (.bool true) :: kv (.string ByteArray.empty) :: kv (.bool true) :: kv (.bool true) :: kv (.bool true) :: kv (.slice (some ⟨gl, 0, none⟩) 1 cl) :: kv (.int .i64 1) :: kv (.bool true) :: kv (.bool true) :: kv (.bool true) :: kv (.slice (some ⟨gl, 0, none⟩) 1 cl) :: kv (.pointer (some ⟨gl, 0, none⟩)) :: kv (.int .u32 (ploc 3)) :: kv (.pointer (some ⟨gp, 0 + 64, none⟩)) :: kv (.int .u32 (ploc 3)) :: kv (.bool true) :: kv (.bool true) :: kv (.bool true) :: kv (.pointer (some ⟨sb, 0, none⟩)) :: kv (.int .i64 (-1)) :: kv (.bool true) :: kv (.bool true) :: kv (.bool true) :: [])
          (.none :: .none :: .none :: .none :: .none :: .none :: .none :: .none :: .none :: .none :: .none :: .none :: .none :: .none :: .none :: .none :: .none :: .none :: .none :: .none :: .none :: .none :: .none :: .none :: .none :: .none :: .none :: .none :: .none :: .none :: .none :: .none :: .none :: [])
          (some 75 :: some 76 :: some 77 :: some 78 :: some 79 :: some 80 :: some 81 :: some 82 :: some 83 :: some 84 :: some 85 :: some 86 :: some 87 :: some 88 :: some 89 :: some 90 :: some 91 :: some 92 :: some 93 :: some 94 :: some 95 :: some 96 :: some 97 :: some 98 :: some 99 :: some 100 :: some 101 :: some 102 :: some 103 :: some 104 :: some 105 :: some 106 :: some 4 :: [])
          [(13, .int .i64 19), (16, .int .i64 19), (12, .string ByteArray.empty), (14, .string ByteArray.empty), (17, .slice (some ⟨gl, 0, none⟩) 1 cl), (9, .pointer (some ⟨gp, 0, none⟩)), (6, .pointer (some ⟨sb, 0, none⟩))]
          ([] :: [.slot 0] :: [.slot 1] :: [.slot 2] :: [.slot 2, .slot 3] :: [.slot 2, .slot 4] :: [.slot 5] :: [.slot 6] :: [.slot 6, .slot 7] :: [.slot 6, .slot 8] :: [.slot 9] :: [.slot 10] :: [.slot 10, .slot 11] :: [.slot 10, .slot 12] :: [.slot 13] :: [.slot 14] :: [.slot 14, .slot 15] :: [.slot 14, .slot 16] :: [.slot 14, .slot 17] :: [.slot 18] :: [.slot 19] :: [.slot 19, .slot 20] :: [.slot 19, .slot 21] :: [.slot 19] :: [.slot 19, .slot 23] :: [.slot 19, .slot 22, .slot 24] :: [.slot 19, .slot 25] :: [.slot 26] :: [.slot 27] :: [.slot 27, .slot 28] :: [.slot 27, .slot 29] :: [.slot 27, .slot 30] :: [.slot 31] :: [])
          [.slot 32] (75 :: 76 :: 77 :: 78 :: 79 :: 80 :: 81 :: 82 :: 83 :: 84 :: 85 :: 86 :: 87 :: 88 :: 89 :: 90 :: 91 :: 92 :: 93 :: 94 :: 95 :: 96 :: 97 :: 98 :: 99 :: 100 :: 101 :: 102 :: 103 :: 104 :: 105 :: 106 :: 4 :: [])
          rfl (by kernel_rfl) ⟨rfl, rfl, rfl, rfl, rfl, rfl, rfl, trivial⟩ (Below.refl _ u4).drew (Nat.le_refl _) trivial trivial (below_G (Nat.le_refl _) trivial)
          ⟨
            (fun Q aq ww own hS hBg fr kn => .inl ⟨trivial, fun K hK => wp_value (exec_move rfl fr.1) (hK _ _ ⟨Touch.refl _ _, rfl⟩)⟩),
            (fun Q aq ww own hS hBg fr kn => .inl ⟨trivial, fun K hK => wp_value (exec_bin2 (V := .bool true) rfl kn.1 rfl rfl (by simp [go_sem])) (hK _ _ ⟨Touch.refl _ _, rfl⟩)⟩),
            (fun Q aq ww own hS hBg fr kn => .inl ⟨trivial, fun K hK => wp_value (exec_move rfl kn.1) (hK _ _ ⟨Touch.refl _ _, rfl⟩)⟩),
            (fun Q aq ww own hS hBg fr kn => .inl ⟨kn.1, fun K hK => wp_value (exec_move rfl fr.2.1) (hK _ _ ⟨Touch.refl _ _, rfl⟩)⟩),
            (fun Q aq ww own hS hBg fr kn => .inl ⟨kn.1, fun K hK => wp_value (exec_bin2 (V := .bool true) rfl kn.2.1 rfl rfl (by simp [go_sem])) (hK _ _ ⟨Touch.refl _ _, rfl⟩)⟩),
            (fun Q aq ww own hS hBg fr kn => .inl ⟨trivial, fun K hK => wp_value (exec_pick rfl kn.1 kn.2.1) (hK _ _ ⟨Touch.refl _ _, rfl⟩)⟩),
            (fun Q aq ww own hS hBg fr kn => .inl ⟨trivial, fun K hK => wp_value (exec_move rfl kn.1) (hK _ _ ⟨Touch.refl _ _, rfl⟩)⟩),
            (fun Q aq ww own hS hBg fr kn => .inl ⟨kn.1, fun K hK => wp_value (exec_move rfl fr.2.2.1) (hK _ _ ⟨Touch.refl _ _, rfl⟩)⟩),
            (fun Q aq ww own hS hBg fr kn => .inl ⟨kn.1, fun K hK => wp_value (exec_eqS rfl kn.2.1 rfl) (hK _ _ ⟨Touch.refl _ _, rfl⟩)⟩),
            (fun Q aq ww own hS hBg fr kn => .inl ⟨trivial, fun K hK => wp_value (exec_pick rfl kn.1 kn.2.1) (hK _ _ ⟨Touch.refl _ _, rfl⟩)⟩),
            (fun Q aq ww own hS hBg fr kn => .inl ⟨trivial, fun K hK => wp_value (exec_move rfl kn.1) (hK _ _ ⟨Touch.refl _ _, rfl⟩)⟩),
            (fun Q aq ww own hS hBg fr kn => .inl ⟨kn.1, fun K hK => wp_value (exec_move rfl fr.2.2.2.1) (hK _ _ ⟨Touch.refl _ _, rfl⟩)⟩),
            (fun Q aq ww own hS hBg fr kn => .inl ⟨kn.1, fun K hK => wp_value (exec_eqS rfl kn.2.1 rfl) (hK _ _ ⟨Touch.refl _ _, rfl⟩)⟩),
            (fun Q aq ww own hS hBg fr kn => .inl ⟨trivial, fun K hK => wp_value (exec_pick rfl kn.1 kn.2.1) (hK _ _ ⟨Touch.refl _ _, rfl⟩)⟩),
            (fun Q aq ww own hS hBg fr kn => .inl ⟨trivial, fun K hK => wp_value (exec_move rfl kn.1) (hK _ _ ⟨Touch.refl _ _, rfl⟩)⟩),
            (fun Q aq ww own hS hBg fr kn => .inl ⟨kn.1, fun K hK => wp_value (exec_move rfl fr.2.2.2.2.1) (hK _ _ ⟨Touch.refl _ _, rfl⟩)⟩),
            (fun Q aq ww own hS hBg fr kn => .inl ⟨kn.1, fun K hK => wp_value (exec_len32 rfl kn.2.1) (hK _ _ ⟨Touch.refl _ _, rfl⟩)⟩),
            (fun Q aq ww own hS hBg fr kn => .inl ⟨kn.1, fun K hK => wp_value (exec_bin2 (V := .bool true) rfl kn.2.1 rfl rfl (by simp [go_sem])) (hK _ _ ⟨Touch.refl _ _, rfl⟩)⟩),
            (fun Q aq ww own hS hBg fr kn => .inl ⟨trivial, fun K hK => wp_value (exec_pick rfl kn.1 kn.2.1) (hK _ _ ⟨Touch.refl _ _, rfl⟩)⟩),
            (fun Q aq ww own hS hBg fr kn => .inl ⟨trivial, fun K hK => wp_value (exec_move rfl kn.1) (hK _ _ ⟨Touch.refl _ _, rfl⟩)⟩),
            (fun Q aq ww own hS hBg fr kn => .inl ⟨kn.1, fun K hK => wp_value (exec_move rfl fr.2.2.2.2.1) (hK _ _ ⟨Touch.refl _ _, rfl⟩)⟩),
            (fun Q aq ww own hS hBg fr kn => .inl ⟨kn.1, fun K hK => wp_value (exec_ixu32 rfl kn.2.1) (hK _ _ ⟨Touch.refl _ _, rfl⟩)⟩),
            (fun Q aq ww own hS hBg fr kn => .inl ⟨kn.1, fun K hK => wp_value (exec_ld rfl kn.2.1 (ld_u32 (HCL.out ww hS))) (hK _ _ ⟨Touch.refl _ _, rfl⟩)⟩),
            (fun Q aq ww own hS hBg fr kn => .inl ⟨kn.1, fun K hK => wp_value (exec_fpa (k := 2) rfl fr.2.2.2.2.2.1 (by decide)) (hK _ _ ⟨Touch.refl _ _, rfl⟩)⟩),
            (fun Q aq ww own hS hBg fr kn => .inl ⟨kn.1, fun K hK => wp_value (exec_ld rfl kn.2.1 (ld_u32 (pai_l (SAt.kept g4 hS)))) (hK _ _ ⟨Touch.refl _ _, rfl⟩)⟩),
            (fun Q aq ww own hS hBg fr kn => .inl ⟨kn.1, fun K hK => wp_value (exec_bin2 (V := .bool true) rfl kn.2.1 kn.2.2.1 rfl (by simp [go_sem])) (hK _ _ ⟨Touch.refl _ _, rfl⟩)⟩),
            (fun Q aq ww own hS hBg fr kn => .inl ⟨trivial, fun K hK => wp_value (exec_pick rfl kn.1 kn.2.1) (hK _ _ ⟨Touch.refl _ _, rfl⟩)⟩),
            (fun Q aq ww own hS hBg fr kn => .inl ⟨trivial, fun K hK => wp_value (exec_move rfl kn.1) (hK _ _ ⟨Touch.refl _ _, rfl⟩)⟩),
            (fun Q aq ww own hS hBg fr kn => .inl ⟨kn.1, fun K hK => wp_value (exec_move rfl fr.2.2.2.2.2.2.1) (hK _ _ ⟨Touch.refl _ _, rfl⟩)⟩),
            (fun Q aq ww own hS hBg fr kn => .inl ⟨kn.1, fun K hK => stepc enterDue9 rfl (args1 kn.2.1) (HDU.out ww hS) (fun w' hb => hK _ _ ⟨touch_below hb, rfl⟩)⟩),
            (fun Q aq ww own hS hBg fr kn => .inl ⟨kn.1, fun K hK => wp_value (exec_bin2 (V := .bool true) rfl kn.2.1 rfl rfl (by simp [go_sem])) (hK _ _ ⟨Touch.refl _ _, rfl⟩)⟩),
            (fun Q aq ww own hS hBg fr kn => .inl ⟨trivial, fun K hK => wp_value (exec_pick rfl kn.1 kn.2.1) (hK _ _ ⟨Touch.refl _ _, rfl⟩)⟩),
            (fun Q aq ww own hS hBg fr kn => .inl ⟨trivial, fun K hK => wp_value (exec_assign rfl kn.1) (hK _ _ ⟨Touch.refl _ _, rfl⟩)⟩),
            trivial⟩ ?_
      intro vs own u7 hB7 hsz kn inj
      have e4 : vs 4 = _ := kn.1
      clear kn inj hsz HCL HDU
      simp only [putAll, Act.put, List.setIfInBounds_toArray, List.set_cons_zero, List.set_cons_succ, e4]
      go_wp2_with fail
      go_ret
      exact ⟨rfl, hB4.trans (hB7.mono hB4.size)⟩
    · rw [if_neg has] at ha
      have HBB := Hid.mk hb
      have HAA := Hid.mk ha
      clear hb ha
      go_enter Try.func7, Try.ntmps7
      go_wp2_with fail
      refine (awake_run w).mono ?_
      rintro e v1 ⟨rfl, hA1⟩
      go_wp2_with fail
      refine (New_run9 v1).mono ?_
      rintro e v2 ⟨sb, rfl, hs2, hsb, hA2⟩
      have hN := SeSt.new hA1 hs2 hsb hA2
      clear hs2 hsb hA2 hA1
      go_wp2_with fail
      rw [← HBB.out, ← HAA.out]
      clear hbm ham HBB HAA hbs has hbr har hbl hal
      refine (pair_run 3 _).mono ?_
      rintro e u1 ⟨rfl, hB1⟩
      have h1 := hN.below hB1
      go_wp2_with (refine wl_al zeroPairV ?_; intro gp u2 hgp g2 hB2; refine Hid.out ?_)
      refine Hid.mk ?_
      have h2' := (h1.keep hgp hB2)
      have hgw : w.heap.size ≤ gp := Nat.le_trans h1.size hgp
      clear h1 hN hB1
      go_wp2_with (refine st_st isPair (paiV_one _ _ _ _) g2 (by rfl) (by rfl) ?_; intro u3 g3 o3; refine Hid.out ?_)
      refine Hid.mk ?_
      have h3 := st_only h2' o3 hgw
      have gl3 := SAt.lt g3
      clear h2' g2 hB2 o3 hgp
      go_wp2_with (refine wl_value rfl (look_st rfl isPair g3 (by rfl)) ?_)
      refine (h3.call (fun k e => by rcases e with e | e; exact e.elim; exact e ▸ gl3) (fun S hS => HPU.out u3 sb S hS)).mono ?_
      rintro e u4 ⟨rfl, h4, k4⟩
      have g4 : SAt u4 gp 35 66 (paiV (pks 3) (pkr 3) (ploc 3) (pfar 3)) := SAt.block g3 (k4.2 gp gl3 (.inr rfl))
      have gl4 := SAt.lt g4
      clear h3 g3 gl3 k4
      go_wp2_with fail
      refine (h4.call (fun k e => by rcases e with e | e; exact e.elim; exact e ▸ gl4) (fun S hS => HSE.out u4 sb S hS)).mono ?_
      rintro e u5 ⟨rfl, h5, k5⟩
      have g2 : SAt u5 gp 35 66 (paiV (pks 3) (pkr 3) (ploc 3) (pfar 3)) := SAt.block g4 (k5.2 gp gl4 (.inr rfl))
      have h2 : SeSt w sb (fun k => k = gp) u5 σ2 := st_sub h5 (fun k e => .inr e)
      clear h4 h5 g4 gl4 k5
      have HO : Hid (∀ v, (SeSt w sb (fun k => k = gp) v σ2 ∧ SAt v gp 35 66 (paiV (pks 3) (pkr 3) (ploc 3) (pfar 3))) → Calls Try.prog 15 #[.pointer (some ⟨sb, 0, none⟩), .int .i64 (b + a), .int .u32 (ploc 3), .int .u64 7, .string (boxT (pkr 3) (nonN 7) ⟨#[121]⟩ ByteArray.empty)] v fun e w' => ∃ x, e = .returned x ∧ x = .tuple #[.string ByteArray.empty, .int .i64 0, .int .i64 19] ∧ (SeSt w sb (fun k => k = gp) w' σ3 ∧ SAt w' gp 35 66 (paiV (pks 3) (pkr 3) (ploc 3) (pfar 3)))) := Hid.mk (fun v hv => by
        have gl := SAt.lt hv.2
        refine (hv.1.call (fun k e => e ▸ gl) (fun S hS => HOP.out v sb S hS)).mono ?_
        rintro e w' ⟨rfl, q1, q2⟩
        exact ⟨_, rfl, rfl, q1, SAt.block hv.2 (q2.2 gp gl rfl)⟩)
      go_wp2_with fail
      refine wp_region_steps4 (SL (fun v => SeSt w sb (fun k => k = gp) v σ2 ∧ SAt v gp 35 66 (paiV (pks 3) (pkr 3) (ploc 3) (pfar 3))) (fun v => SeSt w sb (fun k => k = gp) v σ3 ∧ SAt v gp 35 66 (paiV (pks 3) (pkr 3) (ploc 3) (pfar 3))) 10) (fun j x => x = ([.pointer (some ⟨sb, 0, none⟩), .int .i64 b, .int .i64 a, .int .i64 (b + a), .pointer (some ⟨gp, 0 + 64, none⟩), .int .u32 (ploc 3), .pointer (some ⟨gp, 0 + 32, none⟩), .agg (WA .u8 32 (pkr 3)), .agg (WA .u8 12 (nonN 7)), .string (boxT (pkr 3) (nonN 7) ⟨#[121]⟩ ByteArray.empty), .tuple #[.string ByteArray.empty, .int .i64 0, .int .i64 19], .tuple #[.string ByteArray.empty, .int .i64 0, .int .i64 19], .string ByteArray.empty, .int .i64 0, .int .i64 19, .string ByteArray.empty, .int .i64 0, .int .i64 19] : List Value).getD j undef)
          [54, 55, 56, 57, 58, 59, 60, 61, 62, 63, 64, 53, 65, 66, 67, 14, 15, 16]
          [(6, .pointer (some ⟨sb, 0, none⟩)), (7, .int .i64 b), (8, .int .i64 a), (9, .pointer (some ⟨gp, 0, none⟩))]
          [[], [], [], [1, 2], [], [4], [], [6], [], [7, 8], [0, 3, 5, 9], [10], [11], [11], [11], [12], [13], [14]]
          [[], [], [], [], [], [], [], [], [], [7, 8], [5, 7, 8, 9], [5, 7, 8, 9, 10], [5, 7, 8, 9, 10], [5, 7, 8, 9, 10], [5, 7, 8, 9, 10], [5, 7, 8, 9, 10], [5, 7, 8, 9, 10], [5, 7, 8, 9, 10]]
          [[], [], [], [], [], [10], [], [10], [10], [10], [], [], [], [], [], [], [], []]
          rfl (by kernel_rfl) ⟨rfl, rfl, rfl, rfl, trivial⟩ (sl_start ⟨h2.below (below_drew _), SAt.kept g2 (below_drew _)⟩)
          ⟨
            (fun Q L aq ww hS hun hq hd fr kn => ⟨trivial, fun K hK => wp_value (exec_move rfl fr.1) (hK _ _ rfl (sl_same (by decide) hS))⟩),
            (fun Q L aq ww hS hun hq hd fr kn => ⟨trivial, fun K hK => wp_value (exec_move rfl fr.2.1) (hK _ _ rfl (sl_same (by decide) hS))⟩),
            (fun Q L aq ww hS hun hq hd fr kn => ⟨trivial, fun K hK => wp_value (exec_move rfl fr.2.2.1) (hK _ _ rfl (sl_same (by decide) hS))⟩),
            (fun Q L aq ww hS hun hq hd fr kn => ⟨trivial, fun K hK => wp_value (exec_addI rfl kn.1 kn.2.1 (by omega) (by omega)) (hK _ _ rfl (sl_same (by decide) hS))⟩),
            (fun Q L aq ww hS hun hq hd fr kn => ⟨trivial, fun K hK => wp_value (exec_fpa (k := 2) rfl fr.2.2.2.1 (by decide)) (hK _ _ rfl (sl_same (by decide) hS))⟩),
            (fun Q L aq ww hS hun hq hd fr kn => ⟨trivial, fun K hK => wp_value (exec_ld rfl kn.1 (ld_u32 (pai_l (sl_a hS hd.1).2))) (hK _ _ rfl (sl_same (by decide) hS))⟩),
            (fun Q L aq ww hS hun hq hd fr kn => ⟨trivial, fun K hK => wp_value (exec_fpa (k := 1) rfl fr.2.2.2.1 (by decide)) (hK _ _ rfl (sl_same (by decide) hS))⟩),
            (fun Q L aq ww hS hun hq hd fr kn => ⟨trivial, fun K hK => wp_value (exec_ldmid rfl isArr32 kn.1 (pai_r (sl_a hS hd.1).2)) (hK _ _ rfl (sl_same (by decide) hS))⟩),
            (fun Q L aq ww hS hun hq hd fr kn => ⟨trivial, fun K hK => stepc enterRNonce9 rfl (args1 rfl) (rNonce_run 7 ww (by omega)) (fun w' hb => hK _ _ rfl (sl_ahead (by decide) hd.1 (And.intro ((sl_a hS hd.1).1.below hb) (SAt.kept (sl_a hS hd.1).2 hb))))⟩),
            (fun Q L aq ww hS hun hq hd fr kn => ⟨trivial, fun K hK => stepc enterRSeal9 rfl (args4 kn.1 kn.2.1 rfl rfl) (rSeal_run (pkr 3) (nonN 7) ⟨#[121]⟩ ByteArray.empty ww (pkr_b 3) nonN_b (by decide) (by decide)) (fun w' hb => hK _ _ rfl (sl_ahead (by decide) hd.1 (And.intro ((sl_a hS hd.1).1.below hb) (SAt.kept (sl_a hS hd.1).2 hb))))⟩),
            (fun Q L aq ww hS hun hq hd fr kn => ⟨trivial, fun K hK => stepp enterOpenS9 rfl (args5 kn.1 kn.2.1 kn.2.2.1 rfl kn.2.2.2.1) (HO.out ww (sl_a hS hun)) (fun v w' hv => hK _ _ hv.1 (sl_done hv.2))⟩),
            (fun Q L aq ww hS hun hq hd fr kn => ⟨trivial, fun K hK => wp_value (exec_move rfl kn.1) (hK _ _ rfl (sl_same (by decide) hS))⟩),
            (fun Q L aq ww hS hun hq hd fr kn => ⟨trivial, fun K hK => wp_value (exec_ext rfl kn.1 rfl) (hK _ _ rfl (sl_same (by decide) hS))⟩),
            (fun Q L aq ww hS hun hq hd fr kn => ⟨trivial, fun K hK => wp_value (exec_ext rfl kn.1 rfl) (hK _ _ rfl (sl_same (by decide) hS))⟩),
            (fun Q L aq ww hS hun hq hd fr kn => ⟨trivial, fun K hK => wp_value (exec_ext rfl kn.1 rfl) (hK _ _ rfl (sl_same (by decide) hS))⟩),
            (fun Q L aq ww hS hun hq hd fr kn => ⟨trivial, fun K hK => wp_value (exec_assign rfl kn.1) (hK _ _ rfl (sl_same (by decide) hS))⟩),
            (fun Q L aq ww hS hun hq hd fr kn => ⟨trivial, fun K hK => wp_value (exec_assign rfl kn.1) (hK _ _ rfl (sl_same (by decide) hS))⟩),
            (fun Q L aq ww hS hun hq hd fr kn => ⟨trivial, fun K hK => wp_value (exec_assign rfl kn.1) (hK _ _ rfl (sl_same (by decide) hS))⟩),
            trivial⟩ ?_
      intro vs L u6 hS6 hL6 hk6
      obtain ⟨h6, g6⟩ := sl_b hS6 (hL6 10 (by decide))
      have e14 : vs 14 = .string ByteArray.empty := hk6 15 (by decide)
      have e15 : vs 15 = .int .i64 0 := hk6 16 (by decide)
      have e16 : vs 16 = .int .i64 19 := hk6 17 (by decide)
      clear hk6 hS6 hL6 HO h2 g2
      simp only [putAll, Act.put, List.setIfInBounds_toArray, List.set_cons_zero, List.set_cons_succ, e14, e15, e16]
      clear e14 e15 e16
      have gl6 := SAt.lt g6
      go_wp2_with fail
      refine (h6.call (fun k e => e ▸ gl6) (fun S hS => HEX.out u6 sb S hS)).mono ?_
      rintro e u4 ⟨⟨vo, rfl, hO⟩, h4, k4⟩
      have g4 : SAt u4 gp 35 66 (paiV (pks 3) (pkr 3) (ploc 3) (pfar 3)) := SAt.block g6 (k4.2 gp gl6 rfl)
      clear h6 g6 gl6 k4
      obtain ⟨hn1, p, cl, rfl, hp⟩ := own_u32 hO
      clear hn1
      clear hO
      obtain ⟨gl, rfl, hcl⟩ := hp (by decide)
      have c0 : u4.cell? ⟨gl, 0, none⟩ = some (.int .u32 (ploc 3)) := hcl 0 (by decide)
      have HCL : Hid (∀ v, Below u4.heap.size u4 v → v.cell? ⟨gl, 0, none⟩ = some (.int .u32 (ploc 3))) := Hid.mk (fun v hv => by rw [hv.cell (p := ⟨gl, 0, none⟩) (World.block_lt_of_cell? _ _ c0)]; exact c0)
      have HDU : Hid (∀ v, Below u4.heap.size u4 v → Calls Try.prog 22 #[.pointer (some ⟨sb, 0, none⟩)] v fun e w' => e = .returned (.int .i64 (-1)) ∧ Below v.heap.size v w') := Hid.mk (fun v hv => by
        refine ((h4.below hv).reads (fun S hS => HDE.out v sb S hS)).mono ?_
        rintro e w' ⟨rfl, hb⟩
        exact ⟨rfl, hb⟩)
      have hB4 := h4.bel
      clear c0 hcl hp h4
      go_wp2_with fail
      refine wp_region3 (Below u4.heap.size u4) u4.heap.size
          ([] : List (Nat × Cont))
          (kv (.int .i64 19) :: kv (.bool true) :: kv (.bool true) :: kv (.int .i64 19) :: kv (.bool true) :: kv (.bool true) :: kv (.bool true) :: kv (.string ByteArray.empty) :: kv (.bool true) :: kv (.bool true) :: kv (.bool true) :: kv (.string ByteArray.empty) :: kv (.bool true) :: kv (.bool true) :: kv (.bool true) :: kv (.slice (some ⟨gl, 0, none⟩) 1 cl) :: kv (.int .i64 1) :: kv (.bool true) :: kv (.bool true) :: kv (.bool true) :: kv (.slice (some ⟨gl, 0, none⟩) 1 cl) :: kv (.pointer (some ⟨gl, 0, none⟩)) :: kv (.int .u32 (ploc 3)) :: kv (.pointer (some ⟨gp, 0 + 64, none⟩)) :: kv (.int .u32 (ploc 3)) :: kv (.bool true) :: kv (.bool true) :: kv (.bool true) :: kv (.pointer (some ⟨sb, 0, none⟩)) :: kv (.int .i64 (-1)) :: kv (.bool true) :: kv (.bool true) :: kv (.bool true) :: [])
          (.none :: .none :: .none :: .none :: .none :: .none :: .none :: .none :: .none :: .none :: .none :: .none :: .none :: .none :: .none :: .none :: .none :: .none :: .none :: .none :: .none :: .none :: .none :: .none :: .none :: .none :: .none :: .none :: .none :: .none :: .none :: .none :: .none :: [])
          (some 75 :: some 76 :: some 77 :: some 78 :: some 79 :: some 80 :: some 81 :: some 82 :: some 83 :: some 84 :: some 85 :: some 86 :: some 87 :: some 88 :: some 89 :: some 90 :: some 91 :: some 92 :: some 93 :: some 94 :: some 95 :: some 96 :: some 97 :: some 98 :: some 99 :: some 100 :: some 101 :: some 102 :: some 103 :: some 104 :: some 105 :: some 106 :: some 4 :: [])
          [(13, .int .i64 19), (16, .int .i64 19), (12, .string ByteArray.empty), (14, .string ByteArray.empty), (17, .slice (some ⟨gl, 0, none⟩) 1 cl), (9, .pointer (some ⟨gp, 0, none⟩)), (6, .pointer (some ⟨sb, 0, none⟩))]
          ([] :: [.slot 0] :: [.slot 1] :: [.slot 2] :: [.slot 2, .slot 3] :: [.slot 2, .slot 4] :: [.slot 5] :: [.slot 6] :: [.slot 6, .slot 7] :: [.slot 6, .slot 8] :: [.slot 9] :: [.slot 10] :: [.slot 10, .slot 11] :: [.slot 10, .slot 12] :: [.slot 13] :: [.slot 14] :: [.slot 14, .slot 15] :: [.slot 14, .slot 16] :: [.slot 14, .slot 17] :: [.slot 18] :: [.slot 19] :: [.slot 19, .slot 20] :: [.slot 19, .slot 21] :: [.slot 19] :: [.slot 19, .slot 23] :: [.slot 19, .slot 22, .slot 24] :: [.slot 19, .slot 25] :: [.slot 26] :: [.slot 27] :: [.slot 27, .slot 28] :: [.slot 27, .slot 29] :: [.slot 27, .slot 30] :: [.slot 31] :: [])
          [.slot 32] (75 :: 76 :: 77 :: 78 :: 79 :: 80 :: 81 :: 82 :: 83 :: 84 :: 85 :: 86 :: 87 :: 88 :: 89 :: 90 :: 91 :: 92 :: 93 :: 94 :: 95 :: 96 :: 97 :: 98 :: 99 :: 100 :: 101 :: 102 :: 103 :: 104 :: 105 :: 106 :: 4 :: [])
          rfl (by kernel_rfl) ⟨rfl, rfl, rfl, rfl, rfl, rfl, rfl, trivial⟩ (Below.refl _ u4).drew (Nat.le_refl _) trivial trivial (below_G (Nat.le_refl _) trivial)
          ⟨
            (fun Q aq ww own hS hBg fr kn => .inl ⟨trivial, fun K hK => wp_value (exec_move rfl fr.1) (hK _ _ ⟨Touch.refl _ _, rfl⟩)⟩),
            (fun Q aq ww own hS hBg fr kn => .inl ⟨trivial, fun K hK => wp_value (exec_bin2 (V := .bool true) rfl kn.1 rfl rfl (by simp [go_sem])) (hK _ _ ⟨Touch.refl _ _, rfl⟩)⟩),
            (fun Q aq ww own hS hBg fr kn => .inl ⟨trivial, fun K hK => wp_value (exec_move rfl kn.1) (hK _ _ ⟨Touch.refl _ _, rfl⟩)⟩),
            (fun Q aq ww own hS hBg fr kn => .inl ⟨kn.1, fun K hK => wp_value (exec_move rfl fr.2.1) (hK _ _ ⟨Touch.refl _ _, rfl⟩)⟩),
            (fun Q aq ww own hS hBg fr kn => .inl ⟨kn.1, fun K hK => wp_value (exec_bin2 (V := .bool true) rfl kn.2.1 rfl rfl (by simp [go_sem])) (hK _ _ ⟨Touch.refl _ _, rfl⟩)⟩),
            (fun Q aq ww own hS hBg fr kn => .inl ⟨trivial, fun K hK => wp_value (exec_pick rfl kn.1 kn.2.1) (hK _ _ ⟨Touch.refl _ _, rfl⟩)⟩),
            (fun Q aq ww own hS hBg fr kn => .inl ⟨trivial, fun K hK => wp_value (exec_move rfl kn.1) (hK _ _ ⟨Touch.refl _ _, rfl⟩)⟩),
            (fun Q aq ww own hS hBg fr kn => .inl ⟨kn.1, fun K hK => wp_value (exec_move rfl fr.2.2.1) (hK _ _ ⟨Touch.refl _ _, rfl⟩)⟩),
            (fun Q aq ww own hS hBg fr kn => .inl ⟨kn.1, fun K hK => wp_value (exec_eqS rfl kn.2.1 rfl) (hK _ _ ⟨Touch.refl _ _, rfl⟩)⟩),
            (fun Q aq ww own hS hBg fr kn => .inl ⟨trivial, fun K hK => wp_value (exec_pick rfl kn.1 kn.2.1) (hK _ _ ⟨Touch.refl _ _, rfl⟩)⟩),
            (fun Q aq ww own hS hBg fr kn => .inl ⟨trivial, fun K hK => wp_value (exec_move rfl kn.1) (hK _ _ ⟨Touch.refl _ _, rfl⟩)⟩),
            (fun Q aq ww own hS hBg fr kn => .inl ⟨kn.1, fun K hK => wp_value (exec_move rfl fr.2.2.2.1) (hK _ _ ⟨Touch.refl _ _, rfl⟩)⟩),
            (fun Q aq ww own hS hBg fr kn => .inl ⟨kn.1, fun K hK => wp_value (exec_eqS rfl kn.2.1 rfl) (hK _ _ ⟨Touch.refl _ _, rfl⟩)⟩),
            (fun Q aq ww own hS hBg fr kn => .inl ⟨trivial, fun K hK => wp_value (exec_pick rfl kn.1 kn.2.1) (hK _ _ ⟨Touch.refl _ _, rfl⟩)⟩),
            (fun Q aq ww own hS hBg fr kn => .inl ⟨trivial, fun K hK => wp_value (exec_move rfl kn.1) (hK _ _ ⟨Touch.refl _ _, rfl⟩)⟩),
            (fun Q aq ww own hS hBg fr kn => .inl ⟨kn.1, fun K hK => wp_value (exec_move rfl fr.2.2.2.2.1) (hK _ _ ⟨Touch.refl _ _, rfl⟩)⟩),
            (fun Q aq ww own hS hBg fr kn => .inl ⟨kn.1, fun K hK => wp_value (exec_len32 rfl kn.2.1) (hK _ _ ⟨Touch.refl _ _, rfl⟩)⟩),
            (fun Q aq ww own hS hBg fr kn => .inl ⟨kn.1, fun K hK => wp_value (exec_bin2 (V := .bool true) rfl kn.2.1 rfl rfl (by simp [go_sem])) (hK _ _ ⟨Touch.refl _ _, rfl⟩)⟩),
            (fun Q aq ww own hS hBg fr kn => .inl ⟨trivial, fun K hK => wp_value (exec_pick rfl kn.1 kn.2.1) (hK _ _ ⟨Touch.refl _ _, rfl⟩)⟩),
            (fun Q aq ww own hS hBg fr kn => .inl ⟨trivial, fun K hK => wp_value (exec_move rfl kn.1) (hK _ _ ⟨Touch.refl _ _, rfl⟩)⟩),
            (fun Q aq ww own hS hBg fr kn => .inl ⟨kn.1, fun K hK => wp_value (exec_move rfl fr.2.2.2.2.1) (hK _ _ ⟨Touch.refl _ _, rfl⟩)⟩),
            (fun Q aq ww own hS hBg fr kn => .inl ⟨kn.1, fun K hK => wp_value (exec_ixu32 rfl kn.2.1) (hK _ _ ⟨Touch.refl _ _, rfl⟩)⟩),
            (fun Q aq ww own hS hBg fr kn => .inl ⟨kn.1, fun K hK => wp_value (exec_ld rfl kn.2.1 (ld_u32 (HCL.out ww hS))) (hK _ _ ⟨Touch.refl _ _, rfl⟩)⟩),
            (fun Q aq ww own hS hBg fr kn => .inl ⟨kn.1, fun K hK => wp_value (exec_fpa (k := 2) rfl fr.2.2.2.2.2.1 (by decide)) (hK _ _ ⟨Touch.refl _ _, rfl⟩)⟩),
            (fun Q aq ww own hS hBg fr kn => .inl ⟨kn.1, fun K hK => wp_value (exec_ld rfl kn.2.1 (ld_u32 (pai_l (SAt.kept g4 hS)))) (hK _ _ ⟨Touch.refl _ _, rfl⟩)⟩),
            (fun Q aq ww own hS hBg fr kn => .inl ⟨kn.1, fun K hK => wp_value (exec_bin2 (V := .bool true) rfl kn.2.1 kn.2.2.1 rfl (by simp [go_sem])) (hK _ _ ⟨Touch.refl _ _, rfl⟩)⟩),
            (fun Q aq ww own hS hBg fr kn => .inl ⟨trivial, fun K hK => wp_value (exec_pick rfl kn.1 kn.2.1) (hK _ _ ⟨Touch.refl _ _, rfl⟩)⟩),
            (fun Q aq ww own hS hBg fr kn => .inl ⟨trivial, fun K hK => wp_value (exec_move rfl kn.1) (hK _ _ ⟨Touch.refl _ _, rfl⟩)⟩),
            (fun Q aq ww own hS hBg fr kn => .inl ⟨kn.1, fun K hK => wp_value (exec_move rfl fr.2.2.2.2.2.2.1) (hK _ _ ⟨Touch.refl _ _, rfl⟩)⟩),
            (fun Q aq ww own hS hBg fr kn => .inl ⟨kn.1, fun K hK => stepc enterDue9 rfl (args1 kn.2.1) (HDU.out ww hS) (fun w' hb => hK _ _ ⟨touch_below hb, rfl⟩)⟩),
            (fun Q aq ww own hS hBg fr kn => .inl ⟨kn.1, fun K hK => wp_value (exec_bin2 (V := .bool true) rfl kn.2.1 rfl rfl (by simp [go_sem])) (hK _ _ ⟨Touch.refl _ _, rfl⟩)⟩),
            (fun Q aq ww own hS hBg fr kn => .inl ⟨trivial, fun K hK => wp_value (exec_pick rfl kn.1 kn.2.1) (hK _ _ ⟨Touch.refl _ _, rfl⟩)⟩),
            (fun Q aq ww own hS hBg fr kn => .inl ⟨trivial, fun K hK => wp_value (exec_assign rfl kn.1) (hK _ _ ⟨Touch.refl _ _, rfl⟩)⟩),
            trivial⟩ ?_
      intro vs own u7 hB7 hsz kn inj
      have e4 : vs 4 = _ := kn.1
      clear kn inj hsz HCL HDU
      simp only [putAll, Act.put, List.setIfInBounds_toArray, List.set_cons_zero, List.set_cons_succ, e4]
      go_wp2_with fail
      go_ret
      exact ⟨rfl, hB4.trans (hB7.mono hB4.size)⟩
  · rw [if_neg hbs] at hb
    by_cases has : am < 0
    · rw [if_pos has] at ha
      have HBB := Hid.mk hb
      have HAA := Hid.mk ha
      clear hb ha
      go_enter Try.func7, Try.ntmps7
      go_wp2_with fail
      refine (awake_run w).mono ?_
      rintro e v1 ⟨rfl, hA1⟩
      go_wp2_with fail
      refine (New_run9 v1).mono ?_
      rintro e v2 ⟨sb, rfl, hs2, hsb, hA2⟩
      have hN := SeSt.new hA1 hs2 hsb hA2
      clear hs2 hsb hA2 hA1
      go_wp2_with fail
      rw [← HBB.out, ← HAA.out]
      clear hbm ham HBB HAA hbs has hbr har hbl hal
      refine (pair_run 3 _).mono ?_
      rintro e u1 ⟨rfl, hB1⟩
      have h1 := hN.below hB1
      go_wp2_with (refine wl_al zeroPairV ?_; intro gp u2 hgp g2 hB2; refine Hid.out ?_)
      refine Hid.mk ?_
      have h2' := (h1.keep hgp hB2)
      have hgw : w.heap.size ≤ gp := Nat.le_trans h1.size hgp
      clear h1 hN hB1
      go_wp2_with (refine st_st isPair (paiV_one _ _ _ _) g2 (by rfl) (by rfl) ?_; intro u3 g3 o3; refine Hid.out ?_)
      refine Hid.mk ?_
      have h3 := st_only h2' o3 hgw
      have gl3 := SAt.lt g3
      clear h2' g2 hB2 o3 hgp
      go_wp2_with (refine wl_value rfl (look_st rfl isPair g3 (by rfl)) ?_)
      refine (h3.call (fun k e => by rcases e with e | e; exact e.elim; exact e ▸ gl3) (fun S hS => HPU.out u3 sb S hS)).mono ?_
      rintro e u4 ⟨rfl, h4, k4⟩
      have g4 : SAt u4 gp 35 66 (paiV (pks 3) (pkr 3) (ploc 3) (pfar 3)) := SAt.block g3 (k4.2 gp gl3 (.inr rfl))
      have gl4 := SAt.lt g4
      clear h3 g3 gl3 k4
      go_wp2_with fail
      refine (h4.call (fun k e => by rcases e with e | e; exact e.elim; exact e ▸ gl4) (fun S hS => HSE.out u4 sb S hS)).mono ?_
      rintro e u5 ⟨rfl, h5, k5⟩
      have g2 : SAt u5 gp 35 66 (paiV (pks 3) (pkr 3) (ploc 3) (pfar 3)) := SAt.block g4 (k5.2 gp gl4 (.inr rfl))
      have h2 : SeSt w sb (fun k => k = gp) u5 σ2 := st_sub h5 (fun k e => .inr e)
      clear h4 h5 g4 gl4 k5
      have HO : Hid (∀ v, (SeSt w sb (fun k => k = gp) v σ2 ∧ SAt v gp 35 66 (paiV (pks 3) (pkr 3) (ploc 3) (pfar 3))) → Calls Try.prog 15 #[.pointer (some ⟨sb, 0, none⟩), .int .i64 (b + a), .int .u32 (ploc 3), .int .u64 7, .string (boxT (pkr 3) (nonN 7) ⟨#[121]⟩ ByteArray.empty)] v fun e w' => ∃ x, e = .returned x ∧ x = .tuple #[.string ByteArray.empty, .int .i64 0, .int .i64 19] ∧ (SeSt w sb (fun k => k = gp) w' σ3 ∧ SAt w' gp 35 66 (paiV (pks 3) (pkr 3) (ploc 3) (pfar 3)))) := Hid.mk (fun v hv => by
        have gl := SAt.lt hv.2
        refine (hv.1.call (fun k e => e ▸ gl) (fun S hS => HOP.out v sb S hS)).mono ?_
        rintro e w' ⟨rfl, q1, q2⟩
        exact ⟨_, rfl, rfl, q1, SAt.block hv.2 (q2.2 gp gl rfl)⟩)
      go_wp2_with fail
      refine wp_region_steps4 (SL (fun v => SeSt w sb (fun k => k = gp) v σ2 ∧ SAt v gp 35 66 (paiV (pks 3) (pkr 3) (ploc 3) (pfar 3))) (fun v => SeSt w sb (fun k => k = gp) v σ3 ∧ SAt v gp 35 66 (paiV (pks 3) (pkr 3) (ploc 3) (pfar 3))) 10) (fun j x => x = ([.pointer (some ⟨sb, 0, none⟩), .int .i64 b, .int .i64 a, .int .i64 (b + a), .pointer (some ⟨gp, 0 + 64, none⟩), .int .u32 (ploc 3), .pointer (some ⟨gp, 0 + 32, none⟩), .agg (WA .u8 32 (pkr 3)), .agg (WA .u8 12 (nonN 7)), .string (boxT (pkr 3) (nonN 7) ⟨#[121]⟩ ByteArray.empty), .tuple #[.string ByteArray.empty, .int .i64 0, .int .i64 19], .tuple #[.string ByteArray.empty, .int .i64 0, .int .i64 19], .string ByteArray.empty, .int .i64 0, .int .i64 19, .string ByteArray.empty, .int .i64 0, .int .i64 19] : List Value).getD j undef)
          [54, 55, 56, 57, 58, 59, 60, 61, 62, 63, 64, 53, 65, 66, 67, 14, 15, 16]
          [(6, .pointer (some ⟨sb, 0, none⟩)), (7, .int .i64 b), (8, .int .i64 a), (9, .pointer (some ⟨gp, 0, none⟩))]
          [[], [], [], [1, 2], [], [4], [], [6], [], [7, 8], [0, 3, 5, 9], [10], [11], [11], [11], [12], [13], [14]]
          [[], [], [], [], [], [], [], [], [], [7, 8], [5, 7, 8, 9], [5, 7, 8, 9, 10], [5, 7, 8, 9, 10], [5, 7, 8, 9, 10], [5, 7, 8, 9, 10], [5, 7, 8, 9, 10], [5, 7, 8, 9, 10], [5, 7, 8, 9, 10]]
          [[], [], [], [], [], [10], [], [10], [10], [10], [], [], [], [], [], [], [], []]
          rfl (by kernel_rfl) ⟨rfl, rfl, rfl, rfl, trivial⟩ (sl_start ⟨h2.below (below_drew _), SAt.kept g2 (below_drew _)⟩)
          ⟨
            (fun Q L aq ww hS hun hq hd fr kn => ⟨trivial, fun K hK => wp_value (exec_move rfl fr.1) (hK _ _ rfl (sl_same (by decide) hS))⟩),
            (fun Q L aq ww hS hun hq hd fr kn => ⟨trivial, fun K hK => wp_value (exec_move rfl fr.2.1) (hK _ _ rfl (sl_same (by decide) hS))⟩),
            (fun Q L aq ww hS hun hq hd fr kn => ⟨trivial, fun K hK => wp_value (exec_move rfl fr.2.2.1) (hK _ _ rfl (sl_same (by decide) hS))⟩),
            (fun Q L aq ww hS hun hq hd fr kn => ⟨trivial, fun K hK => wp_value (exec_addI rfl kn.1 kn.2.1 (by omega) (by omega)) (hK _ _ rfl (sl_same (by decide) hS))⟩),
            (fun Q L aq ww hS hun hq hd fr kn => ⟨trivial, fun K hK => wp_value (exec_fpa (k := 2) rfl fr.2.2.2.1 (by decide)) (hK _ _ rfl (sl_same (by decide) hS))⟩),
            (fun Q L aq ww hS hun hq hd fr kn => ⟨trivial, fun K hK => wp_value (exec_ld rfl kn.1 (ld_u32 (pai_l (sl_a hS hd.1).2))) (hK _ _ rfl (sl_same (by decide) hS))⟩),
            (fun Q L aq ww hS hun hq hd fr kn => ⟨trivial, fun K hK => wp_value (exec_fpa (k := 1) rfl fr.2.2.2.1 (by decide)) (hK _ _ rfl (sl_same (by decide) hS))⟩),
            (fun Q L aq ww hS hun hq hd fr kn => ⟨trivial, fun K hK => wp_value (exec_ldmid rfl isArr32 kn.1 (pai_r (sl_a hS hd.1).2)) (hK _ _ rfl (sl_same (by decide) hS))⟩),
            (fun Q L aq ww hS hun hq hd fr kn => ⟨trivial, fun K hK => stepc enterRNonce9 rfl (args1 rfl) (rNonce_run 7 ww (by omega)) (fun w' hb => hK _ _ rfl (sl_ahead (by decide) hd.1 (And.intro ((sl_a hS hd.1).1.below hb) (SAt.kept (sl_a hS hd.1).2 hb))))⟩),
            (fun Q L aq ww hS hun hq hd fr kn => ⟨trivial, fun K hK => stepc enterRSeal9 rfl (args4 kn.1 kn.2.1 rfl rfl) (rSeal_run (pkr 3) (nonN 7) ⟨#[121]⟩ ByteArray.empty ww (pkr_b 3) nonN_b (by decide) (by decide)) (fun w' hb => hK _ _ rfl (sl_ahead (by decide) hd.1 (And.intro ((sl_a hS hd.1).1.below hb) (SAt.kept (sl_a hS hd.1).2 hb))))⟩),
            (fun Q L aq ww hS hun hq hd fr kn => ⟨trivial, fun K hK => stepp enterOpenS9 rfl (args5 kn.1 kn.2.1 kn.2.2.1 rfl kn.2.2.2.1) (HO.out ww (sl_a hS hun)) (fun v w' hv => hK _ _ hv.1 (sl_done hv.2))⟩),
            (fun Q L aq ww hS hun hq hd fr kn => ⟨trivial, fun K hK => wp_value (exec_move rfl kn.1) (hK _ _ rfl (sl_same (by decide) hS))⟩),
            (fun Q L aq ww hS hun hq hd fr kn => ⟨trivial, fun K hK => wp_value (exec_ext rfl kn.1 rfl) (hK _ _ rfl (sl_same (by decide) hS))⟩),
            (fun Q L aq ww hS hun hq hd fr kn => ⟨trivial, fun K hK => wp_value (exec_ext rfl kn.1 rfl) (hK _ _ rfl (sl_same (by decide) hS))⟩),
            (fun Q L aq ww hS hun hq hd fr kn => ⟨trivial, fun K hK => wp_value (exec_ext rfl kn.1 rfl) (hK _ _ rfl (sl_same (by decide) hS))⟩),
            (fun Q L aq ww hS hun hq hd fr kn => ⟨trivial, fun K hK => wp_value (exec_assign rfl kn.1) (hK _ _ rfl (sl_same (by decide) hS))⟩),
            (fun Q L aq ww hS hun hq hd fr kn => ⟨trivial, fun K hK => wp_value (exec_assign rfl kn.1) (hK _ _ rfl (sl_same (by decide) hS))⟩),
            (fun Q L aq ww hS hun hq hd fr kn => ⟨trivial, fun K hK => wp_value (exec_assign rfl kn.1) (hK _ _ rfl (sl_same (by decide) hS))⟩),
            trivial⟩ ?_
      intro vs L u6 hS6 hL6 hk6
      obtain ⟨h6, g6⟩ := sl_b hS6 (hL6 10 (by decide))
      have e14 : vs 14 = .string ByteArray.empty := hk6 15 (by decide)
      have e15 : vs 15 = .int .i64 0 := hk6 16 (by decide)
      have e16 : vs 16 = .int .i64 19 := hk6 17 (by decide)
      clear hk6 hS6 hL6 HO h2 g2
      simp only [putAll, Act.put, List.setIfInBounds_toArray, List.set_cons_zero, List.set_cons_succ, e14, e15, e16]
      clear e14 e15 e16
      have gl6 := SAt.lt g6
      go_wp2_with fail
      refine (h6.call (fun k e => e ▸ gl6) (fun S hS => HEX.out u6 sb S hS)).mono ?_
      rintro e u4 ⟨⟨vo, rfl, hO⟩, h4, k4⟩
      have g4 : SAt u4 gp 35 66 (paiV (pks 3) (pkr 3) (ploc 3) (pfar 3)) := SAt.block g6 (k4.2 gp gl6 rfl)
      clear h6 g6 gl6 k4
      obtain ⟨hn1, p, cl, rfl, hp⟩ := own_u32 hO
      clear hn1
      clear hO
      obtain ⟨gl, rfl, hcl⟩ := hp (by decide)
      have c0 : u4.cell? ⟨gl, 0, none⟩ = some (.int .u32 (ploc 3)) := hcl 0 (by decide)
      have HCL : Hid (∀ v, Below u4.heap.size u4 v → v.cell? ⟨gl, 0, none⟩ = some (.int .u32 (ploc 3))) := Hid.mk (fun v hv => by rw [hv.cell (p := ⟨gl, 0, none⟩) (World.block_lt_of_cell? _ _ c0)]; exact c0)
      have HDU : Hid (∀ v, Below u4.heap.size u4 v → Calls Try.prog 22 #[.pointer (some ⟨sb, 0, none⟩)] v fun e w' => e = .returned (.int .i64 (-1)) ∧ Below v.heap.size v w') := Hid.mk (fun v hv => by
        refine ((h4.below hv).reads (fun S hS => HDE.out v sb S hS)).mono ?_
        rintro e w' ⟨rfl, hb⟩
        exact ⟨rfl, hb⟩)
      have hB4 := h4.bel
      clear c0 hcl hp h4
      go_wp2_with fail
      refine wp_region3 (Below u4.heap.size u4) u4.heap.size
          ([] : List (Nat × Cont))
          (kv (.int .i64 19) :: kv (.bool true) :: kv (.bool true) :: kv (.int .i64 19) :: kv (.bool true) :: kv (.bool true) :: kv (.bool true) :: kv (.string ByteArray.empty) :: kv (.bool true) :: kv (.bool true) :: kv (.bool true) :: kv (.string ByteArray.empty) :: kv (.bool true) :: kv (.bool true) :: kv (.bool true) :: kv (.slice (some ⟨gl, 0, none⟩) 1 cl) :: kv (.int .i64 1) :: kv (.bool true) :: kv (.bool true) :: kv (.bool true) :: kv (.slice (some ⟨gl, 0, none⟩) 1 cl) :: kv (.pointer (some ⟨gl, 0, none⟩)) :: kv (.int .u32 (ploc 3)) :: kv (.pointer (some ⟨gp, 0 + 64, none⟩)) :: kv (.int .u32 (ploc 3)) :: kv (.bool true) :: kv (.bool true) :: kv (.bool true) :: kv (.pointer (some ⟨sb, 0, none⟩)) :: kv (.int .i64 (-1)) :: kv (.bool true) :: kv (.bool true) :: kv (.bool true) :: [])
          (.none :: .none :: .none :: .none :: .none :: .none :: .none :: .none :: .none :: .none :: .none :: .none :: .none :: .none :: .none :: .none :: .none :: .none :: .none :: .none :: .none :: .none :: .none :: .none :: .none :: .none :: .none :: .none :: .none :: .none :: .none :: .none :: .none :: [])
          (some 75 :: some 76 :: some 77 :: some 78 :: some 79 :: some 80 :: some 81 :: some 82 :: some 83 :: some 84 :: some 85 :: some 86 :: some 87 :: some 88 :: some 89 :: some 90 :: some 91 :: some 92 :: some 93 :: some 94 :: some 95 :: some 96 :: some 97 :: some 98 :: some 99 :: some 100 :: some 101 :: some 102 :: some 103 :: some 104 :: some 105 :: some 106 :: some 4 :: [])
          [(13, .int .i64 19), (16, .int .i64 19), (12, .string ByteArray.empty), (14, .string ByteArray.empty), (17, .slice (some ⟨gl, 0, none⟩) 1 cl), (9, .pointer (some ⟨gp, 0, none⟩)), (6, .pointer (some ⟨sb, 0, none⟩))]
          ([] :: [.slot 0] :: [.slot 1] :: [.slot 2] :: [.slot 2, .slot 3] :: [.slot 2, .slot 4] :: [.slot 5] :: [.slot 6] :: [.slot 6, .slot 7] :: [.slot 6, .slot 8] :: [.slot 9] :: [.slot 10] :: [.slot 10, .slot 11] :: [.slot 10, .slot 12] :: [.slot 13] :: [.slot 14] :: [.slot 14, .slot 15] :: [.slot 14, .slot 16] :: [.slot 14, .slot 17] :: [.slot 18] :: [.slot 19] :: [.slot 19, .slot 20] :: [.slot 19, .slot 21] :: [.slot 19] :: [.slot 19, .slot 23] :: [.slot 19, .slot 22, .slot 24] :: [.slot 19, .slot 25] :: [.slot 26] :: [.slot 27] :: [.slot 27, .slot 28] :: [.slot 27, .slot 29] :: [.slot 27, .slot 30] :: [.slot 31] :: [])
          [.slot 32] (75 :: 76 :: 77 :: 78 :: 79 :: 80 :: 81 :: 82 :: 83 :: 84 :: 85 :: 86 :: 87 :: 88 :: 89 :: 90 :: 91 :: 92 :: 93 :: 94 :: 95 :: 96 :: 97 :: 98 :: 99 :: 100 :: 101 :: 102 :: 103 :: 104 :: 105 :: 106 :: 4 :: [])
          rfl (by kernel_rfl) ⟨rfl, rfl, rfl, rfl, rfl, rfl, rfl, trivial⟩ (Below.refl _ u4).drew (Nat.le_refl _) trivial trivial (below_G (Nat.le_refl _) trivial)
          ⟨
            (fun Q aq ww own hS hBg fr kn => .inl ⟨trivial, fun K hK => wp_value (exec_move rfl fr.1) (hK _ _ ⟨Touch.refl _ _, rfl⟩)⟩),
            (fun Q aq ww own hS hBg fr kn => .inl ⟨trivial, fun K hK => wp_value (exec_bin2 (V := .bool true) rfl kn.1 rfl rfl (by simp [go_sem])) (hK _ _ ⟨Touch.refl _ _, rfl⟩)⟩),
            (fun Q aq ww own hS hBg fr kn => .inl ⟨trivial, fun K hK => wp_value (exec_move rfl kn.1) (hK _ _ ⟨Touch.refl _ _, rfl⟩)⟩),
            (fun Q aq ww own hS hBg fr kn => .inl ⟨kn.1, fun K hK => wp_value (exec_move rfl fr.2.1) (hK _ _ ⟨Touch.refl _ _, rfl⟩)⟩),
            (fun Q aq ww own hS hBg fr kn => .inl ⟨kn.1, fun K hK => wp_value (exec_bin2 (V := .bool true) rfl kn.2.1 rfl rfl (by simp [go_sem])) (hK _ _ ⟨Touch.refl _ _, rfl⟩)⟩),
            (fun Q aq ww own hS hBg fr kn => .inl ⟨trivial, fun K hK => wp_value (exec_pick rfl kn.1 kn.2.1) (hK _ _ ⟨Touch.refl _ _, rfl⟩)⟩),
            (fun Q aq ww own hS hBg fr kn => .inl ⟨trivial, fun K hK => wp_value (exec_move rfl kn.1) (hK _ _ ⟨Touch.refl _ _, rfl⟩)⟩),
            (fun Q aq ww own hS hBg fr kn => .inl ⟨kn.1, fun K hK => wp_value (exec_move rfl fr.2.2.1) (hK _ _ ⟨Touch.refl _ _, rfl⟩)⟩),
            (fun Q aq ww own hS hBg fr kn => .inl ⟨kn.1, fun K hK => wp_value (exec_eqS rfl kn.2.1 rfl) (hK _ _ ⟨Touch.refl _ _, rfl⟩)⟩),
            (fun Q aq ww own hS hBg fr kn => .inl ⟨trivial, fun K hK => wp_value (exec_pick rfl kn.1 kn.2.1) (hK _ _ ⟨Touch.refl _ _, rfl⟩)⟩),
            (fun Q aq ww own hS hBg fr kn => .inl ⟨trivial, fun K hK => wp_value (exec_move rfl kn.1) (hK _ _ ⟨Touch.refl _ _, rfl⟩)⟩),
            (fun Q aq ww own hS hBg fr kn => .inl ⟨kn.1, fun K hK => wp_value (exec_move rfl fr.2.2.2.1) (hK _ _ ⟨Touch.refl _ _, rfl⟩)⟩),
            (fun Q aq ww own hS hBg fr kn => .inl ⟨kn.1, fun K hK => wp_value (exec_eqS rfl kn.2.1 rfl) (hK _ _ ⟨Touch.refl _ _, rfl⟩)⟩),
            (fun Q aq ww own hS hBg fr kn => .inl ⟨trivial, fun K hK => wp_value (exec_pick rfl kn.1 kn.2.1) (hK _ _ ⟨Touch.refl _ _, rfl⟩)⟩),
            (fun Q aq ww own hS hBg fr kn => .inl ⟨trivial, fun K hK => wp_value (exec_move rfl kn.1) (hK _ _ ⟨Touch.refl _ _, rfl⟩)⟩),
            (fun Q aq ww own hS hBg fr kn => .inl ⟨kn.1, fun K hK => wp_value (exec_move rfl fr.2.2.2.2.1) (hK _ _ ⟨Touch.refl _ _, rfl⟩)⟩),
            (fun Q aq ww own hS hBg fr kn => .inl ⟨kn.1, fun K hK => wp_value (exec_len32 rfl kn.2.1) (hK _ _ ⟨Touch.refl _ _, rfl⟩)⟩),
            (fun Q aq ww own hS hBg fr kn => .inl ⟨kn.1, fun K hK => wp_value (exec_bin2 (V := .bool true) rfl kn.2.1 rfl rfl (by simp [go_sem])) (hK _ _ ⟨Touch.refl _ _, rfl⟩)⟩),
            (fun Q aq ww own hS hBg fr kn => .inl ⟨trivial, fun K hK => wp_value (exec_pick rfl kn.1 kn.2.1) (hK _ _ ⟨Touch.refl _ _, rfl⟩)⟩),
            (fun Q aq ww own hS hBg fr kn => .inl ⟨trivial, fun K hK => wp_value (exec_move rfl kn.1) (hK _ _ ⟨Touch.refl _ _, rfl⟩)⟩),
            (fun Q aq ww own hS hBg fr kn => .inl ⟨kn.1, fun K hK => wp_value (exec_move rfl fr.2.2.2.2.1) (hK _ _ ⟨Touch.refl _ _, rfl⟩)⟩),
            (fun Q aq ww own hS hBg fr kn => .inl ⟨kn.1, fun K hK => wp_value (exec_ixu32 rfl kn.2.1) (hK _ _ ⟨Touch.refl _ _, rfl⟩)⟩),
            (fun Q aq ww own hS hBg fr kn => .inl ⟨kn.1, fun K hK => wp_value (exec_ld rfl kn.2.1 (ld_u32 (HCL.out ww hS))) (hK _ _ ⟨Touch.refl _ _, rfl⟩)⟩),
            (fun Q aq ww own hS hBg fr kn => .inl ⟨kn.1, fun K hK => wp_value (exec_fpa (k := 2) rfl fr.2.2.2.2.2.1 (by decide)) (hK _ _ ⟨Touch.refl _ _, rfl⟩)⟩),
            (fun Q aq ww own hS hBg fr kn => .inl ⟨kn.1, fun K hK => wp_value (exec_ld rfl kn.2.1 (ld_u32 (pai_l (SAt.kept g4 hS)))) (hK _ _ ⟨Touch.refl _ _, rfl⟩)⟩),
            (fun Q aq ww own hS hBg fr kn => .inl ⟨kn.1, fun K hK => wp_value (exec_bin2 (V := .bool true) rfl kn.2.1 kn.2.2.1 rfl (by simp [go_sem])) (hK _ _ ⟨Touch.refl _ _, rfl⟩)⟩),
            (fun Q aq ww own hS hBg fr kn => .inl ⟨trivial, fun K hK => wp_value (exec_pick rfl kn.1 kn.2.1) (hK _ _ ⟨Touch.refl _ _, rfl⟩)⟩),
            (fun Q aq ww own hS hBg fr kn => .inl ⟨trivial, fun K hK => wp_value (exec_move rfl kn.1) (hK _ _ ⟨Touch.refl _ _, rfl⟩)⟩),
            (fun Q aq ww own hS hBg fr kn => .inl ⟨kn.1, fun K hK => wp_value (exec_move rfl fr.2.2.2.2.2.2.1) (hK _ _ ⟨Touch.refl _ _, rfl⟩)⟩),
            (fun Q aq ww own hS hBg fr kn => .inl ⟨kn.1, fun K hK => stepc enterDue9 rfl (args1 kn.2.1) (HDU.out ww hS) (fun w' hb => hK _ _ ⟨touch_below hb, rfl⟩)⟩),
            (fun Q aq ww own hS hBg fr kn => .inl ⟨kn.1, fun K hK => wp_value (exec_bin2 (V := .bool true) rfl kn.2.1 rfl rfl (by simp [go_sem])) (hK _ _ ⟨Touch.refl _ _, rfl⟩)⟩),
            (fun Q aq ww own hS hBg fr kn => .inl ⟨trivial, fun K hK => wp_value (exec_pick rfl kn.1 kn.2.1) (hK _ _ ⟨Touch.refl _ _, rfl⟩)⟩),
            (fun Q aq ww own hS hBg fr kn => .inl ⟨trivial, fun K hK => wp_value (exec_assign rfl kn.1) (hK _ _ ⟨Touch.refl _ _, rfl⟩)⟩),
            trivial⟩ ?_
      intro vs own u7 hB7 hsz kn inj
      have e4 : vs 4 = _ := kn.1
      clear kn inj hsz HCL HDU
      simp only [putAll, Act.put, List.setIfInBounds_toArray, List.set_cons_zero, List.set_cons_succ, e4]
      go_wp2_with fail
      go_ret
      exact ⟨rfl, hB4.trans (hB7.mono hB4.size)⟩
    · rw [if_neg has] at ha
      have HBB := Hid.mk hb
      have HAA := Hid.mk ha
      clear hb ha
      go_enter Try.func7, Try.ntmps7
      go_wp2_with fail
      refine (awake_run w).mono ?_
      rintro e v1 ⟨rfl, hA1⟩
      go_wp2_with fail
      refine (New_run9 v1).mono ?_
      rintro e v2 ⟨sb, rfl, hs2, hsb, hA2⟩
      have hN := SeSt.new hA1 hs2 hsb hA2
      clear hs2 hsb hA2 hA1
      go_wp2_with fail
      rw [← HBB.out, ← HAA.out]
      clear hbm ham HBB HAA hbs has hbr har hbl hal
      refine (pair_run 3 _).mono ?_
      rintro e u1 ⟨rfl, hB1⟩
      have h1 := hN.below hB1
      go_wp2_with (refine wl_al zeroPairV ?_; intro gp u2 hgp g2 hB2; refine Hid.out ?_)
      refine Hid.mk ?_
      have h2' := (h1.keep hgp hB2)
      have hgw : w.heap.size ≤ gp := Nat.le_trans h1.size hgp
      clear h1 hN hB1
      go_wp2_with (refine st_st isPair (paiV_one _ _ _ _) g2 (by rfl) (by rfl) ?_; intro u3 g3 o3; refine Hid.out ?_)
      refine Hid.mk ?_
      have h3 := st_only h2' o3 hgw
      have gl3 := SAt.lt g3
      clear h2' g2 hB2 o3 hgp
      go_wp2_with (refine wl_value rfl (look_st rfl isPair g3 (by rfl)) ?_)
      refine (h3.call (fun k e => by rcases e with e | e; exact e.elim; exact e ▸ gl3) (fun S hS => HPU.out u3 sb S hS)).mono ?_
      rintro e u4 ⟨rfl, h4, k4⟩
      have g4 : SAt u4 gp 35 66 (paiV (pks 3) (pkr 3) (ploc 3) (pfar 3)) := SAt.block g3 (k4.2 gp gl3 (.inr rfl))
      have gl4 := SAt.lt g4
      clear h3 g3 gl3 k4
      go_wp2_with fail
      refine (h4.call (fun k e => by rcases e with e | e; exact e.elim; exact e ▸ gl4) (fun S hS => HSE.out u4 sb S hS)).mono ?_
      rintro e u5 ⟨rfl, h5, k5⟩
      have g2 : SAt u5 gp 35 66 (paiV (pks 3) (pkr 3) (ploc 3) (pfar 3)) := SAt.block g4 (k5.2 gp gl4 (.inr rfl))
      have h2 : SeSt w sb (fun k => k = gp) u5 σ2 := st_sub h5 (fun k e => .inr e)
      clear h4 h5 g4 gl4 k5
      have HO : Hid (∀ v, (SeSt w sb (fun k => k = gp) v σ2 ∧ SAt v gp 35 66 (paiV (pks 3) (pkr 3) (ploc 3) (pfar 3))) → Calls Try.prog 15 #[.pointer (some ⟨sb, 0, none⟩), .int .i64 (b + a), .int .u32 (ploc 3), .int .u64 7, .string (boxT (pkr 3) (nonN 7) ⟨#[121]⟩ ByteArray.empty)] v fun e w' => ∃ x, e = .returned x ∧ x = .tuple #[.string ByteArray.empty, .int .i64 0, .int .i64 19] ∧ (SeSt w sb (fun k => k = gp) w' σ3 ∧ SAt w' gp 35 66 (paiV (pks 3) (pkr 3) (ploc 3) (pfar 3)))) := Hid.mk (fun v hv => by
        have gl := SAt.lt hv.2
        refine (hv.1.call (fun k e => e ▸ gl) (fun S hS => HOP.out v sb S hS)).mono ?_
        rintro e w' ⟨rfl, q1, q2⟩
        exact ⟨_, rfl, rfl, q1, SAt.block hv.2 (q2.2 gp gl rfl)⟩)
      go_wp2_with fail
      refine wp_region_steps4 (SL (fun v => SeSt w sb (fun k => k = gp) v σ2 ∧ SAt v gp 35 66 (paiV (pks 3) (pkr 3) (ploc 3) (pfar 3))) (fun v => SeSt w sb (fun k => k = gp) v σ3 ∧ SAt v gp 35 66 (paiV (pks 3) (pkr 3) (ploc 3) (pfar 3))) 10) (fun j x => x = ([.pointer (some ⟨sb, 0, none⟩), .int .i64 b, .int .i64 a, .int .i64 (b + a), .pointer (some ⟨gp, 0 + 64, none⟩), .int .u32 (ploc 3), .pointer (some ⟨gp, 0 + 32, none⟩), .agg (WA .u8 32 (pkr 3)), .agg (WA .u8 12 (nonN 7)), .string (boxT (pkr 3) (nonN 7) ⟨#[121]⟩ ByteArray.empty), .tuple #[.string ByteArray.empty, .int .i64 0, .int .i64 19], .tuple #[.string ByteArray.empty, .int .i64 0, .int .i64 19], .string ByteArray.empty, .int .i64 0, .int .i64 19, .string ByteArray.empty, .int .i64 0, .int .i64 19] : List Value).getD j undef)
          [54, 55, 56, 57, 58, 59, 60, 61, 62, 63, 64, 53, 65, 66, 67, 14, 15, 16]
          [(6, .pointer (some ⟨sb, 0, none⟩)), (7, .int .i64 b), (8, .int .i64 a), (9, .pointer (some ⟨gp, 0, none⟩))]
          [[], [], [], [1, 2], [], [4], [], [6], [], [7, 8], [0, 3, 5, 9], [10], [11], [11], [11], [12], [13], [14]]
          [[], [], [], [], [], [], [], [], [], [7, 8], [5, 7, 8, 9], [5, 7, 8, 9, 10], [5, 7, 8, 9, 10], [5, 7, 8, 9, 10], [5, 7, 8, 9, 10], [5, 7, 8, 9, 10], [5, 7, 8, 9, 10], [5, 7, 8, 9, 10]]
          [[], [], [], [], [], [10], [], [10], [10], [10], [], [], [], [], [], [], [], []]
          rfl (by kernel_rfl) ⟨rfl, rfl, rfl, rfl, trivial⟩ (sl_start ⟨h2.below (below_drew _), SAt.kept g2 (below_drew _)⟩)
          ⟨
            (fun Q L aq ww hS hun hq hd fr kn => ⟨trivial, fun K hK => wp_value (exec_move rfl fr.1) (hK _ _ rfl (sl_same (by decide) hS))⟩),
            (fun Q L aq ww hS hun hq hd fr kn => ⟨trivial, fun K hK => wp_value (exec_move rfl fr.2.1) (hK _ _ rfl (sl_same (by decide) hS))⟩),
            (fun Q L aq ww hS hun hq hd fr kn => ⟨trivial, fun K hK => wp_value (exec_move rfl fr.2.2.1) (hK _ _ rfl (sl_same (by decide) hS))⟩),
            (fun Q L aq ww hS hun hq hd fr kn => ⟨trivial, fun K hK => wp_value (exec_addI rfl kn.1 kn.2.1 (by omega) (by omega)) (hK _ _ rfl (sl_same (by decide) hS))⟩),
            (fun Q L aq ww hS hun hq hd fr kn => ⟨trivial, fun K hK => wp_value (exec_fpa (k := 2) rfl fr.2.2.2.1 (by decide)) (hK _ _ rfl (sl_same (by decide) hS))⟩),
            (fun Q L aq ww hS hun hq hd fr kn => ⟨trivial, fun K hK => wp_value (exec_ld rfl kn.1 (ld_u32 (pai_l (sl_a hS hd.1).2))) (hK _ _ rfl (sl_same (by decide) hS))⟩),
            (fun Q L aq ww hS hun hq hd fr kn => ⟨trivial, fun K hK => wp_value (exec_fpa (k := 1) rfl fr.2.2.2.1 (by decide)) (hK _ _ rfl (sl_same (by decide) hS))⟩),
            (fun Q L aq ww hS hun hq hd fr kn => ⟨trivial, fun K hK => wp_value (exec_ldmid rfl isArr32 kn.1 (pai_r (sl_a hS hd.1).2)) (hK _ _ rfl (sl_same (by decide) hS))⟩),
            (fun Q L aq ww hS hun hq hd fr kn => ⟨trivial, fun K hK => stepc enterRNonce9 rfl (args1 rfl) (rNonce_run 7 ww (by omega)) (fun w' hb => hK _ _ rfl (sl_ahead (by decide) hd.1 (And.intro ((sl_a hS hd.1).1.below hb) (SAt.kept (sl_a hS hd.1).2 hb))))⟩),
            (fun Q L aq ww hS hun hq hd fr kn => ⟨trivial, fun K hK => stepc enterRSeal9 rfl (args4 kn.1 kn.2.1 rfl rfl) (rSeal_run (pkr 3) (nonN 7) ⟨#[121]⟩ ByteArray.empty ww (pkr_b 3) nonN_b (by decide) (by decide)) (fun w' hb => hK _ _ rfl (sl_ahead (by decide) hd.1 (And.intro ((sl_a hS hd.1).1.below hb) (SAt.kept (sl_a hS hd.1).2 hb))))⟩),
            (fun Q L aq ww hS hun hq hd fr kn => ⟨trivial, fun K hK => stepp enterOpenS9 rfl (args5 kn.1 kn.2.1 kn.2.2.1 rfl kn.2.2.2.1) (HO.out ww (sl_a hS hun)) (fun v w' hv => hK _ _ hv.1 (sl_done hv.2))⟩),
            (fun Q L aq ww hS hun hq hd fr kn => ⟨trivial, fun K hK => wp_value (exec_move rfl kn.1) (hK _ _ rfl (sl_same (by decide) hS))⟩),
            (fun Q L aq ww hS hun hq hd fr kn => ⟨trivial, fun K hK => wp_value (exec_ext rfl kn.1 rfl) (hK _ _ rfl (sl_same (by decide) hS))⟩),
            (fun Q L aq ww hS hun hq hd fr kn => ⟨trivial, fun K hK => wp_value (exec_ext rfl kn.1 rfl) (hK _ _ rfl (sl_same (by decide) hS))⟩),
            (fun Q L aq ww hS hun hq hd fr kn => ⟨trivial, fun K hK => wp_value (exec_ext rfl kn.1 rfl) (hK _ _ rfl (sl_same (by decide) hS))⟩),
            (fun Q L aq ww hS hun hq hd fr kn => ⟨trivial, fun K hK => wp_value (exec_assign rfl kn.1) (hK _ _ rfl (sl_same (by decide) hS))⟩),
            (fun Q L aq ww hS hun hq hd fr kn => ⟨trivial, fun K hK => wp_value (exec_assign rfl kn.1) (hK _ _ rfl (sl_same (by decide) hS))⟩),
            (fun Q L aq ww hS hun hq hd fr kn => ⟨trivial, fun K hK => wp_value (exec_assign rfl kn.1) (hK _ _ rfl (sl_same (by decide) hS))⟩),
            trivial⟩ ?_
      intro vs L u6 hS6 hL6 hk6
      obtain ⟨h6, g6⟩ := sl_b hS6 (hL6 10 (by decide))
      have e14 : vs 14 = .string ByteArray.empty := hk6 15 (by decide)
      have e15 : vs 15 = .int .i64 0 := hk6 16 (by decide)
      have e16 : vs 16 = .int .i64 19 := hk6 17 (by decide)
      clear hk6 hS6 hL6 HO h2 g2
      simp only [putAll, Act.put, List.setIfInBounds_toArray, List.set_cons_zero, List.set_cons_succ, e14, e15, e16]
      clear e14 e15 e16
      have gl6 := SAt.lt g6
      go_wp2_with fail
      refine (h6.call (fun k e => e ▸ gl6) (fun S hS => HEX.out u6 sb S hS)).mono ?_
      rintro e u4 ⟨⟨vo, rfl, hO⟩, h4, k4⟩
      have g4 : SAt u4 gp 35 66 (paiV (pks 3) (pkr 3) (ploc 3) (pfar 3)) := SAt.block g6 (k4.2 gp gl6 rfl)
      clear h6 g6 gl6 k4
      obtain ⟨hn1, p, cl, rfl, hp⟩ := own_u32 hO
      clear hn1
      clear hO
      obtain ⟨gl, rfl, hcl⟩ := hp (by decide)
      have c0 : u4.cell? ⟨gl, 0, none⟩ = some (.int .u32 (ploc 3)) := hcl 0 (by decide)
      have HCL : Hid (∀ v, Below u4.heap.size u4 v → v.cell? ⟨gl, 0, none⟩ = some (.int .u32 (ploc 3))) := Hid.mk (fun v hv => by rw [hv.cell (p := ⟨gl, 0, none⟩) (World.block_lt_of_cell? _ _ c0)]; exact c0)
      have HDU : Hid (∀ v, Below u4.heap.size u4 v → Calls Try.prog 22 #[.pointer (some ⟨sb, 0, none⟩)] v fun e w' => e = .returned (.int .i64 (-1)) ∧ Below v.heap.size v w') := Hid.mk (fun v hv => by
        refine ((h4.below hv).reads (fun S hS => HDE.out v sb S hS)).mono ?_
        rintro e w' ⟨rfl, hb⟩
        exact ⟨rfl, hb⟩)
      have hB4 := h4.bel
      clear c0 hcl hp h4
      go_wp2_with fail
      refine wp_region3 (Below u4.heap.size u4) u4.heap.size
          ([] : List (Nat × Cont))
          (kv (.int .i64 19) :: kv (.bool true) :: kv (.bool true) :: kv (.int .i64 19) :: kv (.bool true) :: kv (.bool true) :: kv (.bool true) :: kv (.string ByteArray.empty) :: kv (.bool true) :: kv (.bool true) :: kv (.bool true) :: kv (.string ByteArray.empty) :: kv (.bool true) :: kv (.bool true) :: kv (.bool true) :: kv (.slice (some ⟨gl, 0, none⟩) 1 cl) :: kv (.int .i64 1) :: kv (.bool true) :: kv (.bool true) :: kv (.bool true) :: kv (.slice (some ⟨gl, 0, none⟩) 1 cl) :: kv (.pointer (some ⟨gl, 0, none⟩)) :: kv (.int .u32 (ploc 3)) :: kv (.pointer (some ⟨gp, 0 + 64, none⟩)) :: kv (.int .u32 (ploc 3)) :: kv (.bool true) :: kv (.bool true) :: kv (.bool true) :: kv (.pointer (some ⟨sb, 0, none⟩)) :: kv (.int .i64 (-1)) :: kv (.bool true) :: kv (.bool true) :: kv (.bool true) :: [])
          (.none :: .none :: .none :: .none :: .none :: .none :: .none :: .none :: .none :: .none :: .none :: .none :: .none :: .none :: .none :: .none :: .none :: .none :: .none :: .none :: .none :: .none :: .none :: .none :: .none :: .none :: .none :: .none :: .none :: .none :: .none :: .none :: .none :: [])
          (some 75 :: some 76 :: some 77 :: some 78 :: some 79 :: some 80 :: some 81 :: some 82 :: some 83 :: some 84 :: some 85 :: some 86 :: some 87 :: some 88 :: some 89 :: some 90 :: some 91 :: some 92 :: some 93 :: some 94 :: some 95 :: some 96 :: some 97 :: some 98 :: some 99 :: some 100 :: some 101 :: some 102 :: some 103 :: some 104 :: some 105 :: some 106 :: some 4 :: [])
          [(13, .int .i64 19), (16, .int .i64 19), (12, .string ByteArray.empty), (14, .string ByteArray.empty), (17, .slice (some ⟨gl, 0, none⟩) 1 cl), (9, .pointer (some ⟨gp, 0, none⟩)), (6, .pointer (some ⟨sb, 0, none⟩))]
          ([] :: [.slot 0] :: [.slot 1] :: [.slot 2] :: [.slot 2, .slot 3] :: [.slot 2, .slot 4] :: [.slot 5] :: [.slot 6] :: [.slot 6, .slot 7] :: [.slot 6, .slot 8] :: [.slot 9] :: [.slot 10] :: [.slot 10, .slot 11] :: [.slot 10, .slot 12] :: [.slot 13] :: [.slot 14] :: [.slot 14, .slot 15] :: [.slot 14, .slot 16] :: [.slot 14, .slot 17] :: [.slot 18] :: [.slot 19] :: [.slot 19, .slot 20] :: [.slot 19, .slot 21] :: [.slot 19] :: [.slot 19, .slot 23] :: [.slot 19, .slot 22, .slot 24] :: [.slot 19, .slot 25] :: [.slot 26] :: [.slot 27] :: [.slot 27, .slot 28] :: [.slot 27, .slot 29] :: [.slot 27, .slot 30] :: [.slot 31] :: [])
          [.slot 32] (75 :: 76 :: 77 :: 78 :: 79 :: 80 :: 81 :: 82 :: 83 :: 84 :: 85 :: 86 :: 87 :: 88 :: 89 :: 90 :: 91 :: 92 :: 93 :: 94 :: 95 :: 96 :: 97 :: 98 :: 99 :: 100 :: 101 :: 102 :: 103 :: 104 :: 105 :: 106 :: 4 :: [])
          rfl (by kernel_rfl) ⟨rfl, rfl, rfl, rfl, rfl, rfl, rfl, trivial⟩ (Below.refl _ u4).drew (Nat.le_refl _) trivial trivial (below_G (Nat.le_refl _) trivial)
          ⟨
            (fun Q aq ww own hS hBg fr kn => .inl ⟨trivial, fun K hK => wp_value (exec_move rfl fr.1) (hK _ _ ⟨Touch.refl _ _, rfl⟩)⟩),
            (fun Q aq ww own hS hBg fr kn => .inl ⟨trivial, fun K hK => wp_value (exec_bin2 (V := .bool true) rfl kn.1 rfl rfl (by simp [go_sem])) (hK _ _ ⟨Touch.refl _ _, rfl⟩)⟩),
            (fun Q aq ww own hS hBg fr kn => .inl ⟨trivial, fun K hK => wp_value (exec_move rfl kn.1) (hK _ _ ⟨Touch.refl _ _, rfl⟩)⟩),
            (fun Q aq ww own hS hBg fr kn => .inl ⟨kn.1, fun K hK => wp_value (exec_move rfl fr.2.1) (hK _ _ ⟨Touch.refl _ _, rfl⟩)⟩),
            (fun Q aq ww own hS hBg fr kn => .inl ⟨kn.1, fun K hK => wp_value (exec_bin2 (V := .bool true) rfl kn.2.1 rfl rfl (by simp [go_sem])) (hK _ _ ⟨Touch.refl _ _, rfl⟩)⟩),
            (fun Q aq ww own hS hBg fr kn => .inl ⟨trivial, fun K hK => wp_value (exec_pick rfl kn.1 kn.2.1) (hK _ _ ⟨Touch.refl _ _, rfl⟩)⟩),
            (fun Q aq ww own hS hBg fr kn => .inl ⟨trivial, fun K hK => wp_value (exec_move rfl kn.1) (hK _ _ ⟨Touch.refl _ _, rfl⟩)⟩),
            (fun Q aq ww own hS hBg fr kn => .inl ⟨kn.1, fun K hK => wp_value (exec_move rfl fr.2.2.1) (hK _ _ ⟨Touch.refl _ _, rfl⟩)⟩),
            (fun Q aq ww own hS hBg fr kn => .inl ⟨kn.1, fun K hK => wp_value (exec_eqS rfl kn.2.1 rfl) (hK _ _ ⟨Touch.refl _ _, rfl⟩)⟩),
            (fun Q aq ww own hS hBg fr kn => .inl ⟨trivial, fun K hK => wp_value (exec_pick rfl kn.1 kn.2.1) (hK _ _ ⟨Touch.refl _ _, rfl⟩)⟩),
            (fun Q aq ww own hS hBg fr kn => .inl ⟨trivial, fun K hK => wp_value (exec_move rfl kn.1) (hK _ _ ⟨Touch.refl _ _, rfl⟩)⟩),
            (fun Q aq ww own hS hBg fr kn => .inl ⟨kn.1, fun K hK => wp_value (exec_move rfl fr.2.2.2.1) (hK _ _ ⟨Touch.refl _ _, rfl⟩)⟩),
            (fun Q aq ww own hS hBg fr kn => .inl ⟨kn.1, fun K hK => wp_value (exec_eqS rfl kn.2.1 rfl) (hK _ _ ⟨Touch.refl _ _, rfl⟩)⟩),
            (fun Q aq ww own hS hBg fr kn => .inl ⟨trivial, fun K hK => wp_value (exec_pick rfl kn.1 kn.2.1) (hK _ _ ⟨Touch.refl _ _, rfl⟩)⟩),
            (fun Q aq ww own hS hBg fr kn => .inl ⟨trivial, fun K hK => wp_value (exec_move rfl kn.1) (hK _ _ ⟨Touch.refl _ _, rfl⟩)⟩),
            (fun Q aq ww own hS hBg fr kn => .inl ⟨kn.1, fun K hK => wp_value (exec_move rfl fr.2.2.2.2.1) (hK _ _ ⟨Touch.refl _ _, rfl⟩)⟩),
            (fun Q aq ww own hS hBg fr kn => .inl ⟨kn.1, fun K hK => wp_value (exec_len32 rfl kn.2.1) (hK _ _ ⟨Touch.refl _ _, rfl⟩)⟩),
            (fun Q aq ww own hS hBg fr kn => .inl ⟨kn.1, fun K hK => wp_value (exec_bin2 (V := .bool true) rfl kn.2.1 rfl rfl (by simp [go_sem])) (hK _ _ ⟨Touch.refl _ _, rfl⟩)⟩),
            (fun Q aq ww own hS hBg fr kn => .inl ⟨trivial, fun K hK => wp_value (exec_pick rfl kn.1 kn.2.1) (hK _ _ ⟨Touch.refl _ _, rfl⟩)⟩),
            (fun Q aq ww own hS hBg fr kn => .inl ⟨trivial, fun K hK => wp_value (exec_move rfl kn.1) (hK _ _ ⟨Touch.refl _ _, rfl⟩)⟩),
            (fun Q aq ww own hS hBg fr kn => .inl ⟨kn.1, fun K hK => wp_value (exec_move rfl fr.2.2.2.2.1) (hK _ _ ⟨Touch.refl _ _, rfl⟩)⟩),
            (fun Q aq ww own hS hBg fr kn => .inl ⟨kn.1, fun K hK => wp_value (exec_ixu32 rfl kn.2.1) (hK _ _ ⟨Touch.refl _ _, rfl⟩)⟩),
            (fun Q aq ww own hS hBg fr kn => .inl ⟨kn.1, fun K hK => wp_value (exec_ld rfl kn.2.1 (ld_u32 (HCL.out ww hS))) (hK _ _ ⟨Touch.refl _ _, rfl⟩)⟩),
            (fun Q aq ww own hS hBg fr kn => .inl ⟨kn.1, fun K hK => wp_value (exec_fpa (k := 2) rfl fr.2.2.2.2.2.1 (by decide)) (hK _ _ ⟨Touch.refl _ _, rfl⟩)⟩),
            (fun Q aq ww own hS hBg fr kn => .inl ⟨kn.1, fun K hK => wp_value (exec_ld rfl kn.2.1 (ld_u32 (pai_l (SAt.kept g4 hS)))) (hK _ _ ⟨Touch.refl _ _, rfl⟩)⟩),
            (fun Q aq ww own hS hBg fr kn => .inl ⟨kn.1, fun K hK => wp_value (exec_bin2 (V := .bool true) rfl kn.2.1 kn.2.2.1 rfl (by simp [go_sem])) (hK _ _ ⟨Touch.refl _ _, rfl⟩)⟩),
            (fun Q aq ww own hS hBg fr kn => .inl ⟨trivial, fun K hK => wp_value (exec_pick rfl kn.1 kn.2.1) (hK _ _ ⟨Touch.refl _ _, rfl⟩)⟩),
            (fun Q aq ww own hS hBg fr kn => .inl ⟨trivial, fun K hK => wp_value (exec_move rfl kn.1) (hK _ _ ⟨Touch.refl _ _, rfl⟩)⟩),
            (fun Q aq ww own hS hBg fr kn => .inl ⟨kn.1, fun K hK => wp_value (exec_move rfl fr.2.2.2.2.2.2.1) (hK _ _ ⟨Touch.refl _ _, rfl⟩)⟩),
            (fun Q aq ww own hS hBg fr kn => .inl ⟨kn.1, fun K hK => stepc enterDue9 rfl (args1 kn.2.1) (HDU.out ww hS) (fun w' hb => hK _ _ ⟨touch_below hb, rfl⟩)⟩),
            (fun Q aq ww own hS hBg fr kn => .inl ⟨kn.1, fun K hK => wp_value (exec_bin2 (V := .bool true) rfl kn.2.1 rfl rfl (by simp [go_sem])) (hK _ _ ⟨Touch.refl _ _, rfl⟩)⟩),
            (fun Q aq ww own hS hBg fr kn => .inl ⟨trivial, fun K hK => wp_value (exec_pick rfl kn.1 kn.2.1) (hK _ _ ⟨Touch.refl _ _, rfl⟩)⟩),
            (fun Q aq ww own hS hBg fr kn => .inl ⟨trivial, fun K hK => wp_value (exec_assign rfl kn.1) (hK _ _ ⟨Touch.refl _ _, rfl⟩)⟩),
            trivial⟩ ?_
      intro vs own u7 hB7 hsz kn inj
      have e4 : vs 4 = _ := kn.1
      clear kn inj hsz HCL HDU
      simp only [putAll, Act.put, List.setIfInBounds_toArray, List.set_cons_zero, List.set_cons_succ, e4]
      go_wp2_with fail
      go_ret
      exact ⟨rfl, hB4.trans (hB7.mono hB4.size)⟩
set_option maxHeartbeats 16000000 in
theorem dies_new (born after a b : Int) (w : World) {σ1 σ2 σ3 σ4 : Ses} {X0 : Int} {X1 : ByteArray} (hb0 : 0 ≤ b) (hb1 : b < 1000000000) (ha0 : 0 ≤ a) (ha1 : a < 400000) (hold : a < 180000)
    (hb : b = if Int.tmod born 1000000000 < 0 then -(Int.tmod born 1000000000) else Int.tmod born 1000000000) (ha : a = if Int.tmod after 400000 < 0 then -(Int.tmod after 400000) else Int.tmod after 400000)
    (HPU : Hid (∀ u sb S, SesAt u sb ses0 S → Calls Try.prog 12 #[.pointer (some ⟨sb, 0, none⟩), .int .i64 b, .agg (SC 66 (paiV (pks 3) (pkr 3) (ploc 3) (pfar 3))), .bool true] u fun e w' => e = .returned (.tuple #[.int .i64 1, .int .i64 0]) ∧ Goes SesAt u sb S σ1 w'))
    (HSE : Hid (∀ u sb S, SesAt u sb σ1 S → Calls Try.prog 14 #[.pointer (some ⟨sb, 0, none⟩), .int .i64 (b + a), .string ⟨#[120]⟩] u fun e w' => e = .returned (.tuple #[.int .u32 X0, .int .u64 0, .string X1, .int .i64 0]) ∧ Goes SesAt u sb S σ2 w'))
    (HOP : Hid (∀ u sb S, SesAt u sb σ2 S → Calls Try.prog 15 #[.pointer (some ⟨sb, 0, none⟩), .int .i64 (b + a), .int .u32 (ploc 3), .int .u64 7, .string (boxT (pkr 3) (nonN 7) ⟨#[121]⟩ ByteArray.empty)] u fun e w' => e = .returned (.tuple #[.string ⟨#[121]⟩, .int .i64 1, .int .i64 0]) ∧ Goes SesAt u sb S σ3 w'))
    (HEX : Hid (∀ u sb S, SesAt u sb σ3 S → Calls Try.prog 16 #[.pointer (some ⟨sb, 0, none⟩), .int .i64 (b + a)] u fun e w' => (∃ vo, e = .returned vo ∧ w'.ownsRow u.heap.size 33 1 vo 0 (u32X [])) ∧ Goes SesAt u sb S σ4 w'))
    (HDE : Hid (∀ u sb S, SesAt u sb σ4 S → Calls Try.prog 22 #[.pointer (some ⟨sb, 0, none⟩)] u fun e w' => e = .returned (.int .i64 (b + 180000)) ∧ Below u.heap.size u w')) :
    Calls Try.prog 7 #[.int .i64 born, .int .i64 after] w fun e w' => e = .returned (.bool true) ∧ Below w.heap.size w w' := by
  have hdec : decide (180000 ≤ a) = false := decide_eq_false (by omega)
  have hbr := Int.tmod_lt_of_pos born (show (0 : Int) < 1000000000 by omega)
  have har := Int.tmod_lt_of_pos after (show (0 : Int) < 400000 by omega)
  have hbl := tmod_gt born (show (0 : Int) < 1000000000 by omega)
  have hal := tmod_gt after (show (0 : Int) < 400000 by omega)
  generalize hbm : Int.tmod born 1000000000 = bm at *
  generalize ham : Int.tmod after 400000 = am at *
  by_cases hbs : bm < 0
  · rw [if_pos hbs] at hb
    by_cases has : am < 0
    · rw [if_pos has] at ha
      have HBB := Hid.mk hb
      have HAA := Hid.mk ha
      clear hb ha
      go_enter Try.func7, Try.ntmps7
      go_wp2_with fail
      refine (awake_run w).mono ?_
      rintro e v1 ⟨rfl, hA1⟩
      go_wp2_with fail
      refine (New_run9 v1).mono ?_
      rintro e v2 ⟨sb, rfl, hs2, hsb, hA2⟩
      have hN := SeSt.new hA1 hs2 hsb hA2
      clear hs2 hsb hA2 hA1
      go_wp2_with fail
      rw [← HBB.out, ← HAA.out]
      clear hbm ham HBB HAA hbs has hbr har hbl hal
      refine (pair_run 3 _).mono ?_
      rintro e u1 ⟨rfl, hB1⟩
      have h1 := hN.below hB1
      go_wp2_with (refine wl_al zeroPairV ?_; intro gp u2 hgp g2 hB2; refine Hid.out ?_)
      refine Hid.mk ?_
      have h2' := (h1.keep hgp hB2)
      have hgw : w.heap.size ≤ gp := Nat.le_trans h1.size hgp
      clear h1 hN hB1
      go_wp2_with (refine st_st isPair (paiV_one _ _ _ _) g2 (by rfl) (by rfl) ?_; intro u3 g3 o3; refine Hid.out ?_)
      refine Hid.mk ?_
      have h3 := st_only h2' o3 hgw
      have gl3 := SAt.lt g3
      clear h2' g2 hB2 o3 hgp
      go_wp2_with (refine wl_value rfl (look_st rfl isPair g3 (by rfl)) ?_)
      refine (h3.call (fun k e => by rcases e with e | e; exact e.elim; exact e ▸ gl3) (fun S hS => HPU.out u3 sb S hS)).mono ?_
      rintro e u4 ⟨rfl, h4, k4⟩
      have g4 : SAt u4 gp 35 66 (paiV (pks 3) (pkr 3) (ploc 3) (pfar 3)) := SAt.block g3 (k4.2 gp gl3 (.inr rfl))
      have gl4 := SAt.lt g4
      clear h3 g3 gl3 k4
      go_wp2_with fail
      refine (h4.call (fun k e => by rcases e with e | e; exact e.elim; exact e ▸ gl4) (fun S hS => HSE.out u4 sb S hS)).mono ?_
      rintro e u5 ⟨rfl, h5, k5⟩
      have g2 : SAt u5 gp 35 66 (paiV (pks 3) (pkr 3) (ploc 3) (pfar 3)) := SAt.block g4 (k5.2 gp gl4 (.inr rfl))
      have h2 : SeSt w sb (fun k => k = gp) u5 σ2 := st_sub h5 (fun k e => .inr e)
      clear h4 h5 g4 gl4 k5
      have HO : Hid (∀ v, (SeSt w sb (fun k => k = gp) v σ2 ∧ SAt v gp 35 66 (paiV (pks 3) (pkr 3) (ploc 3) (pfar 3))) → Calls Try.prog 15 #[.pointer (some ⟨sb, 0, none⟩), .int .i64 (b + a), .int .u32 (ploc 3), .int .u64 7, .string (boxT (pkr 3) (nonN 7) ⟨#[121]⟩ ByteArray.empty)] v fun e w' => ∃ x, e = .returned x ∧ x = .tuple #[.string ⟨#[121]⟩, .int .i64 1, .int .i64 0] ∧ (SeSt w sb (fun k => k = gp) w' σ3 ∧ SAt w' gp 35 66 (paiV (pks 3) (pkr 3) (ploc 3) (pfar 3)))) := Hid.mk (fun v hv => by
        have gl := SAt.lt hv.2
        refine (hv.1.call (fun k e => e ▸ gl) (fun S hS => HOP.out v sb S hS)).mono ?_
        rintro e w' ⟨rfl, q1, q2⟩
        exact ⟨_, rfl, rfl, q1, SAt.block hv.2 (q2.2 gp gl rfl)⟩)
      go_wp2_with fail
      refine wp_region_steps4 (SL (fun v => SeSt w sb (fun k => k = gp) v σ2 ∧ SAt v gp 35 66 (paiV (pks 3) (pkr 3) (ploc 3) (pfar 3))) (fun v => SeSt w sb (fun k => k = gp) v σ3 ∧ SAt v gp 35 66 (paiV (pks 3) (pkr 3) (ploc 3) (pfar 3))) 10) (fun j x => x = ([.pointer (some ⟨sb, 0, none⟩), .int .i64 b, .int .i64 a, .int .i64 (b + a), .pointer (some ⟨gp, 0 + 64, none⟩), .int .u32 (ploc 3), .pointer (some ⟨gp, 0 + 32, none⟩), .agg (WA .u8 32 (pkr 3)), .agg (WA .u8 12 (nonN 7)), .string (boxT (pkr 3) (nonN 7) ⟨#[121]⟩ ByteArray.empty), .tuple #[.string ⟨#[121]⟩, .int .i64 1, .int .i64 0], .tuple #[.string ⟨#[121]⟩, .int .i64 1, .int .i64 0], .string ⟨#[121]⟩, .int .i64 1, .int .i64 0, .string ⟨#[121]⟩, .int .i64 1, .int .i64 0] : List Value).getD j undef)
          [54, 55, 56, 57, 58, 59, 60, 61, 62, 63, 64, 53, 65, 66, 67, 14, 15, 16]
          [(6, .pointer (some ⟨sb, 0, none⟩)), (7, .int .i64 b), (8, .int .i64 a), (9, .pointer (some ⟨gp, 0, none⟩))]
          [[], [], [], [1, 2], [], [4], [], [6], [], [7, 8], [0, 3, 5, 9], [10], [11], [11], [11], [12], [13], [14]]
          [[], [], [], [], [], [], [], [], [], [7, 8], [5, 7, 8, 9], [5, 7, 8, 9, 10], [5, 7, 8, 9, 10], [5, 7, 8, 9, 10], [5, 7, 8, 9, 10], [5, 7, 8, 9, 10], [5, 7, 8, 9, 10], [5, 7, 8, 9, 10]]
          [[], [], [], [], [], [10], [], [10], [10], [10], [], [], [], [], [], [], [], []]
          rfl (by kernel_rfl) ⟨rfl, rfl, rfl, rfl, trivial⟩ (sl_start ⟨h2.below (below_drew _), SAt.kept g2 (below_drew _)⟩)
          ⟨
            (fun Q L aq ww hS hun hq hd fr kn => ⟨trivial, fun K hK => wp_value (exec_move rfl fr.1) (hK _ _ rfl (sl_same (by decide) hS))⟩),
            (fun Q L aq ww hS hun hq hd fr kn => ⟨trivial, fun K hK => wp_value (exec_move rfl fr.2.1) (hK _ _ rfl (sl_same (by decide) hS))⟩),
            (fun Q L aq ww hS hun hq hd fr kn => ⟨trivial, fun K hK => wp_value (exec_move rfl fr.2.2.1) (hK _ _ rfl (sl_same (by decide) hS))⟩),
            (fun Q L aq ww hS hun hq hd fr kn => ⟨trivial, fun K hK => wp_value (exec_addI rfl kn.1 kn.2.1 (by omega) (by omega)) (hK _ _ rfl (sl_same (by decide) hS))⟩),
            (fun Q L aq ww hS hun hq hd fr kn => ⟨trivial, fun K hK => wp_value (exec_fpa (k := 2) rfl fr.2.2.2.1 (by decide)) (hK _ _ rfl (sl_same (by decide) hS))⟩),
            (fun Q L aq ww hS hun hq hd fr kn => ⟨trivial, fun K hK => wp_value (exec_ld rfl kn.1 (ld_u32 (pai_l (sl_a hS hd.1).2))) (hK _ _ rfl (sl_same (by decide) hS))⟩),
            (fun Q L aq ww hS hun hq hd fr kn => ⟨trivial, fun K hK => wp_value (exec_fpa (k := 1) rfl fr.2.2.2.1 (by decide)) (hK _ _ rfl (sl_same (by decide) hS))⟩),
            (fun Q L aq ww hS hun hq hd fr kn => ⟨trivial, fun K hK => wp_value (exec_ldmid rfl isArr32 kn.1 (pai_r (sl_a hS hd.1).2)) (hK _ _ rfl (sl_same (by decide) hS))⟩),
            (fun Q L aq ww hS hun hq hd fr kn => ⟨trivial, fun K hK => stepc enterRNonce9 rfl (args1 rfl) (rNonce_run 7 ww (by omega)) (fun w' hb => hK _ _ rfl (sl_ahead (by decide) hd.1 (And.intro ((sl_a hS hd.1).1.below hb) (SAt.kept (sl_a hS hd.1).2 hb))))⟩),
            (fun Q L aq ww hS hun hq hd fr kn => ⟨trivial, fun K hK => stepc enterRSeal9 rfl (args4 kn.1 kn.2.1 rfl rfl) (rSeal_run (pkr 3) (nonN 7) ⟨#[121]⟩ ByteArray.empty ww (pkr_b 3) nonN_b (by decide) (by decide)) (fun w' hb => hK _ _ rfl (sl_ahead (by decide) hd.1 (And.intro ((sl_a hS hd.1).1.below hb) (SAt.kept (sl_a hS hd.1).2 hb))))⟩),
            (fun Q L aq ww hS hun hq hd fr kn => ⟨trivial, fun K hK => stepp enterOpenS9 rfl (args5 kn.1 kn.2.1 kn.2.2.1 rfl kn.2.2.2.1) (HO.out ww (sl_a hS hun)) (fun v w' hv => hK _ _ hv.1 (sl_done hv.2))⟩),
            (fun Q L aq ww hS hun hq hd fr kn => ⟨trivial, fun K hK => wp_value (exec_move rfl kn.1) (hK _ _ rfl (sl_same (by decide) hS))⟩),
            (fun Q L aq ww hS hun hq hd fr kn => ⟨trivial, fun K hK => wp_value (exec_ext rfl kn.1 rfl) (hK _ _ rfl (sl_same (by decide) hS))⟩),
            (fun Q L aq ww hS hun hq hd fr kn => ⟨trivial, fun K hK => wp_value (exec_ext rfl kn.1 rfl) (hK _ _ rfl (sl_same (by decide) hS))⟩),
            (fun Q L aq ww hS hun hq hd fr kn => ⟨trivial, fun K hK => wp_value (exec_ext rfl kn.1 rfl) (hK _ _ rfl (sl_same (by decide) hS))⟩),
            (fun Q L aq ww hS hun hq hd fr kn => ⟨trivial, fun K hK => wp_value (exec_assign rfl kn.1) (hK _ _ rfl (sl_same (by decide) hS))⟩),
            (fun Q L aq ww hS hun hq hd fr kn => ⟨trivial, fun K hK => wp_value (exec_assign rfl kn.1) (hK _ _ rfl (sl_same (by decide) hS))⟩),
            (fun Q L aq ww hS hun hq hd fr kn => ⟨trivial, fun K hK => wp_value (exec_assign rfl kn.1) (hK _ _ rfl (sl_same (by decide) hS))⟩),
            trivial⟩ ?_
      intro vs L u6 hS6 hL6 hk6
      obtain ⟨h6, g6⟩ := sl_b hS6 (hL6 10 (by decide))
      have e14 : vs 14 = .string ⟨#[121]⟩ := hk6 15 (by decide)
      have e15 : vs 15 = .int .i64 1 := hk6 16 (by decide)
      have e16 : vs 16 = .int .i64 0 := hk6 17 (by decide)
      clear hk6 hS6 hL6 HO h2 g2
      simp only [putAll, Act.put, List.setIfInBounds_toArray, List.set_cons_zero, List.set_cons_succ, e14, e15, e16]
      clear e14 e15 e16
      have gl6 := SAt.lt g6
      go_wp2_with fail
      refine (h6.call (fun k e => e ▸ gl6) (fun S hS => HEX.out u6 sb S hS)).mono ?_
      rintro e u4 ⟨⟨vo, rfl, hO⟩, h4, k4⟩
      have g4 : SAt u4 gp 35 66 (paiV (pks 3) (pkr 3) (ploc 3) (pfar 3)) := SAt.block g6 (k4.2 gp gl6 rfl)
      clear h6 g6 gl6 k4
      obtain ⟨hn1, p, cl, rfl, hp⟩ := own_u32 hO
      clear hn1
      clear hO
      clear hp g4
      go_wp2_with fail
      refine (h4.reads (fun S hS => HDE.out u4 sb S hS)).mono ?_
      rintro e u7 ⟨rfl, hB7⟩
      have hB4 := h4.bel
      clear h4
      go_wp2_with fail
      go_ret
      exact ⟨rfl, hB4.trans (hB7.mono hB4.size)⟩
    · rw [if_neg has] at ha
      have HBB := Hid.mk hb
      have HAA := Hid.mk ha
      clear hb ha
      go_enter Try.func7, Try.ntmps7
      go_wp2_with fail
      refine (awake_run w).mono ?_
      rintro e v1 ⟨rfl, hA1⟩
      go_wp2_with fail
      refine (New_run9 v1).mono ?_
      rintro e v2 ⟨sb, rfl, hs2, hsb, hA2⟩
      have hN := SeSt.new hA1 hs2 hsb hA2
      clear hs2 hsb hA2 hA1
      go_wp2_with fail
      rw [← HBB.out, ← HAA.out]
      clear hbm ham HBB HAA hbs has hbr har hbl hal
      refine (pair_run 3 _).mono ?_
      rintro e u1 ⟨rfl, hB1⟩
      have h1 := hN.below hB1
      go_wp2_with (refine wl_al zeroPairV ?_; intro gp u2 hgp g2 hB2; refine Hid.out ?_)
      refine Hid.mk ?_
      have h2' := (h1.keep hgp hB2)
      have hgw : w.heap.size ≤ gp := Nat.le_trans h1.size hgp
      clear h1 hN hB1
      go_wp2_with (refine st_st isPair (paiV_one _ _ _ _) g2 (by rfl) (by rfl) ?_; intro u3 g3 o3; refine Hid.out ?_)
      refine Hid.mk ?_
      have h3 := st_only h2' o3 hgw
      have gl3 := SAt.lt g3
      clear h2' g2 hB2 o3 hgp
      go_wp2_with (refine wl_value rfl (look_st rfl isPair g3 (by rfl)) ?_)
      refine (h3.call (fun k e => by rcases e with e | e; exact e.elim; exact e ▸ gl3) (fun S hS => HPU.out u3 sb S hS)).mono ?_
      rintro e u4 ⟨rfl, h4, k4⟩
      have g4 : SAt u4 gp 35 66 (paiV (pks 3) (pkr 3) (ploc 3) (pfar 3)) := SAt.block g3 (k4.2 gp gl3 (.inr rfl))
      have gl4 := SAt.lt g4
      clear h3 g3 gl3 k4
      go_wp2_with fail
      refine (h4.call (fun k e => by rcases e with e | e; exact e.elim; exact e ▸ gl4) (fun S hS => HSE.out u4 sb S hS)).mono ?_
      rintro e u5 ⟨rfl, h5, k5⟩
      have g2 : SAt u5 gp 35 66 (paiV (pks 3) (pkr 3) (ploc 3) (pfar 3)) := SAt.block g4 (k5.2 gp gl4 (.inr rfl))
      have h2 : SeSt w sb (fun k => k = gp) u5 σ2 := st_sub h5 (fun k e => .inr e)
      clear h4 h5 g4 gl4 k5
      have HO : Hid (∀ v, (SeSt w sb (fun k => k = gp) v σ2 ∧ SAt v gp 35 66 (paiV (pks 3) (pkr 3) (ploc 3) (pfar 3))) → Calls Try.prog 15 #[.pointer (some ⟨sb, 0, none⟩), .int .i64 (b + a), .int .u32 (ploc 3), .int .u64 7, .string (boxT (pkr 3) (nonN 7) ⟨#[121]⟩ ByteArray.empty)] v fun e w' => ∃ x, e = .returned x ∧ x = .tuple #[.string ⟨#[121]⟩, .int .i64 1, .int .i64 0] ∧ (SeSt w sb (fun k => k = gp) w' σ3 ∧ SAt w' gp 35 66 (paiV (pks 3) (pkr 3) (ploc 3) (pfar 3)))) := Hid.mk (fun v hv => by
        have gl := SAt.lt hv.2
        refine (hv.1.call (fun k e => e ▸ gl) (fun S hS => HOP.out v sb S hS)).mono ?_
        rintro e w' ⟨rfl, q1, q2⟩
        exact ⟨_, rfl, rfl, q1, SAt.block hv.2 (q2.2 gp gl rfl)⟩)
      go_wp2_with fail
      refine wp_region_steps4 (SL (fun v => SeSt w sb (fun k => k = gp) v σ2 ∧ SAt v gp 35 66 (paiV (pks 3) (pkr 3) (ploc 3) (pfar 3))) (fun v => SeSt w sb (fun k => k = gp) v σ3 ∧ SAt v gp 35 66 (paiV (pks 3) (pkr 3) (ploc 3) (pfar 3))) 10) (fun j x => x = ([.pointer (some ⟨sb, 0, none⟩), .int .i64 b, .int .i64 a, .int .i64 (b + a), .pointer (some ⟨gp, 0 + 64, none⟩), .int .u32 (ploc 3), .pointer (some ⟨gp, 0 + 32, none⟩), .agg (WA .u8 32 (pkr 3)), .agg (WA .u8 12 (nonN 7)), .string (boxT (pkr 3) (nonN 7) ⟨#[121]⟩ ByteArray.empty), .tuple #[.string ⟨#[121]⟩, .int .i64 1, .int .i64 0], .tuple #[.string ⟨#[121]⟩, .int .i64 1, .int .i64 0], .string ⟨#[121]⟩, .int .i64 1, .int .i64 0, .string ⟨#[121]⟩, .int .i64 1, .int .i64 0] : List Value).getD j undef)
          [54, 55, 56, 57, 58, 59, 60, 61, 62, 63, 64, 53, 65, 66, 67, 14, 15, 16]
          [(6, .pointer (some ⟨sb, 0, none⟩)), (7, .int .i64 b), (8, .int .i64 a), (9, .pointer (some ⟨gp, 0, none⟩))]
          [[], [], [], [1, 2], [], [4], [], [6], [], [7, 8], [0, 3, 5, 9], [10], [11], [11], [11], [12], [13], [14]]
          [[], [], [], [], [], [], [], [], [], [7, 8], [5, 7, 8, 9], [5, 7, 8, 9, 10], [5, 7, 8, 9, 10], [5, 7, 8, 9, 10], [5, 7, 8, 9, 10], [5, 7, 8, 9, 10], [5, 7, 8, 9, 10], [5, 7, 8, 9, 10]]
          [[], [], [], [], [], [10], [], [10], [10], [10], [], [], [], [], [], [], [], []]
          rfl (by kernel_rfl) ⟨rfl, rfl, rfl, rfl, trivial⟩ (sl_start ⟨h2.below (below_drew _), SAt.kept g2 (below_drew _)⟩)
          ⟨
            (fun Q L aq ww hS hun hq hd fr kn => ⟨trivial, fun K hK => wp_value (exec_move rfl fr.1) (hK _ _ rfl (sl_same (by decide) hS))⟩),
            (fun Q L aq ww hS hun hq hd fr kn => ⟨trivial, fun K hK => wp_value (exec_move rfl fr.2.1) (hK _ _ rfl (sl_same (by decide) hS))⟩),
            (fun Q L aq ww hS hun hq hd fr kn => ⟨trivial, fun K hK => wp_value (exec_move rfl fr.2.2.1) (hK _ _ rfl (sl_same (by decide) hS))⟩),
            (fun Q L aq ww hS hun hq hd fr kn => ⟨trivial, fun K hK => wp_value (exec_addI rfl kn.1 kn.2.1 (by omega) (by omega)) (hK _ _ rfl (sl_same (by decide) hS))⟩),
            (fun Q L aq ww hS hun hq hd fr kn => ⟨trivial, fun K hK => wp_value (exec_fpa (k := 2) rfl fr.2.2.2.1 (by decide)) (hK _ _ rfl (sl_same (by decide) hS))⟩),
            (fun Q L aq ww hS hun hq hd fr kn => ⟨trivial, fun K hK => wp_value (exec_ld rfl kn.1 (ld_u32 (pai_l (sl_a hS hd.1).2))) (hK _ _ rfl (sl_same (by decide) hS))⟩),
            (fun Q L aq ww hS hun hq hd fr kn => ⟨trivial, fun K hK => wp_value (exec_fpa (k := 1) rfl fr.2.2.2.1 (by decide)) (hK _ _ rfl (sl_same (by decide) hS))⟩),
            (fun Q L aq ww hS hun hq hd fr kn => ⟨trivial, fun K hK => wp_value (exec_ldmid rfl isArr32 kn.1 (pai_r (sl_a hS hd.1).2)) (hK _ _ rfl (sl_same (by decide) hS))⟩),
            (fun Q L aq ww hS hun hq hd fr kn => ⟨trivial, fun K hK => stepc enterRNonce9 rfl (args1 rfl) (rNonce_run 7 ww (by omega)) (fun w' hb => hK _ _ rfl (sl_ahead (by decide) hd.1 (And.intro ((sl_a hS hd.1).1.below hb) (SAt.kept (sl_a hS hd.1).2 hb))))⟩),
            (fun Q L aq ww hS hun hq hd fr kn => ⟨trivial, fun K hK => stepc enterRSeal9 rfl (args4 kn.1 kn.2.1 rfl rfl) (rSeal_run (pkr 3) (nonN 7) ⟨#[121]⟩ ByteArray.empty ww (pkr_b 3) nonN_b (by decide) (by decide)) (fun w' hb => hK _ _ rfl (sl_ahead (by decide) hd.1 (And.intro ((sl_a hS hd.1).1.below hb) (SAt.kept (sl_a hS hd.1).2 hb))))⟩),
            (fun Q L aq ww hS hun hq hd fr kn => ⟨trivial, fun K hK => stepp enterOpenS9 rfl (args5 kn.1 kn.2.1 kn.2.2.1 rfl kn.2.2.2.1) (HO.out ww (sl_a hS hun)) (fun v w' hv => hK _ _ hv.1 (sl_done hv.2))⟩),
            (fun Q L aq ww hS hun hq hd fr kn => ⟨trivial, fun K hK => wp_value (exec_move rfl kn.1) (hK _ _ rfl (sl_same (by decide) hS))⟩),
            (fun Q L aq ww hS hun hq hd fr kn => ⟨trivial, fun K hK => wp_value (exec_ext rfl kn.1 rfl) (hK _ _ rfl (sl_same (by decide) hS))⟩),
            (fun Q L aq ww hS hun hq hd fr kn => ⟨trivial, fun K hK => wp_value (exec_ext rfl kn.1 rfl) (hK _ _ rfl (sl_same (by decide) hS))⟩),
            (fun Q L aq ww hS hun hq hd fr kn => ⟨trivial, fun K hK => wp_value (exec_ext rfl kn.1 rfl) (hK _ _ rfl (sl_same (by decide) hS))⟩),
            (fun Q L aq ww hS hun hq hd fr kn => ⟨trivial, fun K hK => wp_value (exec_assign rfl kn.1) (hK _ _ rfl (sl_same (by decide) hS))⟩),
            (fun Q L aq ww hS hun hq hd fr kn => ⟨trivial, fun K hK => wp_value (exec_assign rfl kn.1) (hK _ _ rfl (sl_same (by decide) hS))⟩),
            (fun Q L aq ww hS hun hq hd fr kn => ⟨trivial, fun K hK => wp_value (exec_assign rfl kn.1) (hK _ _ rfl (sl_same (by decide) hS))⟩),
            trivial⟩ ?_
      intro vs L u6 hS6 hL6 hk6
      obtain ⟨h6, g6⟩ := sl_b hS6 (hL6 10 (by decide))
      have e14 : vs 14 = .string ⟨#[121]⟩ := hk6 15 (by decide)
      have e15 : vs 15 = .int .i64 1 := hk6 16 (by decide)
      have e16 : vs 16 = .int .i64 0 := hk6 17 (by decide)
      clear hk6 hS6 hL6 HO h2 g2
      simp only [putAll, Act.put, List.setIfInBounds_toArray, List.set_cons_zero, List.set_cons_succ, e14, e15, e16]
      clear e14 e15 e16
      have gl6 := SAt.lt g6
      go_wp2_with fail
      refine (h6.call (fun k e => e ▸ gl6) (fun S hS => HEX.out u6 sb S hS)).mono ?_
      rintro e u4 ⟨⟨vo, rfl, hO⟩, h4, k4⟩
      have g4 : SAt u4 gp 35 66 (paiV (pks 3) (pkr 3) (ploc 3) (pfar 3)) := SAt.block g6 (k4.2 gp gl6 rfl)
      clear h6 g6 gl6 k4
      obtain ⟨hn1, p, cl, rfl, hp⟩ := own_u32 hO
      clear hn1
      clear hO
      clear hp g4
      go_wp2_with fail
      refine (h4.reads (fun S hS => HDE.out u4 sb S hS)).mono ?_
      rintro e u7 ⟨rfl, hB7⟩
      have hB4 := h4.bel
      clear h4
      go_wp2_with fail
      go_ret
      exact ⟨rfl, hB4.trans (hB7.mono hB4.size)⟩
  · rw [if_neg hbs] at hb
    by_cases has : am < 0
    · rw [if_pos has] at ha
      have HBB := Hid.mk hb
      have HAA := Hid.mk ha
      clear hb ha
      go_enter Try.func7, Try.ntmps7
      go_wp2_with fail
      refine (awake_run w).mono ?_
      rintro e v1 ⟨rfl, hA1⟩
      go_wp2_with fail
      refine (New_run9 v1).mono ?_
      rintro e v2 ⟨sb, rfl, hs2, hsb, hA2⟩
      have hN := SeSt.new hA1 hs2 hsb hA2
      clear hs2 hsb hA2 hA1
      go_wp2_with fail
      rw [← HBB.out, ← HAA.out]
      clear hbm ham HBB HAA hbs has hbr har hbl hal
      refine (pair_run 3 _).mono ?_
      rintro e u1 ⟨rfl, hB1⟩
      have h1 := hN.below hB1
      go_wp2_with (refine wl_al zeroPairV ?_; intro gp u2 hgp g2 hB2; refine Hid.out ?_)
      refine Hid.mk ?_
      have h2' := (h1.keep hgp hB2)
      have hgw : w.heap.size ≤ gp := Nat.le_trans h1.size hgp
      clear h1 hN hB1
      go_wp2_with (refine st_st isPair (paiV_one _ _ _ _) g2 (by rfl) (by rfl) ?_; intro u3 g3 o3; refine Hid.out ?_)
      refine Hid.mk ?_
      have h3 := st_only h2' o3 hgw
      have gl3 := SAt.lt g3
      clear h2' g2 hB2 o3 hgp
      go_wp2_with (refine wl_value rfl (look_st rfl isPair g3 (by rfl)) ?_)
      refine (h3.call (fun k e => by rcases e with e | e; exact e.elim; exact e ▸ gl3) (fun S hS => HPU.out u3 sb S hS)).mono ?_
      rintro e u4 ⟨rfl, h4, k4⟩
      have g4 : SAt u4 gp 35 66 (paiV (pks 3) (pkr 3) (ploc 3) (pfar 3)) := SAt.block g3 (k4.2 gp gl3 (.inr rfl))
      have gl4 := SAt.lt g4
      clear h3 g3 gl3 k4
      go_wp2_with fail
      refine (h4.call (fun k e => by rcases e with e | e; exact e.elim; exact e ▸ gl4) (fun S hS => HSE.out u4 sb S hS)).mono ?_
      rintro e u5 ⟨rfl, h5, k5⟩
      have g2 : SAt u5 gp 35 66 (paiV (pks 3) (pkr 3) (ploc 3) (pfar 3)) := SAt.block g4 (k5.2 gp gl4 (.inr rfl))
      have h2 : SeSt w sb (fun k => k = gp) u5 σ2 := st_sub h5 (fun k e => .inr e)
      clear h4 h5 g4 gl4 k5
      have HO : Hid (∀ v, (SeSt w sb (fun k => k = gp) v σ2 ∧ SAt v gp 35 66 (paiV (pks 3) (pkr 3) (ploc 3) (pfar 3))) → Calls Try.prog 15 #[.pointer (some ⟨sb, 0, none⟩), .int .i64 (b + a), .int .u32 (ploc 3), .int .u64 7, .string (boxT (pkr 3) (nonN 7) ⟨#[121]⟩ ByteArray.empty)] v fun e w' => ∃ x, e = .returned x ∧ x = .tuple #[.string ⟨#[121]⟩, .int .i64 1, .int .i64 0] ∧ (SeSt w sb (fun k => k = gp) w' σ3 ∧ SAt w' gp 35 66 (paiV (pks 3) (pkr 3) (ploc 3) (pfar 3)))) := Hid.mk (fun v hv => by
        have gl := SAt.lt hv.2
        refine (hv.1.call (fun k e => e ▸ gl) (fun S hS => HOP.out v sb S hS)).mono ?_
        rintro e w' ⟨rfl, q1, q2⟩
        exact ⟨_, rfl, rfl, q1, SAt.block hv.2 (q2.2 gp gl rfl)⟩)
      go_wp2_with fail
      refine wp_region_steps4 (SL (fun v => SeSt w sb (fun k => k = gp) v σ2 ∧ SAt v gp 35 66 (paiV (pks 3) (pkr 3) (ploc 3) (pfar 3))) (fun v => SeSt w sb (fun k => k = gp) v σ3 ∧ SAt v gp 35 66 (paiV (pks 3) (pkr 3) (ploc 3) (pfar 3))) 10) (fun j x => x = ([.pointer (some ⟨sb, 0, none⟩), .int .i64 b, .int .i64 a, .int .i64 (b + a), .pointer (some ⟨gp, 0 + 64, none⟩), .int .u32 (ploc 3), .pointer (some ⟨gp, 0 + 32, none⟩), .agg (WA .u8 32 (pkr 3)), .agg (WA .u8 12 (nonN 7)), .string (boxT (pkr 3) (nonN 7) ⟨#[121]⟩ ByteArray.empty), .tuple #[.string ⟨#[121]⟩, .int .i64 1, .int .i64 0], .tuple #[.string ⟨#[121]⟩, .int .i64 1, .int .i64 0], .string ⟨#[121]⟩, .int .i64 1, .int .i64 0, .string ⟨#[121]⟩, .int .i64 1, .int .i64 0] : List Value).getD j undef)
          [54, 55, 56, 57, 58, 59, 60, 61, 62, 63, 64, 53, 65, 66, 67, 14, 15, 16]
          [(6, .pointer (some ⟨sb, 0, none⟩)), (7, .int .i64 b), (8, .int .i64 a), (9, .pointer (some ⟨gp, 0, none⟩))]
          [[], [], [], [1, 2], [], [4], [], [6], [], [7, 8], [0, 3, 5, 9], [10], [11], [11], [11], [12], [13], [14]]
          [[], [], [], [], [], [], [], [], [], [7, 8], [5, 7, 8, 9], [5, 7, 8, 9, 10], [5, 7, 8, 9, 10], [5, 7, 8, 9, 10], [5, 7, 8, 9, 10], [5, 7, 8, 9, 10], [5, 7, 8, 9, 10], [5, 7, 8, 9, 10]]
          [[], [], [], [], [], [10], [], [10], [10], [10], [], [], [], [], [], [], [], []]
          rfl (by kernel_rfl) ⟨rfl, rfl, rfl, rfl, trivial⟩ (sl_start ⟨h2.below (below_drew _), SAt.kept g2 (below_drew _)⟩)
          ⟨
            (fun Q L aq ww hS hun hq hd fr kn => ⟨trivial, fun K hK => wp_value (exec_move rfl fr.1) (hK _ _ rfl (sl_same (by decide) hS))⟩),
            (fun Q L aq ww hS hun hq hd fr kn => ⟨trivial, fun K hK => wp_value (exec_move rfl fr.2.1) (hK _ _ rfl (sl_same (by decide) hS))⟩),
            (fun Q L aq ww hS hun hq hd fr kn => ⟨trivial, fun K hK => wp_value (exec_move rfl fr.2.2.1) (hK _ _ rfl (sl_same (by decide) hS))⟩),
            (fun Q L aq ww hS hun hq hd fr kn => ⟨trivial, fun K hK => wp_value (exec_addI rfl kn.1 kn.2.1 (by omega) (by omega)) (hK _ _ rfl (sl_same (by decide) hS))⟩),
            (fun Q L aq ww hS hun hq hd fr kn => ⟨trivial, fun K hK => wp_value (exec_fpa (k := 2) rfl fr.2.2.2.1 (by decide)) (hK _ _ rfl (sl_same (by decide) hS))⟩),
            (fun Q L aq ww hS hun hq hd fr kn => ⟨trivial, fun K hK => wp_value (exec_ld rfl kn.1 (ld_u32 (pai_l (sl_a hS hd.1).2))) (hK _ _ rfl (sl_same (by decide) hS))⟩),
            (fun Q L aq ww hS hun hq hd fr kn => ⟨trivial, fun K hK => wp_value (exec_fpa (k := 1) rfl fr.2.2.2.1 (by decide)) (hK _ _ rfl (sl_same (by decide) hS))⟩),
            (fun Q L aq ww hS hun hq hd fr kn => ⟨trivial, fun K hK => wp_value (exec_ldmid rfl isArr32 kn.1 (pai_r (sl_a hS hd.1).2)) (hK _ _ rfl (sl_same (by decide) hS))⟩),
            (fun Q L aq ww hS hun hq hd fr kn => ⟨trivial, fun K hK => stepc enterRNonce9 rfl (args1 rfl) (rNonce_run 7 ww (by omega)) (fun w' hb => hK _ _ rfl (sl_ahead (by decide) hd.1 (And.intro ((sl_a hS hd.1).1.below hb) (SAt.kept (sl_a hS hd.1).2 hb))))⟩),
            (fun Q L aq ww hS hun hq hd fr kn => ⟨trivial, fun K hK => stepc enterRSeal9 rfl (args4 kn.1 kn.2.1 rfl rfl) (rSeal_run (pkr 3) (nonN 7) ⟨#[121]⟩ ByteArray.empty ww (pkr_b 3) nonN_b (by decide) (by decide)) (fun w' hb => hK _ _ rfl (sl_ahead (by decide) hd.1 (And.intro ((sl_a hS hd.1).1.below hb) (SAt.kept (sl_a hS hd.1).2 hb))))⟩),
            (fun Q L aq ww hS hun hq hd fr kn => ⟨trivial, fun K hK => stepp enterOpenS9 rfl (args5 kn.1 kn.2.1 kn.2.2.1 rfl kn.2.2.2.1) (HO.out ww (sl_a hS hun)) (fun v w' hv => hK _ _ hv.1 (sl_done hv.2))⟩),
            (fun Q L aq ww hS hun hq hd fr kn => ⟨trivial, fun K hK => wp_value (exec_move rfl kn.1) (hK _ _ rfl (sl_same (by decide) hS))⟩),
            (fun Q L aq ww hS hun hq hd fr kn => ⟨trivial, fun K hK => wp_value (exec_ext rfl kn.1 rfl) (hK _ _ rfl (sl_same (by decide) hS))⟩),
            (fun Q L aq ww hS hun hq hd fr kn => ⟨trivial, fun K hK => wp_value (exec_ext rfl kn.1 rfl) (hK _ _ rfl (sl_same (by decide) hS))⟩),
            (fun Q L aq ww hS hun hq hd fr kn => ⟨trivial, fun K hK => wp_value (exec_ext rfl kn.1 rfl) (hK _ _ rfl (sl_same (by decide) hS))⟩),
            (fun Q L aq ww hS hun hq hd fr kn => ⟨trivial, fun K hK => wp_value (exec_assign rfl kn.1) (hK _ _ rfl (sl_same (by decide) hS))⟩),
            (fun Q L aq ww hS hun hq hd fr kn => ⟨trivial, fun K hK => wp_value (exec_assign rfl kn.1) (hK _ _ rfl (sl_same (by decide) hS))⟩),
            (fun Q L aq ww hS hun hq hd fr kn => ⟨trivial, fun K hK => wp_value (exec_assign rfl kn.1) (hK _ _ rfl (sl_same (by decide) hS))⟩),
            trivial⟩ ?_
      intro vs L u6 hS6 hL6 hk6
      obtain ⟨h6, g6⟩ := sl_b hS6 (hL6 10 (by decide))
      have e14 : vs 14 = .string ⟨#[121]⟩ := hk6 15 (by decide)
      have e15 : vs 15 = .int .i64 1 := hk6 16 (by decide)
      have e16 : vs 16 = .int .i64 0 := hk6 17 (by decide)
      clear hk6 hS6 hL6 HO h2 g2
      simp only [putAll, Act.put, List.setIfInBounds_toArray, List.set_cons_zero, List.set_cons_succ, e14, e15, e16]
      clear e14 e15 e16
      have gl6 := SAt.lt g6
      go_wp2_with fail
      refine (h6.call (fun k e => e ▸ gl6) (fun S hS => HEX.out u6 sb S hS)).mono ?_
      rintro e u4 ⟨⟨vo, rfl, hO⟩, h4, k4⟩
      have g4 : SAt u4 gp 35 66 (paiV (pks 3) (pkr 3) (ploc 3) (pfar 3)) := SAt.block g6 (k4.2 gp gl6 rfl)
      clear h6 g6 gl6 k4
      obtain ⟨hn1, p, cl, rfl, hp⟩ := own_u32 hO
      clear hn1
      clear hO
      clear hp g4
      go_wp2_with fail
      refine (h4.reads (fun S hS => HDE.out u4 sb S hS)).mono ?_
      rintro e u7 ⟨rfl, hB7⟩
      have hB4 := h4.bel
      clear h4
      go_wp2_with fail
      go_ret
      exact ⟨rfl, hB4.trans (hB7.mono hB4.size)⟩
    · rw [if_neg has] at ha
      have HBB := Hid.mk hb
      have HAA := Hid.mk ha
      clear hb ha
      go_enter Try.func7, Try.ntmps7
      go_wp2_with fail
      refine (awake_run w).mono ?_
      rintro e v1 ⟨rfl, hA1⟩
      go_wp2_with fail
      refine (New_run9 v1).mono ?_
      rintro e v2 ⟨sb, rfl, hs2, hsb, hA2⟩
      have hN := SeSt.new hA1 hs2 hsb hA2
      clear hs2 hsb hA2 hA1
      go_wp2_with fail
      rw [← HBB.out, ← HAA.out]
      clear hbm ham HBB HAA hbs has hbr har hbl hal
      refine (pair_run 3 _).mono ?_
      rintro e u1 ⟨rfl, hB1⟩
      have h1 := hN.below hB1
      go_wp2_with (refine wl_al zeroPairV ?_; intro gp u2 hgp g2 hB2; refine Hid.out ?_)
      refine Hid.mk ?_
      have h2' := (h1.keep hgp hB2)
      have hgw : w.heap.size ≤ gp := Nat.le_trans h1.size hgp
      clear h1 hN hB1
      go_wp2_with (refine st_st isPair (paiV_one _ _ _ _) g2 (by rfl) (by rfl) ?_; intro u3 g3 o3; refine Hid.out ?_)
      refine Hid.mk ?_
      have h3 := st_only h2' o3 hgw
      have gl3 := SAt.lt g3
      clear h2' g2 hB2 o3 hgp
      go_wp2_with (refine wl_value rfl (look_st rfl isPair g3 (by rfl)) ?_)
      refine (h3.call (fun k e => by rcases e with e | e; exact e.elim; exact e ▸ gl3) (fun S hS => HPU.out u3 sb S hS)).mono ?_
      rintro e u4 ⟨rfl, h4, k4⟩
      have g4 : SAt u4 gp 35 66 (paiV (pks 3) (pkr 3) (ploc 3) (pfar 3)) := SAt.block g3 (k4.2 gp gl3 (.inr rfl))
      have gl4 := SAt.lt g4
      clear h3 g3 gl3 k4
      go_wp2_with fail
      refine (h4.call (fun k e => by rcases e with e | e; exact e.elim; exact e ▸ gl4) (fun S hS => HSE.out u4 sb S hS)).mono ?_
      rintro e u5 ⟨rfl, h5, k5⟩
      have g2 : SAt u5 gp 35 66 (paiV (pks 3) (pkr 3) (ploc 3) (pfar 3)) := SAt.block g4 (k5.2 gp gl4 (.inr rfl))
      have h2 : SeSt w sb (fun k => k = gp) u5 σ2 := st_sub h5 (fun k e => .inr e)
      clear h4 h5 g4 gl4 k5
      have HO : Hid (∀ v, (SeSt w sb (fun k => k = gp) v σ2 ∧ SAt v gp 35 66 (paiV (pks 3) (pkr 3) (ploc 3) (pfar 3))) → Calls Try.prog 15 #[.pointer (some ⟨sb, 0, none⟩), .int .i64 (b + a), .int .u32 (ploc 3), .int .u64 7, .string (boxT (pkr 3) (nonN 7) ⟨#[121]⟩ ByteArray.empty)] v fun e w' => ∃ x, e = .returned x ∧ x = .tuple #[.string ⟨#[121]⟩, .int .i64 1, .int .i64 0] ∧ (SeSt w sb (fun k => k = gp) w' σ3 ∧ SAt w' gp 35 66 (paiV (pks 3) (pkr 3) (ploc 3) (pfar 3)))) := Hid.mk (fun v hv => by
        have gl := SAt.lt hv.2
        refine (hv.1.call (fun k e => e ▸ gl) (fun S hS => HOP.out v sb S hS)).mono ?_
        rintro e w' ⟨rfl, q1, q2⟩
        exact ⟨_, rfl, rfl, q1, SAt.block hv.2 (q2.2 gp gl rfl)⟩)
      go_wp2_with fail
      refine wp_region_steps4 (SL (fun v => SeSt w sb (fun k => k = gp) v σ2 ∧ SAt v gp 35 66 (paiV (pks 3) (pkr 3) (ploc 3) (pfar 3))) (fun v => SeSt w sb (fun k => k = gp) v σ3 ∧ SAt v gp 35 66 (paiV (pks 3) (pkr 3) (ploc 3) (pfar 3))) 10) (fun j x => x = ([.pointer (some ⟨sb, 0, none⟩), .int .i64 b, .int .i64 a, .int .i64 (b + a), .pointer (some ⟨gp, 0 + 64, none⟩), .int .u32 (ploc 3), .pointer (some ⟨gp, 0 + 32, none⟩), .agg (WA .u8 32 (pkr 3)), .agg (WA .u8 12 (nonN 7)), .string (boxT (pkr 3) (nonN 7) ⟨#[121]⟩ ByteArray.empty), .tuple #[.string ⟨#[121]⟩, .int .i64 1, .int .i64 0], .tuple #[.string ⟨#[121]⟩, .int .i64 1, .int .i64 0], .string ⟨#[121]⟩, .int .i64 1, .int .i64 0, .string ⟨#[121]⟩, .int .i64 1, .int .i64 0] : List Value).getD j undef)
          [54, 55, 56, 57, 58, 59, 60, 61, 62, 63, 64, 53, 65, 66, 67, 14, 15, 16]
          [(6, .pointer (some ⟨sb, 0, none⟩)), (7, .int .i64 b), (8, .int .i64 a), (9, .pointer (some ⟨gp, 0, none⟩))]
          [[], [], [], [1, 2], [], [4], [], [6], [], [7, 8], [0, 3, 5, 9], [10], [11], [11], [11], [12], [13], [14]]
          [[], [], [], [], [], [], [], [], [], [7, 8], [5, 7, 8, 9], [5, 7, 8, 9, 10], [5, 7, 8, 9, 10], [5, 7, 8, 9, 10], [5, 7, 8, 9, 10], [5, 7, 8, 9, 10], [5, 7, 8, 9, 10], [5, 7, 8, 9, 10]]
          [[], [], [], [], [], [10], [], [10], [10], [10], [], [], [], [], [], [], [], []]
          rfl (by kernel_rfl) ⟨rfl, rfl, rfl, rfl, trivial⟩ (sl_start ⟨h2.below (below_drew _), SAt.kept g2 (below_drew _)⟩)
          ⟨
            (fun Q L aq ww hS hun hq hd fr kn => ⟨trivial, fun K hK => wp_value (exec_move rfl fr.1) (hK _ _ rfl (sl_same (by decide) hS))⟩),
            (fun Q L aq ww hS hun hq hd fr kn => ⟨trivial, fun K hK => wp_value (exec_move rfl fr.2.1) (hK _ _ rfl (sl_same (by decide) hS))⟩),
            (fun Q L aq ww hS hun hq hd fr kn => ⟨trivial, fun K hK => wp_value (exec_move rfl fr.2.2.1) (hK _ _ rfl (sl_same (by decide) hS))⟩),
            (fun Q L aq ww hS hun hq hd fr kn => ⟨trivial, fun K hK => wp_value (exec_addI rfl kn.1 kn.2.1 (by omega) (by omega)) (hK _ _ rfl (sl_same (by decide) hS))⟩),
            (fun Q L aq ww hS hun hq hd fr kn => ⟨trivial, fun K hK => wp_value (exec_fpa (k := 2) rfl fr.2.2.2.1 (by decide)) (hK _ _ rfl (sl_same (by decide) hS))⟩),
            (fun Q L aq ww hS hun hq hd fr kn => ⟨trivial, fun K hK => wp_value (exec_ld rfl kn.1 (ld_u32 (pai_l (sl_a hS hd.1).2))) (hK _ _ rfl (sl_same (by decide) hS))⟩),
            (fun Q L aq ww hS hun hq hd fr kn => ⟨trivial, fun K hK => wp_value (exec_fpa (k := 1) rfl fr.2.2.2.1 (by decide)) (hK _ _ rfl (sl_same (by decide) hS))⟩),
            (fun Q L aq ww hS hun hq hd fr kn => ⟨trivial, fun K hK => wp_value (exec_ldmid rfl isArr32 kn.1 (pai_r (sl_a hS hd.1).2)) (hK _ _ rfl (sl_same (by decide) hS))⟩),
            (fun Q L aq ww hS hun hq hd fr kn => ⟨trivial, fun K hK => stepc enterRNonce9 rfl (args1 rfl) (rNonce_run 7 ww (by omega)) (fun w' hb => hK _ _ rfl (sl_ahead (by decide) hd.1 (And.intro ((sl_a hS hd.1).1.below hb) (SAt.kept (sl_a hS hd.1).2 hb))))⟩),
            (fun Q L aq ww hS hun hq hd fr kn => ⟨trivial, fun K hK => stepc enterRSeal9 rfl (args4 kn.1 kn.2.1 rfl rfl) (rSeal_run (pkr 3) (nonN 7) ⟨#[121]⟩ ByteArray.empty ww (pkr_b 3) nonN_b (by decide) (by decide)) (fun w' hb => hK _ _ rfl (sl_ahead (by decide) hd.1 (And.intro ((sl_a hS hd.1).1.below hb) (SAt.kept (sl_a hS hd.1).2 hb))))⟩),
            (fun Q L aq ww hS hun hq hd fr kn => ⟨trivial, fun K hK => stepp enterOpenS9 rfl (args5 kn.1 kn.2.1 kn.2.2.1 rfl kn.2.2.2.1) (HO.out ww (sl_a hS hun)) (fun v w' hv => hK _ _ hv.1 (sl_done hv.2))⟩),
            (fun Q L aq ww hS hun hq hd fr kn => ⟨trivial, fun K hK => wp_value (exec_move rfl kn.1) (hK _ _ rfl (sl_same (by decide) hS))⟩),
            (fun Q L aq ww hS hun hq hd fr kn => ⟨trivial, fun K hK => wp_value (exec_ext rfl kn.1 rfl) (hK _ _ rfl (sl_same (by decide) hS))⟩),
            (fun Q L aq ww hS hun hq hd fr kn => ⟨trivial, fun K hK => wp_value (exec_ext rfl kn.1 rfl) (hK _ _ rfl (sl_same (by decide) hS))⟩),
            (fun Q L aq ww hS hun hq hd fr kn => ⟨trivial, fun K hK => wp_value (exec_ext rfl kn.1 rfl) (hK _ _ rfl (sl_same (by decide) hS))⟩),
            (fun Q L aq ww hS hun hq hd fr kn => ⟨trivial, fun K hK => wp_value (exec_assign rfl kn.1) (hK _ _ rfl (sl_same (by decide) hS))⟩),
            (fun Q L aq ww hS hun hq hd fr kn => ⟨trivial, fun K hK => wp_value (exec_assign rfl kn.1) (hK _ _ rfl (sl_same (by decide) hS))⟩),
            (fun Q L aq ww hS hun hq hd fr kn => ⟨trivial, fun K hK => wp_value (exec_assign rfl kn.1) (hK _ _ rfl (sl_same (by decide) hS))⟩),
            trivial⟩ ?_
      intro vs L u6 hS6 hL6 hk6
      obtain ⟨h6, g6⟩ := sl_b hS6 (hL6 10 (by decide))
      have e14 : vs 14 = .string ⟨#[121]⟩ := hk6 15 (by decide)
      have e15 : vs 15 = .int .i64 1 := hk6 16 (by decide)
      have e16 : vs 16 = .int .i64 0 := hk6 17 (by decide)
      clear hk6 hS6 hL6 HO h2 g2
      simp only [putAll, Act.put, List.setIfInBounds_toArray, List.set_cons_zero, List.set_cons_succ, e14, e15, e16]
      clear e14 e15 e16
      have gl6 := SAt.lt g6
      go_wp2_with fail
      refine (h6.call (fun k e => e ▸ gl6) (fun S hS => HEX.out u6 sb S hS)).mono ?_
      rintro e u4 ⟨⟨vo, rfl, hO⟩, h4, k4⟩
      have g4 : SAt u4 gp 35 66 (paiV (pks 3) (pkr 3) (ploc 3) (pfar 3)) := SAt.block g6 (k4.2 gp gl6 rfl)
      clear h6 g6 gl6 k4
      obtain ⟨hn1, p, cl, rfl, hp⟩ := own_u32 hO
      clear hn1
      clear hO
      clear hp g4
      go_wp2_with fail
      refine (h4.reads (fun S hS => HDE.out u4 sb S hS)).mono ?_
      rintro e u7 ⟨rfl, hB7⟩
      have hB4 := h4.bel
      clear h4
      go_wp2_with fail
      go_ret
      exact ⟨rfl, hB4.trans (hB7.mono hB4.size)⟩
end Go.Proofs.Ytbkbcfimpaolmaa
