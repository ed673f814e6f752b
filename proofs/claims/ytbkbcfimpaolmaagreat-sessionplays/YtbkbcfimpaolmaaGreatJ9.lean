/-
  Own text. The document's session: Put.
-/
import Derived.Test.YtbkbcfimpaolmaaGreatJ8
namespace Go.Proofs.YtbkbcfimpaolmaaGreat
open Go.RowKit Go.Proofs
set_option maxRecDepth 100000
theorem keep_set {R : Nat → Kp × Option Nat} (i : Nat) : keepG rep R i = if (R i).1.ep ≠ 0 then setG R 0 (R i) else R := by
  funext j
  unfold keepG setG rep
  by_cases e : (R i).1.ep ≠ 0
  · rw [if_pos e]
    by_cases j0 : j = 0
    · rw [if_pos ⟨j0, e⟩, if_pos j0]
    · rw [if_neg (fun h => j0 h.1), if_neg j0]
  · rw [if_neg e, if_neg (fun h => e h.2)]
theorem set_set {R : Nat → Kp × Option Nat} (i : Nat) (x y : Kp × Option Nat) : setG (setG R i x) i y = setG R i y := by
  funext j
  unfold setG
  split <;> rfl
theorem place_true {R : Nat → Kp × Option Nat} {r : Kp × Option Nat} : placeG rep R r rz true = setG (setG (if (R 2).1.ep ≠ 0 then setG R 0 (R 2) else if (R 1).1.ep ≠ 0 then setG R 0 (R 1) else R) 1 r) 2 rz := by
  have e2 : keepG rep R 1 2 = R 2 := by unfold keepG; rw [if_neg (by omega)]
  unfold placeG
  rw [if_pos rfl, keep_set 2, e2, keep_set 1]
  by_cases h2 : (R 2).1.ep ≠ 0
  · rw [if_pos h2, if_pos h2]
    by_cases h1 : (R 1).1.ep ≠ 0
    · rw [if_pos h1, set_set]
    · rw [if_neg h1]
  · rw [if_neg h2, if_neg h2]
theorem place_false {R : Nat → Kp × Option Nat} {r : Kp × Option Nat} : placeG rep R r rz false = setG R 2 r := by unfold placeG; rw [if_neg (by simp)]
theorem winR_apart {w : World} {g gx n m : Nat} {sz : Int} {s : Nat → Int} {S : Nat → Prop} {V : Nat → Value} (h : WinR w g sz n s S) (hx : SAt w gx 34 m V) : ¬ S gx := by
  obtain ⟨B, v, h1, h2, h3, rfl⟩ := h
  rintro (rfl | hk)
  · have e := h1.blk.symm.trans hx
    injection e with e
    injection e with e1 e2 e3
    exact absurd e2 (by decide)
  · rcases h1.row.2 with ⟨rfl, _⟩ | ⟨g', cap, cur, rfl, hb, hg, _⟩
    · cases hk
    · simp [Value.ownBlock] at hk
      subst hk
      have e := hg.symm.trans hx
      injection e with e
      injection e with e1 e2 e3
      exact absurd e2 (by decide)
theorem NewR.below {B g : Nat} {w w' : World} (h : NewR B g w) (hb : Below w.heap.size w w') : NewR B g w' := by
  obtain ⟨S, h1, h2⟩ := h
  exact ⟨S, winR_below h1 hb, h2⟩
def winC : Array Value := #[.int .i64 8192, .int .u64 18446744073709551615, .slice none 0 0]
theorem run_winC (w : World) : (Instr.build 80 #[(0, .int .i64 8192), (1, .int .u64 18446744073709551615)]).run Tryz.prog w = .ok (.agg winC) w := by kernel_rfl
theorem exec_winC {a : Act} {o : Oper} {w : World} (ho : o.op = .build 80 #[(0, .const (.int .i64 8192)), (1, .const (.int .u64 18446744073709551615))]) : (execOp a.eval o).run Tryz.prog w = .ok (.value (.agg winC)) w := by
  have h := run_winC w
  unfold execOp
  simp only [ho, List.map_toArray, List.map_cons, List.map_nil, Act.eval, Sem.run_bind, h, Result.andThen_ok, Sem.run_pure]
theorem newR_alloc {w : World} {B : Nat} (hB : B ≤ w.heap.size) : NewR B w.heap.size (w.alloc (.cells winC 80)) := by
  refine ⟨_, ⟨w.heap.size + 1, .slice none 0 0, ⟨heap_alloc_new w _, World.ownsRow_nil _ _ _ 1⟩, by omega, by simp, rfl⟩, ?_⟩
  rintro k (rfl | hk)
  · exact hB
  · cases hk
theorem act_winB {o : Oper} {a : Act} {w : World} {K : Act → World → Prop} {Q : Exit → Act → World → Prop} {x : Operand} {B : Nat} (ho : o.op = .box 80 x) (hx : a.eval x = .agg winC) (hB : B ≤ w.heap.size)
    (h : ∀ g w', NewR B g w' → Below w.heap.size w w' → K (a.put o.dst (.pointer (some ⟨g, 0, none⟩))) w') : o.wp Tryz.prog a w K Q := by
  unfold Oper.wp execOp
  simp only [ho, hx]
  simp [go_sem]
  exact h _ _ (newR_alloc hB) ((Below.refl _ _).alloc (Nat.le_refl _) _)
theorem run_dlB (ks kr : Nat → Int) (loc far ep born : Int) (f : Bool) (g : Nat) (w : World) (he : ep ≠ 0) : (Instr.build 34 #[(0, .bool true), (1, .agg (SC 66 (paiV ks kr loc far))), (2, .int .i64 ep), (3, .bool f), (4, .int .i64 born), (6, .pointer (some ⟨g, 0, none⟩))]).run Tryz.prog w = .ok (.agg (SC 72 (dlR (kpNew ks kr loc far ep born f, some g)))) w := by
  have hd : (!decide (ep = 0)) = true := by simp [he]
  have h : ∀ d : Bool, (Instr.build 34 #[(0, .bool d), (1, .agg (SC 66 (paiV ks kr loc far))), (2, .int .i64 ep), (3, .bool f), (4, .int .i64 born), (6, .pointer (some ⟨g, 0, none⟩))]).run Tryz.prog w = .ok (.agg (SC 72 (fun j => if j < 1 then .bool d else slR (kpNew ks kr loc far ep born f, some g) (j - 1)))) w := fun d => by kernel_rfl
  have h1 := h (!decide (ep = 0))
  rw [hd] at h1
  rw [h1]
  have e : dlR (kpNew ks kr loc far ep born f, some g) = (fun j => if j < 1 then .bool true else slR (kpNew ks kr loc far ep born f, some g) (j - 1)) := by
    funext j
    unfold dlR
    show (if j < 1 then Value.bool (!decide (ep = 0)) else _) = _
    rw [hd]
  rw [e]
theorem exec_dlB {a : Act} {o : Oper} {w : World} {x0 x1 x2 x3 x4 x6 : Operand} (ho : o.op = .build 34 #[(0, x0), (1, x1), (2, x2), (3, x3), (4, x4), (6, x6)]) {ks kr : Nat → Int} {loc far ep born : Int} {f : Bool} {g : Nat} (h0 : a.eval x0 = .bool true) (h1 : a.eval x1 = .agg (SC 66 (paiV ks kr loc far))) (h2 : a.eval x2 = .int .i64 ep) (h3 : a.eval x3 = .bool f) (h4 : a.eval x4 = .int .i64 born) (h6 : a.eval x6 = .pointer (some ⟨g, 0, none⟩)) (he : ep ≠ 0) : (execOp a.eval o).run Tryz.prog w = .ok (.value (.agg (SC 72 (dlR (kpNew ks kr loc far ep born f, some g))))) w := by
  have h := run_dlB ks kr loc far ep born f g w he
  unfold execOp
  simp only [ho, List.map_toArray, List.map_cons, List.map_nil, h0, h1, h2, h3, h4, h6, Sem.run_bind, h, Result.andThen_ok, Sem.run_pure]
theorem at_all {K : Nat → Kp} {x : Int} (h : ∀ j, j < 3 → hasL K x j = false) : atF K x = -1 := by
  unfold atF
  rw [h 0 (by omega), h 1 (by omega), h 2 (by omega)]
  rfl
theorem at_some {K : Nat → Kp} {x : Int} {j : Nat} (hj : j < 3) (h : hasL K x j = true) : atF K x ≠ -1 := by
  unfold atF
  match j, hj with
  | 0, _ => rw [if_pos h]; decide
  | 1, _ => (repeat' split) <;> first | decide | contradiction
  | 2, _ => (repeat' split) <;> first | decide | contradiction
set_option maxHeartbeats 16000000 in
theorem rPut_run {w : World} {b : Nat} {σ : Ses} {S : Nat → Prop} (now : Int) (ks kr : Nat → Int) (loc far : Int) (first : Bool) (h : SesD w b σ S) (hc0 : 0 ≤ σ.c) (hc1 : σ.c ≤ 1000) :
    Calls Tryz.prog 12 #[.pointer (some ⟨b, 0, none⟩), .int .i64 now, .agg (SC 66 (paiV ks kr loc far)), .bool first] w fun e w' => e = .returned (.tuple #[.int .i64 (putR σ loc).1, .int .i64 (putR σ loc).2]) ∧ Goes SesD w b S (putS σ now ks kr loc far first) w' := by
  obtain ⟨R, U, h, hW, hK, rfl⟩ := h
  obtain ⟨t, c, K⟩ := σ
  simp only at h hK hc0 hc1
  have hlt := h.lt
  have HNO : Hid (atF K loc ≠ -1 → putR ⟨t, c, K⟩ loc = (0, 24) ∧ putS ⟨t, c, K⟩ now ks kr loc far first = ⟨max t now, c, K⟩) := Hid.mk (fun hA => ⟨by unfold putR; rw [if_neg hA], putS_no hA⟩)
  have HYES : Hid (atF K loc = -1 → putR ⟨t, c, K⟩ loc = (c + 1, 0) ∧ putS ⟨t, c, K⟩ now ks kr loc far first = ⟨max t now, c + 1, placeG Kp.ep K (kpNew ks kr loc far (c + 1) (max t now) first) kp0 first⟩) := Hid.mk (fun hA => ⟨by unfold putR; rw [if_pos hA], putS_yes hA⟩)
  generalize putR ⟨t, c, K⟩ loc = pr at *
  generalize putS ⟨t, c, K⟩ now ks kr loc far first = σ' at *
  go_enter Tryz.func12, Tryz.ntmps12
  go_wp2_with (refine wl_boxG isPair (by rfl) ?_; intro gp u1 hgp g1 hB1; refine Hid.out ?_)
  refine Hid.mk ?_
  go_wp2_with fail
  refine (goes_run now (h.kept hB1)).mono ?_
  rintro e u2 ⟨rfl, h2, o2⟩
  have hgpb : gp ≠ b := by omega
  have g2 := g1.only o2 hgpb
  have hT2 : Touch (fun x => x = b) w u2 := touch_tr (touch_of_below hB1) (touch_only o2)
  clear g1 o2 hB1 h hgp
  have HKj : Hid (∀ j, K j = (R j).1) := Hid.mk (fun j => by rw [← hK])
  go_wp2_with fail
  go_loopg [10] (3 : Nat) (fun gm s10 v => ∃ k : Nat, gm = 3 - k ∧ k ≤ 3 ∧ s10 = .int .i64 (k : Int) ∧ Hid (∀ j, j < k → hasL K loc j = false) ∧ Below u2.heap.size u2 v)
  case atStart => exact ⟨0, rfl, by omega, rfl, Hid.mk (fun j hj => by omega), Below.refl _ _⟩
  case round =>
    obtain ⟨k, hgm, hk, rfl, HN, hB⟩ := hrel
    have h3 := h2.kept hB
    have g3 := SAt.kept g2 hB
    have hT3 : Touch (fun x => x = b) w wr := touch_tr hT2 (touch_of_below hB)
    by_cases hlt3 : k < 3
    · have hk0 : (0 : Int) ≤ (k : Int) := by omega
      have hk3 : (k : Int) < 3 := by omega
      have ct : wr.cell? ⟨b, 2 + k * 72, none⟩ = some (.bool (!decide ((R k).1.ep = 0))) := by have := h3.cell k 0 hlt3 (by omega); rw [show 2 + 72 * k + 0 = 2 + k * 72 by omega] at this; exact this
      have cl : wr.cell? ⟨b, 2 + k * 72 + 1 + 64, none⟩ = some (.int .u32 (R k).1.loc) := by have := h3.cell k 65 hlt3 (by omega); rw [show 2 + 72 * k + 65 = 2 + k * 72 + 1 + 64 by omega] at this; exact this
      have cp : wr.cell? ⟨gp, 64, none⟩ = some (.int .u32 loc) := pai_l g3
      have HH : Hid (hasL K loc k = (!decide ((R k).1.ep = 0) && decide ((R k).1.loc = loc))) := Hid.mk (by unfold hasL; rw [HKj.out k])
      by_cases he : (R k).1.ep = 0
      · have HF : Hid (∀ j, j < k + 1 → hasL K loc j = false) := Hid.mk (fun j hj => by
          by_cases e : j = k
          · subst e; rw [HH.out, he]; rfl
          · exact HN.out j (by omega))
        rw [show (!decide ((R k).1.ep = 0)) = false by rw [he]; rfl] at ct
        have hB2 := hB.drew
        clear h3 g3 hT3 HH he
        go_wp2_with fail
        go_region
        go_wp2_with fail
        go_roundg (3 - (k + 1))
        case rel => exact ⟨k + 1, rfl, by omega, by go_num, HF, hB2⟩
        case measure => omega
      · rw [show (!decide ((R k).1.ep = 0)) = true by simp [he]] at ct
        by_cases hl : (R k).1.loc = loc
        · have hA : atF K loc ≠ -1 := at_some hlt3 (by rw [HH.out]; simp [he, hl])
          have HE := Hid.mk (goes_tellD hK hW (h3.kept (w' := wr.drew) ((Below.refl _ _).drew)) hT3.drew)
          rw [hl] at cl
          clear h3 g3 hT3 HH
          go_wp2_with fail
          go_region
          go_wp2_with fail
          exact bodyPost_ret (res_tt rfl (by rfl) (by rfl)) rfl ⟨by rw [(HNO.out hA).1]; rfl, by rw [(HNO.out hA).2]; exact HE.out⟩
        · have HF : Hid (∀ j, j < k + 1 → hasL K loc j = false) := Hid.mk (fun j hj => by
            by_cases e : j = k
            · subst e; rw [HH.out]; simp [hl]
            · exact HN.out j (by omega))
          have hld : ((R k).1.loc == loc) = false := beq_eq_false_iff_ne.2 hl
          have hB2 := hB.drew
          clear h3 g3 hT3 HH he
          go_wp2_with fail
          go_region
          go_wp2_with fail
          go_roundg (3 - (k + 1))
          case rel => exact ⟨k + 1, rfl, by omega, by go_num, HF, hB2⟩
          case measure => omega
    · obtain rfl : k = 3 := by omega
      have hA : atF K loc = -1 := at_all HN.out
      clear HN HNO h2 g2 hT2 hB
      have c2 := h3.count
      have f2 : wr.frozen? ⟨b, 1, none⟩ = false := frozen_of_row wr b 1 _ _ h3
      have HT := Hid.mk (And.intro (h3.counts (c + 1)) ((Only.refl b wr).setCell 1 (.int .i64 (c + 1))))
      go_wp2_with fail
      refine wp_gen (fun u => SdAt u b R (max t now) (c + 1) ∧ Only b wr u) HT.out ?_
      rintro u4 ⟨h4, o4⟩
      clear c2 f2 HT h3
      have g4 := g3.only o4 hgpb
      have hT4 := touch_tr hT3 (touch_only o4)
      have hW4 := hW.tou hT4
      have hc9 : c + 1 ≠ 0 := by omega
      have HS : Hid (∀ v, Below u4.heap.size u4 v → SdAt v b R (max t now) (c + 1)) := Hid.mk (fun v hv => h4.kept hv)
      have HG : Hid (∀ v, Below u4.heap.size u4 v → SAt v gp 30 66 (paiV ks kr loc far)) := Hid.mk (fun v hv => SAt.kept g4 hv)
      have hlt4 := h4.lt
      clear g3 g4 o4 hT3
      refine wp_region_cut 14 rfl (by kernel_rfl) (any_steps (Below u4.heap.size u4) (fun v v' => Below v.heap.size v v') (fun i v v0 => match i with | 0 => v = .agg (SC 66 (paiV ks kr loc far)) | 1 => v = .pointer (some ⟨b, 0, none⟩) | 2 => v = .pointer (some ⟨b, 0, none⟩) | 3 => v = .pointer (some ⟨b, 1, none⟩) | 4 => v = .int .i64 (c + 1) | 5 => v = .bool first | 6 => v = .pointer (some ⟨b, 0, none⟩) | 7 => v = .pointer (some ⟨b, 0, none⟩) | 8 => v = .pointer (some ⟨b, 0, none⟩) | 9 => v = .int .i64 (max t now) | 10 => v = .agg winC | 11 => ∃ g, v = .pointer (some ⟨g, 0, none⟩) ∧ NewR u4.heap.size g v0 | 12 => ∃ g, v = .agg (SC 72 (dlR (kpNew ks kr loc far (c + 1) (max t now) first, some g))) ∧ NewR u4.heap.size g v0 | 13 => ∃ g, v = .pointer (some ⟨g, 0, none⟩) ∧ u4.heap.size ≤ g ∧ SAt v0 g 34 72 (dlR rz) | _ => True)
          [46, 47, 48, 49, 50, 51, 52, 53, 54, 55, 56, 57, 58, 11]
          [(0, .pointer (some ⟨b, 0, none⟩)), (6, .pointer (some ⟨gp, 0, none⟩)), (3, .bool first)]
          [[], [], [1], [2], [3], [], [], [6], [7], [8], [], [10], [0, 4, 5, 9, 11], []]
          (by kernel_rfl) ⟨rfl, rfl, rfl, trivial⟩ (Below.drew (Below.refl _ _)) (fun v v' h hb => h.trans (hb.mono h.size)) ?_
          ⟨
            (fun Q a1 ww hS fr kn => ⟨trivial, fun K hK => wp_value (look_st rfl isPair (HG.out ww hS) fr.2.1) (hK _ _ rfl (Below.refl _ _))⟩),
            (fun Q a1 ww hS fr kn => ⟨trivial, fun K hK => wp_value (exec_move rfl fr.1) (hK _ _ rfl (Below.refl _ _))⟩),
            (fun Q a1 ww hS fr kn => ⟨trivial, fun K hK => wp_value (exec_nilc rfl kn.1) (hK _ _ rfl (Below.refl _ _))⟩),
            (fun Q a1 ww hS fr kn => ⟨trivial, fun K hK => wp_value (exec_fds (k := 1) rfl kn.1 (by decide)) (hK _ _ rfl (Below.refl _ _))⟩),
            (fun Q a1 ww hS fr kn => ⟨trivial, fun K hK => wp_value (exec_ld rfl kn.1 (ld_int (HS.out ww hS).count)) (hK _ _ rfl (Below.refl _ _))⟩),
            (fun Q a1 ww hS fr kn => ⟨trivial, fun K hK => wp_value (exec_move rfl fr.2.2.1) (hK _ _ rfl (Below.refl _ _))⟩),
            (fun Q a1 ww hS fr kn => ⟨trivial, fun K hK => wp_value (exec_move rfl fr.1) (hK _ _ rfl (Below.refl _ _))⟩),
            (fun Q a1 ww hS fr kn => ⟨trivial, fun K hK => wp_value (exec_nilc rfl kn.1) (hK _ _ rfl (Below.refl _ _))⟩),
            (fun Q a1 ww hS fr kn => ⟨trivial, fun K hK => wp_value (exec_fds (k := 0) rfl kn.1 (by decide)) (hK _ _ rfl (Below.refl _ _))⟩),
            (fun Q a1 ww hS fr kn => ⟨trivial, fun K hK => wp_value (exec_ld rfl kn.1 (ld_int (HS.out ww hS).time)) (hK _ _ rfl (Below.refl _ _))⟩),
            (fun Q a1 ww hS fr kn => ⟨trivial, fun K hK => wp_value (exec_winC rfl) (hK _ _ rfl (Below.refl _ _))⟩),
            (fun Q a1 ww hS fr kn => ⟨trivial, fun K hK => act_winB rfl kn.1 hS.size (fun g' w' hn hb => hK _ _ ⟨g', rfl, hn⟩ hb)⟩),
            (fun Q a1 ww hS fr kn => ⟨trivial, fun K hK => (by obtain ⟨gw, ew, hn⟩ := kn.2.2.2.2.1; exact wp_value (exec_dlB rfl rfl kn.1 kn.2.1 kn.2.2.1 kn.2.2.2.1 ew hc9) (hK _ _ ⟨gw, rfl, hn⟩ (Below.refl _ _)))⟩),
            (fun Q a1 ww hS fr kn => ⟨trivial, fun K hK => act_alloc zeroDSlotV rfl (fun w' hb hg => hK _ _ ⟨_, rfl, Nat.le_trans hS.size (Nat.le_refl _), hg⟩ hb)⟩),
            trivial⟩ ?_)
      · intro i v u' u'' hh hb
        match i with
        | 0 | 1 | 2 | 3 | 4 | 5 | 6 | 7 | 8 | 9 | 10 => exact hh
        | 11 => obtain ⟨g, e, hn⟩ := hh; exact ⟨g, e, hn.below hb⟩
        | 12 => obtain ⟨g, e, hn⟩ := hh; exact ⟨g, e, hn.below hb⟩
        | 13 => obtain ⟨g, e, hz, hn⟩ := hh; exact ⟨g, e, hz, SAt.kept hn hb⟩
        | n + 14 => trivial
      intro vs u5 hS5 hk5
      obtain ⟨gw, e58, hn⟩ := hk5 12 (by decide)
      replace e58 : vs 58 = .agg (SC 72 (dlR (kpNew ks kr loc far (c + 1) (max t now) first, some gw))) := e58
      obtain ⟨gx, e11, hgx, g5⟩ := hk5 13 (by decide)
      replace e11 : vs 11 = .pointer (some ⟨gx, 0, none⟩) := e11
      clear hk5
      have h5 := HS.out u5 hS5
      obtain ⟨U', hW5, hS5'⟩ := hW4.push hlt4 hn hS5 (k0 := kpNew ks kr loc far (c + 1) (max t now) first) (by show c + 1 ≠ 0; omega) rfl rfl
      clear HS HG hn hW4
      generalize kpNew ks kr loc far (c + 1) (max t now) first = kn0 at *
      show wpList Tryz.prog _ _ (_ :: []) _ _
      simp only [putAll, Act.put, List.setIfInBounds_toArray, List.set_cons_zero, List.set_cons_succ, e58, e11]
      clear e58 e11
      go_wp2_with (refine st_stO rfl rfl isDSlot (dlR_one _) g5 (by rfl) (by rfl) ?_; intro u6 g6 o6; refine Hid.out ?_)
      refine Hid.mk ?_
      have hgxb : gx ≠ b := by omega
      have h6 := h5.only o6 (Ne.symm hgxb)
      have hB6 : Below u4.heap.size u4 u6 := hS5.trans (o6.below hgx)
      have hW6' := hW5.same (w' := u6) (by rw [o6.size]; exact Nat.le_refl _) (fun k hk hkb => o6.block k (fun e => by
        subst e
        rcases hk with e1 | ⟨i, g', hi, hei, hgi, hu⟩
        · exact hgxb e1
        · obtain ⟨g2, e2, hW2, _⟩ := hW5.yes i hi hei
          rw [hgi] at e2
          obtain rfl := Option.some.inj e2
          exact winR_apart hW2 g5 hu))
      obtain ⟨hW6, hS6⟩ := hW6'.place first
      have HF : Hid (∀ u9, SdAt u9 b (placeG rep R (kn0, some gw) rz first) (max t now) (c + 1) → Touch (fun x => x = b) u6 u9 → Goes SesD w b (WinSD b 3 R U) ⟨max t now, c + 1, placeG Kp.ep K kn0 kp0 first⟩ u9) := Hid.mk (fun u9 h9 hT9 => by
        refine ⟨_, ⟨_, U', h9, hW6.tou hT9, ?_, rfl⟩, (touch_tr (touch_tr hT4 (touch_of_below hB6)) hT9).mono (fun k _ e => .inl e), fun k hk => ?_⟩
        · funext j
          rw [← hK]
          exact placeG_map Prod.fst Kp.ep R _ rz first j
        · rcases hS5' k (hS6 k hk) with hh | hh
          · exact .inl hh
          · exact .inr (Nat.le_trans hT4.size hh))
      have hT6 : Touch (fun x => x = b) u6 u6 := Touch.refl _ _
      clear hW5 hS5' hW6 hW6' hS6 hT4 h5 g5 o6 hS5 hB6
      have ct2 : u6.cell? ⟨b, 146, none⟩ = some (.bool (!decide ((R 2).1.ep = 0))) := h6.cell 2 0 (by omega) (by omega)
      have ct1 : u6.cell? ⟨b, 74, none⟩ = some (.bool (!decide ((R 1).1.ep = 0))) := h6.cell 1 0 (by omega) (by omega)
      have HX : Hid (∀ v, Below u6.heap.size u6 v → SAt v gx 34 72 (dlR (kn0, some gw))) := Hid.mk (fun v hv => SAt.kept g6 hv)
      cases first
      · go_wp2_with fail
        refine wp_region_cut 4 rfl (by kernel_rfl) (any_steps (Below u6.heap.size u6) (fun v v' => Below v.heap.size v v') (fun i v v0 => match i with | 0 => v = .pointer (some ⟨b, 0, none⟩) | 1 => v = .agg (SC 72 (dlR (kn0, some gw))) | 2 => v = .pointer (some ⟨b, 0, none⟩) | 3 => v = .pointer (some ⟨b, 2, none⟩) | _ => True)
            [100, 101, 102, 103]
            [(0, .pointer (some ⟨b, 0, none⟩)), (11, .pointer (some ⟨gx, 0, none⟩))]
            [[], [], [0], [2]]
            (by kernel_rfl) ⟨rfl, rfl, trivial⟩ (Below.drew (Below.refl _ _)) (fun v v' h hb => h.trans (hb.mono h.size)) ?_
            ⟨
              (fun Q a1 ww hS fr kn => ⟨trivial, fun K hK => wp_value (exec_move rfl fr.1) (hK _ _ rfl (Below.refl _ _))⟩),
              (fun Q a1 ww hS fr kn => ⟨trivial, fun K hK => wp_value (look_st rfl isDSlot (HX.out ww hS) fr.2.1) (hK _ _ rfl (Below.refl _ _))⟩),
              (fun Q a1 ww hS fr kn => ⟨trivial, fun K hK => wp_value (exec_nilc rfl kn.1) (hK _ _ rfl (Below.refl _ _))⟩),
              (fun Q a1 ww hS fr kn => ⟨trivial, fun K hK => wp_value (exec_fds (k := 2) rfl kn.1 (by decide)) (hK _ _ rfl (Below.refl _ _))⟩),
              trivial⟩ ?_)
        · intro i v u' u'' hh hb
          match i with
          | 0 | 1 | 2 | 3 => exact hh

          | n + 4 => trivial
        intro vs u6' hSu6 hku6
        have eb : vs 103 = .pointer (some ⟨b, 2, none⟩) := hku6 3 (by decide)
        have ev : vs 101 = .agg (SC 72 (dlR (kn0, some gw))) := hku6 1 (by decide)
        have h6' := h6.kept hSu6
        have hT6' := touch_tr hT6 (touch_of_below hSu6)
        clear hku6 ct1 ct2
        show wpList Tryz.prog _ _ (_ :: _ :: []) _ _
        simp only [putAll, Act.put, List.setIfInBounds_toArray, List.set_cons_zero, List.set_cons_succ, eb, ev]
        clear eb ev
        go_wp2_with (first | (refine wl_value rfl (exec_ixD (i := 2) rfl (by rfl) (by rfl) (by decide)) ?_) | (refine wl_act rfl (act_slotD (i := 2) rfl (by rfl) (by rfl) (by decide) h6' ?_); intro u8 h8 ou8; refine Hid.out ?_))
        refine Hid.mk ?_
        have hT8 := touch_tr hT6' (touch_only ou8)
        have hq : placeG rep R (kn0, some gw) rz false = setG R 2 (kn0, some gw) := place_false
        have c9 := h8.count
        have HE := Hid.mk (HF.out _ (by rw [hq]; exact h8) hT8)
        clear HF h8 hT8
        go_wp2_with fail
        exact bodyPost_ret (res_tt rfl (by rfl) (by rfl)) rfl ⟨by rw [(HYES.out hA).1]; rfl, by rw [(HYES.out hA).2]; exact HE.out⟩
      · by_cases he2 : (R 2).1.ep = 0
        · rw [show (!decide ((R 2).1.ep = 0)) = false by rw [he2]; rfl] at ct2
          by_cases he1 : (R 1).1.ep = 0
          · rw [show (!decide ((R 1).1.ep = 0)) = false by rw [he1]; rfl] at ct1
            go_wp2_with fail
            refine wp_region_cut 4 rfl (by kernel_rfl) (any_steps (Below u6.heap.size u6) (fun v v' => Below v.heap.size v v') (fun i v v0 => match i with | 0 => v = .pointer (some ⟨b, 0, none⟩) | 1 => v = .agg (SC 72 (dlR (kn0, some gw))) | 2 => v = .pointer (some ⟨b, 0, none⟩) | 3 => v = .pointer (some ⟨b, 2, none⟩) | _ => True)
                [90, 91, 92, 93]
                [(0, .pointer (some ⟨b, 0, none⟩)), (11, .pointer (some ⟨gx, 0, none⟩))]
                [[], [], [0], [2]]
                (by kernel_rfl) ⟨rfl, rfl, trivial⟩ (Below.drew (Below.refl _ _)) (fun v v' h hb => h.trans (hb.mono h.size)) ?_
                ⟨
                  (fun Q a1 ww hS fr kn => ⟨trivial, fun K hK => wp_value (exec_move rfl fr.1) (hK _ _ rfl (Below.refl _ _))⟩),
                  (fun Q a1 ww hS fr kn => ⟨trivial, fun K hK => wp_value (look_st rfl isDSlot (HX.out ww hS) fr.2.1) (hK _ _ rfl (Below.refl _ _))⟩),
                  (fun Q a1 ww hS fr kn => ⟨trivial, fun K hK => wp_value (exec_nilc rfl kn.1) (hK _ _ rfl (Below.refl _ _))⟩),
                  (fun Q a1 ww hS fr kn => ⟨trivial, fun K hK => wp_value (exec_fds (k := 2) rfl kn.1 (by decide)) (hK _ _ rfl (Below.refl _ _))⟩),
                  trivial⟩ ?_)
            · intro i v u' u'' hh hb
              match i with
              | 0 | 1 | 2 | 3 => exact hh

              | n + 4 => trivial
            intro vs u6' hSu6 hku6
            have eb : vs 93 = .pointer (some ⟨b, 2, none⟩) := hku6 3 (by decide)
            have ev : vs 91 = .agg (SC 72 (dlR (kn0, some gw))) := hku6 1 (by decide)
            have h6' := h6.kept hSu6
            have hT6' := touch_tr hT6 (touch_of_below hSu6)
            clear hku6 ct1 ct2
            show wpList Tryz.prog _ _ (_ :: _ :: []) _ _
            simp only [putAll, Act.put, List.setIfInBounds_toArray, List.set_cons_zero, List.set_cons_succ, eb, ev]
            clear eb ev
            go_wp2_with (first | (refine wl_value rfl (exec_ixD (i := 1) rfl (by rfl) (by rfl) (by decide)) ?_) | (refine wl_act rfl (act_slotD (i := 1) rfl (by rfl) (by rfl) (by decide) h6' ?_); intro u8 h8 ou8; refine Hid.out ?_))
            refine Hid.mk ?_
            have hT8 := touch_tr hT6' (touch_only ou8)
            clear HX
            go_wp2_with (first | (refine wl_value rfl (exec_dlZ rfl) ?_) | (refine wl_value rfl (exec_ixD (i := 2) rfl (by rfl) (by rfl) (by decide)) ?_) | (refine wl_act rfl (act_slotD (i := 2) rfl (by rfl) (by rfl) (by decide) h8 ?_); intro u9 h9 o9; refine Hid.out ?_))
            refine Hid.mk ?_
            have hT9 := touch_tr hT8 (touch_only o9)
            have hq : placeG rep R (kn0, some gw) rz true = setG (setG R 1 (kn0, some gw)) 2 rz := by rw [place_true, if_neg (by simp [he2]), if_neg (by simp [he1])]
            have c9 := h9.count
            have HE := Hid.mk (HF.out _ (by rw [hq]; exact h9) hT9)
            clear HF h9 hT9
            go_wp2_with fail
            exact bodyPost_ret (res_tt rfl (by rfl) (by rfl)) rfl ⟨by rw [(HYES.out hA).1]; rfl, by rw [(HYES.out hA).2]; exact HE.out⟩
          · rw [show (!decide ((R 1).1.ep = 0)) = true by simp [he1]] at ct1
            go_wp2_with fail
            refine wp_region_cut 8 rfl (by kernel_rfl) (any_steps (Below u6.heap.size u6) (fun v v' => Below v.heap.size v v') (fun i v v0 => match i with | 0 => v = .pointer (some ⟨b, 0, none⟩) | 1 => v = .pointer (some ⟨b, 0, none⟩) | 2 => v = .pointer (some ⟨b, 0, none⟩) | 3 => v = .pointer (some ⟨b, 2, none⟩) | 4 => v = .pointer (some ⟨b, 2 + 72 * 1, none⟩) | 5 => v = .agg (SC 72 (dlR (R 1))) | 6 => v = .pointer (some ⟨b, 0, none⟩) | 7 => v = .pointer (some ⟨b, 2, none⟩) | _ => True)
                [81, 82, 83, 84, 85, 86, 87, 88]
                [(0, .pointer (some ⟨b, 0, none⟩))]
                [[], [], [1], [2], [3], [4], [0], [6]]
                (by kernel_rfl) ⟨rfl, trivial⟩ (Below.drew (Below.refl _ _)) (fun v v' h hb => h.trans (hb.mono h.size)) ?_
                ⟨
                  (fun Q a1 ww hS fr kn => ⟨trivial, fun K hK => wp_value (exec_move rfl fr.1) (hK _ _ rfl (Below.refl _ _))⟩),
                  (fun Q a1 ww hS fr kn => ⟨trivial, fun K hK => wp_value (exec_move rfl fr.1) (hK _ _ rfl (Below.refl _ _))⟩),
                  (fun Q a1 ww hS fr kn => ⟨trivial, fun K hK => wp_value (exec_nilc rfl kn.1) (hK _ _ rfl (Below.refl _ _))⟩),
                  (fun Q a1 ww hS fr kn => ⟨trivial, fun K hK => wp_value (exec_fds (k := 2) rfl kn.1 (by decide)) (hK _ _ rfl (Below.refl _ _))⟩),
                  (fun Q a1 ww hS fr kn => ⟨trivial, fun K hK => wp_value (exec_ixD (i := 1) rfl kn.1 rfl (by decide)) (hK _ _ rfl (Below.refl _ _))⟩),
                  (fun Q a1 ww hS fr kn => ⟨trivial, fun K hK => wp_value (exec_ldD (i := 1) rfl kn.1 (by decide) (h6.kept hS)) (hK _ _ rfl (Below.refl _ _))⟩),
                  (fun Q a1 ww hS fr kn => ⟨trivial, fun K hK => wp_value (exec_nilc rfl kn.1) (hK _ _ rfl (Below.refl _ _))⟩),
                  (fun Q a1 ww hS fr kn => ⟨trivial, fun K hK => wp_value (exec_fds (k := 2) rfl kn.1 (by decide)) (hK _ _ rfl (Below.refl _ _))⟩),
                  trivial⟩ ?_)
            · intro i v u' u'' hh hb
              match i with
              | 0 | 1 | 2 | 3 | 4 | 5 | 6 | 7 => exact hh

              | n + 8 => trivial
            intro vs u6' hSu6 hku6
            have eb : vs 88 = .pointer (some ⟨b, 2, none⟩) := hku6 7 (by decide)
            have ev : vs 86 = .agg (SC 72 (dlR (R 1))) := hku6 5 (by decide)
            have h6' := h6.kept hSu6
            have hT6' := touch_tr hT6 (touch_of_below hSu6)
            clear hku6 ct1 ct2
            show wpList Tryz.prog _ _ (_ :: _ :: []) _ _
            simp only [putAll, Act.put, List.setIfInBounds_toArray, List.set_cons_zero, List.set_cons_succ, eb, ev]
            clear eb ev
            go_wp2_with (first | (refine wl_value rfl (exec_ixD (i := 0) rfl (by rfl) (by rfl) (by decide)) ?_) | (refine wl_act rfl (act_slotD (i := 0) rfl (by rfl) (by rfl) (by decide) h6' ?_); intro u7 h7 ou7; refine Hid.out ?_))
            refine Hid.mk ?_
            have hT7 := touch_tr hT6' (touch_only ou7)
            have g7 := (HX.out _ hSu6).only ou7 hgxb
            have HX7 : Hid (∀ v, Below u7.heap.size u7 v → SAt v gx 34 72 (dlR (kn0, some gw))) := Hid.mk (fun v hv => SAt.kept g7 hv)
            clear HX
            have HX := HX7
            go_wp2_with fail
            refine wp_region_cut 4 rfl (by kernel_rfl) (any_steps (Below u7.heap.size u7) (fun v v' => Below v.heap.size v v') (fun i v v0 => match i with | 0 => v = .pointer (some ⟨b, 0, none⟩) | 1 => v = .agg (SC 72 (dlR (kn0, some gw))) | 2 => v = .pointer (some ⟨b, 0, none⟩) | 3 => v = .pointer (some ⟨b, 2, none⟩) | _ => True)
                [90, 91, 92, 93]
                [(0, .pointer (some ⟨b, 0, none⟩)), (11, .pointer (some ⟨gx, 0, none⟩))]
                [[], [], [0], [2]]
                (by kernel_rfl) ⟨rfl, rfl, trivial⟩ (Below.drew (Below.refl _ _)) (fun v v' h hb => h.trans (hb.mono h.size)) ?_
                ⟨
                  (fun Q a1 ww hS fr kn => ⟨trivial, fun K hK => wp_value (exec_move rfl fr.1) (hK _ _ rfl (Below.refl _ _))⟩),
                  (fun Q a1 ww hS fr kn => ⟨trivial, fun K hK => wp_value (look_st rfl isDSlot (HX.out ww hS) fr.2.1) (hK _ _ rfl (Below.refl _ _))⟩),
                  (fun Q a1 ww hS fr kn => ⟨trivial, fun K hK => wp_value (exec_nilc rfl kn.1) (hK _ _ rfl (Below.refl _ _))⟩),
                  (fun Q a1 ww hS fr kn => ⟨trivial, fun K hK => wp_value (exec_fds (k := 2) rfl kn.1 (by decide)) (hK _ _ rfl (Below.refl _ _))⟩),
                  trivial⟩ ?_)
            · intro i v u' u'' hh hb
              match i with
              | 0 | 1 | 2 | 3 => exact hh

              | n + 4 => trivial
            intro vs u7' hSu7 hku7
            have eb : vs 93 = .pointer (some ⟨b, 2, none⟩) := hku7 3 (by decide)
            have ev : vs 91 = .agg (SC 72 (dlR (kn0, some gw))) := hku7 1 (by decide)
            have h7' := h7.kept hSu7
            have hT7' := touch_tr hT7 (touch_of_below hSu7)
            clear hku7
            show wpList Tryz.prog _ _ (_ :: _ :: []) _ _
            simp only [putAll, Act.put, List.setIfInBounds_toArray, List.set_cons_zero, List.set_cons_succ, eb, ev]
            clear eb ev
            go_wp2_with (first | (refine wl_value rfl (exec_ixD (i := 1) rfl (by rfl) (by rfl) (by decide)) ?_) | (refine wl_act rfl (act_slotD (i := 1) rfl (by rfl) (by rfl) (by decide) h7' ?_); intro u8 h8 ou8; refine Hid.out ?_))
            refine Hid.mk ?_
            have hT8 := touch_tr hT7' (touch_only ou8)
            clear HX
            go_wp2_with (first | (refine wl_value rfl (exec_dlZ rfl) ?_) | (refine wl_value rfl (exec_ixD (i := 2) rfl (by rfl) (by rfl) (by decide)) ?_) | (refine wl_act rfl (act_slotD (i := 2) rfl (by rfl) (by rfl) (by decide) h8 ?_); intro u9 h9 o9; refine Hid.out ?_))
            refine Hid.mk ?_
            have hT9 := touch_tr hT8 (touch_only o9)
            have hq : placeG rep R (kn0, some gw) rz true = setG (setG (setG R 0 (R 1)) 1 (kn0, some gw)) 2 rz := by rw [place_true, if_neg (by simp [he2]), if_pos he1]
            have c9 := h9.count
            have HE := Hid.mk (HF.out _ (by rw [hq]; exact h9) hT9)
            clear HF h9 hT9
            go_wp2_with fail
            exact bodyPost_ret (res_tt rfl (by rfl) (by rfl)) rfl ⟨by rw [(HYES.out hA).1]; rfl, by rw [(HYES.out hA).2]; exact HE.out⟩
        · rw [show (!decide ((R 2).1.ep = 0)) = true by simp [he2]] at ct2
          go_wp2_with fail
          refine wp_region_cut 8 rfl (by kernel_rfl) (any_steps (Below u6.heap.size u6) (fun v v' => Below v.heap.size v v') (fun i v v0 => match i with | 0 => v = .pointer (some ⟨b, 0, none⟩) | 1 => v = .pointer (some ⟨b, 0, none⟩) | 2 => v = .pointer (some ⟨b, 0, none⟩) | 3 => v = .pointer (some ⟨b, 2, none⟩) | 4 => v = .pointer (some ⟨b, 2 + 72 * 2, none⟩) | 5 => v = .agg (SC 72 (dlR (R 2))) | 6 => v = .pointer (some ⟨b, 0, none⟩) | 7 => v = .pointer (some ⟨b, 2, none⟩) | _ => True)
              [66, 67, 68, 69, 70, 71, 72, 73]
              [(0, .pointer (some ⟨b, 0, none⟩))]
              [[], [], [1], [2], [3], [4], [0], [6]]
              (by kernel_rfl) ⟨rfl, trivial⟩ (Below.drew (Below.refl _ _)) (fun v v' h hb => h.trans (hb.mono h.size)) ?_
              ⟨
                (fun Q a1 ww hS fr kn => ⟨trivial, fun K hK => wp_value (exec_move rfl fr.1) (hK _ _ rfl (Below.refl _ _))⟩),
                (fun Q a1 ww hS fr kn => ⟨trivial, fun K hK => wp_value (exec_move rfl fr.1) (hK _ _ rfl (Below.refl _ _))⟩),
                (fun Q a1 ww hS fr kn => ⟨trivial, fun K hK => wp_value (exec_nilc rfl kn.1) (hK _ _ rfl (Below.refl _ _))⟩),
                (fun Q a1 ww hS fr kn => ⟨trivial, fun K hK => wp_value (exec_fds (k := 2) rfl kn.1 (by decide)) (hK _ _ rfl (Below.refl _ _))⟩),
                (fun Q a1 ww hS fr kn => ⟨trivial, fun K hK => wp_value (exec_ixD (i := 2) rfl kn.1 rfl (by decide)) (hK _ _ rfl (Below.refl _ _))⟩),
                (fun Q a1 ww hS fr kn => ⟨trivial, fun K hK => wp_value (exec_ldD (i := 2) rfl kn.1 (by decide) (h6.kept hS)) (hK _ _ rfl (Below.refl _ _))⟩),
                (fun Q a1 ww hS fr kn => ⟨trivial, fun K hK => wp_value (exec_nilc rfl kn.1) (hK _ _ rfl (Below.refl _ _))⟩),
                (fun Q a1 ww hS fr kn => ⟨trivial, fun K hK => wp_value (exec_fds (k := 2) rfl kn.1 (by decide)) (hK _ _ rfl (Below.refl _ _))⟩),
                trivial⟩ ?_)
          · intro i v u' u'' hh hb
            match i with
            | 0 | 1 | 2 | 3 | 4 | 5 | 6 | 7 => exact hh

            | n + 8 => trivial
          intro vs u6' hSu6 hku6
          have eb : vs 73 = .pointer (some ⟨b, 2, none⟩) := hku6 7 (by decide)
          have ev : vs 71 = .agg (SC 72 (dlR (R 2))) := hku6 5 (by decide)
          have h6' := h6.kept hSu6
          have hT6' := touch_tr hT6 (touch_of_below hSu6)
          clear hku6 ct1 ct2
          show wpList Tryz.prog _ _ (_ :: _ :: []) _ _
          simp only [putAll, Act.put, List.setIfInBounds_toArray, List.set_cons_zero, List.set_cons_succ, eb, ev]
          clear eb ev
          go_wp2_with (first | (refine wl_value rfl (exec_ixD (i := 0) rfl (by rfl) (by rfl) (by decide)) ?_) | (refine wl_act rfl (act_slotD (i := 0) rfl (by rfl) (by rfl) (by decide) h6' ?_); intro u7 h7 ou7; refine Hid.out ?_))
          refine Hid.mk ?_
          have hT7 := touch_tr hT6' (touch_only ou7)
          have g7 := (HX.out _ hSu6).only ou7 hgxb
          have HX7 : Hid (∀ v, Below u7.heap.size u7 v → SAt v gx 34 72 (dlR (kn0, some gw))) := Hid.mk (fun v hv => SAt.kept g7 hv)
          clear HX
          have HX := HX7
          go_wp2_with fail
          refine wp_region_cut 4 rfl (by kernel_rfl) (any_steps (Below u7.heap.size u7) (fun v v' => Below v.heap.size v v') (fun i v v0 => match i with | 0 => v = .pointer (some ⟨b, 0, none⟩) | 1 => v = .agg (SC 72 (dlR (kn0, some gw))) | 2 => v = .pointer (some ⟨b, 0, none⟩) | 3 => v = .pointer (some ⟨b, 2, none⟩) | _ => True)
              [90, 91, 92, 93]
              [(0, .pointer (some ⟨b, 0, none⟩)), (11, .pointer (some ⟨gx, 0, none⟩))]
              [[], [], [0], [2]]
              (by kernel_rfl) ⟨rfl, rfl, trivial⟩ (Below.drew (Below.refl _ _)) (fun v v' h hb => h.trans (hb.mono h.size)) ?_
              ⟨
                (fun Q a1 ww hS fr kn => ⟨trivial, fun K hK => wp_value (exec_move rfl fr.1) (hK _ _ rfl (Below.refl _ _))⟩),
                (fun Q a1 ww hS fr kn => ⟨trivial, fun K hK => wp_value (look_st rfl isDSlot (HX.out ww hS) fr.2.1) (hK _ _ rfl (Below.refl _ _))⟩),
                (fun Q a1 ww hS fr kn => ⟨trivial, fun K hK => wp_value (exec_nilc rfl kn.1) (hK _ _ rfl (Below.refl _ _))⟩),
                (fun Q a1 ww hS fr kn => ⟨trivial, fun K hK => wp_value (exec_fds (k := 2) rfl kn.1 (by decide)) (hK _ _ rfl (Below.refl _ _))⟩),
                trivial⟩ ?_)
          · intro i v u' u'' hh hb
            match i with
            | 0 | 1 | 2 | 3 => exact hh

            | n + 4 => trivial
          intro vs u7' hSu7 hku7
          have eb : vs 93 = .pointer (some ⟨b, 2, none⟩) := hku7 3 (by decide)
          have ev : vs 91 = .agg (SC 72 (dlR (kn0, some gw))) := hku7 1 (by decide)
          have h7' := h7.kept hSu7
          have hT7' := touch_tr hT7 (touch_of_below hSu7)
          clear hku7
          show wpList Tryz.prog _ _ (_ :: _ :: []) _ _
          simp only [putAll, Act.put, List.setIfInBounds_toArray, List.set_cons_zero, List.set_cons_succ, eb, ev]
          clear eb ev
          go_wp2_with (first | (refine wl_value rfl (exec_ixD (i := 1) rfl (by rfl) (by rfl) (by decide)) ?_) | (refine wl_act rfl (act_slotD (i := 1) rfl (by rfl) (by rfl) (by decide) h7' ?_); intro u8 h8 ou8; refine Hid.out ?_))
          refine Hid.mk ?_
          have hT8 := touch_tr hT7' (touch_only ou8)
          clear HX
          go_wp2_with (first | (refine wl_value rfl (exec_dlZ rfl) ?_) | (refine wl_value rfl (exec_ixD (i := 2) rfl (by rfl) (by rfl) (by decide)) ?_) | (refine wl_act rfl (act_slotD (i := 2) rfl (by rfl) (by rfl) (by decide) h8 ?_); intro u9 h9 o9; refine Hid.out ?_))
          refine Hid.mk ?_
          have hT9 := touch_tr hT8 (touch_only o9)
          have hq : placeG rep R (kn0, some gw) rz true = setG (setG (setG R 0 (R 2)) 1 (kn0, some gw)) 2 rz := by rw [place_true, if_pos he2]
          have c9 := h9.count
          have HE := Hid.mk (HF.out _ (by rw [hq]; exact h9) hT9)
          clear HF h9 hT9
          go_wp2_with fail
          exact bodyPost_ret (res_tt rfl (by rfl) (by rfl)) rfl ⟨by rw [(HYES.out hA).1]; rfl, by rw [(HYES.out hA).2]; exact HE.out⟩
end Go.Proofs.YtbkbcfimpaolmaaGreat
/-
  Own text. The document's session: Open.
-/
namespace Go.Proofs.YtbkbcfimpaolmaaGreat
open Go.RowKit Go.Proofs
set_option maxRecDepth 100000
theorem enterROpen9 (args : Array Value) (w : World) : (callFunc 49 args).run Tryz.prog w = .ok (.enter 49 args) w := by kernel_rfl
/-- The last slot below n that has an index for its own. -/
def lastF (K : Nat → Kp) (x : Int) : Nat → Int
  | 0 => -1
  | n + 1 => if hasL K x n = true then (n : Int) else lastF K x n
theorem last_at {K : Nat → Kp} {x : Int} (one : ∀ i j, i < 3 → j < 3 → (K i).ep ≠ 0 → (K j).ep ≠ 0 → (K i).loc = (K j).loc → i = j) : lastF K x 3 = atF K x := by
  have hne : ∀ i j, i < 3 → j < 3 → i ≠ j → hasL K x i = true → hasL K x j = false := fun i j hi hj hij h1 => by
    cases h2 : hasL K x j
    · rfl
    · exfalso
      unfold hasL at h1 h2
      simp at h1 h2
      exact hij (one i j hi hj h1.1 h2.1 (by rw [h1.2, h2.2]))
  show (if hasL K x 2 = true then ((2 : Nat) : Int) else if hasL K x 1 = true then ((1 : Nat) : Int) else if hasL K x 0 = true then ((0 : Nat) : Int) else -1) = _
  unfold atF
  cases h0 : hasL K x 0
  · cases h1 : hasL K x 1
    · cases h2 : hasL K x 2 <;> rfl
    · rw [hne 1 2 (by decide) (by decide) (by decide) h1]; rfl
  · rw [hne 0 1 (by decide) (by decide) (by decide) h0, hne 0 2 (by decide) (by decide) (by decide) h0]; rfl
theorem openT_13 {k n : Nat → Int} {box e : ByteArray} (h : (openT k n box e).2 ≠ 0) : openT k n box e = (ByteArray.empty, 13) := by
  unfold openT at h ⊢
  split
  · rename_i h1; rw [if_pos h1] at h; exact absurd rfl h
  · rfl
set_option maxHeartbeats 32000000 in
theorem rOpen_run9 {w : World} {b M : Nat} {σ : Ses} {S : Nat → Prop} (now x c : Int) (box : ByteArray) (h : SesD w b σ S) (ok : SesOk M σ) (hM : M ≤ 1000) (hnow : now ≤ 9223372036854775807) (hc : U64 c) (hbx : box.size ≤ 140737488355328) :
    Calls Tryz.prog 24 #[.pointer (some ⟨b, 0, none⟩), .int .i64 now, .int .u32 x, .int .u64 c, .string box] w fun e w' => e = .returned (.tuple #[.string (openS σ now x c box).1.1, .int .i64 (openS σ now x c box).1.2.1, .int .i64 (openS σ now x c box).1.2.2]) ∧ Goes SesD w b S (openS σ now x c box).2 w' := by
  obtain ⟨R, U, h, hW, hK, rfl⟩ := h
  obtain ⟨t, c', K⟩ := σ
  simp only at h hK
  subst hK
  have hlt := h.lt
  have ht0 : 0 ≤ t := ok.t0
  have ht1 : t ≤ 9223372036854775807 := ok.t1
  have hm : max t now ≤ 9223372036854775807 := by omega
  have HNO : Hid (atF (fun i => (R i).1) x = -1 → openS ⟨t, c', fun i => (R i).1⟩ now x c box = ((ByteArray.empty, 0, 15), ⟨max t now, c', fun i => (R i).1⟩)) := Hid.mk (fun hA => openS_no hA)
  have HAT : Hid (∀ i : Nat, atF (fun i => (R i).1) x = (i : Int) → openS ⟨t, c', fun i => (R i).1⟩ now x c box = openAt ⟨t, c', fun i => (R i).1⟩ now i c box) := Hid.mk (fun i hA => openS_at hA)
  have HLA : Hid (lastF (fun i => (R i).1) x 3 = atF (fun i => (R i).1) x) := Hid.mk (last_at ok.one)
  have HLS : Hid (∀ n, lastF (fun i => (R i).1) x (n + 1) = if hasL (fun i => (R i).1) x n = true then (n : Int) else lastF (fun i => (R i).1) x n) := Hid.mk (fun n => rfl)
  have HL0 : Hid (lastF (fun i => (R i).1) x 0 = -1) := Hid.mk rfl
  have HH : Hid (∀ k, hasL (fun i => (R i).1) x k = (!decide ((R k).1.ep = 0) && decide ((R k).1.loc = x))) := Hid.mk (fun k => rfl)
  have HA := Hid.mk (at_cases (fun i => (R i).1) x)
  have OK := Hid.mk ok
  clear ok
  generalize openS ⟨t, c', fun i => (R i).1⟩ now x c box = rs at *
  generalize lastF (fun i => (R i).1) x = LF at *
  go_enter Tryz.func24, Tryz.ntmps24
  go_wp2_with fail
  refine (goes_run now h).mono ?_
  rintro e u2 ⟨rfl, h2, o2⟩
  have hT2 : Touch (fun x => x = b) w u2 := touch_only o2
  clear o2 h
  go_wp2_with fail
  go_loopg [13, 14] (3 : Nat) (fun gm s13 s14 v => ∃ k : Nat, gm = 3 - k ∧ k ≤ 3 ∧ s13 = .int .i64 (LF k) ∧ s14 = .int .i64 (k : Int) ∧ Below u2.heap.size u2 v)
  case atStart => exact ⟨0, rfl, by omega, by rw [HL0.out], rfl, Below.refl _ _⟩
  case round =>
    obtain ⟨k, hgm, hk, rfl, rfl, hB⟩ := hrel
    have hs := h2.kept hB
    by_cases hlt3 : k < 3
    · have hk0 : (0 : Int) ≤ (k : Int) := by omega
      have hk3 : (k : Int) < 3 := by omega
      have ct : wr.cell? ⟨b, 2 + k * 72, none⟩ = some (.bool (!decide ((R k).1.ep = 0))) := by have := hs.cell k 0 hlt3 (by omega); rw [show 2 + 72 * k + 0 = 2 + k * 72 by omega] at this; exact this
      have cl : wr.cell? ⟨b, 2 + k * 72 + 1 + 64, none⟩ = some (.int .u32 (R k).1.loc) := by have := hs.cell k 65 hlt3 (by omega); rw [show 2 + 72 * k + 65 = 2 + k * 72 + 1 + 64 by omega] at this; exact this
      clear hs
      by_cases he : (R k).1.ep = 0
      · have HF : Hid (LF (k + 1) = LF k) := Hid.mk (by rw [HLS.out k, HH.out k, he]; rfl)
        rw [show (!decide ((R k).1.ep = 0)) = false by rw [he]; rfl] at ct
        clear he
        go_wp2_with fail
        go_roundg (3 - (k + 1))
        case rel => exact ⟨k + 1, rfl, by omega, by rw [HF.out], by go_num, hB⟩
        case measure => omega
      · rw [show (!decide ((R k).1.ep = 0)) = true by simp [he]] at ct
        by_cases hl : (R k).1.loc = x
        · have HF : Hid (LF (k + 1) = (k : Int)) := Hid.mk (by rw [HLS.out k, HH.out k]; simp [he, hl])
          rw [hl] at cl
          clear he
          go_wp2_with fail
          go_roundg (3 - (k + 1))
          case rel => exact ⟨k + 1, rfl, by omega, by rw [HF.out], by go_num, hB⟩
          case measure => omega
        · have HF : Hid (LF (k + 1) = LF k) := Hid.mk (by rw [HLS.out k, HH.out k]; simp [hl])
          have hld : ((R k).1.loc == x) = false := beq_eq_false_iff_ne.2 hl
          clear he
          go_wp2_with fail
          go_roundg (3 - (k + 1))
          case rel => exact ⟨k + 1, rfl, by omega, by rw [HF.out], by go_num, hB⟩
          case measure => omega
    · obtain rfl : k = 3 := by omega
      have hTs : Touch (fun x => x = b) w wr := touch_tr hT2 (touch_of_below hB)
      clear h2 hT2 hB HLS HL0 HH
      rcases HA.out with hA | ⟨i, hi, hA, he, hx⟩
      · have e13 : LF 3 = -1 := by rw [HLA.out, hA]
        have HRS := Hid.mk (HNO.out hA)
        have HE := Hid.mk (goes_tellD rfl hW hs hTs)
        rw [e13]
        clear hs hTs HLA HA HAT HNO
        go_wp2_with fail
        exact bodyPost_ret (res_ttt rfl (by rfl) (by rfl) (by rfl)) rfl ⟨by rw [HRS.out]; rfl, by rw [HRS.out]; exact HE.out⟩
      · have e13 : LF 3 = (i : Int) := by rw [HLA.out, hA]
        have HRS0 := Hid.mk (HAT.out i hA)
        rw [e13]
        clear HLA HA HAT HNO hA e13
        replace he : (R i).1.ep ≠ 0 := he
        have ko := OK.out.ok i hi he
        have hb0 : 0 ≤ (R i).1.born := ko.b0
        have hb1 : (R i).1.born ≤ t := ko.b1
        have hkr : Byts 32 (R i).1.kr := ko.kr
        have hnu : Nums L64 (R i).1.n (R i).1.s := ko.nums
        have hn : (R i).1.n ≤ 1000 := Nat.le_trans ko.n1 hM
        have hi0 : decide ((i : Int) < 0) = false := decide_eq_false (by omega)
        clear ko OK
        go_wp2_with (first | (refine wl_value rfl (exec_ixD (i := i) rfl (by rfl) (by rfl) hi) ?_) | (refine wl_value rfl (exec_ldD (i := i) rfl (by rfl) hi hs) ?_) | (refine wl_alO rfl rfl zeroDSlotV ?_; intro g u3 hg g3 hB3; refine Hid.out ?_))
        refine Hid.mk ?_
        have h3 := hs.kept hB3
        have hl3 := hs.lt
        go_wp2_with (refine st_stO rfl rfl isDSlot (dlR_one _) g3 (by rfl) (by rfl) ?_; intro u4 g4 o4; refine Hid.out ?_)
        refine Hid.mk ?_
        have h4 := h3.only o4 (by omega)
        have hB4 := hB3.trans (o4.below hg)
        clear g3 h3 o4 hB3
        have hT4 : Touch (fun x => x = b) w u4 := touch_tr hTs (touch_of_below hB4)
        have hgb : g ≠ b := by omega
        clear hs hTs hB4 hg hl3
        have HR0 := Hid.mk (rold_run i hi h4 hb0 (by omega) hm)
        go_wp2_with fail
        refine HR0.out.mono ?_
        rintro e u5 ⟨rfl, nq, hu5⟩
        have hB5 : Below u4.heap.size u4 u5 := by rw [hu5]; exact below_drewN (Below.refl _ _) nq
        have h5 := h4.kept hB5
        have g5 := SAt.kept g4 hB5
        have hT5 : Touch (fun x => x = b) w u5 := touch_tr hT4 (touch_of_below hB5)
        clear hu5 HR0 h4 g4 hT4 hB5
        cases hold : oldF (max t now) (R i).1
        case true =>
          have HRS := Hid.mk (HRS0.out.trans (openAt_old hold))
          have HE := Hid.mk (goes_tellD rfl hW h5 hT5)
          clear h5 g5 hT5 HRS0
          go_wp2_with fail
          exact bodyPost_ret (res_ttt rfl (by rfl) (by rfl) (by rfl)) rfl ⟨by rw [HRS.out]; rfl, by rw [HRS.out]; exact HE.out⟩
        case false =>
        have hW5 := hW.tou hT5
        obtain ⟨gw, hgw, hWi, hnb⟩ := hW5.yes i hi he
        have cw := dl_winS hgw g5
        have HFR := Hid.mk (freshR c hWi hnu (by omega) hc)
        have hU : Hid (0 ≤ c ∧ c < 18446744073709551616) := Hid.mk (by unfold U64 at hc; omega)
        go_wp2_with fail
        refine HFR.out.mono ?_
        rintro e u6 ⟨rfl, hB6⟩
        have h6 := h5.kept hB6
        have g6 := SAt.kept g5 hB6
        have hT6 : Touch (fun x => x = b) w u6 := touch_tr hT5 (touch_of_below hB6)
        have hWi6 := winR_below hWi hB6
        clear h5 g5 hT5 hB6 HFR hWi cw hW5
        by_cases hrep : 18446744073709543423 ≤ c
        · have HRS := Hid.mk (HRS0.out.trans (openAt_rep hold (.inl hrep)))
          have HE := Hid.mk (goes_tellD rfl hW h6 hT6)
          have hrd : decide (18446744073709543423 ≤ c) = true := decide_eq_true hrep
          clear h6 g6 hT6 HRS0
          go_wp2_with fail
          exact bodyPost_ret (res_ttt rfl (by rfl) (by rfl) (by rfl)) rfl ⟨by rw [HRS.out]; rfl, by rw [HRS.out]; exact HE.out⟩
        have hrd : decide (18446744073709543423 ≤ c) = false := decide_eq_false hrep
        cases hf : freshD L64 8192 (R i).1.n (R i).1.s c
        case false =>
          have HRS := Hid.mk (HRS0.out.trans (openAt_rep hold (.inr hf)))
          have HE := Hid.mk (goes_tellD rfl hW h6 hT6)
          clear h6 g6 hT6 HRS0
          go_wp2_with fail
          exact bodyPost_ret (res_ttt rfl (by rfl) (by rfl) (by rfl)) rfl ⟨by rw [HRS.out]; rfl, by rw [HRS.out]; exact HE.out⟩
        case true =>
        have hoe : openE ⟨t, c', fun i => (R i).1⟩ now i c = 0 := openE_ok hold hrep hf
        have HG4 : Hid (∀ v, Below u6.heap.size u6 v → SAt v g 34 72 (dlR (R i))) := Hid.mk (fun v hv => SAt.kept g6 hv)
        have HOP : Hid (∀ v, Calls Tryz.prog 49 #[.agg (WA .u8 32 (R i).1.kr), .agg (WA .u8 12 (nonN c)), .string box, .string ByteArray.empty] v fun e w' => e = .returned (.tuple #[.string (openT (R i).1.kr (nonN c) box ByteArray.empty).1, .int .i64 (openT (R i).1.kr (nonN c) box ByteArray.empty).2]) ∧ Below v.heap.size v w') := Hid.mk (fun v => rOpen_run (R i).1.kr (nonN c) box ByteArray.empty v hkr nonN_b hbx (by decide))
        have HBAD : Hid ((openT (R i).1.kr (nonN c) box ByteArray.empty).2 ≠ 0 → (openT (R i).1.kr (nonN c) box ByteArray.empty).2 = 13 ∧ rs = ((ByteArray.empty, 0, 13), ⟨max t now, c', fun i => (R i).1⟩)) := Hid.mk (fun hz => ⟨by rw [openT_13 hz], by rw [HRS0.out, openAt_bad hoe hz]; show ((ByteArray.empty, (0 : Int), (openT (R i).1.kr (nonN c) box ByteArray.empty).2), _) = _; rw [openT_13 hz]⟩)
        have HGOOD : Hid ((openT (R i).1.kr (nonN c) box ByteArray.empty).2 = 0 → rs = (((openT (R i).1.kr (nonN c) box ByteArray.empty).1, (R i).1.ep, 0), ⟨max t now, c', openedF (setG (fun i => (R i).1) i (kpTook (R i).1 c)) i⟩)) := Hid.mk (fun hz => by rw [HRS0.out, openAt_yes hoe hz])
        clear HRS0 hoe hkr
        generalize (openT (R i).1.kr (nonN c) box ByteArray.empty).1 = tx at *
        generalize (openT (R i).1.kr (nonN c) box ByteArray.empty).2 = er at *
        go_wp2_with fail
        refine wp_region3 (Below u6.heap.size u6) u6.heap.size
            ([] : List (Nat × Cont))
            [kv (.pointer (some ⟨g, 0 + 1, none⟩)), kv (.pointer (some ⟨g, 0 + 1 + 32, none⟩)), kv (.agg (WA .u8 32 (R i).1.kr)), kv (.int .u64 c), kv (.agg (WA .u8 12 (nonN c))), kv (.string box), kv (.tuple #[.string tx, .int .i64 er]), kv (.tuple #[.string tx, .int .i64 er]), kv (.string tx), kv (.int .i64 er), kv (.string tx), kv (.int .i64 er)]
            [.none, .none, .none, .none, .none, .none, .none, .none, .none, .none, .none, .none]
            [some 68, some 69, some 70, some 71, some 72, some 73, some 74, some 67, some 75, some 76, some 17, some 18]
            [(15, .pointer (some ⟨g, 0, none⟩)), (3, .int .u64 c), (4, .string box)]
            [[], [.slot 0], [.slot 1], [], [.slot 3], [], [.slot 2, .slot 4, .slot 5], [.slot 6], [.slot 7], [.slot 7], [.slot 8], [.slot 9]]
            [.slot 10, .slot 11] [68, 69, 70, 71, 72, 73, 74, 67, 75, 76, 17, 18]
            rfl (by kernel_rfl) ⟨rfl, rfl, rfl, trivial⟩ (Below.refl _ u6).drew (Nat.le_refl _) trivial trivial (below_G (Nat.le_refl _) trivial)
            ⟨
              (fun Q aq ww own hS hBg fr kn => .inl ⟨trivial, fun K hK => wp_value (exec_fdl (k := 1) rfl fr.1 (by decide)) (hK _ _ ⟨Touch.refl _ _, rfl⟩)⟩),
              (fun Q aq ww own hS hBg fr kn => .inl ⟨trivial, fun K hK => wp_value (exec_fpa (k := 1) rfl kn.1 (by decide)) (hK _ _ ⟨Touch.refl _ _, rfl⟩)⟩),
              (fun Q aq ww own hS hBg fr kn => .inl ⟨trivial, fun K hK => wp_value (exec_ldmid rfl isArr32 kn.1 (dl_kr (HG4.out ww hS))) (hK _ _ ⟨Touch.refl _ _, rfl⟩)⟩),
              (fun Q aq ww own hS hBg fr kn => .inl ⟨trivial, fun K hK => wp_value (exec_move rfl fr.2.1) (hK _ _ ⟨Touch.refl _ _, rfl⟩)⟩),
              (fun Q aq ww own hS hBg fr kn => .inl ⟨trivial, fun K hK => stepc enterRNonce9 rfl (args1 kn.1) (rNonce_run c ww hU.out) (fun w' hb => hK _ _ ⟨touch_below hb, rfl⟩)⟩),
              (fun Q aq ww own hS hBg fr kn => .inl ⟨trivial, fun K hK => wp_value (exec_move rfl fr.2.2.1) (hK _ _ ⟨Touch.refl _ _, rfl⟩)⟩),
              (fun Q aq ww own hS hBg fr kn => .inl ⟨trivial, fun K hK => stepc enterROpen9 rfl (args4 kn.1 kn.2.1 kn.2.2.1 rfl) (HOP.out ww) (fun w' hb => hK _ _ ⟨touch_below hb, rfl⟩)⟩),
              (fun Q aq ww own hS hBg fr kn => .inl ⟨trivial, fun K hK => wp_value (exec_move rfl kn.1) (hK _ _ ⟨Touch.refl _ _, rfl⟩)⟩),
              (fun Q aq ww own hS hBg fr kn => .inl ⟨trivial, fun K hK => wp_value (exec_ext rfl kn.1 rfl) (hK _ _ ⟨Touch.refl _ _, rfl⟩)⟩),
              (fun Q aq ww own hS hBg fr kn => .inl ⟨trivial, fun K hK => wp_value (exec_ext rfl kn.1 rfl) (hK _ _ ⟨Touch.refl _ _, rfl⟩)⟩),
              (fun Q aq ww own hS hBg fr kn => .inl ⟨trivial, fun K hK => wp_value (exec_assign rfl kn.1) (hK _ _ ⟨Touch.refl _ _, rfl⟩)⟩),
              (fun Q aq ww own hS hBg fr kn => .inl ⟨trivial, fun K hK => wp_value (exec_assign rfl kn.1) (hK _ _ ⟨Touch.refl _ _, rfl⟩)⟩),
              trivial⟩ ?_
        intro vs own u7 hB7 hsz kn inj
        have e17 : vs 17 = .string tx := kn.1
        have e18 : vs 18 = .int .i64 er := kn.2.1
        have h7 := h6.kept hB7
        have g7 := SAt.kept g6 hB7
        have hT7 : Touch (fun x => x = b) w u7 := touch_tr hT6 (touch_of_below hB7)
        have hWi7 := winR_below hWi6 hB7
        clear kn inj hsz HG4 HOP h6 g6 hT6 hWi6 hB7
        simp only [putAll, Act.put, List.setIfInBounds_toArray, List.set_cons_zero, List.set_cons_succ, e17, e18]
        clear e17 e18
        by_cases hz : er = 0
        case neg =>
          obtain ⟨hz13, hrs⟩ := HBAD.out hz
          have HRS := Hid.mk hrs
          have HE := Hid.mk (goes_tellD rfl hW h7 hT7)
          clear h7 g7 hT7 HBAD HGOOD hrs
          rw [hz13]
          go_wp2_with fail
          exact bodyPost_ret (res_ttt rfl (by rfl) (by rfl) (by rfl)) rfl ⟨by rw [HRS.out]; rfl, by rw [HRS.out]; exact HE.out⟩
        case pos =>
        have HRS := Hid.mk (HGOOD.out hz)
        rw [hz]
        clear HBAD HGOOD hz
        have cw := dl_winS hgw g7
        have HTK := Hid.mk (takeR c hWi7 hnu (by omega) hc hf)
        have hgU : ¬ U gw g := winR_apart hWi7 g7
        go_wp2_with fail
        refine HTK.out.mono ?_
        rintro e uX ⟨rfl, S', hWX', hTk, hSk⟩
        have hW7 := hW.tou hT7
        obtain ⟨U', hWX, hSX⟩ := hW7.took h7.lt hi he hgw hWX' hTk hSk
        have hX : SdAt uX b (setG R i (kpTook (R i).1 c, some gw)) (max t now) c' := by
          refine SdAt.congr (SAt.block h7 (hTk.block b h7.lt hnb)) (fun j hj => ?_) rfl rfl
          by_cases e : j = i
          · subst e
            unfold setG
            rw [if_pos rfl]
            funext q
            unfold dlR
            show (if q < 1 then Value.bool (!decide ((R j).1.ep = 0)) else slC (R j).1 (ptV (R j).2) (q - 1)) = (if q < 1 then Value.bool (!decide ((R j).1.ep = 0)) else slC (kpTook (R j).1 c) (ptV (some gw)) (q - 1))
            rw [hgw]
            rfl
          · unfold setG
            rw [if_neg e]
        have gX : SAt uX g 34 72 (dlR (R i)) := SAt.block g7 (hTk.block g (SAt.lt g7) hgU)
        have hTS : Touch (WinSD b 3 R U) w uX := touch_tr (hT7.mono (fun _ _ e => .inl e)) (hTk.mono (fun k _ hk => .inr ⟨i, gw, hi, he, hgw, hk⟩))
        have hzX := hT7.size
        have HGO : Hid (∀ u9, SdAt u9 b (openedR (setG R i (kpTook (R i).1 c, some gw)) i) (max t now) c' → Touch (fun x => x = b) uX u9 → Goes SesD w b (WinSD b 3 R U) ⟨max t now, c', openedF (setG (fun i => (R i).1) i (kpTook (R i).1 c)) i⟩ u9) := Hid.mk (fun u9 h9 hT9 => by
          obtain ⟨q1, q2⟩ := hWX.opened i
          refine ⟨_, ⟨_, U', h9, q1.tou hT9, ?_, rfl⟩, touch_tr hTS (hT9.mono (fun _ _ e => .inl e)), fun k hk => ?_⟩
          · funext j
            rw [opened_map]
            exact congrFun (congrArg (fun f => openedF f i) (funext (fun j => setG_map Prod.fst R i _ j))) j
          · rcases hSX k (q2 k hk) with hh | hh
            · exact .inl hh
            · exact .inr (Nat.le_trans hzX hh))
        have hRXi : (setG R i (kpTook (R i).1 c, some gw) i).1.ep = (R i).1.ep := by unfold setG; rw [if_pos rfl]; rfl
        have hn2 : (setG R i (kpTook (R i).1 c, some gw) i).1.n < 10000 := by unfold setG; rw [if_pos rfl]; show (R i).1.n + 1 < 10000; omega
        have hnu2 : Nums L64 (setG R i (kpTook (R i).1 c, some gw) i).1.n (setG R i (kpTook (R i).1 c, some gw) i).1.s := by unfold setG; rw [if_pos rfl]; exact hnu.take hU.out.1 (by have := hU.out.2; unfold L64; omega) hf
        have hWM := hWX.moved.1
        have hTX : Touch (fun x => x = b) uX uX := Touch.refl _ _
        clear hW7 hWX' hTk hSk h7 g7 hTS hT7 hWi7 cw HTK hSX
        generalize setG R i (kpTook (R i).1 c, some gw) = RX at *
        rcases (show i = 0 ∨ i = 1 ∨ i = 2 by omega) with rfl | rfl | rfl
        · have heq : openedR RX 0 = RX := by unfold openedR; simp only [show ¬ (0 = 2) by omega, if_false]; rw [if_neg (fun e => e.1 rfl)]
          have cep := dl_ep gX
          have HE := Hid.mk (HGO.out uX.drew (by rw [heq]; exact hX) hTX.drew)
          clear hX gX hTX
          go_wp2_with fail
          go_region
          go_wp2_with fail
          exact bodyPost_ret (res_ttt rfl (by rfl) (by rfl) (by rfl)) rfl ⟨by rw [HRS.out]; rfl, by rw [HRS.out]; exact HE.out⟩
        · have hne1 : (RX 1).1.ep ≠ 0 := by rw [hRXi]; exact he
          have hn1 : (RX 1).1.n < 10000 := hn2
          have hnu1 : Nums L64 (RX 1).1.n (RX 1).1.s := hnu2
          obtain ⟨g1, hg1, hW1, _⟩ := (hWX.tou hTX).yes 1 (by decide) hne1
          have cW : uX.cell? ⟨b, 145, none⟩ = some (.pointer (some ⟨g1, 0, none⟩)) := by have := hX.cell 1 71 (by decide) (by decide); rw [show 2 + 72 * 1 + 71 = 145 by rfl] at this; rw [this]; show some (ptV (RX 1).2) = _; rw [hg1]; rfl
          have HTP := Hid.mk (topR hW1 hnu1 hn1)
          clear hW1
          go_wp2_with fail
          refine HTP.out.mono ?_
          rintro e uT ⟨rfl, hBT⟩
          have hhT := hX.kept hBT
          have hgT := SAt.kept gX hBT
          have hTT : Touch (fun x => x = b) uX uT := touch_tr hTX (touch_of_below hBT)
          clear HTP cW hBT
          by_cases htop : 8192 ≤ topF (RX 1).1.s (RX 1).1.n
          · have htd : decide (8192 ≤ topF (RX 1).1.s (RX 1).1.n) = true := decide_eq_true htop
            go_wp2_with (first | (refine wl_value rfl (exec_dlZ rfl) ?_) | (refine wl_value rfl (exec_ixD (i := 0) rfl (by rfl) (by rfl) (by decide)) ?_) | (refine wl_act rfl (act_slotD (i := 0) rfl (by rfl) (by rfl) (by decide) hhT ?_); intro uZ hhZ oZ; refine Hid.out ?_))
            refine Hid.mk ?_
            have hgZ := hgT.only oZ hgb
            have hTZ := touch_tr hTT (touch_only oZ)
            have heq : openedR RX 1 = setG RX 0 rz := by unfold openedR; simp only [show ¬ (1 = 2) by omega, if_false]; rw [if_pos ⟨by decide, htop⟩]
            have cep := dl_ep hgZ
            have HE := Hid.mk (HGO.out uZ.drew (by rw [heq]; exact hhZ) hTZ.drew)
            clear hhT hgT hTT hhZ oZ hgZ hTZ heq
            go_wp2_with fail
            go_region
            go_wp2_with fail
            exact bodyPost_ret (res_ttt rfl (by rfl) (by rfl) (by rfl)) rfl ⟨by rw [HRS.out]; rfl, by rw [HRS.out]; exact HE.out⟩
          · have htd : decide (8192 ≤ topF (RX 1).1.s (RX 1).1.n) = false := decide_eq_false htop
            have heq : openedR RX 1 = RX := by unfold openedR; simp only [show ¬ (1 = 2) by omega, if_false]; rw [if_neg (fun e => htop e.2)]
            have cep := dl_ep hgT
            have HE := Hid.mk (HGO.out uT.drew (by rw [heq]; exact hhT) hTT.drew)
            clear hhT hgT hTT heq
            go_wp2_with fail
            go_region
            go_wp2_with fail
            exact bodyPost_ret (res_ttt rfl (by rfl) (by rfl) (by rfl)) rfl ⟨by rw [HRS.out]; rfl, by rw [HRS.out]; exact HE.out⟩
        · have ct1 : uX.cell? ⟨b, 74, none⟩ = some (.bool (!decide ((RX 1).1.ep = 0))) := hX.cell 1 0 (by omega) (by omega)
          have ep2 : (RX 2).1.ep ≠ 0 := by rw [hRXi]; exact he
          by_cases he1 : (RX 1).1.ep = 0
          · rw [show (!decide ((RX 1).1.ep = 0)) = false by rw [he1]; rfl] at ct1
            have hq : movedG rep RX rz = setG (setG RX 1 (RX 2)) 2 rz := by unfold movedG; rw [keep_set 1, if_neg (by simp [he1])]
            go_wp2_with fail
            refine wp_region_cut 8 rfl (by kernel_rfl) (any_steps (Below uX.heap.size uX) (fun v v' => Below v.heap.size v v') (fun i v v0 => match i with | 0 => v = .pointer (some ⟨b, 0, none⟩) | 1 => v = .pointer (some ⟨b, 0, none⟩) | 2 => v = .pointer (some ⟨b, 0, none⟩) | 3 => v = .pointer (some ⟨b, 2, none⟩) | 4 => v = .pointer (some ⟨b, 2 + 72 * 2, none⟩) | 5 => v = .agg (SC 72 (dlR (RX 2))) | 6 => v = .pointer (some ⟨b, 0, none⟩) | 7 => v = .pointer (some ⟨b, 2, none⟩) | _ => True)
                [100, 101, 102, 103, 104, 105, 106, 107]
                [(0, .pointer (some ⟨b, 0, none⟩))]
                [[], [], [1], [2], [3], [4], [0], [6]]
                (by kernel_rfl) ⟨rfl, trivial⟩ (Below.drew (Below.refl _ _)) (fun v v' h hb => h.trans (hb.mono h.size)) ?_
                ⟨
                  (fun Q a1 ww hS fr kn => ⟨trivial, fun K hK => wp_value (exec_move rfl fr.1) (hK _ _ rfl (Below.refl _ _))⟩),
                  (fun Q a1 ww hS fr kn => ⟨trivial, fun K hK => wp_value (exec_move rfl fr.1) (hK _ _ rfl (Below.refl _ _))⟩),
                  (fun Q a1 ww hS fr kn => ⟨trivial, fun K hK => wp_value (exec_nilc rfl kn.1) (hK _ _ rfl (Below.refl _ _))⟩),
                  (fun Q a1 ww hS fr kn => ⟨trivial, fun K hK => wp_value (exec_fds (k := 2) rfl kn.1 (by decide)) (hK _ _ rfl (Below.refl _ _))⟩),
                  (fun Q a1 ww hS fr kn => ⟨trivial, fun K hK => wp_value (exec_ixD (i := 2) rfl kn.1 rfl (by decide)) (hK _ _ rfl (Below.refl _ _))⟩),
                  (fun Q a1 ww hS fr kn => ⟨trivial, fun K hK => wp_value (exec_ldD (i := 2) rfl kn.1 (by decide) (hX.kept hS)) (hK _ _ rfl (Below.refl _ _))⟩),
                  (fun Q a1 ww hS fr kn => ⟨trivial, fun K hK => wp_value (exec_nilc rfl kn.1) (hK _ _ rfl (Below.refl _ _))⟩),
                  (fun Q a1 ww hS fr kn => ⟨trivial, fun K hK => wp_value (exec_fds (k := 2) rfl kn.1 (by decide)) (hK _ _ rfl (Below.refl _ _))⟩),
                  trivial⟩ ?_)
            · intro i v u' u'' hh hb
              match i with
              | 0 | 1 | 2 | 3 | 4 | 5 | 6 | 7 => exact hh

              | n + 8 => trivial
            intro vs uX' hSuX hkuX
            have eb : vs 107 = .pointer (some ⟨b, 2, none⟩) := hkuX 7 (by decide)
            have ev : vs 105 = .agg (SC 72 (dlR (RX 2))) := hkuX 5 (by decide)
            have hX' := hX.kept hSuX
            have hTX' := touch_tr hTX (touch_of_below hSuX)
            clear hkuX ct1 
            show wpList Tryz.prog _ _ (_ :: _ :: []) _ _
            simp only [putAll, Act.put, List.setIfInBounds_toArray, List.set_cons_zero, List.set_cons_succ, eb, ev]
            clear eb ev
            go_wp2_with (first | (refine wl_value rfl (exec_ixD (i := 1) rfl (by rfl) (by rfl) (by decide)) ?_) | (refine wl_act rfl (act_slotD (i := 1) rfl (by rfl) (by rfl) (by decide) hX' ?_); intro uB hB8 ouB; refine Hid.out ?_))
            refine Hid.mk ?_
            have hTB := touch_tr hTX' (touch_only ouB)
            have gB := (SAt.kept gX hSuX).only ouB hgb
            go_wp2_with (first | (refine wl_value rfl (exec_dlZ rfl) ?_) | (refine wl_value rfl (exec_ixD (i := 2) rfl (by rfl) (by rfl) (by decide)) ?_) | (refine wl_act rfl (act_slotD (i := 2) rfl (by rfl) (by rfl) (by decide) hB8 ?_); intro uC hC8 oC; refine Hid.out ?_))
            refine Hid.mk ?_
            have gC := gB.only oC hgb
            have hTC := touch_tr hTB (touch_only oC)
            rw [← hq] at hC8
            have hm1 : movedG rep RX rz 1 = RX 2 := moved_eq.1
            have hne1 : (movedG rep RX rz 1).1.ep ≠ 0 := by rw [hm1]; exact ep2
            have hn1 : (movedG rep RX rz 1).1.n < 10000 := by rw [hm1]; exact hn2
            have hnu1 : Nums L64 (movedG rep RX rz 1).1.n (movedG rep RX rz 1).1.s := by rw [hm1]; exact hnu2
            have hWX := hWM
            clear hm1 hq
            obtain ⟨g1, hg1, hW1, _⟩ := (hWX.tou hTC).yes 1 (by decide) hne1
            have cW : uC.cell? ⟨b, 145, none⟩ = some (.pointer (some ⟨g1, 0, none⟩)) := by have := hC8.cell 1 71 (by decide) (by decide); rw [show 2 + 72 * 1 + 71 = 145 by rfl] at this; rw [this]; show some (ptV ((movedG rep RX rz) 1).2) = _; rw [hg1]; rfl
            have HTP := Hid.mk (topR hW1 hnu1 hn1)
            clear hW1
            go_wp2_with fail
            refine HTP.out.mono ?_
            rintro e uT ⟨rfl, hBT⟩
            have hhT := hC8.kept hBT
            have hgT := SAt.kept gC hBT
            have hTT : Touch (fun x => x = b) uX uT := touch_tr hTC (touch_of_below hBT)
            clear HTP cW hBT
            by_cases htop : 8192 ≤ topF ((movedG rep RX rz) 1).1.s ((movedG rep RX rz) 1).1.n
            · have htd : decide (8192 ≤ topF ((movedG rep RX rz) 1).1.s ((movedG rep RX rz) 1).1.n) = true := decide_eq_true htop
              go_wp2_with (first | (refine wl_value rfl (exec_dlZ rfl) ?_) | (refine wl_value rfl (exec_ixD (i := 0) rfl (by rfl) (by rfl) (by decide)) ?_) | (refine wl_act rfl (act_slotD (i := 0) rfl (by rfl) (by rfl) (by decide) hhT ?_); intro uZ hhZ oZ; refine Hid.out ?_))
              refine Hid.mk ?_
              have hgZ := hgT.only oZ hgb
              have hTZ := touch_tr hTT (touch_only oZ)
              have heq : openedR RX 2 = setG (movedG rep RX rz) 0 rz := by unfold openedR; simp only [if_true]; rw [if_pos ⟨by decide, htop⟩]
              have cep := dl_ep hgZ
              have HE := Hid.mk (HGO.out uZ.drew (by rw [heq]; exact hhZ) hTZ.drew)
              clear hhT hgT hTT hhZ oZ hgZ hTZ heq
              go_wp2_with fail
              go_region
              go_wp2_with fail
              exact bodyPost_ret (res_ttt rfl (by rfl) (by rfl) (by rfl)) rfl ⟨by rw [HRS.out]; rfl, by rw [HRS.out]; exact HE.out⟩
            · have htd : decide (8192 ≤ topF ((movedG rep RX rz) 1).1.s ((movedG rep RX rz) 1).1.n) = false := decide_eq_false htop
              have heq : openedR RX 2 = (movedG rep RX rz) := by unfold openedR; simp only [if_true]; rw [if_neg (fun e => htop e.2)]
              have cep := dl_ep hgT
              have HE := Hid.mk (HGO.out uT.drew (by rw [heq]; exact hhT) hTT.drew)
              clear hhT hgT hTT heq
              go_wp2_with fail
              go_region
              go_wp2_with fail
              exact bodyPost_ret (res_ttt rfl (by rfl) (by rfl) (by rfl)) rfl ⟨by rw [HRS.out]; rfl, by rw [HRS.out]; exact HE.out⟩
          · rw [show (!decide ((RX 1).1.ep = 0)) = true by simp [he1]] at ct1
            have hq : movedG rep RX rz = setG (setG (setG RX 0 (RX 1)) 1 (RX 2)) 2 rz := by unfold movedG; rw [keep_set 1, if_pos he1]
            go_wp2_with fail
            refine wp_region_cut 8 rfl (by kernel_rfl) (any_steps (Below uX.heap.size uX) (fun v v' => Below v.heap.size v v') (fun i v v0 => match i with | 0 => v = .pointer (some ⟨b, 0, none⟩) | 1 => v = .pointer (some ⟨b, 0, none⟩) | 2 => v = .pointer (some ⟨b, 0, none⟩) | 3 => v = .pointer (some ⟨b, 2, none⟩) | 4 => v = .pointer (some ⟨b, 2 + 72 * 1, none⟩) | 5 => v = .agg (SC 72 (dlR (RX 1))) | 6 => v = .pointer (some ⟨b, 0, none⟩) | 7 => v = .pointer (some ⟨b, 2, none⟩) | _ => True)
                [91, 92, 93, 94, 95, 96, 97, 98]
                [(0, .pointer (some ⟨b, 0, none⟩))]
                [[], [], [1], [2], [3], [4], [0], [6]]
                (by kernel_rfl) ⟨rfl, trivial⟩ (Below.drew (Below.refl _ _)) (fun v v' h hb => h.trans (hb.mono h.size)) ?_
                ⟨
                  (fun Q a1 ww hS fr kn => ⟨trivial, fun K hK => wp_value (exec_move rfl fr.1) (hK _ _ rfl (Below.refl _ _))⟩),
                  (fun Q a1 ww hS fr kn => ⟨trivial, fun K hK => wp_value (exec_move rfl fr.1) (hK _ _ rfl (Below.refl _ _))⟩),
                  (fun Q a1 ww hS fr kn => ⟨trivial, fun K hK => wp_value (exec_nilc rfl kn.1) (hK _ _ rfl (Below.refl _ _))⟩),
                  (fun Q a1 ww hS fr kn => ⟨trivial, fun K hK => wp_value (exec_fds (k := 2) rfl kn.1 (by decide)) (hK _ _ rfl (Below.refl _ _))⟩),
                  (fun Q a1 ww hS fr kn => ⟨trivial, fun K hK => wp_value (exec_ixD (i := 1) rfl kn.1 rfl (by decide)) (hK _ _ rfl (Below.refl _ _))⟩),
                  (fun Q a1 ww hS fr kn => ⟨trivial, fun K hK => wp_value (exec_ldD (i := 1) rfl kn.1 (by decide) (hX.kept hS)) (hK _ _ rfl (Below.refl _ _))⟩),
                  (fun Q a1 ww hS fr kn => ⟨trivial, fun K hK => wp_value (exec_nilc rfl kn.1) (hK _ _ rfl (Below.refl _ _))⟩),
                  (fun Q a1 ww hS fr kn => ⟨trivial, fun K hK => wp_value (exec_fds (k := 2) rfl kn.1 (by decide)) (hK _ _ rfl (Below.refl _ _))⟩),
                  trivial⟩ ?_)
            · intro i v u' u'' hh hb
              match i with
              | 0 | 1 | 2 | 3 | 4 | 5 | 6 | 7 => exact hh

              | n + 8 => trivial
            intro vs uX' hSuX hkuX
            have eb : vs 98 = .pointer (some ⟨b, 2, none⟩) := hkuX 7 (by decide)
            have ev : vs 96 = .agg (SC 72 (dlR (RX 1))) := hkuX 5 (by decide)
            have hX' := hX.kept hSuX
            have hTX' := touch_tr hTX (touch_of_below hSuX)
            clear hkuX ct1 
            show wpList Tryz.prog _ _ (_ :: _ :: []) _ _
            simp only [putAll, Act.put, List.setIfInBounds_toArray, List.set_cons_zero, List.set_cons_succ, eb, ev]
            clear eb ev
            go_wp2_with (first | (refine wl_value rfl (exec_ixD (i := 0) rfl (by rfl) (by rfl) (by decide)) ?_) | (refine wl_act rfl (act_slotD (i := 0) rfl (by rfl) (by rfl) (by decide) hX' ?_); intro uA hA8 ouA; refine Hid.out ?_))
            refine Hid.mk ?_
            have hTA := touch_tr hTX' (touch_only ouA)
            have gA := (SAt.kept gX hSuX).only ouA hgb
            go_wp2_with fail
            refine wp_region_cut 8 rfl (by kernel_rfl) (any_steps (Below uA.heap.size uA) (fun v v' => Below v.heap.size v v') (fun i v v0 => match i with | 0 => v = .pointer (some ⟨b, 0, none⟩) | 1 => v = .pointer (some ⟨b, 0, none⟩) | 2 => v = .pointer (some ⟨b, 0, none⟩) | 3 => v = .pointer (some ⟨b, 2, none⟩) | 4 => v = .pointer (some ⟨b, 2 + 72 * 2, none⟩) | 5 => v = .agg (SC 72 (dlR (RX 2))) | 6 => v = .pointer (some ⟨b, 0, none⟩) | 7 => v = .pointer (some ⟨b, 2, none⟩) | _ => True)
                [100, 101, 102, 103, 104, 105, 106, 107]
                [(0, .pointer (some ⟨b, 0, none⟩))]
                [[], [], [1], [2], [3], [4], [0], [6]]
                (by kernel_rfl) ⟨rfl, trivial⟩ (Below.drew (Below.refl _ _)) (fun v v' h hb => h.trans (hb.mono h.size)) ?_
                ⟨
                  (fun Q a1 ww hS fr kn => ⟨trivial, fun K hK => wp_value (exec_move rfl fr.1) (hK _ _ rfl (Below.refl _ _))⟩),
                  (fun Q a1 ww hS fr kn => ⟨trivial, fun K hK => wp_value (exec_move rfl fr.1) (hK _ _ rfl (Below.refl _ _))⟩),
                  (fun Q a1 ww hS fr kn => ⟨trivial, fun K hK => wp_value (exec_nilc rfl kn.1) (hK _ _ rfl (Below.refl _ _))⟩),
                  (fun Q a1 ww hS fr kn => ⟨trivial, fun K hK => wp_value (exec_fds (k := 2) rfl kn.1 (by decide)) (hK _ _ rfl (Below.refl _ _))⟩),
                  (fun Q a1 ww hS fr kn => ⟨trivial, fun K hK => wp_value (exec_ixD (i := 2) rfl kn.1 rfl (by decide)) (hK _ _ rfl (Below.refl _ _))⟩),
                  (fun Q a1 ww hS fr kn => ⟨trivial, fun K hK => wp_value (exec_ldD (i := 2) rfl kn.1 (by decide) (hA8.kept hS)) (hK _ _ rfl (Below.refl _ _))⟩),
                  (fun Q a1 ww hS fr kn => ⟨trivial, fun K hK => wp_value (exec_nilc rfl kn.1) (hK _ _ rfl (Below.refl _ _))⟩),
                  (fun Q a1 ww hS fr kn => ⟨trivial, fun K hK => wp_value (exec_fds (k := 2) rfl kn.1 (by decide)) (hK _ _ rfl (Below.refl _ _))⟩),
                  trivial⟩ ?_)
            · intro i v u' u'' hh hb
              match i with
              | 0 | 1 | 2 | 3 | 4 | 5 | 6 | 7 => exact hh

              | n + 8 => trivial
            intro vs uA' hSuA hkuA
            have eb : vs 107 = .pointer (some ⟨b, 2, none⟩) := hkuA 7 (by decide)
            have ev : vs 105 = .agg (SC 72 (dlR (RX 2))) := hkuA 5 (by decide)
            have hA8' := hA8.kept hSuA
            have hTA' := touch_tr hTA (touch_of_below hSuA)
            clear hkuA 
            show wpList Tryz.prog _ _ (_ :: _ :: []) _ _
            simp only [putAll, Act.put, List.setIfInBounds_toArray, List.set_cons_zero, List.set_cons_succ, eb, ev]
            clear eb ev
            go_wp2_with (first | (refine wl_value rfl (exec_ixD (i := 1) rfl (by rfl) (by rfl) (by decide)) ?_) | (refine wl_act rfl (act_slotD (i := 1) rfl (by rfl) (by rfl) (by decide) hA8' ?_); intro uB hB8 ouB; refine Hid.out ?_))
            refine Hid.mk ?_
            have hTB := touch_tr hTA' (touch_only ouB)
            have gB := (SAt.kept gA hSuA).only ouB hgb
            go_wp2_with (first | (refine wl_value rfl (exec_dlZ rfl) ?_) | (refine wl_value rfl (exec_ixD (i := 2) rfl (by rfl) (by rfl) (by decide)) ?_) | (refine wl_act rfl (act_slotD (i := 2) rfl (by rfl) (by rfl) (by decide) hB8 ?_); intro uC hC8 oC; refine Hid.out ?_))
            refine Hid.mk ?_
            have gC := gB.only oC hgb
            have hTC := touch_tr hTB (touch_only oC)
            rw [← hq] at hC8
            have hm1 : movedG rep RX rz 1 = RX 2 := moved_eq.1
            have hne1 : (movedG rep RX rz 1).1.ep ≠ 0 := by rw [hm1]; exact ep2
            have hn1 : (movedG rep RX rz 1).1.n < 10000 := by rw [hm1]; exact hn2
            have hnu1 : Nums L64 (movedG rep RX rz 1).1.n (movedG rep RX rz 1).1.s := by rw [hm1]; exact hnu2
            have hWX := hWM
            clear hm1 hq
            obtain ⟨g1, hg1, hW1, _⟩ := (hWX.tou hTC).yes 1 (by decide) hne1
            have cW : uC.cell? ⟨b, 145, none⟩ = some (.pointer (some ⟨g1, 0, none⟩)) := by have := hC8.cell 1 71 (by decide) (by decide); rw [show 2 + 72 * 1 + 71 = 145 by rfl] at this; rw [this]; show some (ptV ((movedG rep RX rz) 1).2) = _; rw [hg1]; rfl
            have HTP := Hid.mk (topR hW1 hnu1 hn1)
            clear hW1
            go_wp2_with fail
            refine HTP.out.mono ?_
            rintro e uT ⟨rfl, hBT⟩
            have hhT := hC8.kept hBT
            have hgT := SAt.kept gC hBT
            have hTT : Touch (fun x => x = b) uX uT := touch_tr hTC (touch_of_below hBT)
            clear HTP cW hBT
            by_cases htop : 8192 ≤ topF ((movedG rep RX rz) 1).1.s ((movedG rep RX rz) 1).1.n
            · have htd : decide (8192 ≤ topF ((movedG rep RX rz) 1).1.s ((movedG rep RX rz) 1).1.n) = true := decide_eq_true htop
              go_wp2_with (first | (refine wl_value rfl (exec_dlZ rfl) ?_) | (refine wl_value rfl (exec_ixD (i := 0) rfl (by rfl) (by rfl) (by decide)) ?_) | (refine wl_act rfl (act_slotD (i := 0) rfl (by rfl) (by rfl) (by decide) hhT ?_); intro uZ hhZ oZ; refine Hid.out ?_))
              refine Hid.mk ?_
              have hgZ := hgT.only oZ hgb
              have hTZ := touch_tr hTT (touch_only oZ)
              have heq : openedR RX 2 = setG (movedG rep RX rz) 0 rz := by unfold openedR; simp only [if_true]; rw [if_pos ⟨by decide, htop⟩]
              have cep := dl_ep hgZ
              have HE := Hid.mk (HGO.out uZ.drew (by rw [heq]; exact hhZ) hTZ.drew)
              clear hhT hgT hTT hhZ oZ hgZ hTZ heq
              go_wp2_with fail
              go_region
              go_wp2_with fail
              exact bodyPost_ret (res_ttt rfl (by rfl) (by rfl) (by rfl)) rfl ⟨by rw [HRS.out]; rfl, by rw [HRS.out]; exact HE.out⟩
            · have htd : decide (8192 ≤ topF ((movedG rep RX rz) 1).1.s ((movedG rep RX rz) 1).1.n) = false := decide_eq_false htop
              have heq : openedR RX 2 = (movedG rep RX rz) := by unfold openedR; simp only [if_true]; rw [if_neg (fun e => htop e.2)]
              have cep := dl_ep hgT
              have HE := Hid.mk (HGO.out uT.drew (by rw [heq]; exact hhT) hTT.drew)
              clear hhT hgT hTT heq
              go_wp2_with fail
              go_region
              go_wp2_with fail
              exact bodyPost_ret (res_ttt rfl (by rfl) (by rfl) (by rfl)) rfl ⟨by rw [HRS.out]; rfl, by rw [HRS.out]; exact HE.out⟩
end Go.Proofs.YtbkbcfimpaolmaaGreat
