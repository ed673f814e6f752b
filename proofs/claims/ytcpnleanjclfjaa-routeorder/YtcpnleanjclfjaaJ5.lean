/-
  Own text. The code's with, without.
-/
import Derived.Test.YtcpnleanjclfjaaJ4
namespace Go.Proofs.Ytcpnleanjclfjaa
open Go.RowKit Go.Proofs
set_option maxRecDepth 100000
theorem enterWith (args : Array Value) (w : World) : (callFunc 32 args).run Try.prog w = .ok (.enter 32 args) w := by kernel_rfl
theorem enterWithout (args : Array Value) (w : World) : (callFunc 29 args).run Try.prog w = .ok (.enter 29 args) w := by kernel_rfl
section
variable {a : Act} {o : Oper} {w : World} {x y : Operand}
theorem exec_fn0 (ho : o.op = .fieldAddr 72 x 0) {g : Nat} (hx : a.eval x = .pointer (some ⟨g, 0, none⟩)) : (execOp a.eval o).run Try.prog w = .ok (.value (.pointer (some ⟨g, 0, none⟩))) w := by
  have h : (Instr.fieldAt 72 (.pointer (some ⟨g, 0, none⟩)) 0).run Try.prog w = .ok (.pointer (some ⟨g, 0, none⟩)) w := by simp [go_sem]
  unfold execOp
  simp only [ho, hx, Sem.run_bind, h, Result.andThen_ok, Sem.run_pure]
theorem exec_ix2 (ho : o.op = .indexAddr 56 x y) {g c : Nat} (hx : a.eval x = .pointer (some ⟨g, 0, none⟩)) (hy : a.eval y = .int .i64 (c : Int)) (hc : c < 2) : (execOp a.eval o).run Try.prog w = .ok (.value (.pointer (some ⟨g, c, none⟩))) w := by
  exact exec_idxA ho Try.underlying56 (by kernel_rfl) (fun w => by kernel_rfl) hx hy hc
theorem ld_ptr {p : Addr} {v : Value} (h : w.cell? p = some v) : (Instr.loadAt 55 (.pointer (some p))).run Try.prog w = .ok v w := by simp [go_sem, h]
end
theorem nd_set23 {w : World} {g : Nat} {pl pr : Option Addr} {th : Bool} {ow : Int} (h : SAt w g 72 4 (ndV pl pr th ow)) (t : Bool) (u : Int) : SAt ((w.setCell ⟨g, 2, none⟩ (.bool t)).setCell ⟨g, 3, none⟩ (.int .i64 u)) g 72 4 (ndV pl pr t u) :=
  ((h.set 2 (.bool t) (by omega)).set 3 (.int .i64 u) (by omega)).congr (fun i hi => by
    match i, hi with
    | 0, _ => rfl
    | 1, _ => rfl
    | 2, _ => rfl
    | 3, _ => rfl)
theorem set_tr {S : Nat → Prop} {w : World} {g c : Nat} {p2 pl pr : Option Addr} {T St : Tr} (hq : SAt w g 72 4 (ndV (if c = 0 then p2 else pl) (if c = 0 then pr else p2) T.th T.ow)) (hS : S g) (h2 : IsTr S w p2 St) (hl : IsTr S w pl T.lf) (hr : IsTr S w pr T.rt) : IsTr S w (some ⟨g, 0, none⟩) (T.setBr c St) := by
  unfold Tr.setBr
  by_cases e : c = 0
  · rw [if_pos e] at hq ⊢
    rw [if_pos e] at hq
    exact ⟨g, p2, pr, rfl, hS, hq, h2, hr⟩
  · rw [if_neg e] at hq ⊢
    rw [if_neg e] at hq
    exact ⟨g, pl, p2, rfl, hS, hq, hl, h2⟩
set_option maxHeartbeats 16000000 in
theorem with_run (v : Bool) (b : Nat → Int) (n : Nat) (ow : Int) (hb : Byts 16 b) (hn : n ≤ 128) : ∀ (k i : Nat) (p : Option Addr) (T : Tr) (w : World) (S : Nat → Prop), i + k = n → IsTr S w p T → Calls Try.prog 32 #[.pointer p, .agg (SC 18 (prV v b (n : Int))), .int .i64 (i : Int), .int .i64 ow] w fun e w' => ∃ p2, e = .returned (.pointer p2) ∧ IsTr (fun x => S x ∨ w.heap.size ≤ x) w' p2 (wiT b ow k i T) ∧ Below w.heap.size w w' := by
  intro k
  induction k with
  | zero =>
    intro i p T w S hik ht
    obtain ⟨pl, pr, hl, hr, hp⟩ := ht.parts
    go_enter Try.func32, Try.ntmps32
    go_wp2_with (refine wl_boxO rfl rfl isPfx (by rfl) ?_; intro g5 w1 hg5 q1 hB1; refine Hid.out ?_)
    refine Hid.mk ?_
    go_wp2_with (refine wl_alO rfl rfl zeroNod ?_; intro gm w2 hg2 q2 hB2; refine Hid.out ?_)
    refine Hid.mk ?_
    have q5 := SAt.kept q1 hB2
    have hBa : Below w.heap.size w w2 := hB1.trans (hB2.mono hB1.size)
    have hgm : w.heap.size ≤ gm := by have := hB1.size; omega
    have h5m : g5 ≠ gm := by have := SAt.lt q1; omega
    clear q1 hB1 hB2
    rcases hp with ⟨rfl, hpl, hpr, hT⟩ | ⟨bk, rfl, hS, qb⟩
    · obtain ⟨wz, hwz⟩ : ∃ wz, wz = w2 := ⟨_, rfl⟩
      have qm : SAt wz gm 72 4 (ndV pl pr T.th T.ow) := by rw [hwz, hpl, hpr, hT]; exact q2
      rw [← hwz] at q5 hBa ⊢
      have hBz := hBa
      clear q2 hwz hBa hpl hpr ht hT
      have hdi : decide ((i : Int) = (n : Int)) = true := decide_eq_true (by omega)
      have cn := pr_n q5
      have c2 := nd_t qm
      have c3 := nd_o qm
      have f2 : wz.frozen? ⟨gm, 2, none⟩ = false := frozen_of_row wz gm 2 _ _ qm
      have f3 : wz.frozen? ⟨gm, 3, none⟩ = false := frozen_of_row wz gm 3 _ _ qm
      have HF : Hid (SAt ((wz.setCell ⟨gm, 2, none⟩ (.bool true)).setCell ⟨gm, 3, none⟩ (.int .i64 ow)) gm 72 4 (ndV pl pr true ow) ∧ Only gm wz ((wz.setCell ⟨gm, 2, none⟩ (.bool true)).setCell ⟨gm, 3, none⟩ (.int .i64 ow))) := Hid.mk ⟨nd_set23 qm true ow, only_set.setCell 3 (.int .i64 ow)⟩
      go_wp2_with (first | (refine wl_value rfl (exec_fpb0 rfl (by rfl)) ?_) | (refine wl_value rfl (exec_eqI rfl (by rfl) (by rfl) hdi) ?_) | (refine wl_value rfl (exec_fpx rfl (by rfl)) ?_) | (refine wl_value rfl (exec_ldA rfl q5 (by rfl)) ?_))
      go_ret
      have hBf := hBz.trans (HF.out.2.below hgm)
      exact ⟨_, rfl, ⟨gm, pl, pr, rfl, .inr hgm, HF.out.1, (hl.below hBf).mono (fun x _ hx => .inl hx), (hr.below hBf).mono (fun x _ hx => .inl hx)⟩, hBf⟩
    · have qb2 := SAt.kept qb hBa
      go_upto_region 4 with (first | (refine wl_value rfl (look_st rfl isNod qb2 (by rfl)) ?_) | (refine st_stO rfl rfl isNod (ndV_one _ _ _ _) q2 (by rfl) (by rfl) ?_; intro wz qm oz; refine Hid.out ?_))
      refine Hid.mk ?_
      replace q5 := q5.only oz h5m
      have hBz := hBa.trans (oz.below hgm)
      clear q2 oz hBa qb2 qb ht
      have hdi : decide ((i : Int) = (n : Int)) = true := decide_eq_true (by omega)
      have cn := pr_n q5
      have c2 := nd_t qm
      have c3 := nd_o qm
      have f2 : wz.frozen? ⟨gm, 2, none⟩ = false := frozen_of_row wz gm 2 _ _ qm
      have f3 : wz.frozen? ⟨gm, 3, none⟩ = false := frozen_of_row wz gm 3 _ _ qm
      have HF : Hid (SAt ((wz.setCell ⟨gm, 2, none⟩ (.bool true)).setCell ⟨gm, 3, none⟩ (.int .i64 ow)) gm 72 4 (ndV pl pr true ow) ∧ Only gm wz ((wz.setCell ⟨gm, 2, none⟩ (.bool true)).setCell ⟨gm, 3, none⟩ (.int .i64 ow))) := Hid.mk ⟨nd_set23 qm true ow, only_set.setCell 3 (.int .i64 ow)⟩
      go_wp2_with (first | (refine wl_value rfl (exec_fpb0 rfl (by rfl)) ?_) | (refine wl_value rfl (exec_eqI rfl (by rfl) (by rfl) hdi) ?_) | (refine wl_value rfl (exec_fpx rfl (by rfl)) ?_) | (refine wl_value rfl (exec_ldA rfl q5 (by rfl)) ?_))
      go_ret
      have hBf := hBz.trans (HF.out.2.below hgm)
      exact ⟨_, rfl, ⟨gm, pl, pr, rfl, .inr hgm, HF.out.1, (hl.below hBf).mono (fun x _ hx => .inl hx), (hr.below hBf).mono (fun x _ hx => .inl hx)⟩, hBf⟩

  | succ k ih =>
    intro i p T w S hik ht
    obtain ⟨pl, pr, hl, hr, hp⟩ := ht.parts
    go_enter Try.func32, Try.ntmps32
    go_wp2_with (refine wl_boxO rfl rfl isPfx (by rfl) ?_; intro g5 w1 hg5 q1 hB1; refine Hid.out ?_)
    refine Hid.mk ?_
    go_wp2_with (refine wl_alO rfl rfl zeroNod ?_; intro gm w2 hg2 q2 hB2; refine Hid.out ?_)
    refine Hid.mk ?_
    have q5 := SAt.kept q1 hB2
    have hBa : Below w.heap.size w w2 := hB1.trans (hB2.mono hB1.size)
    have hgm : w.heap.size ≤ gm := by have := hB1.size; omega
    have h5m : g5 ≠ gm := by have := SAt.lt q1; omega
    clear q1 hB1 hB2
    rcases hp with ⟨rfl, hpl, hpr, hT⟩ | ⟨bk, rfl, hS, qb⟩
    · obtain ⟨wz, hwz⟩ : ∃ wz, wz = w2 := ⟨_, rfl⟩
      have qm : SAt wz gm 72 4 (ndV pl pr T.th T.ow) := by rw [hwz, hpl, hpr, hT]; exact q2
      rw [← hwz] at q5 hBa ⊢
      have hBz := hBa
      clear q2 hwz hBa hpl hpr ht hT
      have hdi : decide ((i : Int) = (n : Int)) = false := decide_eq_false (by omega)
      have cn := pr_n q5
      obtain ⟨c, hc⟩ : ∃ c, bN b i = c := ⟨_, rfl⟩
      have hc2 : c < 2 := by rw [← hc]; exact bN_lt b i
      have HBIT : Hid (Calls Try.prog 39 #[.agg (SC 17 (adV v b)), .int .i64 (i : Int)] wz fun e w' => e = .returned (.int .i64 (c : Int)) ∧ Below wz.heap.size wz w') := Hid.mk (by
        have := bitC_run v b i wz (by omega) hb
        rw [bN_eq, hc] at this
        exact this)
      go_wp2_with (first | (refine wl_value rfl (exec_fpb0 rfl (by rfl)) ?_) | (refine wl_value rfl (exec_eqI rfl (by rfl) (by rfl) hdi) ?_) | (refine wl_value rfl (exec_fpx rfl (by rfl)) ?_) | (refine wl_value rfl (exec_ldA rfl q5 (by rfl)) ?_))
      refine HBIT.out.mono ?_
      rintro e wy ⟨rfl, hBy⟩
      clear HBIT cn
      replace q5 := SAt.kept q5 hBy
      replace qm := SAt.kept qm hBy
      replace hBz := hBz.trans (hBy.mono hBz.size)
      clear hBy
      obtain ⟨pc, hpc⟩ : ∃ pc, (if c = 0 then pl else pr) = pc := ⟨_, rfl⟩
      obtain ⟨St, hSt⟩ : ∃ St, wiT b ow k (i + 1) (T.br c) = St := ⟨_, rfl⟩
      have htc : IsTr (fun x => S x ∧ x < w.heap.size) w pc (T.br c) := by rw [← hpc]; exact (IsTr.pbr hl hr c).mono (fun x hx hs => ⟨hs, hx⟩)
      have HPC : Hid (∀ ww, Below wy.heap.size wy ww → ww.cell? ⟨gm, c, none⟩ = some (.pointer pc)) := Hid.mk (fun ww hh => by rw [← hpc]; exact nd_br (SAt.kept qm hh) hc2)
      have HI : Hid (∀ ww, Below wy.heap.size wy ww → Calls Try.prog 32 #[.pointer pc, .agg (SC 18 (prV v b (n : Int))), .int .i64 ((i : Int) + 1), .int .i64 ow] ww fun r w' => ∃ u, r = .returned u ∧ ((∃ p2, u = .pointer p2 ∧ IsTr (fun x => (S x ∧ x < w.heap.size) ∨ wy.heap.size ≤ x) w' p2 St) ∧ Below ww.heap.size ww w')) := Hid.mk (fun ww hh => by
        have h1 := ih (i + 1) pc (T.br c) ww (fun x => S x ∧ x < w.heap.size) (by omega) (htc.below (hBz.trans (hh.mono hBz.size)))
        rw [show ((i + 1 : Nat) : Int) = (i : Int) + 1 by omega] at h1
        refine h1.mono ?_
        rintro e w' ⟨p2, rfl, h2, h3⟩
        exact ⟨_, rfl, ⟨p2, rfl, by rw [← hSt]; exact h2.mono (fun x _ hx => hx.imp id (fun hx => Nat.le_trans hh.size hx))⟩, h3⟩)
      clear htc
      go_wp2_with fail
      refine wp_region_cut 11 rfl (by kernel_rfl) (any_steps (Below wy.heap.size wy) (fun v v' => Below v.heap.size v v') (fun iq vq v0 => match iq with | 0 => vq = .int .i64 (c : Int) | 1 => vq = .int .i64 (c : Int) | 2 => vq = .pointer (some ⟨gm, 0, none⟩) | 3 => vq = .pointer (some ⟨gm, c, none⟩) | 4 => vq = .pointer pc | 5 => vq = .agg (SC 18 (prV v b (n : Int))) | 6 => vq = .int .i64 (i : Int) | 7 => vq = .int .i64 ((i : Int) + 1) | 8 => vq = .int .i64 ow | 9 => ∃ p2, vq = .pointer p2 ∧ IsTr (fun x => (S x ∧ x < w.heap.size) ∨ wy.heap.size ≤ x) v0 p2 St | 10 => vq = .pointer (some ⟨gm, 0, none⟩) | _ => True)
          [27, 28, 29, 30, 31, 32, 33, 34, 35, 36, 37]
          [(2, .int .i64 (i : Int)), (3, .int .i64 ow), (5, .pointer (some ⟨g5, 0, none⟩)), (9, .pointer (some ⟨gm, 0, none⟩)), (10, .int .i64 (c : Int))]
          [[], [], [], [2, 1], [3], [], [], [6], [], [4, 5, 7, 8], []]
          (by kernel_rfl) ⟨rfl, rfl, rfl, rfl, rfl, trivial⟩ (Below.drew (Below.refl _ _)) (fun v v' h hb => h.trans (hb.mono h.size)) ?_
          ⟨
            (fun Q a1 ww hS fr kn => ⟨trivial, fun K hK => wp_value (exec_move rfl fr.2.2.2.2.1) (hK _ _ rfl (Below.refl _ _))⟩),
            (fun Q a1 ww hS fr kn => ⟨trivial, fun K hK => wp_value (exec_move rfl fr.2.2.2.2.1) (hK _ _ rfl (Below.refl _ _))⟩),
            (fun Q a1 ww hS fr kn => ⟨trivial, fun K hK => wp_value (exec_fn0 rfl fr.2.2.2.1) (hK _ _ rfl (Below.refl _ _))⟩),
            (fun Q a1 ww hS fr kn => ⟨trivial, fun K hK => wp_value (exec_ix2 (c := c) rfl kn.1 kn.2.1 hc2) (hK _ _ rfl (Below.refl _ _))⟩),
            (fun Q a1 ww hS fr kn => ⟨trivial, fun K hK => wp_value (exec_ld rfl kn.1 (ld_ptr (HPC.out ww hS))) (hK _ _ rfl (Below.refl _ _))⟩),
            (fun Q a1 ww hS fr kn => ⟨trivial, fun K hK => wp_value (look_st rfl isPfx (SAt.kept q5 hS) fr.2.2.1) (hK _ _ rfl (Below.refl _ _))⟩),
            (fun Q a1 ww hS fr kn => ⟨trivial, fun K hK => wp_value (exec_move rfl fr.1) (hK _ _ rfl (Below.refl _ _))⟩),
            (fun Q a1 ww hS fr kn => ⟨trivial, fun K hK => wp_value (exec_inc (d := i) rfl kn.1 rfl (by omega)) (hK _ _ rfl (Below.refl _ _))⟩),
            (fun Q a1 ww hS fr kn => ⟨trivial, fun K hK => wp_value (exec_move rfl fr.2.1) (hK _ _ rfl (Below.refl _ _))⟩),
            (fun Q a1 ww hS fr kn => ⟨trivial, fun K hK => stepp enterWith rfl (args4 kn.1 kn.2.1 kn.2.2.1 kn.2.2.2.1) (HI.out ww hS) (fun v1 w1 hr => hK v1 w1 hr.1 hr.2)⟩),
            (fun Q a1 ww hS fr kn => ⟨trivial, fun K hK => wp_value (exec_fn0 rfl fr.2.2.2.1) (hK _ _ rfl (Below.refl _ _))⟩),
            trivial⟩ ?_)
      · intro iq vq u' u'' hh hb
        match iq with
        | 0 | 1 | 2 | 3 | 4 | 5 | 6 | 7 | 8 | 10 => exact hh
        | 9 => obtain ⟨p2, e2, h2⟩ := hh; exact ⟨p2, e2, h2.below hb⟩
        | n + 11 => trivial
      intro vs wA hSA hkA
      have ecv : vs 27 = .int .i64 (c : Int) := hkA 0 (by decide)
      have efa : vs 37 = .pointer (some ⟨gm, 0, none⟩) := hkA 10 (by decide)
      obtain ⟨p2, ecl, htr⟩ : ∃ p2, vs 36 = .pointer p2 ∧ IsTr (fun x => (S x ∧ x < w.heap.size) ∨ wy.heap.size ≤ x) wA p2 St := hkA 9 (by decide)
      have cA := HPC.out wA hSA
      have qmA := SAt.kept qm hSA
      have fA : wA.frozen? ⟨gm, c, none⟩ = false := frozen_of_row wA gm c _ _ qmA
      have hBA : Below w.heap.size w wA := hBz.trans (hSA.mono hBz.size)
      have hgmy : gm < wy.heap.size := SAt.lt qm
      have HF : Hid (SAt (wA.setCell ⟨gm, c, none⟩ (.pointer p2)) gm 72 4 (ndV (if c = 0 then p2 else pl) (if c = 0 then pr else p2) T.th T.ow) ∧ IsTr (fun x => S x ∨ w.heap.size ≤ x) (wA.setCell ⟨gm, c, none⟩ (.pointer p2)) p2 St ∧ Below w.heap.size w (wA.setCell ⟨gm, c, none⟩ (.pointer p2))) := Hid.mk ⟨nd_set qmA hc2 p2, (htr.only only_set (fun e => e.elim (fun e => by omega) (fun e => by omega))).mono (fun x _ hx => hx.imp (fun h => h.1) (fun h => by have := hBz.size; omega)), hBA.trans (only_set.below hgm)⟩
      clear hkA hSA HI HPC htr
      show wpList Try.prog _ _ (_ :: _ :: []) _ _
      simp only [putAll, Act.put, List.setIfInBounds_toArray, List.set_cons_zero, List.set_cons_succ, ecv, efa, ecl]
      clear ecv efa ecl
      go_wp2_with (refine wl_value rfl (exec_ix2 (c := c) rfl (by rfl) (by rfl) hc2) ?_)
      go_ret
      refine ⟨_, rfl, ?_, HF.out.2.2⟩
      show IsTr _ _ _ (T.setBr (bN b i) (wiT b ow k (i + 1) (T.br (bN b i))))
      rw [hc, hSt]
      exact set_tr HF.out.1 (.inr hgm) HF.out.2.1 ((hl.below HF.out.2.2).mono (fun x _ hx => .inl hx)) ((hr.below HF.out.2.2).mono (fun x _ hx => .inl hx))
    · have qb2 := SAt.kept qb hBa
      go_upto_region 4 with (first | (refine wl_value rfl (look_st rfl isNod qb2 (by rfl)) ?_) | (refine st_stO rfl rfl isNod (ndV_one _ _ _ _) q2 (by rfl) (by rfl) ?_; intro wz qm oz; refine Hid.out ?_))
      refine Hid.mk ?_
      replace q5 := q5.only oz h5m
      have hBz := hBa.trans (oz.below hgm)
      clear q2 oz hBa qb2 qb ht
      have hdi : decide ((i : Int) = (n : Int)) = false := decide_eq_false (by omega)
      have cn := pr_n q5
      obtain ⟨c, hc⟩ : ∃ c, bN b i = c := ⟨_, rfl⟩
      have hc2 : c < 2 := by rw [← hc]; exact bN_lt b i
      have HBIT : Hid (Calls Try.prog 39 #[.agg (SC 17 (adV v b)), .int .i64 (i : Int)] wz fun e w' => e = .returned (.int .i64 (c : Int)) ∧ Below wz.heap.size wz w') := Hid.mk (by
        have := bitC_run v b i wz (by omega) hb
        rw [bN_eq, hc] at this
        exact this)
      go_wp2_with (first | (refine wl_value rfl (exec_fpb0 rfl (by rfl)) ?_) | (refine wl_value rfl (exec_eqI rfl (by rfl) (by rfl) hdi) ?_) | (refine wl_value rfl (exec_fpx rfl (by rfl)) ?_) | (refine wl_value rfl (exec_ldA rfl q5 (by rfl)) ?_))
      refine HBIT.out.mono ?_
      rintro e wy ⟨rfl, hBy⟩
      clear HBIT cn
      replace q5 := SAt.kept q5 hBy
      replace qm := SAt.kept qm hBy
      replace hBz := hBz.trans (hBy.mono hBz.size)
      clear hBy
      obtain ⟨pc, hpc⟩ : ∃ pc, (if c = 0 then pl else pr) = pc := ⟨_, rfl⟩
      obtain ⟨St, hSt⟩ : ∃ St, wiT b ow k (i + 1) (T.br c) = St := ⟨_, rfl⟩
      have htc : IsTr (fun x => S x ∧ x < w.heap.size) w pc (T.br c) := by rw [← hpc]; exact (IsTr.pbr hl hr c).mono (fun x hx hs => ⟨hs, hx⟩)
      have HPC : Hid (∀ ww, Below wy.heap.size wy ww → ww.cell? ⟨gm, c, none⟩ = some (.pointer pc)) := Hid.mk (fun ww hh => by rw [← hpc]; exact nd_br (SAt.kept qm hh) hc2)
      have HI : Hid (∀ ww, Below wy.heap.size wy ww → Calls Try.prog 32 #[.pointer pc, .agg (SC 18 (prV v b (n : Int))), .int .i64 ((i : Int) + 1), .int .i64 ow] ww fun r w' => ∃ u, r = .returned u ∧ ((∃ p2, u = .pointer p2 ∧ IsTr (fun x => (S x ∧ x < w.heap.size) ∨ wy.heap.size ≤ x) w' p2 St) ∧ Below ww.heap.size ww w')) := Hid.mk (fun ww hh => by
        have h1 := ih (i + 1) pc (T.br c) ww (fun x => S x ∧ x < w.heap.size) (by omega) (htc.below (hBz.trans (hh.mono hBz.size)))
        rw [show ((i + 1 : Nat) : Int) = (i : Int) + 1 by omega] at h1
        refine h1.mono ?_
        rintro e w' ⟨p2, rfl, h2, h3⟩
        exact ⟨_, rfl, ⟨p2, rfl, by rw [← hSt]; exact h2.mono (fun x _ hx => hx.imp id (fun hx => Nat.le_trans hh.size hx))⟩, h3⟩)
      clear htc
      go_wp2_with fail
      refine wp_region_cut 11 rfl (by kernel_rfl) (any_steps (Below wy.heap.size wy) (fun v v' => Below v.heap.size v v') (fun iq vq v0 => match iq with | 0 => vq = .int .i64 (c : Int) | 1 => vq = .int .i64 (c : Int) | 2 => vq = .pointer (some ⟨gm, 0, none⟩) | 3 => vq = .pointer (some ⟨gm, c, none⟩) | 4 => vq = .pointer pc | 5 => vq = .agg (SC 18 (prV v b (n : Int))) | 6 => vq = .int .i64 (i : Int) | 7 => vq = .int .i64 ((i : Int) + 1) | 8 => vq = .int .i64 ow | 9 => ∃ p2, vq = .pointer p2 ∧ IsTr (fun x => (S x ∧ x < w.heap.size) ∨ wy.heap.size ≤ x) v0 p2 St | 10 => vq = .pointer (some ⟨gm, 0, none⟩) | _ => True)
          [27, 28, 29, 30, 31, 32, 33, 34, 35, 36, 37]
          [(2, .int .i64 (i : Int)), (3, .int .i64 ow), (5, .pointer (some ⟨g5, 0, none⟩)), (9, .pointer (some ⟨gm, 0, none⟩)), (10, .int .i64 (c : Int))]
          [[], [], [], [2, 1], [3], [], [], [6], [], [4, 5, 7, 8], []]
          (by kernel_rfl) ⟨rfl, rfl, rfl, rfl, rfl, trivial⟩ (Below.drew (Below.refl _ _)) (fun v v' h hb => h.trans (hb.mono h.size)) ?_
          ⟨
            (fun Q a1 ww hS fr kn => ⟨trivial, fun K hK => wp_value (exec_move rfl fr.2.2.2.2.1) (hK _ _ rfl (Below.refl _ _))⟩),
            (fun Q a1 ww hS fr kn => ⟨trivial, fun K hK => wp_value (exec_move rfl fr.2.2.2.2.1) (hK _ _ rfl (Below.refl _ _))⟩),
            (fun Q a1 ww hS fr kn => ⟨trivial, fun K hK => wp_value (exec_fn0 rfl fr.2.2.2.1) (hK _ _ rfl (Below.refl _ _))⟩),
            (fun Q a1 ww hS fr kn => ⟨trivial, fun K hK => wp_value (exec_ix2 (c := c) rfl kn.1 kn.2.1 hc2) (hK _ _ rfl (Below.refl _ _))⟩),
            (fun Q a1 ww hS fr kn => ⟨trivial, fun K hK => wp_value (exec_ld rfl kn.1 (ld_ptr (HPC.out ww hS))) (hK _ _ rfl (Below.refl _ _))⟩),
            (fun Q a1 ww hS fr kn => ⟨trivial, fun K hK => wp_value (look_st rfl isPfx (SAt.kept q5 hS) fr.2.2.1) (hK _ _ rfl (Below.refl _ _))⟩),
            (fun Q a1 ww hS fr kn => ⟨trivial, fun K hK => wp_value (exec_move rfl fr.1) (hK _ _ rfl (Below.refl _ _))⟩),
            (fun Q a1 ww hS fr kn => ⟨trivial, fun K hK => wp_value (exec_inc (d := i) rfl kn.1 rfl (by omega)) (hK _ _ rfl (Below.refl _ _))⟩),
            (fun Q a1 ww hS fr kn => ⟨trivial, fun K hK => wp_value (exec_move rfl fr.2.1) (hK _ _ rfl (Below.refl _ _))⟩),
            (fun Q a1 ww hS fr kn => ⟨trivial, fun K hK => stepp enterWith rfl (args4 kn.1 kn.2.1 kn.2.2.1 kn.2.2.2.1) (HI.out ww hS) (fun v1 w1 hr => hK v1 w1 hr.1 hr.2)⟩),
            (fun Q a1 ww hS fr kn => ⟨trivial, fun K hK => wp_value (exec_fn0 rfl fr.2.2.2.1) (hK _ _ rfl (Below.refl _ _))⟩),
            trivial⟩ ?_)
      · intro iq vq u' u'' hh hb
        match iq with
        | 0 | 1 | 2 | 3 | 4 | 5 | 6 | 7 | 8 | 10 => exact hh
        | 9 => obtain ⟨p2, e2, h2⟩ := hh; exact ⟨p2, e2, h2.below hb⟩
        | n + 11 => trivial
      intro vs wA hSA hkA
      have ecv : vs 27 = .int .i64 (c : Int) := hkA 0 (by decide)
      have efa : vs 37 = .pointer (some ⟨gm, 0, none⟩) := hkA 10 (by decide)
      obtain ⟨p2, ecl, htr⟩ : ∃ p2, vs 36 = .pointer p2 ∧ IsTr (fun x => (S x ∧ x < w.heap.size) ∨ wy.heap.size ≤ x) wA p2 St := hkA 9 (by decide)
      have cA := HPC.out wA hSA
      have qmA := SAt.kept qm hSA
      have fA : wA.frozen? ⟨gm, c, none⟩ = false := frozen_of_row wA gm c _ _ qmA
      have hBA : Below w.heap.size w wA := hBz.trans (hSA.mono hBz.size)
      have hgmy : gm < wy.heap.size := SAt.lt qm
      have HF : Hid (SAt (wA.setCell ⟨gm, c, none⟩ (.pointer p2)) gm 72 4 (ndV (if c = 0 then p2 else pl) (if c = 0 then pr else p2) T.th T.ow) ∧ IsTr (fun x => S x ∨ w.heap.size ≤ x) (wA.setCell ⟨gm, c, none⟩ (.pointer p2)) p2 St ∧ Below w.heap.size w (wA.setCell ⟨gm, c, none⟩ (.pointer p2))) := Hid.mk ⟨nd_set qmA hc2 p2, (htr.only only_set (fun e => e.elim (fun e => by omega) (fun e => by omega))).mono (fun x _ hx => hx.imp (fun h => h.1) (fun h => by have := hBz.size; omega)), hBA.trans (only_set.below hgm)⟩
      clear hkA hSA HI HPC htr
      show wpList Try.prog _ _ (_ :: _ :: []) _ _
      simp only [putAll, Act.put, List.setIfInBounds_toArray, List.set_cons_zero, List.set_cons_succ, ecv, efa, ecl]
      clear ecv efa ecl
      go_wp2_with (refine wl_value rfl (exec_ix2 (c := c) rfl (by rfl) (by rfl) hc2) ?_)
      go_ret
      refine ⟨_, rfl, ?_, HF.out.2.2⟩
      show IsTr _ _ _ (T.setBr (bN b i) (wiT b ow k (i + 1) (T.br (bN b i))))
      rw [hc, hSt]
      exact set_tr HF.out.1 (.inr hgm) HF.out.2.1 ((hl.below HF.out.2.2).mono (fun x _ hx => .inl hx)) ((hr.below HF.out.2.2).mono (fun x _ hx => .inl hx))

theorem prn_true (l r : Tr) (ow : Int) : prn (.node l r true ow) = .node l r true ow := by
  cases l <;> cases r <;> rfl
theorem prn_no {l r : Tr} {th : Bool} {ow : Int} (h : l = .nil → r = .nil → False) : prn (.node l r th ow) = .node l r th ow := by
  cases l with
  | nil =>
    cases r with
    | nil => exact (h rfl rfl).elim
    | node a b c d => cases th <;> rfl
  | node a b c d => cases th <;> rfl
section
variable {a : Act} {o : Oper} {w : World} {x y : Operand}
def brV (pl pr : Option Addr) (j : Nat) : Value := .pointer (if j = 0 then pl else pr)
theorem isArr2 : IsSt 56 2 := ⟨_, Try.underlying56, rfl, by kernel_rfl⟩
theorem exec_ldB (ho : o.op = .load 56 x) {g : Nat} {pl pr : Option Addr} {th : Bool} {ow : Int} (hg : SAt w g 72 4 (ndV pl pr th ow)) (hx : a.eval x = .pointer (some ⟨g, 0, none⟩)) : (execOp a.eval o).run Try.prog w = .ok (.value (.agg (SC 2 (brV pl pr)))) w := by
  have h := run_loadAt_addr w ⟨g, 0, none⟩ 56 (SC 2 (brV pl pr)).toList _ (fun j u hv => by
    have hj : j < 2 := by have := (List.getElem?_eq_some_iff.1 hv).1; rwa [Array.length_toList, SC_size] at this
    rw [Addr.add_lit, Nat.zero_add, nd_br hg hj]
    rw [Array.getElem?_toList, SC_get 2 _ j hj] at hv
    exact hv) Try.underlying56 rfl (by rw [Array.length_toList, SC_size]; kernel_rfl)
  exact exec_ld ho hx h
theorem run_z2 (w : World) : (Instr.build 56 #[]).run Try.prog w = .ok (.agg (SC 2 (brV none none))) w := by kernel_rfl
theorem exec_z2 (ho : o.op = .build 56 #[]) : (execOp a.eval o).run Try.prog w = .ok (.value (.agg (SC 2 (brV none none)))) w := by
  unfold execOp
  simp only [ho]
  simp [run_z2]
theorem eqG2 : Try.prog.eqGuardType Try.prog.depth 56 = false := by kernel_rfl
theorem equal_2 (pl pr : Option Addr) (w : World) : (Op.equalIn 10000 56 (.agg (SC 2 (brV pl pr))) (.agg (SC 2 (brV none none)))).run Try.prog w = .ok (pl.isNone && pr.isNone) w := by
  cases pl <;> cases pr <;> kernel_rfl
theorem exec_eq2 (ho : o.op = .binOp .eql 56 x y 56) {pl pr : Option Addr} (hx : a.eval x = .agg (SC 2 (brV pl pr))) (hy : a.eval y = .agg (SC 2 (brV none none))) {d : Bool} (hd : (pl.isNone && pr.isNone) = d) : (execOp a.eval o).run Try.prog w = .ok (.value (.bool d)) w := by
  subst hd
  unfold execOp
  simp only [ho, hx, hy, Sem.run_bind, run_eqGuard_agg w .eql _ x y _ _ eqG2, Result.andThen_ok, run_eql_struct, equal_2 pl pr w, Sem.run_pure]
end
set_option maxHeartbeats 16000000 in
theorem without_run (v : Bool) (b : Nat → Int) (n : Nat) (hb : Byts 16 b) (hn : n ≤ 128) : ∀ (k i : Nat) (p : Option Addr) (T : Tr) (w : World) (S : Nat → Prop), i + k = n → IsTr S w p T → gt b k i T ≠ none → Calls Try.prog 29 #[.pointer p, .agg (SC 18 (prV v b (n : Int))), .int .i64 (i : Int)] w fun e w' => ∃ p2, e = .returned (.pointer p2) ∧ IsTr (fun x => S x ∨ w.heap.size ≤ x) w' p2 (woT b k i T) ∧ Below w.heap.size w w' := by
  intro k
  induction k with
  | zero =>
    intro i p T w S hik ht hg
    obtain ⟨pl, pr, hl, hr, hp⟩ := ht.parts
    rcases hp with ⟨_, _, _, hT⟩ | ⟨bk, rfl, hS, qb⟩
    · rw [hT, gt_nil] at hg
      exact absurd rfl hg
    · go_enter Try.func29, Try.ntmps29
      go_wp2_with (refine wl_boxO rfl rfl isPfx (by rfl) ?_; intro g5 w1 hg5 q1 hB1; refine Hid.out ?_)
      refine Hid.mk ?_
      have qb1 := SAt.kept qb hB1
      go_wp2_with (first | (refine wl_value rfl (look_st rfl isNod qb1 (by rfl)) ?_) | (refine wl_alO rfl rfl zeroNod ?_; intro gm w2 hg2 q2 hB2; refine Hid.out ?_))
      refine Hid.mk ?_
      have q5 := SAt.kept q1 hB2
      have hBa : Below w.heap.size w w2 := hB1.trans (hB2.mono hB1.size)
      have hgm : w.heap.size ≤ gm := by have := hB1.size; omega
      have h5m : g5 ≠ gm := by have := SAt.lt q1; omega
      clear q1 hB1 hB2 qb1
      go_upto_region 2 with (refine st_stO rfl rfl isNod (ndV_one _ _ _ _) q2 (by rfl) (by rfl) ?_; intro wz qm oz; refine Hid.out ?_)
      refine Hid.mk ?_
      replace q5 := q5.only oz h5m
      have hBz := hBa.trans (oz.below hgm)
      clear q2 oz hBa qb ht
      have hdi : decide ((i : Int) = (n : Int)) = true := decide_eq_true (by omega)
      have cn := pr_n q5
      have c2 := nd_t qm
      have c3 := nd_o qm
      have f2 : wz.frozen? ⟨gm, 2, none⟩ = false := frozen_of_row wz gm 2 _ _ qm
      have f3 : wz.frozen? ⟨gm, 3, none⟩ = false := frozen_of_row wz gm 3 _ _ qm
      have HF : Hid (SAt ((wz.setCell ⟨gm, 2, none⟩ (.bool false)).setCell ⟨gm, 3, none⟩ (.int .i64 0)) gm 72 4 (ndV pl pr false 0) ∧ Only gm wz ((wz.setCell ⟨gm, 2, none⟩ (.bool false)).setCell ⟨gm, 3, none⟩ (.int .i64 0))) := Hid.mk ⟨nd_set23 qm false 0, only_set.setCell 3 (.int .i64 0)⟩
      go_upto_region 7 with (first | (refine wl_value rfl (exec_fpb0 rfl (by rfl)) ?_) | (refine wl_value rfl (exec_eqI rfl (by rfl) (by rfl) hdi) ?_) | (refine wl_value rfl (exec_fpx rfl (by rfl)) ?_) | (refine wl_value rfl (exec_ldA rfl q5 (by rfl)) ?_))
      have hBf := hBz.trans (HF.out.2.below hgm)
      refine wp_gen (fun u => SAt u gm 72 4 (ndV pl pr false 0) ∧ IsTr (fun x => S x ∨ w.heap.size ≤ x) u pl T.lf ∧ IsTr (fun x => S x ∨ w.heap.size ≤ x) u pr T.rt ∧ Below w.heap.size w u) ⟨HF.out.1, (hl.below hBf).mono (fun x _ hx => .inl hx), (hr.below hBf).mono (fun x _ hx => .inl hx), hBf⟩ ?_
      clear hBf HF c2 c3 f2 f3 cn
      rintro wF ⟨qF, hL, hR, hBF⟩
      have HEQ : Hid (woT b 0 i T = prn (.node T.lf T.rt false 0)) := Hid.mk rfl
      obtain ⟨t0, ht0⟩ : ∃ t0, t0 = false := ⟨_, rfl⟩
      rw [← ht0] at qF HEQ
      clear ht0
      generalize T.lf = L at hL HEQ
      generalize T.rt = R at hR HEQ
      have ct := nd_t qF
      rcases Bool.eq_false_or_eq_true t0 with hth | hth
      · rw [hth] at ct
        go_wp2_with fail
        go_ret
        refine ⟨_, rfl, ?_, hBF⟩
        rw [HEQ.out, hth, prn_true]
        rw [hth] at qF
        exact ⟨gm, pl, pr, rfl, .inr hgm, qF, hL, hR⟩
      · rw [hth] at ct
        by_cases hz : pl = none ∧ pr = none
        · have hd : (pl.isNone && pr.isNone) = true := by rw [hz.1, hz.2]; rfl
          go_wp2_with (first | (refine wl_value rfl (exec_fn0 rfl (by rfl)) ?_) | (refine wl_value rfl (exec_ldB rfl qF (by rfl)) ?_) | (refine wl_value rfl (exec_z2 rfl) ?_) | (refine wl_value rfl (exec_eq2 rfl (by rfl) (by rfl) hd) ?_))
          go_ret
          refine ⟨none, rfl, ?_, hBF⟩
          rw [HEQ.out, hth, hL.none_iff.1 hz.1, hR.none_iff.1 hz.2]
          rfl
        · have hd : (pl.isNone && pr.isNone) = false := by
            rw [Bool.and_eq_false_iff, Option.isNone_eq_false_iff, Option.isNone_eq_false_iff]
            cases pl with
            | none => cases pr with
              | none => exact absurd ⟨rfl, rfl⟩ hz
              | some y => exact .inr rfl
            | some x => exact .inl rfl
          go_wp2_with (first | (refine wl_value rfl (exec_fn0 rfl (by rfl)) ?_) | (refine wl_value rfl (exec_ldB rfl qF (by rfl)) ?_) | (refine wl_value rfl (exec_z2 rfl) ?_) | (refine wl_value rfl (exec_eq2 rfl (by rfl) (by rfl) hd) ?_))
          go_ret
          refine ⟨_, rfl, ?_, hBF⟩
          rw [HEQ.out, prn_no (fun e1 e2 => hz ⟨hL.none_iff.2 e1, hR.none_iff.2 e2⟩)]
          exact ⟨gm, pl, pr, rfl, .inr hgm, qF, hL, hR⟩

  | succ k ih =>
    intro i p T w S hik ht hg
    obtain ⟨pl, pr, hl, hr, hp⟩ := ht.parts
    rcases hp with ⟨_, _, _, hT⟩ | ⟨bk, rfl, hS, qb⟩
    · rw [hT, gt_nil] at hg
      exact absurd rfl hg
    · go_enter Try.func29, Try.ntmps29
      go_wp2_with (refine wl_boxO rfl rfl isPfx (by rfl) ?_; intro g5 w1 hg5 q1 hB1; refine Hid.out ?_)
      refine Hid.mk ?_
      have qb1 := SAt.kept qb hB1
      go_wp2_with (first | (refine wl_value rfl (look_st rfl isNod qb1 (by rfl)) ?_) | (refine wl_alO rfl rfl zeroNod ?_; intro gm w2 hg2 q2 hB2; refine Hid.out ?_))
      refine Hid.mk ?_
      have q5 := SAt.kept q1 hB2
      have hBa : Below w.heap.size w w2 := hB1.trans (hB2.mono hB1.size)
      have hgm : w.heap.size ≤ gm := by have := hB1.size; omega
      have h5m : g5 ≠ gm := by have := SAt.lt q1; omega
      clear q1 hB1 hB2 qb1
      go_upto_region 2 with (refine st_stO rfl rfl isNod (ndV_one _ _ _ _) q2 (by rfl) (by rfl) ?_; intro wz qm oz; refine Hid.out ?_)
      refine Hid.mk ?_
      replace q5 := q5.only oz h5m
      have hBz := hBa.trans (oz.below hgm)
      clear q2 oz hBa qb ht
      have hdi : decide ((i : Int) = (n : Int)) = false := decide_eq_false (by omega)
      have cn := pr_n q5
      obtain ⟨c, hc⟩ : ∃ c, bN b i = c := ⟨_, rfl⟩
      have hc2 : c < 2 := by rw [← hc]; exact bN_lt b i
      have HBIT : Hid (Calls Try.prog 39 #[.agg (SC 17 (adV v b)), .int .i64 (i : Int)] wz fun e w' => e = .returned (.int .i64 (c : Int)) ∧ Below wz.heap.size wz w') := Hid.mk (by
        have := bitC_run v b i wz (by omega) hb
        rw [bN_eq, hc] at this
        exact this)
      go_wp2_with (first | (refine wl_value rfl (exec_fpb0 rfl (by rfl)) ?_) | (refine wl_value rfl (exec_eqI rfl (by rfl) (by rfl) hdi) ?_) | (refine wl_value rfl (exec_fpx rfl (by rfl)) ?_) | (refine wl_value rfl (exec_ldA rfl q5 (by rfl)) ?_))
      refine HBIT.out.mono ?_
      rintro e wy ⟨rfl, hBy⟩
      clear HBIT cn
      replace q5 := SAt.kept q5 hBy
      replace qm := SAt.kept qm hBy
      replace hBz := hBz.trans (hBy.mono hBz.size)
      clear hBy
      obtain ⟨pc, hpc⟩ : ∃ pc, (if c = 0 then pl else pr) = pc := ⟨_, rfl⟩
      obtain ⟨St, hSt⟩ : ∃ St, woT b k (i + 1) (T.br c) = St := ⟨_, rfl⟩
      have htc : IsTr (fun x => S x ∧ x < w.heap.size) w pc (T.br c) := by rw [← hpc]; exact (IsTr.pbr hl hr c).mono (fun x hx hs => ⟨hs, hx⟩)
      have HPC : Hid (∀ ww, Below wy.heap.size wy ww → ww.cell? ⟨gm, c, none⟩ = some (.pointer pc)) := Hid.mk (fun ww hh => by rw [← hpc]; exact nd_br (SAt.kept qm hh) hc2)
      have HI : Hid (∀ ww, Below wy.heap.size wy ww → Calls Try.prog 29 #[.pointer pc, .agg (SC 18 (prV v b (n : Int))), .int .i64 ((i : Int) + 1)] ww fun r w' => ∃ u, r = .returned u ∧ ((∃ p2, u = .pointer p2 ∧ IsTr (fun x => (S x ∧ x < w.heap.size) ∨ wy.heap.size ≤ x) w' p2 St) ∧ Below ww.heap.size ww w')) := Hid.mk (fun ww hh => by
        have h1 := ih (i + 1) pc (T.br c) ww (fun x => S x ∧ x < w.heap.size) (by omega) (htc.below (hBz.trans (hh.mono hBz.size))) (by rw [← hc]; exact hg)
        rw [show ((i + 1 : Nat) : Int) = (i : Int) + 1 by omega] at h1
        refine h1.mono ?_
        rintro e w' ⟨p2, rfl, h2, h3⟩
        exact ⟨_, rfl, ⟨p2, rfl, by rw [← hSt]; exact h2.mono (fun x _ hx => hx.imp id (fun hx => Nat.le_trans hh.size hx))⟩, h3⟩)
      clear htc
      go_wp2_with fail
      refine wp_region_cut 10 rfl (by kernel_rfl) (any_steps (Below wy.heap.size wy) (fun v v' => Below v.heap.size v v') (fun iq vq v0 => match iq with | 0 => vq = .int .i64 (c : Int) | 1 => vq = .int .i64 (c : Int) | 2 => vq = .pointer (some ⟨gm, 0, none⟩) | 3 => vq = .pointer (some ⟨gm, c, none⟩) | 4 => vq = .pointer pc | 5 => vq = .agg (SC 18 (prV v b (n : Int))) | 6 => vq = .int .i64 (i : Int) | 7 => vq = .int .i64 ((i : Int) + 1) | 8 => ∃ p2, vq = .pointer p2 ∧ IsTr (fun x => (S x ∧ x < w.heap.size) ∨ wy.heap.size ≤ x) v0 p2 St | 9 => vq = .pointer (some ⟨gm, 0, none⟩) | _ => True)
          [24, 25, 26, 27, 28, 29, 30, 31, 32, 33]
          [(2, .int .i64 (i : Int)), (4, .pointer (some ⟨g5, 0, none⟩)), (7, .pointer (some ⟨gm, 0, none⟩)), (9, .int .i64 (c : Int))]
          [[], [], [], [2, 1], [3], [], [], [6], [4, 5, 7], []]
          (by kernel_rfl) ⟨rfl, rfl, rfl, rfl, trivial⟩ (Below.drew (Below.refl _ _)) (fun v v' h hb => h.trans (hb.mono h.size)) ?_
          ⟨
            (fun Q a1 ww hS fr kn => ⟨trivial, fun K hK => wp_value (exec_move rfl fr.2.2.2.1) (hK _ _ rfl (Below.refl _ _))⟩),
            (fun Q a1 ww hS fr kn => ⟨trivial, fun K hK => wp_value (exec_move rfl fr.2.2.2.1) (hK _ _ rfl (Below.refl _ _))⟩),
            (fun Q a1 ww hS fr kn => ⟨trivial, fun K hK => wp_value (exec_fn0 rfl fr.2.2.1) (hK _ _ rfl (Below.refl _ _))⟩),
            (fun Q a1 ww hS fr kn => ⟨trivial, fun K hK => wp_value (exec_ix2 (c := c) rfl kn.1 kn.2.1 hc2) (hK _ _ rfl (Below.refl _ _))⟩),
            (fun Q a1 ww hS fr kn => ⟨trivial, fun K hK => wp_value (exec_ld rfl kn.1 (ld_ptr (HPC.out ww hS))) (hK _ _ rfl (Below.refl _ _))⟩),
            (fun Q a1 ww hS fr kn => ⟨trivial, fun K hK => wp_value (look_st rfl isPfx (SAt.kept q5 hS) fr.2.1) (hK _ _ rfl (Below.refl _ _))⟩),
            (fun Q a1 ww hS fr kn => ⟨trivial, fun K hK => wp_value (exec_move rfl fr.1) (hK _ _ rfl (Below.refl _ _))⟩),
            (fun Q a1 ww hS fr kn => ⟨trivial, fun K hK => wp_value (exec_inc (d := i) rfl kn.1 rfl (by omega)) (hK _ _ rfl (Below.refl _ _))⟩),
            (fun Q a1 ww hS fr kn => ⟨trivial, fun K hK => stepp enterWithout rfl (args3 kn.1 kn.2.1 kn.2.2.1) (HI.out ww hS) (fun v1 w1 hr => hK v1 w1 hr.1 hr.2)⟩),
            (fun Q a1 ww hS fr kn => ⟨trivial, fun K hK => wp_value (exec_fn0 rfl fr.2.2.1) (hK _ _ rfl (Below.refl _ _))⟩),
            trivial⟩ ?_)
      · intro iq vq u' u'' hh hb
        match iq with
        | 0 | 1 | 2 | 3 | 4 | 5 | 6 | 7 | 9 => exact hh
        | 8 => obtain ⟨p2, e2, h2⟩ := hh; exact ⟨p2, e2, h2.below hb⟩
        | n + 10 => trivial
      intro vs wA hSA hkA
      have ecv : vs 24 = .int .i64 (c : Int) := hkA 0 (by decide)
      have efa : vs 33 = .pointer (some ⟨gm, 0, none⟩) := hkA 9 (by decide)
      obtain ⟨p2, ecl, htr⟩ : ∃ p2, vs 32 = .pointer p2 ∧ IsTr (fun x => (S x ∧ x < w.heap.size) ∨ wy.heap.size ≤ x) wA p2 St := hkA 8 (by decide)
      have cA := HPC.out wA hSA
      have qmA := SAt.kept qm hSA
      have fA : wA.frozen? ⟨gm, c, none⟩ = false := frozen_of_row wA gm c _ _ qmA
      have hBA : Below w.heap.size w wA := hBz.trans (hSA.mono hBz.size)
      have hgmy : gm < wy.heap.size := SAt.lt qm
      have HF : Hid (SAt (wA.setCell ⟨gm, c, none⟩ (.pointer p2)) gm 72 4 (ndV (if c = 0 then p2 else pl) (if c = 0 then pr else p2) T.th T.ow) ∧ IsTr (fun x => S x ∨ w.heap.size ≤ x) (wA.setCell ⟨gm, c, none⟩ (.pointer p2)) p2 St ∧ Below w.heap.size w (wA.setCell ⟨gm, c, none⟩ (.pointer p2))) := Hid.mk ⟨nd_set qmA hc2 p2, (htr.only only_set (fun e => e.elim (fun e => by omega) (fun e => by omega))).mono (fun x _ hx => hx.imp (fun h => h.1) (fun h => by have := hBz.size; omega)), hBA.trans (only_set.below hgm)⟩
      clear hkA hSA HI HPC htr
      show wpList Try.prog _ _ (_ :: _ :: []) _ _
      simp only [putAll, Act.put, List.setIfInBounds_toArray, List.set_cons_zero, List.set_cons_succ, ecv, efa, ecl]
      clear ecv efa ecl
      go_upto_region 7 with (refine wl_value rfl (exec_ix2 (c := c) rfl (by rfl) (by rfl) hc2) ?_)
      obtain ⟨PL, hPL⟩ : ∃ x, (if c = 0 then p2 else pl) = x := ⟨_, rfl⟩
      obtain ⟨PR, hPR⟩ : ∃ x, (if c = 0 then pr else p2) = x := ⟨_, rfl⟩
      obtain ⟨L, hLq⟩ : ∃ x, (if c = 0 then St else T.lf) = x := ⟨_, rfl⟩
      obtain ⟨R, hRq⟩ : ∃ x, (if c = 0 then T.rt else St) = x := ⟨_, rfl⟩
      have hlf := (hl.below HF.out.2.2).mono (S' := fun x => S x ∨ w.heap.size ≤ x) (fun x _ hx => .inl hx)
      have hrf := (hr.below HF.out.2.2).mono (S' := fun x => S x ∨ w.heap.size ≤ x) (fun x _ hx => .inl hx)
      refine wp_gen (fun u => SAt u gm 72 4 (ndV PL PR T.th T.ow) ∧ IsTr (fun x => S x ∨ w.heap.size ≤ x) u PL L ∧ IsTr (fun x => S x ∨ w.heap.size ≤ x) u PR R ∧ Below w.heap.size w u) ⟨by rw [← hPL, ← hPR]; exact HF.out.1, by rw [← hPL, ← hLq]; split; exact HF.out.2.1; exact hlf, by rw [← hPR, ← hRq]; split; exact hrf; exact HF.out.2.1, HF.out.2.2⟩ ?_
      have HEQ : Hid (woT b (k + 1) i T = prn (.node L R T.th T.ow)) := Hid.mk (by
        show prn (T.setBr (bN b i) (woT b k (i + 1) (T.br (bN b i)))) = _
        rw [hc, hSt, ← hLq, ← hRq]
        unfold Tr.setBr
        split <;> rfl)
      clear hlf hrf HF hPL hPR hLq hRq cA fA qmA hBA
      rintro wF ⟨qF, hL, hR, hBF⟩
      generalize T.th = t0 at qF HEQ
      generalize T.ow = o0 at qF HEQ
      have ct := nd_t qF
      rcases Bool.eq_false_or_eq_true t0 with hth | hth
      · rw [hth] at ct
        go_wp2_with fail
        go_ret
        refine ⟨_, rfl, ?_, hBF⟩
        rw [HEQ.out, hth, prn_true]
        rw [hth] at qF
        exact ⟨gm, PL, PR, rfl, .inr hgm, qF, hL, hR⟩
      · rw [hth] at ct
        by_cases hz : PL = none ∧ PR = none
        · have hd : (PL.isNone && PR.isNone) = true := by rw [hz.1, hz.2]; rfl
          go_wp2_with (first | (refine wl_value rfl (exec_fn0 rfl (by rfl)) ?_) | (refine wl_value rfl (exec_ldB rfl qF (by rfl)) ?_) | (refine wl_value rfl (exec_z2 rfl) ?_) | (refine wl_value rfl (exec_eq2 rfl (by rfl) (by rfl) hd) ?_))
          go_ret
          refine ⟨none, rfl, ?_, hBF⟩
          rw [HEQ.out, hth, hL.none_iff.1 hz.1, hR.none_iff.1 hz.2]
          rfl
        · have hd : (PL.isNone && PR.isNone) = false := by
            rw [Bool.and_eq_false_iff, Option.isNone_eq_false_iff, Option.isNone_eq_false_iff]
            cases PL with
            | none => cases PR with
              | none => exact absurd ⟨rfl, rfl⟩ hz
              | some y => exact .inr rfl
            | some x => exact .inl rfl
          go_wp2_with (first | (refine wl_value rfl (exec_fn0 rfl (by rfl)) ?_) | (refine wl_value rfl (exec_ldB rfl qF (by rfl)) ?_) | (refine wl_value rfl (exec_z2 rfl) ?_) | (refine wl_value rfl (exec_eq2 rfl (by rfl) (by rfl) hd) ?_))
          go_ret
          refine ⟨_, rfl, ?_, hBF⟩
          rw [HEQ.out, prn_no (fun e1 e2 => hz ⟨hL.none_iff.2 e1, hR.none_iff.2 e2⟩)]
          exact ⟨gm, PL, PR, rfl, .inr hgm, qF, hL, hR⟩
end Go.Proofs.Ytcpnleanjclfjaa
/-
  Own text. The code's path: what it gives.
-/
namespace Go.Proofs.Ytcpnleanjclfjaa
open Go.RowKit Go.Proofs
set_option maxRecDepth 100000
theorem vN_lt (v : Bool) : vN v < 2 := by cases v <;> decide
/-- A table's cells: its roots, and how many there are. -/
def tbV (p4 p6 : Option Addr) (m : Int) (j : Nat) : Value := if j = 0 then .pointer p4 else if j = 1 then .pointer p6 else .int .i64 m
theorem tbV_one (p4 p6 : Option Addr) (m : Int) (j : Nat) : (tbV p4 p6 m j).oneCell' = true := by
  unfold tbV
  split
  · rfl
  · split <;> rfl
theorem isTb : IsSt 58 3 := ⟨_, Try.underlying58, rfl, by kernel_rfl⟩
def rootV (p4 p6 : Option Addr) (v : Bool) : Option Addr := if v then p6 else p4
theorem tb_root {w : World} {t : Nat} {p4 p6 : Option Addr} {m : Int} (h : SAt w t 58 3 (tbV p4 p6 m)) (v : Bool) : w.cell? ⟨t, vN v, none⟩ = some (.pointer (rootV p4 p6 v)) := by
  cases v
  · exact SAt.at h 0 (by omega)
  · exact SAt.at h 1 (by omega)
theorem tb_n {w : World} {t : Nat} {p4 p6 : Option Addr} {m : Int} (h : SAt w t 58 3 (tbV p4 p6 m)) : w.cell? ⟨t, 2, none⟩ = some (.int .i64 m) := SAt.at h 2 (by omega)
section
variable {a : Act} {o : Oper} {w : World} {x y : Operand}
theorem exec_ft0 (ho : o.op = .fieldAddr 58 x 0) {g : Nat} (hx : a.eval x = .pointer (some ⟨g, 0, none⟩)) : (execOp a.eval o).run Try.prog w = .ok (.value (.pointer (some ⟨g, 0, none⟩))) w := by
  have h : (Instr.fieldAt 58 (.pointer (some ⟨g, 0, none⟩)) 0).run Try.prog w = .ok (.pointer (some ⟨g, 0, none⟩)) w := by simp [go_sem]
  unfold execOp
  simp only [ho, hx, Sem.run_bind, h, Result.andThen_ok, Sem.run_pure]
theorem ld_tab {p : Addr} {v : Value} (h : w.cell? p = some v) : (Instr.loadAt 24 (.pointer (some p))).run Try.prog w = .ok v w := by simp [go_sem, h]
end
theorem tb_G {W w0 u : World} {T : Nat → Prop} (hW : W.heap.size ≤ u.heap.size) (hB : w0.heap.size ≤ u.heap.size) (w w' : World) (h : Touch T W w ∧ Below w0.heap.size w0 w) (ht : Touch (fun k => u.heap.size ≤ k ∨ k ∈ (([] : List (Nat × Cont)).map (·.1))) w w') : Touch T W w' ∧ Below w0.heap.size w0 w' := by
  have hb : ∀ k, k < u.heap.size → k < w.heap.size → w'.heap[k]? = w.heap[k]? := fun k hk hk2 => ht.block k hk2 (fun e => e.elim (fun e => by omega) (fun e => by simp at e))
  exact ⟨⟨ht.os.trans h.1.os, ht.tape.trans h.1.tape, ht.output.trans h.1.output, Nat.le_trans h.1.size ht.size, fun k hk hn => (hb k (by omega) (Nat.lt_of_lt_of_le hk h.1.size)).trans (h.1.block k hk hn)⟩, h.2.trans ⟨ht.os, ht.tape, ht.output, ht.size, fun k hk => hb k (by omega) (Nat.lt_of_lt_of_le hk h.2.size)⟩⟩
/-- A step of a way down: how many bits lead there, the node's block, what it holds. -/
structure Stp where
  i : Nat
  blk : Nat
  th : Bool
  ow : Int
def encS (x : Stp) : Array Value := #[.int .i64 (x.i : Int), .pointer (some ⟨x.blk, 0, none⟩)]
def IsPth (w : World) (b : Nat → Int) : Nat → Nat → Option Addr → Tr → List Stp → Prop
  | _, _, p, .nil, xs => p = none ∧ xs = []
  | 0, i, p, .node _ _ th ow, xs => ∃ bk pl pr, p = some ⟨bk, 0, none⟩ ∧ SAt w bk 72 4 (ndV pl pr th ow) ∧ xs = [⟨i, bk, th, ow⟩]
  | k + 1, i, p, .node l r th ow, xs => ∃ bk pl pr ys, p = some ⟨bk, 0, none⟩ ∧ SAt w bk 72 4 (ndV pl pr th ow) ∧ IsPth w b k (i + 1) (if bN b i = 0 then pl else pr) ((Tr.node l r th ow).br (bN b i)) ys ∧ xs = ⟨i, bk, th, ow⟩ :: ys
theorem pth_of {S : Nat → Prop} {w : World} (b : Nat → Int) : ∀ (k i : Nat) (p : Option Addr) (T : Tr), IsTr S w p T → ∃ xs, IsPth w b k i p T xs ∧ ∀ x ∈ xs, S x.blk
  | k, i, p, .nil, h => ⟨[], by cases k <;> exact ⟨h, rfl⟩, fun x hx => by cases hx⟩
  | 0, i, p, .node l r th ow, ⟨bk, pl, pr, hp, hS, hs, _, _⟩ => ⟨[⟨i, bk, th, ow⟩], ⟨bk, pl, pr, hp, hs, rfl⟩, fun x hx => by simp at hx; rw [hx]; exact hS⟩
  | k + 1, i, p, .node l r th ow, ⟨bk, pl, pr, hp, hS, hs, hl, hr⟩ => by
    obtain ⟨ys, hy, hz⟩ := pth_of b k (i + 1) _ _ (IsTr.br th ow hl hr (bN b i))
    exact ⟨_, ⟨bk, pl, pr, ys, hp, hs, hy, rfl⟩, fun x hx => by
      rcases List.mem_cons.1 hx with e | e
      · rw [e]; exact hS
      · exact hz x e⟩
theorem pth_at {w : World} {b : Nat → Int} : ∀ (k i : Nat) (p : Option Addr) (T : Tr) (xs : List Stp), IsPth w b k i p T xs → xs.length ≤ k + 1 ∧ (∀ j x, xs[j]? = some x → x.i = i + j ∧ (∃ pl pr, SAt w x.blk 72 4 (ndV pl pr x.th x.ow)) ∧ gt b j i T = if x.th = true then some x.ow else none) ∧ ∀ j, j ≤ k → xs.length ≤ j → gt b j i T = none
  | k, i, p, .nil, xs, h => by
    obtain ⟨_, rfl⟩ : p = none ∧ xs = [] := by cases k <;> exact h
    exact ⟨by simp, fun j x hx => by simp at hx, fun j _ _ => gt_nil b j i⟩
  | 0, i, p, .node l r th ow, xs, h => by
    obtain ⟨bk, pl, pr, hp, hs, rfl⟩ := h
    refine ⟨by simp, fun j x hx => ?_, fun j h1 h2 => by simp at h2; omega⟩
    cases j with
    | zero =>
      simp at hx
      subst hx
      exact ⟨rfl, ⟨pl, pr, hs⟩, rfl⟩
    | succ j => simp at hx
  | k + 1, i, p, .node l r th ow, xs, h => by
    obtain ⟨bk, pl, pr, ys, hp, hs, hy, rfl⟩ := h
    obtain ⟨h1, h2, h3⟩ := pth_at k (i + 1) _ _ ys hy
    refine ⟨by simp; omega, fun j x hx => ?_, fun j h4 h5 => ?_⟩
    · cases j with
      | zero =>
        simp at hx
        subst hx
        exact ⟨rfl, ⟨pl, pr, hs⟩, rfl⟩
      | succ j =>
        obtain ⟨e1, e2, e3⟩ := h2 j x (by simpa using hx)
        exact ⟨by omega, e2, e3⟩
    · cases j with
      | zero => simp at h5
      | succ j => exact h3 j (by omega) (by simp at h5; omega)
theorem IsPth.kept {w w' : World} {b : Nat → Int} : ∀ (k i : Nat) (p : Option Addr) (T : Tr) (xs : List Stp), (∀ x ∈ xs, w'.heap[x.blk]? = w.heap[x.blk]?) → IsPth w b k i p T xs → IsPth w' b k i p T xs
  | 0, _, _, .nil, _, _, h => h
  | _ + 1, _, _, .nil, _, _, h => h
  | 0, i, p, .node l r th ow, xs, hk, ⟨bk, pl, pr, hp, hs, hx⟩ => ⟨bk, pl, pr, hp, hs.block (hk ⟨i, bk, th, ow⟩ (by rw [hx]; simp)), hx⟩
  | k + 1, i, p, .node l r th ow, xs, hk, ⟨bk, pl, pr, ys, hp, hs, hy, hx⟩ => ⟨bk, pl, pr, ys, hp, hs.block (hk ⟨i, bk, th, ow⟩ (by rw [hx]; simp)), IsPth.kept k (i + 1) _ _ ys (fun x h => hk x (by rw [hx]; simp [h])) hy, hx⟩
set_option maxHeartbeats 16000000 in
theorem path_gives {W0 : World} {bt bp t : Nat} {v : Bool} {b : Nat → Int} {n : Int} {p4 p6 : Option Addr} {m : Int} {Tv : Tr} {xs : List Stp} {A : Nat → Prop} (hb : Byts 16 b)
    (hbt : W0.heap[bt]? = some (.cells #[.pointer (some ⟨t, 0, none⟩)] 24 (0, 0))) (hbp : SAt W0 bp 37 18 (prV v b n)) (htb : SAt W0 t 58 3 (tbV p4 p6 m))
    (hyes : rightF v b n = true → IsPth W0 b n.toNat 0 (rootV p4 p6 v) Tv xs) (hno : rightF v b n = false → xs = []) (hA1 : A bt) (hA2 : A bp) (hA3 : A t) (hA4 : ∀ x ∈ xs, A x.blk) :
    Gives Try.prog 40 #[.pointer (some ⟨bt, 0, none⟩), .pointer (some ⟨bp, 0, none⟩)] encS xs A W0 := by
  intro l T J Jx W hW hT hJ hJx hY h0
  rw [show (#[Value.func (.yield l) #[] #[]] ++ #[Value.pointer (some ⟨bt, 0, none⟩), Value.pointer (some ⟨bp, 0, none⟩)]) = #[Value.func (.yield l) #[] #[], Value.pointer (some ⟨bt, 0, none⟩), Value.pointer (some ⟨bp, 0, none⟩)] from rfl]
  have HK : Hid (∀ X, Touch T W X → ∀ k, A k → k < W0.heap.size → X.heap[k]? = W0.heap[k]?) := Hid.mk (fun X hx k hk h1 => (hx.block k (Nat.lt_of_lt_of_le h1 hW.size) (fun e => (hT k e).2 hk)).trans (hW.block k h1))
  have HT : Hid (∀ X, Touch T W X → X.cell? ⟨bt, 0, none⟩ = some (.pointer (some ⟨t, 0, none⟩)) ∧ SAt X bp 37 18 (prV v b n) ∧ SAt X t 58 3 (tbV p4 p6 m)) := Hid.mk (fun X hx => ⟨by
    rw [World.cell?_of_block (w := W0) (HK.out X hx bt hA1 (heap_lt hbt)), cell_of_row W0 bt 0 _ _ _ hbt]
    rfl, hbp.block (HK.out X hx bp hA2 hbp.lt), htb.block (HK.out X hx t hA3 htb.lt)⟩)
  have HJ := Hid.mk hJ
  have HJX := Hid.mk hJx
  have HY := Hid.mk hY
  have HYES := Hid.mk hyes
  have HNO := Hid.mk hno
  have HRN : Hid (rightF v b n = true → 0 ≤ n ∧ n ≤ 128) := Hid.mk right_n
  have HA4 := Hid.mk hA4
  clear hbt hbp htb hJ hJx hY hT hyes hno hA4
  have ct := (HT.out W (Touch.refl _ _)).1
  go_enter Try.func40, Try.ntmps40
  go_wp2_with (refine wl_value rfl (look_st rfl isPfx (HT.out W (Touch.refl _ _)).2.1 (by rfl)) ?_)
  refine (isPrefix_run v b n W).mono ?_
  rintro e w2 ⟨rfl, hB2⟩
  have ht2 : Touch T W w2 := Below.tou hB2 (Nat.le_refl _)
  have hj2 := HJ.out 0 W w2 h0 hB2
  clear ct h0
  generalize rightF v b n = r at *
  cases r
  · have hxs := HNO.out rfl
    go_wp2_with fail
    exact bodyPost_ret (results_none rfl _ _ _) rfl ⟨⟨_, rfl⟩, ht2, .inl (by rw [hxs]; exact hj2)⟩
  · obtain ⟨hn0, hn1⟩ := HRN.out rfl
    obtain ⟨N, hN⟩ : ∃ N : Nat, n = (N : Int) := ⟨n.toNat, by omega⟩
    subst hN
    have HPT := Hid.mk (HYES.out rfl)
    rw [Int.toNat_natCast] at HPT
    obtain ⟨pc0, hpc0⟩ : ∃ p, rootV p4 p6 v = p := ⟨_, rfl⟩
    rw [hpc0] at HPT
    have hWs := hB2.size
    go_wp2_with fail
    refine wp_region3 (fun ww => Touch T W ww ∧ Below w2.heap.size w2 ww) w2.heap.size
        ([] : List (Nat × Cont))
        [kv (.pointer (some ⟨t, 0, none⟩)), kv (.pointer (some ⟨bp, 0, none⟩)), kv (.agg (SC 17 (adV v b))), kv (.int .i64 (vN v : Int)), kv (.pointer (some ⟨t, 0, none⟩)), kv (.pointer (some ⟨t, 0, none⟩)), kv (.pointer (some ⟨t, vN v, none⟩)), kv (.pointer pc0), kv (.pointer pc0)]
        [.none, .none, .none, .none, .none, .none, .none, .none, .none]
        [some 13, some 14, some 15, some 16, some 17, some 18, some 19, some 20, some 4]
        [(1, .pointer (some ⟨bt, 0, none⟩)), (2, .pointer (some ⟨bp, 0, none⟩))]
        [[], [], [.slot 1], [.slot 2], [.slot 0], [.slot 4], [.slot 5, .slot 3], [.slot 6], [.slot 7]]
        [.slot 8] [13, 14, 15, 16, 17, 18, 19, 20, 4]
        rfl (by kernel_rfl) ⟨rfl, rfl, trivial⟩ ⟨ht2.drew, (Below.refl _ w2).drew⟩ (Nat.le_refl _) trivial trivial (tb_G (by omega) (Nat.le_refl _))
        ⟨
          (fun Q aq ww own hS hBg fr kn => .inl ⟨trivial, fun K hK => wp_value (exec_ld rfl fr.1 (ld_tab (HT.out ww hS.1).1)) (hK _ _ ⟨Touch.refl _ _, rfl⟩)⟩),
          (fun Q aq ww own hS hBg fr kn => .inl ⟨trivial, fun K hK => wp_value (exec_fpx rfl fr.2.1) (hK _ _ ⟨Touch.refl _ _, rfl⟩)⟩),
          (fun Q aq ww own hS hBg fr kn => .inl ⟨trivial, fun K hK => wp_value (exec_ldA rfl (HT.out ww hS.1).2.1 kn.1) (hK _ _ ⟨Touch.refl _ _, rfl⟩)⟩),
          (fun Q aq ww own hS hBg fr kn => .inl ⟨trivial, fun K hK => stepc enterVer rfl (args1 kn.1) (version_run v b ww) (fun w' hb => hK _ _ ⟨touch_below hb, rfl⟩)⟩),
          (fun Q aq ww own hS hBg fr kn => .inl ⟨trivial, fun K hK => wp_value (exec_nilc rfl kn.1) (hK _ _ ⟨Touch.refl _ _, rfl⟩)⟩),
          (fun Q aq ww own hS hBg fr kn => .inl ⟨trivial, fun K hK => wp_value (exec_ft0 rfl kn.1) (hK _ _ ⟨Touch.refl _ _, rfl⟩)⟩),
          (fun Q aq ww own hS hBg fr kn => .inl ⟨trivial, fun K hK => wp_value (exec_ix2 (c := vN v) rfl kn.1 kn.2.1 (vN_lt v)) (hK _ _ ⟨Touch.refl _ _, rfl⟩)⟩),
          (fun Q aq ww own hS hBg fr kn => .inl ⟨trivial, fun K hK => wp_value (exec_ld rfl kn.1 (ld_ptr (by rw [← hpc0]; exact tb_root (HT.out ww hS.1).2.2 v))) (hK _ _ ⟨Touch.refl _ _, rfl⟩)⟩),
          (fun Q aq ww own hS hBg fr kn => .inl ⟨trivial, fun K hK => wp_value (exec_assign rfl kn.1) (hK _ _ ⟨Touch.refl _ _, rfl⟩)⟩),
          trivial⟩ ?_
    intro vs own w4 hS4 hsz kn inj
    have e4 : vs 4 = .pointer pc0 := kn.1
    clear kn inj hsz
    have ht4 := hS4.1
    have hj4 := HJ.out 0 w2 w4 hj2 (hS4.2.mono hWs)
    clear hS4 hj2 ht2
    simp only [putAll, Act.put, List.setIfInBounds_toArray, List.set_cons_zero, List.set_cons_succ, e4]
    clear e4
    go_wp2_with fail
    go_loopg [4, 5] (N : Nat) (fun gm s4 s5 z => ∃ (j : Nat) (pc : Option Addr) (Tc : Tr) (ys : List Stp), gm = N - j ∧ j ≤ N ∧ j ≤ xs.length ∧ s4 = .pointer pc ∧ s5 = .int .i64 (j : Int) ∧ Hid (IsPth W0 b (N - j) j pc Tc ys ∧ xs.drop j = ys ∧ J j z ∧ Touch T W z))
    case atStart => exact ⟨0, pc0, Tv, xs, rfl, by omega, by omega, rfl, rfl, Hid.mk ⟨HPT.out, rfl, hj4, ht4⟩⟩
    case round =>
      obtain ⟨j, pc, Tc, ys, hgm, hjN, hjx, rfl, rfl, HS⟩ := hrel
      clear hj4 ht4 HPT
      cases Tc with
      | nil =>
        obtain ⟨hp, hd, hj, ht⟩ := HS.out
        obtain ⟨rfl, hys⟩ : pc = none ∧ ys = [] := by
          generalize N - j = q at hp
          cases q <;> exact hp
        have hlen : xs.length ≤ j := by rw [hys] at hd; exact List.drop_eq_nil_iff.1 hd
        clear hp hd
        have hlj : xs.length = j := by omega
        go_wp2_with fail
        go_end0
        exact ⟨⟨_, rfl⟩, ht, .inl (by rw [hlj]; exact hj)⟩
      | node lt rt th ow =>
        obtain ⟨hp, hd, hj, ht⟩ := HS.out
        obtain ⟨bk, pl, pr, zs, rfl, hs, hys, hnext⟩ : ∃ bk pl pr zs, pc = some ⟨bk, 0, none⟩ ∧ SAt W0 bk 72 4 (ndV pl pr th ow) ∧ ys = ⟨j, bk, th, ow⟩ :: zs ∧ ((N = j ∧ zs = []) ∨ (j < N ∧ IsPth W0 b (N - (j + 1)) (j + 1) (if bN b j = 0 then pl else pr) ((Tr.node lt rt th ow).br (bN b j)) zs)) := by
          cases hq : N - j with
          | zero =>
            rw [hq] at hp
            obtain ⟨bk, pl, pr, h1, h2, h3⟩ := hp
            exact ⟨bk, pl, pr, [], h1, h2, h3, .inl ⟨by omega, rfl⟩⟩
          | succ q =>
            rw [hq] at hp
            obtain ⟨bk, pl, pr, zs, h1, h2, h3, h4⟩ := hp
            exact ⟨bk, pl, pr, zs, h1, h2, h4, .inr ⟨by omega, by rw [show N - (j + 1) = q by omega]; exact h3⟩⟩
        rw [hys] at hd
        have hxj : xs[j]? = some ⟨j, bk, th, ow⟩ := by
          have := List.getElem?_drop (xs := xs) (i := j) (j := 0)
          rw [hd] at this
          simpa using this.symm
        have hd1 : xs.drop (j + 1) = zs := by
          have := List.drop_drop (i := 1) (j := j) (l := xs)
          rw [hd] at this
          simpa using this.symm
        have hj1 : j + 1 ≤ xs.length := by
          have := (List.getElem?_eq_some_iff.1 hxj).1
          omega
        have hAb : A bk := HA4.out _ (List.mem_of_getElem? hxj)
        have HND : Hid (∀ X, Touch T W X → SAt X bk 72 4 (ndV pl pr th ow)) := Hid.mk (fun X hx => hs.block (HK.out X hx bk hAb hs.lt))
        have hy := HY.out j _ wr hxj hj
        clear hp hd HS hys
        go_upto_region 3 with fail
        refine (wpIn_wide (n := 0)).1 (regIn_at (ro := none) 6 (by
            rintro ⟨_, _, hq⟩
            have h2 : (∃ u, Ending.outgrown = .returned u) ∧ _ := hq
            obtain ⟨⟨_, e⟩, _⟩ := h2
            cases e) rfl ?_)
        simp only [List.take_succ_cons, List.take_zero, List.drop_succ_cons, List.drop_zero]
        go_wp2_with fail
        show wpListIn (Wd none) 0 _ _ _ (_ :: _) _ _
        refine li_yield rfl rfl (by rfl) (args2 (by rfl) (by rfl)) hy ?_
        rintro e w3 (⟨rfl, hj3, htj⟩ | ⟨rfl, hjx3, htj⟩)
        · have ht3 : Touch T W w3 := ht.tr htj
          refine ⟨_, rfl, all_in (by
            rintro ⟨_, _, hq⟩
            have h2 : (∃ u, Ending.outgrown = .returned u) ∧ _ := hq
            obtain ⟨⟨_, e⟩, _⟩ := h2
            cases e) _ _ _ rfl ?_⟩
          simp only [Act.put, List.setIfInBounds_toArray, List.set_cons_zero, List.set_cons_succ]
          have cn := pr_n (HT.out w3 ht3).2.1
          rcases hnext with ⟨hNj, hzs⟩ | ⟨hlt, hpn⟩
          · have hdl : decide ((j : Int) < (N : Int)) = false := decide_eq_false (by omega)
            have hlj : xs.length = j + 1 := by
              rw [hzs] at hd1
              have := List.drop_eq_nil_iff.1 hd1
              omega
            go_wp2_with (first | (refine wl_value rfl (exec_fpb0 rfl (by rfl)) ?_) | (refine wl_value rfl (exec_lssI rfl (by rfl) (by rfl) hdl) ?_))
            go_end0
            exact ⟨⟨_, rfl⟩, ht3, .inl (by rw [hlj]; exact hj3)⟩
          · have hdl : decide ((j : Int) < (N : Int)) = true := decide_eq_true (by omega)
            obtain ⟨c, hc⟩ : ∃ c, bN b j = c := ⟨_, rfl⟩
            have hc2 : c < 2 := by rw [← hc]; exact bN_lt b j
            have HBIT : Hid (∀ ww, Calls Try.prog 39 #[.agg (SC 17 (adV v b)), .int .i64 (j : Int)] ww fun e w' => e = .returned (.int .i64 (c : Int)) ∧ Below ww.heap.size ww w') := Hid.mk (fun ww => by
              have := bitC_run v b j ww (by omega) hb
              rw [bN_eq, hc] at this
              exact this)
            obtain ⟨pn, hpe⟩ : ∃ pn, (if bN b j = 0 then pl else pr) = pn := ⟨_, rfl⟩
            have hWs3 := ht3.size
            have HPN : Hid (∀ X, Below w3.heap.size w3 X → X.cell? ⟨bk, c, none⟩ = some (.pointer pn)) := Hid.mk (fun X hx => by rw [← hpe, hc]; exact nd_br (HND.out X (ht3.bel hx hWs3)) hc2)
            have HNX := Hid.mk hpn
            rw [hpe] at HNX
            clear hpn
            go_wp2_with (first | (refine wl_value rfl (exec_fpb0 rfl (by rfl)) ?_) | (refine wl_value rfl (exec_lssI rfl (by rfl) (by rfl) hdl) ?_))
            refine wp_region_cut 9 rfl (by kernel_rfl) (any_steps (Below w3.heap.size w3) (fun v v' => Below v.heap.size v v') (fun iq vq v0 => match iq with | 0 => vq = .pointer (some ⟨bk, 0, none⟩) | 1 => vq = .pointer (some ⟨bp, 0, none⟩) | 2 => vq = .agg (SC 17 (adV v b)) | 3 => vq = .int .i64 (j : Int) | 4 => vq = .int .i64 (c : Int) | 5 => vq = .pointer (some ⟨bk, 0, none⟩) | 6 => vq = .pointer (some ⟨bk, 0, none⟩) | 7 => vq = .pointer (some ⟨bk, c, none⟩) | 8 => vq = .pointer pn | _ => True)
                [37, 38, 39, 40, 41, 42, 43, 44, 45]
                [(2, .pointer (some ⟨bp, 0, none⟩)), (4, .pointer (some ⟨bk, 0, none⟩)), (5, .int .i64 (j : Int))]
                [[], [], [1], [], [2, 3], [0], [5], [6, 4], [7]]
                (by kernel_rfl) ⟨rfl, rfl, rfl, trivial⟩ (Below.drew (Below.refl _ _)) (fun v v' h hb => h.trans (hb.mono h.size)) ?_
                ⟨
                  (fun Q a1 ww hS fr kn => ⟨trivial, fun K hK => wp_value (exec_move rfl fr.2.1) (hK _ _ rfl (Below.refl _ _))⟩),
                  (fun Q a1 ww hS fr kn => ⟨trivial, fun K hK => wp_value (exec_fpx rfl fr.1) (hK _ _ rfl (Below.refl _ _))⟩),
                  (fun Q a1 ww hS fr kn => ⟨trivial, fun K hK => wp_value (exec_ldA rfl (HT.out ww (ht3.bel hS hWs3)).2.1 kn.1) (hK _ _ rfl (Below.refl _ _))⟩),
                  (fun Q a1 ww hS fr kn => ⟨trivial, fun K hK => wp_value (exec_move rfl fr.2.2.1) (hK _ _ rfl (Below.refl _ _))⟩),
                  (fun Q a1 ww hS fr kn => ⟨trivial, fun K hK => stepc enterBitC rfl (args2 kn.1 kn.2.1) (HBIT.out ww) (fun w' hb => hK _ _ rfl hb)⟩),
                  (fun Q a1 ww hS fr kn => ⟨trivial, fun K hK => wp_value (exec_nilc rfl kn.1) (hK _ _ rfl (Below.refl _ _))⟩),
                  (fun Q a1 ww hS fr kn => ⟨trivial, fun K hK => wp_value (exec_fn0 rfl kn.1) (hK _ _ rfl (Below.refl _ _))⟩),
                  (fun Q a1 ww hS fr kn => ⟨trivial, fun K hK => wp_value (exec_ix2 (c := c) rfl kn.1 kn.2.1 hc2) (hK _ _ rfl (Below.refl _ _))⟩),
                  (fun Q a1 ww hS fr kn => ⟨trivial, fun K hK => wp_value (exec_ld rfl kn.1 (ld_ptr (HPN.out ww hS))) (hK _ _ rfl (Below.refl _ _))⟩),
                  trivial⟩ ?_)
            · intro iq vq u' u'' hh hb
              match iq with
              | 0 | 1 | 2 | 3 | 4 | 5 | 6 | 7 | 8 => exact hh

              | n + 9 => trivial
            intro vs w4 hS4 hk4
            have e45 : vs 45 = .pointer pn := hk4 8 (by decide)
            clear hk4
            have HF : Hid (IsPth W0 b (N - (j + 1)) (j + 1) pn ((Tr.node lt rt th ow).br (bN b j)) zs ∧ xs.drop (j + 1) = zs ∧ J (j + 1) w4 ∧ Touch T W w4) := Hid.mk ⟨HNX.out, hd1, HJ.out _ _ _ hj3 (hS4.mono hWs3), ht3.bel hS4 hWs3⟩
            clear hS4
            show wpList Try.prog _ _ (_ :: []) _ _
            simp only [putAll, Act.put, List.setIfInBounds_toArray, List.set_cons_zero, List.set_cons_succ, e45]
            clear e45
            go_wp2_with fail
            go_roundg (N - (j + 1))
            case rel => exact ⟨j + 1, pn, _, zs, rfl, by omega, by omega, rfl, by go_num, HF⟩
            case measure => omega
        · have ht3 : Touch T W w3 := ht.tr htj
          refine ⟨_, rfl, all_in (by
            rintro ⟨_, _, hq⟩
            have h2 : (∃ u, Ending.outgrown = .returned u) ∧ _ := hq
            obtain ⟨⟨_, e⟩, _⟩ := h2
            cases e) _ _ _ rfl ?_⟩
          simp only [Act.put, List.setIfInBounds_toArray, List.set_cons_zero, List.set_cons_succ]
          go_wp2_with fail
          go_end0
          exact ⟨⟨_, rfl⟩, ht3, .inr hjx3⟩
/-- Of no table: none. -/
theorem path_none {W0 : World} {bt bp : Nat} {A : Nat → Prop} (hbt : W0.heap[bt]? = some (.cells #[.pointer none] 24 (0, 0))) :
    Gives Try.prog 40 #[.pointer (some ⟨bt, 0, none⟩), .pointer (some ⟨bp, 0, none⟩)] encS [] A W0 := by
  intro l T J Jx W hW hT hJ hJx hY h0
  rw [show (#[Value.func (.yield l) #[] #[]] ++ #[Value.pointer (some ⟨bt, 0, none⟩), Value.pointer (some ⟨bp, 0, none⟩)]) = #[Value.func (.yield l) #[] #[], Value.pointer (some ⟨bt, 0, none⟩), Value.pointer (some ⟨bp, 0, none⟩)] from rfl]
  have ct : W.cell? ⟨bt, 0, none⟩ = some (.pointer none) := by
    rw [World.cell?_of_block (w := W0) (hW.block bt (heap_lt hbt)), cell_of_row W0 bt 0 _ _ _ hbt]
    rfl
  clear hY
  go_enter Try.func40, Try.ntmps40
  go_wp2_with fail
  exact bodyPost_ret (results_none rfl _ _ _) rfl ⟨⟨_, rfl⟩, Touch.refl _ _, .inl h0⟩
theorem enterPath (args : Array Value) (w : World) : (callFunc 30 args).run Try.prog w = .ok (.enter 30 args) w := by kernel_rfl
theorem enterPath1 (args : Array Value) (w : World) : (callFunc 40 args).run Try.prog w = .ok (.enter 40 args) w := by kernel_rfl
theorem path_run (tp : Option Addr) (v : Bool) (b : Nat → Int) (n : Int) (w : World) : Calls Try.prog 30 #[.pointer tp, .agg (SC 18 (prV v b n))] w fun e w' => ∃ bt bp, e = .returned (.func (.func 40) #[] #[.pointer (some ⟨bt, 0, none⟩), .pointer (some ⟨bp, 0, none⟩)]) ∧ w.heap.size ≤ bt ∧ bt < bp ∧ w'.heap[bt]? = some (.cells #[.pointer tp] 24 (0, 0)) ∧ SAt w' bp 37 18 (prV v b n) ∧ Below w.heap.size w w' := by
  go_enter Try.func30, Try.ntmps30
  have hn := heap_alloc_new w (.cells #[.pointer tp] 24 (0, 0))
  have hB := (Below.refl w.heap.size w).alloc (Nat.le_refl _) (.cells #[.pointer tp] 24 (0, 0))
  have hz : (w.alloc (.cells #[.pointer tp] 24 (0, 0))).heap.size = w.heap.size + 1 := by simp
  go_wp2_with (refine wl_boxO rfl rfl isPfx (by rfl) ?_; intro bp w1 hg q1 hB1; refine Hid.out ?_)
  refine Hid.mk ?_
  have hbb : w.heap.size < bp := by omega
  have hn1 := bheap hB1 hn (by omega)
  have hBw := hB.trans (hB1.mono (by omega))
  clear hB1 hg hn hB hz
  go_wp2_with fail
  go_ret
  exact ⟨w.heap.size, bp, rfl, Nat.le_refl _, hbb, hn1, q1, hBw⟩
end Go.Proofs.Ytcpnleanjclfjaa
/-
  Own text. The code's at.
-/
namespace Go.Proofs.Ytcpnleanjclfjaa
open Go.RowKit Go.Proofs
set_option maxRecDepth 100000
section
variable {a : Act} {o : Oper} {w : World} {x y : Operand}
theorem exec_fn1 (ho : o.op = .fieldAddr 72 x 1) {g : Nat} (hx : a.eval x = .pointer (some ⟨g, 0, none⟩)) : (execOp a.eval o).run Try.prog w = .ok (.value (.pointer (some ⟨g, 2, none⟩))) w := by
  have h : (Instr.fieldAt 72 (.pointer (some ⟨g, 0, none⟩)) 1).run Try.prog w = .ok (.pointer (some ⟨g, 2, none⟩)) w := by simp [go_sem]
  unfold execOp
  simp only [ho, hx, Sem.run_bind, h, Result.andThen_ok, Sem.run_pure]
theorem exec_fn2 (ho : o.op = .fieldAddr 72 x 2) {g : Nat} (hx : a.eval x = .pointer (some ⟨g, 0, none⟩)) : (execOp a.eval o).run Try.prog w = .ok (.value (.pointer (some ⟨g, 3, none⟩))) w := by
  have h : (Instr.fieldAt 72 (.pointer (some ⟨g, 0, none⟩)) 2).run Try.prog w = .ok (.pointer (some ⟨g, 3, none⟩)) w := by simp [go_sem]
  unfold execOp
  simp only [ho, hx, Sem.run_bind, h, Result.andThen_ok, Sem.run_pure]
theorem ld_bool {p : Addr} {v : Bool} (h : w.cell? p = some (.bool v)) : (Instr.loadAt 4 (.pointer (some p))).run Try.prog w = .ok (.bool v) w := by simp [go_sem, h]
theorem one_cell {g : Nat} {v : Value} {ty : TypeId} (h : w.heap[g]? = some (.cells #[v] ty (0, 0))) : w.cell? ⟨g, 0, none⟩ = some v ∧ w.frozen? ⟨g, 0, none⟩ = false := by
  constructor <;> simp [World.cell?, World.frozen?, h]
theorem one_set {g : Nat} {v v' : Value} {ty : TypeId} (h : w.heap[g]? = some (.cells #[v] ty (0, 0))) : (w.setCell ⟨g, 0, none⟩ v').heap[g]? = some (.cells #[v'] ty (0, 0)) := by
  rw [Lib.heap_setCell_same h]
  rfl
variable {K : Act → World → Prop} {Q : Exit → Act → World → Prop}
theorem act_oneI (ho : o.op = .store 3 x y) {g : Nat} {v0 : Value} {n : Int} (hx : a.eval x = .pointer (some ⟨g, 0, none⟩)) (hy : a.eval y = .int .i64 n) (hg : w.heap[g]? = some (.cells #[v0] 3 (0, 0)))
    (h : ∀ w', w'.heap[g]? = some (.cells #[.int .i64 n] 3 (0, 0)) → Only g w w' → K (a.put o.dst undef) w') : o.wp Try.prog a w K Q := by
  have hc := (one_cell hg).1
  have hf := (one_cell hg).2
  have h' := h _ (one_set hg) only_set
  unfold Oper.wp execOp
  simp only [ho, hx, hy]
  simp [go_sem, hc, hf]
  exact h'
theorem act_oneB (ho : o.op = .store 4 x y) {g : Nat} {v0 : Value} {n : Bool} (hx : a.eval x = .pointer (some ⟨g, 0, none⟩)) (hy : a.eval y = .bool n) (hg : w.heap[g]? = some (.cells #[v0] 4 (0, 0)))
    (h : ∀ w', w'.heap[g]? = some (.cells #[.bool n] 4 (0, 0)) → Only g w w' → K (a.put o.dst undef) w') : o.wp Try.prog a w K Q := by
  have hc := (one_cell hg).1
  have hf := (one_cell hg).2
  have h' := h _ (one_set hg) only_set
  unfold Oper.wp execOp
  simp only [ho, hx, hy]
  simp [go_sem, hc, hf]
  exact h'
end
theorem tou_G2 {wl X2 : World} {g4 g5 : Nat} {c4 c5 : Cont} (hs : wl.heap.size ≤ X2.heap.size) (w w' : World) (h : Touch (fun k => k = g4 ∨ k = g5) wl w) (ht : Touch (fun k => X2.heap.size ≤ k ∨ k ∈ ([(g4, c4), (g5, c5)] : List (Nat × Cont)).map (·.1)) w w') : Touch (fun k => k = g4 ∨ k = g5) wl w' :=
  ⟨ht.os.trans h.os, ht.tape.trans h.tape, ht.output.trans h.output, Nat.le_trans h.size ht.size, fun k hk hn => (ht.block k (Nat.lt_of_lt_of_le hk h.size) (fun e => e.elim (fun e => by omega) (fun e => by simp at e; exact hn e))).trans (h.block k hk hn)⟩
theorem tou_below {T : Nat → Prop} {B : Nat} {w w' : World} (h : Touch T w w') (hT : ∀ k, T k → B ≤ k) (hB : B ≤ w.heap.size) : Below B w w' :=
  ⟨h.os, h.tape, h.output, h.size, fun k hk => h.block k (by omega) (fun e => by have := hT k e; omega)⟩
theorem res_2 {fn : Func} {p q : Tmp} (h : fn.results = #[.cell p 3, .cell q 4]) {tmps : Array Value} {w : World} {g g' : Nat} {x : Int} {y : Bool} (hp : tmps.getD p undef = .pointer (some ⟨g, 0, none⟩)) (hq : tmps.getD q undef = .pointer (some ⟨g', 0, none⟩))
    (hg : w.heap[g]? = some (.cells #[.int .i64 x] 3 (0, 0))) (hg' : w.heap[g']? = some (.cells #[.bool y] 4 (0, 0))) : (results fn tmps).run Try.prog w = .ok (.tuple #[.int .i64 x, .bool y]) w := by
  have hp' : tmps[p]?.getD undef = .pointer (some ⟨g, 0, none⟩) := by simpa using hp
  have hq' : tmps[q]?.getD undef = .pointer (some ⟨g', 0, none⟩) := by simpa using hq
  simp [results, h, hp', hq', asAddr, go_sem, (one_cell hg).1, (one_cell hg').1]
/-- A table in memory, with its tries. -/
structure TabM (w : World) (t : Nat) (m : Int) (T4 T6 : Tr) (p4 p6 : Option Addr) : Prop where
  blk : SAt w t 58 3 (tbV p4 p6 m)
  t4 : IsTr (fun _ => True) w p4 T4
  t6 : IsTr (fun _ => True) w p6 T6
  f4 : Fit 32 T4
  f6 : Fit 128 T6
def trV (T4 T6 : Tr) (v : Bool) : Tr := if v then T6 else T4
theorem TabM.tr {w : World} {t : Nat} {m : Int} {T4 T6 : Tr} {p4 p6 : Option Addr} (h : TabM w t m T4 T6 p4 p6) (v : Bool) : IsTr (fun _ => True) w (rootV p4 p6 v) (trV T4 T6 v) := by cases v; exact h.t4; exact h.t6
theorem TabM.fit {w : World} {t : Nat} {m : Int} {T4 T6 : Tr} {p4 p6 : Option Addr} (h : TabM w t m T4 T6 p4 p6) (v : Bool) : Fit (wdN v) (trV T4 T6 v) := by cases v; exact h.f4; exact h.f6
theorem TabM.below {w w' : World} {t : Nat} {m : Int} {T4 T6 : Tr} {p4 p6 : Option Addr} (h : TabM w t m T4 T6 p4 p6) (hb : Below w.heap.size w w') : TabM w' t m T4 T6 p4 p6 := ⟨SAt.kept h.blk hb, h.t4.below hb, h.t6.below hb, h.f4, h.f6⟩
/-- What is found of a prefix itself. -/
def atG (T4 T6 : Tr) (v : Bool) (b : Nat → Int) (n : Int) : Option Int := if rightF v b n = true then gt b n.toNat 0 (trV T4 T6 v) else none
def atA : Option Int → Value
  | none => .tuple #[.int .i64 0, .bool false]
  | some o => .tuple #[.int .i64 o, .bool true]
/-- The way down of a table, where it may be. -/
theorem tab_pth {w : World} {t : Nat} {m : Int} {T4 T6 : Tr} {p4 p6 : Option Addr} (h : TabM w t m T4 T6 p4 p6) (v : Bool) (b : Nat → Int) (n : Int) : ∃ xs : List Stp, (rightF v b n = true → IsPth w b n.toNat 0 (rootV p4 p6 v) (trV T4 T6 v) xs) ∧ (rightF v b n = false → xs = []) ∧ ∀ x ∈ xs, x.blk < w.heap.size := by
  rcases Bool.eq_false_or_eq_true (rightF v b n) with hr | hr
  · obtain ⟨xs, h1, h2⟩ := pth_of b n.toNat 0 _ _ ((h.tr v).mono (S' := fun k => k < w.heap.size) (fun k hk _ => hk))
    exact ⟨xs, fun _ => h1, (fun e => by rw [hr] at e; cases e), h2⟩
  · exact ⟨[], (fun e => by rw [hr] at e; cases e), fun _ => rfl, fun x hx => by cases hx⟩
theorem fit_pth {w : World} {b : Nat → Int} : ∀ (k K i : Nat) (p : Option Addr) (T : Tr) (xs : List Stp), k ≤ K → Fit K T → IsPth w b k i p T xs → ∀ x ∈ xs, x.th = false → x.ow = 0
  | k, K, i, p, .nil, xs, _, _, h, x, hx => by
    obtain ⟨_, rfl⟩ : p = none ∧ xs = [] := by cases k <;> exact h
    cases hx
  | 0, K, i, p, .node l r th ow, xs, _, hf, ⟨bk, pl, pr, hp, hs, he⟩, x, hx => by
    rw [he] at hx
    simp at hx
    subst hx
    exact fit_ow hf
  | k + 1, K + 1, i, p, .node l r th ow, xs, hk, hf, ⟨bk, pl, pr, ys, hp, hs, hy, he⟩, x, hx => by
    rw [he] at hx
    rcases List.mem_cons.1 hx with e | e
    · subst e
      exact fit_ow hf
    · exact fit_pth k K (i + 1) _ _ ys (by omega) (fit_br _ hf) hy x e
theorem right_wn {v : Bool} {b : Nat → Int} {n : Int} (h : rightF v b n = true) : 0 ≤ n ∧ n ≤ (wdN v : Int) := by
  rw [right_wd, Bool.and_eq_true, Bool.and_eq_true] at h
  exact ⟨of_decide_eq_true h.1.2, of_decide_eq_true h.2⟩
set_option maxHeartbeats 16000000 in
theorem at_run {w : World} {t : Nat} {m : Int} {T4 T6 : Tr} {p4 p6 : Option Addr} (h : TabM w t m T4 T6 p4 p6) (v : Bool) (b : Nat → Int) (n : Int) (hb : Byts 16 b) : Calls Try.prog 27 #[.pointer (some ⟨t, 0, none⟩), .agg (SC 18 (prV v b n))] w fun e w' => e = .returned (atA (atG T4 T6 v b n)) ∧ Below w.heap.size w w' := by
  obtain ⟨xs, hyes, hno, hxl⟩ := tab_pth h v b n
  have HAT : Hid ((∀ (i : Nat) (x : Stp), xs[i]? = some x → (x.i : Int) = n → atA (atG T4 T6 v b n) = .tuple #[.int .i64 x.ow, .bool x.th]) ∧ ((∀ (i : Nat) (x : Stp), i < xs.length → xs[i]? = some x → (x.i : Int) ≠ n) → atA (atG T4 T6 v b n) = .tuple #[.int .i64 0, .bool false])) := Hid.mk (by
    unfold atG
    rcases Bool.eq_false_or_eq_true (rightF v b n) with hr | hr
    · rw [if_pos hr]
      have hp := hyes hr
      have hn := right_wn hr
      obtain ⟨h1, h2, h3⟩ := pth_at _ _ _ _ _ hp
      refine ⟨fun i x hx hi => ?_, fun hall => ?_⟩
      · obtain ⟨e1, _, e3⟩ := h2 i x hx
        rw [show n.toNat = i by omega, e3]
        have ho := fit_pth _ (wdN v) _ _ _ _ (by omega) (h.fit v) hp x (List.mem_of_getElem? hx)
        rcases Bool.eq_false_or_eq_true x.th with ht | ht
        · rw [if_pos ht, ht]; rfl
        · rw [if_neg (by rw [ht]; simp), ht, ho ht]; rfl
      · rw [h3 n.toNat (Nat.le_refl _) ?_]
        · rfl
        · rcases Nat.lt_or_ge n.toNat xs.length with hl | hl
          · have hx : xs[n.toNat]? = some xs[n.toNat] := List.getElem?_eq_getElem hl
            have := hall _ _ hl hx
            have := (h2 _ _ hx).1
            omega
          · exact hl
    · rw [if_neg (by rw [hr]; simp)]
      refine ⟨fun i x hx => ?_, fun _ => rfl⟩
      rw [hno hr] at hx
      simp at hx)
  have HI : Hid (∀ (i : Nat) (x : Stp), xs[i]? = some x → x.i = i ∧ rightF v b n = true ∧ ∃ pl pr, SAt w x.blk 72 4 (ndV pl pr x.th x.ow)) := Hid.mk (fun i x hx => by
    rcases Bool.eq_false_or_eq_true (rightF v b n) with hr | hr
    · obtain ⟨e1, e2, _⟩ := (pth_at _ _ _ _ _ (hyes hr)).2.1 i x hx
      exact ⟨by omega, hr, e2⟩
    · rw [hno hr] at hx
      simp at hx)
  generalize atA (atG T4 T6 v b n) = res at *
  refine calls_of_wpM Try.func27 rfl ?_
  simp only [Try.ntmps27, List.size_toArray, List.length_cons, List.length_nil, Nat.reduceAdd, Nat.reduceSub, Array.replicate_succ, Array.replicate_zero, List.push_toArray, List.append_toArray, List.nil_append, List.cons_append]
  go_wp2_with (refine wl_boxO rfl rfl isPfx (by rfl) ?_; intro g3 w1 hg3 q3 hB1; refine Hid.out ?_)
  refine Hid.mk ?_
  have n4 := heap_alloc_new w1 (.cells #[.int .i64 0] 3 (0, 0))
  have b4 := (Below.refl w1.heap.size w1).alloc (Nat.le_refl _) (.cells #[.int .i64 0] 3 (0, 0))
  have n5 := heap_alloc_new (w1.alloc (.cells #[.int .i64 0] 3 (0, 0))) (.cells #[.bool false] 4 (0, 0))
  have b5 := (Below.refl (w1.heap.size + 1) (w1.alloc (.cells #[.int .i64 0] 3 (0, 0)))).alloc (by simp) (.cells #[.bool false] 4 (0, 0))
  rw [World.size_alloc] at n5
  go_upto_region 1 with fail
  refine wp_gen (fun u => u.heap[w1.heap.size]? = some (.cells #[.int .i64 0] 3 (0, 0)) ∧ u.heap[w1.heap.size + 1]? = some (.cells #[.bool false] 4 (0, 0)) ∧ Below w1.heap.size w1 u ∧ w1.heap.size + 2 ≤ u.heap.size) ⟨bheap b5 n4 (by omega), n5, b4.trans (b5.mono (by omega)), by simp⟩ ?_
  rintro w2 ⟨h4, h5, hB2, hs2⟩
  clear n4 b4 n5 b5
  have q2 := SAt.kept q3 hB2
  have hBa : Below w.heap.size w w2 := hB1.trans (hB2.mono hB1.size)
  obtain ⟨g4, e4⟩ : ∃ g, w1.heap.size = g := ⟨_, rfl⟩
  obtain ⟨g5, e5⟩ : ∃ g, g4 + 1 = g := ⟨_, rfl⟩
  have hg34 : g3 < g4 := by rw [← e4]; exact SAt.lt q3
  have hw4 : w.heap.size ≤ g4 := by rw [← e4]; exact hB1.size
  have h45 : g4 ≠ g5 := by omega
  have hs2' : g5 < w2.heap.size := by omega
  rw [e4, e5] at h5
  rw [e4] at h4
  simp only [e4, e5]
  clear q3 hB1 hB2 hs2 e4
  go_wp2_with (refine wl_value rfl (look_st rfl isPfx q2 (by rfl)) ?_)
  refine (path_run _ v b n w2).mono ?_
  rintro e wl ⟨bt, bp, rfl, hbt, hbp, nbt, qbp, hBl⟩
  have h4' := bheap hBl h4 (by omega)
  have h5' := bheap hBl h5 (by omega)
  have q3 := SAt.kept q2 hBl
  have hBw : Below w.heap.size w wl := hBa.trans (hBl.mono hBa.size)
  have hl2 := hBl.size
  have hwl := hBw.size
  have hTB := h.below hBw
  have hga : ∀ k, (k = bt ∨ k = bp ∨ k = t ∨ ∃ x ∈ xs, x.blk = k) → k < wl.heap.size := fun k hk => by
    rcases hk with rfl | rfl | rfl | ⟨x, hx, rfl⟩
    · exact heap_lt nbt
    · exact qbp.lt
    · exact hTB.blk.lt
    · have := hxl x hx; omega
  have htl : t < w.heap.size := h.blk.lt
  have HG : Gives Try.prog 40 #[.pointer (some ⟨bt, 0, none⟩), .pointer (some ⟨bp, 0, none⟩)] encS xs (fun k => k = bt ∨ k = bp ∨ k = t ∨ ∃ x ∈ xs, x.blk = k) wl :=
    path_gives (v := v) (b := b) (n := n) (Tv := trV T4 T6 v) hb nbt qbp hTB.blk (fun hr => (hyes hr).kept _ _ _ _ _ (fun x hx => hBw.block x.blk (hxl x hx))) hno (.inl rfl) (.inr (.inl rfl)) (.inr (.inr (.inl rfl))) (fun x hx => .inr (.inr (.inr ⟨x, hx, rfl⟩)))
  have HND : Hid (∀ (i : Nat) (x : Stp), xs[i]? = some x → ∃ pl pr, ∀ X, Touch (fun k => k = g4 ∨ k = g5) wl X → SAt X x.blk 72 4 (ndV pl pr x.th x.ow)) := Hid.mk (fun i x hx => by
    obtain ⟨_, _, pl, pr, hs⟩ := HI.out i x hx
    have hlt := hs.lt
    exact ⟨pl, pr, fun X hX => (hs.block (hBw.block _ hlt)).block (hX.block _ (by omega) (fun e => by omega))⟩)
  have HPB : Hid (∀ X, Touch (fun k => k = g4 ∨ k = g5) wl X → X.cell? ⟨g3, 17, none⟩ = some (.int .i64 n)) := Hid.mk (fun X hX => pr_n (q3.block (hX.block _ q3.lt (fun e => by omega))))
  clear hyes hno h hTB q2 h4 h5 hBa hBl
  go_wp2_with fail
  refine wp_rangeT (by rfl) enterPath1 HG (Below.refl _ _) (fun x => rfl) hga (fun k => k = g4 ∨ k = g5) ?hT
    (fun i X => X.heap[g4]? = some (.cells #[.int .i64 0] 3 (0, 0)) ∧ X.heap[g5]? = some (.cells #[.bool false] 4 (0, 0)) ∧ ∀ (j : Nat) (x : Stp), j < i → xs[j]? = some x → (x.i : Int) ≠ n)
    (fun c X => c = .ret ∧ ∃ (i : Nat) (x : Stp), xs[i]? = some x ∧ (x.i : Int) = n ∧ X.heap[g4]? = some (.cells #[.int .i64 x.ow] 3 (0, 0)) ∧ X.heap[g5]? = some (.cells #[.bool x.th] 4 (0, 0)))
    ?hJ ?hJx ⟨h4', h5', fun j x hj => by omega⟩ ?round ?done ?stop
  case hT =>
    rintro k (rfl | rfl)
    · refine ⟨by omega, ?_⟩
      rintro (e | e | e | ⟨x, hx, e⟩)
      · omega
      · omega
      · omega
      · have := hxl x hx; omega
    · refine ⟨by omega, ?_⟩
      rintro (e | e | e | ⟨x, hx, e⟩)
      · omega
      · omega
      · omega
      · have := hxl x hx; omega
  case hJ =>
    rintro i X Y ⟨h1, h2, h3⟩ hb
    exact ⟨bheap hb h1 (by omega), bheap hb h2 (by omega), h3⟩
  case hJx =>
    rintro c X Y ⟨h1, i, x, h2, h3, h4, h5⟩ hb
    exact ⟨h1, i, x, h2, h3, bheap hb h4 (by omega), bheap hb h5 (by omega)⟩
  case round =>
    intro l i x X hl hlX hx ht hj
    simp only [setPs, encS, List.zip_toArray, List.zip_cons_cons, List.zip_nil_left]
    obtain ⟨pl, pr, hnd⟩ := HND.out i x hx
    have HNX := Hid.mk hnd
    clear hnd
    refine wpIn_seq (regIn (fun ⟨_, _, hq⟩ => hq) rfl ?_)
    go_wp2_with fail
    refine regIn (fun ⟨_, _, hq⟩ => hq) rfl ?_
    go_wp2_with fail
    refine ⟨Below.refl _ _, fun X2 _ ht2 hj2 => ?_⟩
    have cn := HPB.out X2 ht2
    refine wpIn_block (wpIn_seq (regIn (fun ⟨_, _, hq⟩ => hq) rfl ?_))
    by_cases hin : (x.i : Int) = n
    · have hdi : decide ((x.i : Int) = n) = true := decide_eq_true hin
      go_wp2_with (first | (refine wl_value rfl (exec_fpb0 rfl (by rfl)) ?_) | (refine wl_value rfl (exec_eqI rfl (by rfl) (by rfl) hdi) ?_))
      refine wpIn_cond_true (by rfl) (wpIn_seq ?_)
      refine regIn_any rfl (fun ⟨_, _, hq⟩ => hq) rfl (any_region3 (Touch (fun k => k = g4 ∨ k = g5) X2) X2.heap.size
          [(g4, once #[.int .i64 0] 3 8 #[.int .i64 x.ow]), (g5, once #[.bool false] 4 9 #[.bool x.th])]
          [kv (.pointer (some ⟨x.blk, 0, none⟩)), kv (.pointer (some ⟨x.blk, 0, none⟩)), kv (.pointer (some ⟨x.blk, 3, none⟩)), kv (.int .i64 x.ow), kv (.pointer (some ⟨x.blk, 0, none⟩)), kv (.pointer (some ⟨x.blk, 0, none⟩)), kv (.pointer (some ⟨x.blk, 2, none⟩)), kv (.bool x.th), .val fun _ => True, .val fun _ => True]
          [.none, .none, .none, .none, .none, .none, .none, .none, .base 0 1, .base 1 1]
          [some 18, some 19, some 20, some 21, some 22, some 23, some 24, some 25, none, none]
          [(4, .pointer (some ⟨g4, 0, none⟩)), (5, .pointer (some ⟨g5, 0, none⟩)), (7, .pointer (some ⟨x.blk, 0, none⟩))]
          [[], [.slot 0], [.slot 1], [.slot 2], [], [.slot 4], [.slot 5], [.slot 6], [.slot 3, .base 0 0], [.slot 7, .base 1 0]]
          [.base 0 1, .base 1 1] [18, 19, 20, 21, 22, 23, 24, 25]
          (by kernel_rfl) ⟨rfl, rfl, rfl, trivial⟩ (Touch.refl _ _).drew (Nat.le_refl _) ⟨⟨heap_lt hj2.1, obIn hj2.1⟩, ⟨heap_lt hj2.2.1, obIn hj2.2.1⟩, trivial⟩ ⟨⟨h45, trivial⟩, trivial, trivial⟩ (tou_G2 (Nat.le_refl _))
          ⟨
            (fun Q aq ww own hS hBg fr kn => .inl ⟨trivial, fun K hK => wp_value (exec_move rfl fr.2.2.1) (hK _ _ ⟨Touch.refl _ _, rfl⟩)⟩),
            (fun Q aq ww own hS hBg fr kn => .inl ⟨trivial, fun K hK => wp_value (exec_nilc rfl kn.1) (hK _ _ ⟨Touch.refl _ _, rfl⟩)⟩),
            (fun Q aq ww own hS hBg fr kn => .inl ⟨trivial, fun K hK => wp_value (exec_fn2 rfl kn.1) (hK _ _ ⟨Touch.refl _ _, rfl⟩)⟩),
            (fun Q aq ww own hS hBg fr kn => .inl ⟨trivial, fun K hK => wp_value (exec_ld rfl kn.1 (ld_int (nd_o (HNX.out ww (ht2.tr hS))))) (hK _ _ ⟨Touch.refl _ _, rfl⟩)⟩),
            (fun Q aq ww own hS hBg fr kn => .inl ⟨trivial, fun K hK => wp_value (exec_move rfl fr.2.2.1) (hK _ _ ⟨Touch.refl _ _, rfl⟩)⟩),
            (fun Q aq ww own hS hBg fr kn => .inl ⟨trivial, fun K hK => wp_value (exec_nilc rfl kn.1) (hK _ _ ⟨Touch.refl _ _, rfl⟩)⟩),
            (fun Q aq ww own hS hBg fr kn => .inl ⟨trivial, fun K hK => wp_value (exec_fn1 rfl kn.1) (hK _ _ ⟨Touch.refl _ _, rfl⟩)⟩),
            (fun Q aq ww own hS hBg fr kn => .inl ⟨trivial, fun K hK => wp_value (exec_ld rfl kn.1 (ld_bool (nd_t (HNX.out ww (ht2.tr hS))))) (hK _ _ ⟨Touch.refl _ _, rfl⟩)⟩),
            (fun Q aq ww own hS hBg fr kn => .inl ⟨trivial, fun K hK => act_oneI rfl fr.1 kn.1 (obAt kn.2.1) (fun w2 hg ho => hK _ _ ⟨⟨touch_only ho, obIn hg⟩, trivial⟩)⟩),
            (fun Q aq ww own hS hBg fr kn => .inl ⟨trivial, fun K hK => act_oneB rfl fr.2.1 kn.1 (obAt kn.2.1) (fun w2 hg ho => hK _ _ ⟨⟨touch_only ho, obIn hg⟩, trivial⟩)⟩),
            trivial⟩ ?_)
      intro vs own X3 hS3 hsz kn inj
      exact wpIn_ret ⟨⟨rfl, i, x, hx, hin, obAt kn.1, obAt kn.2.1⟩, hS3⟩
    · have hdi : decide ((x.i : Int) = n) = false := decide_eq_false hin
      go_wp2_with (first | (refine wl_value rfl (exec_fpb0 rfl (by rfl)) ?_) | (refine wl_value rfl (exec_eqI rfl (by rfl) (by rfl) hdi) ?_))
      refine wpIn_cond_false (by rfl) (wpIn_skip ?_)
      refine ⟨⟨hj2.1, hj2.2.1, fun j y hj hy => ?_⟩, Touch.refl _ _⟩
      by_cases e : j = i
      · subst e
        rw [hx] at hy
        obtain rfl := Option.some.inj hy
        exact hin
      · exact hj2.2.2 j y (by omega) hy
  case done =>
    rintro D Y hD ⟨y4, y5, hall⟩ hty hKD
    have hr := HAT.out.2 hall
    have c4 := (one_cell y4).1
    have c5 := (one_cell y5).1
    have f4 := (one_cell y4).2
    have f5 := (one_cell y5).2
    have HZ : Hid (((Y.setCell ⟨g4, 0, none⟩ (.int .i64 0)).setCell ⟨g5, 0, none⟩ (.bool false)).heap[g4]? = some (.cells #[.int .i64 0] 3 (0, 0)) ∧ ((Y.setCell ⟨g4, 0, none⟩ (.int .i64 0)).setCell ⟨g5, 0, none⟩ (.bool false)).heap[g5]? = some (.cells #[.bool false] 4 (0, 0)) ∧ ((Y.setCell ⟨g4, 0, none⟩ (.int .i64 0)).setCell ⟨g5, 0, none⟩ (.bool false)).heap[D]? = some (.deferred (some [])) ∧ Below w.heap.size w ((Y.setCell ⟨g4, 0, none⟩ (.int .i64 0)).setCell ⟨g5, 0, none⟩ (.bool false))) := Hid.mk (by
      have o1 : Only g4 Y (Y.setCell ⟨g4, 0, none⟩ (.int .i64 0)) := only_set
      have o2 : Only g5 (Y.setCell ⟨g4, 0, none⟩ (.int .i64 0)) ((Y.setCell ⟨g4, 0, none⟩ (.int .i64 0)).setCell ⟨g5, 0, none⟩ (.bool false)) := only_set
      have hBy : Below w.heap.size w Y := hBw.trans (tou_below hty (fun k hk => by omega) (by omega))
      exact ⟨(o2.block g4 h45).trans (one_set y4), one_set ((o1.block g5 (Ne.symm h45)).trans y5), (o2.block D (by omega)).trans ((o1.block D (by omega)).trans hKD), (hBy.trans (o1.below hw4)).trans (o2.below (by omega))⟩)
    go_wp2_with fail
    refine postM_ret [D] rfl (fun E hE => by simp at hE; rw [hE]; exact HZ.out.2.2.1) (by simp) (fun w' ht' hs' => ?_)
    obtain ⟨z4, z5, zD, hBz⟩ := HZ.out
    exact ⟨_, res_2 rfl (by rfl) (by rfl) ((ht'.block g4 (heap_lt z4) (fun e => by simp at e; omega)).trans z4) ((ht'.block g5 (heap_lt z5) (fun e => by simp at e; omega)).trans z5), by rw [hr], hBz.trans (tou_below ht' (fun k hk => by simp at hk; omega) hBz.size)⟩
  case stop =>
    rintro D c Y hD ⟨rfl, i, x, hx, hin, y4, y5⟩ hty hKD
    have hr := HAT.out.1 i x hx hin
    go_wp2_with fail
    refine postM_ret [D] rfl (fun E hE => by simp at hE; rw [hE]; exact hKD) (by simp) (fun w' ht' hs' => ?_)
    have hBy : Below w.heap.size w Y := hBw.trans (tou_below hty (fun k hk => by omega) (by omega))
    exact ⟨_, res_2 rfl (by rfl) (by rfl) ((ht'.block g4 (heap_lt y4) (fun e => by simp at e; omega)).trans y4) ((ht'.block g5 (heap_lt y5) (fun e => by simp at e; omega)).trans y5), by rw [hr], hBy.trans (tou_below ht' (fun k hk => by simp at hk; omega) hBy.size)⟩
end Go.Proofs.Ytcpnleanjclfjaa
/-
  Own text. The code's at of no table; Find.
-/
namespace Go.Proofs.Ytcpnleanjclfjaa
open Go.RowKit Go.Proofs
set_option maxRecDepth 100000
theorem enterWhoC (args : Array Value) (w : World) : (callFunc 20 args).run Try.prog w = .ok (.enter 20 args) w := by kernel_rfl
theorem run_px2 (v : Bool) (b : Nat → Int) (n : Int) (w : World) : (Instr.build 37 #[(0, .agg (SC 17 (adV v b))), (1, .int .i64 n)]).run Try.prog w = .ok (.agg (SC 18 (prV v b n))) w := by kernel_rfl
theorem exec_px2 {a : Act} {o : Oper} {w : World} {x y : Operand} (ho : o.op = .build 37 #[(0, x), (1, y)]) {v : Bool} {b : Nat → Int} {n : Int} (hx : a.eval x = .agg (SC 17 (adV v b))) (hy : a.eval y = .int .i64 n) : (execOp a.eval o).run Try.prog w = .ok (.value (.agg (SC 18 (prV v b n)))) w := by
  unfold execOp
  simp only [ho]
  simp [hx, hy, run_px2]
set_option maxHeartbeats 16000000 in
theorem at_none (v : Bool) (b : Nat → Int) (n : Int) (w : World) : Calls Try.prog 27 #[.pointer none, .agg (SC 18 (prV v b n))] w fun e w' => e = .returned (.tuple #[.int .i64 0, .bool false]) ∧ Below w.heap.size w w' := by
  refine calls_of_wpM Try.func27 rfl ?_
  simp only [Try.ntmps27, List.size_toArray, List.length_cons, List.length_nil, Nat.reduceAdd, Nat.reduceSub, Array.replicate_succ, Array.replicate_zero, List.push_toArray, List.append_toArray, List.nil_append, List.cons_append]
  go_wp2_with (refine wl_boxO rfl rfl isPfx (by rfl) ?_; intro g3 w1 hg3 q3 hB1; refine Hid.out ?_)
  refine Hid.mk ?_
  have n4 := heap_alloc_new w1 (.cells #[.int .i64 0] 3 (0, 0))
  have b4 := (Below.refl w1.heap.size w1).alloc (Nat.le_refl _) (.cells #[.int .i64 0] 3 (0, 0))
  have n5 := heap_alloc_new (w1.alloc (.cells #[.int .i64 0] 3 (0, 0))) (.cells #[.bool false] 4 (0, 0))
  have b5 := (Below.refl (w1.heap.size + 1) (w1.alloc (.cells #[.int .i64 0] 3 (0, 0)))).alloc (by simp) (.cells #[.bool false] 4 (0, 0))
  rw [World.size_alloc] at n5
  go_upto_region 1 with fail
  refine wp_gen (fun u => u.heap[w1.heap.size]? = some (.cells #[.int .i64 0] 3 (0, 0)) ∧ u.heap[w1.heap.size + 1]? = some (.cells #[.bool false] 4 (0, 0)) ∧ Below w1.heap.size w1 u ∧ w1.heap.size + 2 ≤ u.heap.size) ⟨bheap b5 n4 (by omega), n5, b4.trans (b5.mono (by omega)), by simp⟩ ?_
  rintro w2 ⟨h4, h5, hB2, hs2⟩
  clear n4 b4 n5 b5
  have q2 := SAt.kept q3 hB2
  have hBa : Below w.heap.size w w2 := hB1.trans (hB2.mono hB1.size)
  obtain ⟨g4, e4⟩ : ∃ g, w1.heap.size = g := ⟨_, rfl⟩
  obtain ⟨g5, e5⟩ : ∃ g, g4 + 1 = g := ⟨_, rfl⟩
  have hw4 : w.heap.size ≤ g4 := by rw [← e4]; exact hB1.size
  have h45 : g4 ≠ g5 := by omega
  have hs2' : g5 < w2.heap.size := by omega
  rw [e4, e5] at h5
  rw [e4] at h4
  simp only [e4, e5]
  clear q3 hB1 hB2 hs2 e4
  go_wp2_with (refine wl_value rfl (look_st rfl isPfx q2 (by rfl)) ?_)
  refine (path_run none v b n w2).mono ?_
  rintro e wl ⟨bt, bp, rfl, hbt, hbp, nbt, qbp, hBl⟩
  have h4' := bheap hBl h4 (by omega)
  have h5' := bheap hBl h5 (by omega)
  have hBw : Below w.heap.size w wl := hBa.trans (hBl.mono hBa.size)
  have hl2 := hBl.size
  have hwl := hBw.size
  have HG := path_none (bp := bp) (A := fun k => k = bt) nbt
  clear q2 h4 h5 hBa hBl
  go_wp2_with fail
  refine wp_rangeT (by rfl) enterPath1 HG (Below.refl _ _) (fun x => rfl) (fun k hk => by rw [hk]; exact heap_lt nbt) (fun k => k = g4 ∨ k = g5) ?hT
    (fun _ X => X.heap[g4]? = some (.cells #[.int .i64 0] 3 (0, 0)) ∧ X.heap[g5]? = some (.cells #[.bool false] 4 (0, 0)))
    (fun _ _ => False) ?hJ (fun _ _ _ h _ => h) ⟨h4', h5'⟩ ?round ?done (fun _ _ _ _ h => h.elim)
  case hT =>
    rintro k (rfl | rfl)
    · exact ⟨by omega, fun e => by omega⟩
    · exact ⟨by omega, fun e => by omega⟩
  case hJ =>
    rintro i X Y ⟨h1, h2⟩ hb
    exact ⟨bheap hb h1 (by omega), bheap hb h2 (by omega)⟩
  case round =>
    intro l i x X hl hlX hx
    simp at hx
  case done =>
    rintro D Y hD ⟨y4, y5⟩ hty hKD
    have c4 := (one_cell y4).1
    have c5 := (one_cell y5).1
    have f4 := (one_cell y4).2
    have f5 := (one_cell y5).2
    have HZ : Hid (((Y.setCell ⟨g4, 0, none⟩ (.int .i64 0)).setCell ⟨g5, 0, none⟩ (.bool false)).heap[g4]? = some (.cells #[.int .i64 0] 3 (0, 0)) ∧ ((Y.setCell ⟨g4, 0, none⟩ (.int .i64 0)).setCell ⟨g5, 0, none⟩ (.bool false)).heap[g5]? = some (.cells #[.bool false] 4 (0, 0)) ∧ ((Y.setCell ⟨g4, 0, none⟩ (.int .i64 0)).setCell ⟨g5, 0, none⟩ (.bool false)).heap[D]? = some (.deferred (some [])) ∧ Below w.heap.size w ((Y.setCell ⟨g4, 0, none⟩ (.int .i64 0)).setCell ⟨g5, 0, none⟩ (.bool false))) := Hid.mk (by
      have o1 : Only g4 Y (Y.setCell ⟨g4, 0, none⟩ (.int .i64 0)) := only_set
      have o2 : Only g5 (Y.setCell ⟨g4, 0, none⟩ (.int .i64 0)) ((Y.setCell ⟨g4, 0, none⟩ (.int .i64 0)).setCell ⟨g5, 0, none⟩ (.bool false)) := only_set
      have hBy : Below w.heap.size w Y := hBw.trans (tou_below hty (fun k hk => by omega) (by omega))
      exact ⟨(o2.block g4 h45).trans (one_set y4), one_set ((o1.block g5 (Ne.symm h45)).trans y5), (o2.block D (by omega)).trans ((o1.block D (by omega)).trans hKD), (hBy.trans (o1.below hw4)).trans (o2.below (by omega))⟩)
    go_wp2_with fail
    refine postM_ret [D] rfl (fun E hE => by simp at hE; rw [hE]; exact HZ.out.2.2.1) (by simp) (fun w' ht' hs' => ?_)
    obtain ⟨z4, z5, zD, hBz⟩ := HZ.out
    exact ⟨_, res_2 rfl (by rfl) (by rfl) ((ht'.block g4 (heap_lt z4) (fun e => by simp at e; omega)).trans z4) ((ht'.block g5 (heap_lt z5) (fun e => by simp at e; omega)).trans z5), rfl, hBz.trans (tou_below ht' (fun k hk => by simp at hk; omega) hBz.size)⟩
/-- The longest of the first k lengths at which there is one. -/
def bst (b : Nat → Int) (T : Tr) : Nat → Option (Nat × Int)
  | 0 => none
  | k + 1 => match gt b k 0 T with
    | some o => some (k, o)
    | none => bst b T k
theorem bst_same {b : Nat → Int} {T : Tr} {m : Nat} : ∀ k, m ≤ k → (∀ j, m ≤ j → j < k → gt b j 0 T = none) → bst b T k = bst b T m
  | 0, h, _ => by rw [show m = 0 by omega]
  | k + 1, h, hj => by
    by_cases e : m = k + 1
    · rw [e]
    · rw [show bst b T (k + 1) = (match gt b k 0 T with | some o => some (k, o) | none => bst b T k) from rfl, hj k (by omega) (by omega)]
      exact bst_same k (by omega) (fun j h1 h2 => hj j h1 (by omega))
theorem bst_some {b : Nat → Int} {T : Tr} {L : Nat} {o : Int} : ∀ k, bst b T k = some (L, o) → L < k ∧ gt b L 0 T = some o ∧ ∀ j, L < j → j < k → gt b j 0 T = none
  | 0, h => by cases h
  | k + 1, h => by
    unfold bst at h
    cases hg : gt b k 0 T with
    | some u =>
      rw [hg] at h
      obtain ⟨rfl, rfl⟩ : k = L ∧ u = o := by simpa using h
      exact ⟨by omega, hg, fun j h1 h2 => by omega⟩
    | none =>
      rw [hg] at h
      obtain ⟨h1, h2, h3⟩ := bst_some k h
      exact ⟨by omega, h2, fun j h4 h5 => by
        by_cases e : j = k
        · rw [e]; exact hg
        · exact h3 j h4 (by omega)⟩
theorem bst_none {b : Nat → Int} {T : Tr} : ∀ k, bst b T k = none → ∀ j, j < k → gt b j 0 T = none
  | 0, _, j, hj => by omega
  | k + 1, h, j, hj => by
    unfold bst at h
    cases hg : gt b k 0 T with
    | some u => rw [hg] at h; cases h
    | none =>
      rw [hg] at h
      by_cases e : j = k
      · rw [e]; exact hg
      · exact bst_none k h j (by omega)
/-- What Find tells. -/
def bestA (v : Bool) (b : Nat → Int) : Option (Nat × Int) → Value
  | none => .tuple #[.int .i64 0, .agg (SC 18 (prV false (fun _ => 0) 0)), .bool false]
  | some (L, o) => .tuple #[.int .i64 o, .agg (SC 18 (wholeV v b (L : Int))), .bool true]
def bestG (T4 T6 : Tr) (v : Bool) (b : Nat → Int) : Option (Nat × Int) := if validF v b = true then bst b (trV T4 T6 v) (wdN v + 1) else none
def bO : Option (Nat × Int) → Int
  | none => 0
  | some (_, o) => o
def bP (v : Bool) (b : Nat → Int) : Option (Nat × Int) → Nat → Value
  | none => prV false (fun _ => 0) 0
  | some (L, _) => wholeV v b (L : Int)
theorem whV_one (v : Bool) (b : Nat → Int) (n : Int) (j : Nat) : (wholeV v b n j).oneCell' = true := by unfold wholeV; split <;> exact prV_one _ _ _ _
theorem bP_one (v : Bool) (b : Nat → Int) (x : Option (Nat × Int)) (j : Nat) : (bP v b x j).oneCell' = true := by
  cases x with
  | none => exact prV_one _ _ _ _
  | some y => exact whV_one _ _ _ _
theorem tou_G1 {Y : World} {g5 : Nat} {c5 : Cont} {X2 : World} (_hs : Y.heap.size ≤ X2.heap.size) (w w' : World) (h : Touch (fun k => k = g5) Y w) (ht : Touch (fun k => X2.heap.size ≤ k ∨ k ∈ ([(g5, c5)] : List (Nat × Cont)).map (·.1)) w w') : Touch (fun k => k = g5) Y w' :=
  ⟨ht.os.trans h.os, ht.tape.trans h.tape, ht.output.trans h.output, Nat.le_trans h.size ht.size, fun k hk hn => (ht.block k (Nat.lt_of_lt_of_le hk h.size) (fun e => e.elim (fun e => by omega) (fun e => by simp at e; exact hn e))).trans (h.block k hk hn)⟩
set_option maxHeartbeats 16000000 in
theorem find_none (v : Bool) (b : Nat → Int) (w : World) : Calls Try.prog 13 #[.pointer none, .agg (SC 17 (adV v b))] w fun e w' => e = .returned (.tuple #[.int .i64 0, .agg (SC 18 (prV false (fun _ => 0) 0)), .bool false]) ∧ Below w.heap.size w w' := by
  refine calls_of_wpM Try.func13 rfl ?_
  simp only [Try.ntmps13, List.size_toArray, List.length_cons, List.length_nil, Nat.reduceAdd, Nat.reduceSub, Array.replicate_succ, Array.replicate_zero, List.push_toArray, List.append_toArray, List.nil_append, List.cons_append]
  go_wp2_with (refine wl_boxO rfl rfl isAddr (by rfl) ?_; intro g3 w1 hg3 q31 hB1; refine Hid.out ?_)
  refine Hid.mk ?_
  go_wp2_with (refine wl_alO rfl rfl zeroPfx ?_; intro g5 w5 hg5 q55 hB5; refine Hid.out ?_)
  refine Hid.mk ?_
  have q35 := SAt.kept q31 hB5
  have hBa : Below w.heap.size w w5 := hB1.trans (hB5.mono hB1.size)
  have hw3 : w.heap.size ≤ g3 := hg3
  have hw5 : w.heap.size ≤ g5 := by have := hB1.size; omega
  have h35 : g3 < g5 := by have := SAt.lt q31; omega
  clear q31 hB1 hB5 hg3 hg5
  have n7 := heap_alloc_new w5 (.cells #[.int .i64 0] 3 (0, 0))
  have b7 := (Below.refl w5.heap.size w5).alloc (Nat.le_refl _) (.cells #[.int .i64 0] 3 (0, 0))
  go_upto_region 2 with fail
  refine wp_gen (fun u => u.heap[w5.heap.size]? = some (.cells #[.int .i64 0] 3 (0, 0)) ∧ Below w5.heap.size w5 u ∧ w5.heap.size < u.heap.size) ⟨n7, b7, by simp⟩ ?_
  clear n7 b7
  rintro w7 ⟨n7, hB7, hs7⟩
  obtain ⟨g7, e7⟩ : ∃ g, w5.heap.size = g := ⟨_, rfl⟩
  have h57 : g5 < g7 := by rw [← e7]; exact SAt.lt q55
  have q37 := SAt.kept q35 hB7
  have q57 := SAt.kept q55 hB7
  have hBb : Below w.heap.size w w7 := hBa.trans (hB7.mono hBa.size)
  rw [e7] at n7 hs7
  simp only [e7]
  clear q35 q55 hB7 hBa e7
  go_wp2_with (refine wl_alO rfl rfl zeroPfx ?_; intro g8 w8 hg8 q88 hB8; refine Hid.out ?_)
  refine Hid.mk ?_
  have h78 : g7 < g8 := by omega
  have q38 := SAt.kept q37 hB8
  have q58 := SAt.kept q57 hB8
  have n78 := bheap hB8 n7 hs7
  have hBc : Below w.heap.size w w8 := hBb.trans (hB8.mono hBb.size)
  clear q37 q57 n7 hB8 hBb hs7 hg8
  have n9 := heap_alloc_new w8 (.cells #[.bool false] 4 (0, 0))
  have b9 := (Below.refl w8.heap.size w8).alloc (Nat.le_refl _) (.cells #[.bool false] 4 (0, 0))
  go_upto_region 4 with fail
  refine wp_gen (fun u => u.heap[w8.heap.size]? = some (.cells #[.bool false] 4 (0, 0)) ∧ Below w8.heap.size w8 u ∧ w8.heap.size < u.heap.size) ⟨n9, b9, by simp⟩ ?_
  clear n9 b9
  rintro w2 ⟨n9, hB9, hs9⟩
  obtain ⟨g9, e9⟩ : ∃ g, w8.heap.size = g := ⟨_, rfl⟩
  have h89 : g8 < g9 := by rw [← e9]; exact SAt.lt q88
  have q3 := SAt.kept q38 hB9
  have q5 := SAt.kept q58 hB9
  have q8 := SAt.kept q88 hB9
  have n7 := bheap hB9 n78 (heap_lt n78)
  have hBd : Below w.heap.size w w2 := hBc.trans (hB9.mono hBc.size)
  rw [e9] at n9 hs9
  simp only [e9]
  clear q38 q58 q88 n78 hB9 hBc e9
  refine wp_region_cut 5 rfl (by kernel_rfl) (any_steps (Below w2.heap.size w2) (fun v v' => Below v.heap.size v v') (fun iq vq v0 => match iq with | 0 => vq = .pointer none | 1 => vq = .agg (SC 17 (adV v b)) | 2 => vq = .agg (SC 17 (adV v b)) | 3 => vq = .int .i64 (wdN v : Int) | 4 => vq = .agg (SC 18 (prV v b (wdN v : Int))) | _ => True)
      [12, 13, 14, 15, 16]
      [(0, .pointer none), (3, .pointer (some ⟨g3, 0, none⟩))]
      [[], [], [], [2], [1, 3]]
      (by kernel_rfl) ⟨rfl, rfl, trivial⟩ (Below.drew (Below.refl _ _)) (fun v v' h hb => h.trans (hb.mono h.size)) ?_
      ⟨
        (fun Q a1 ww hS fr kn => ⟨trivial, fun K hK => wp_value (exec_move rfl fr.1) (hK _ _ rfl (Below.refl _ _))⟩),
        (fun Q a1 ww hS fr kn => ⟨trivial, fun K hK => wp_value (look_st rfl isAddr (SAt.kept q3 hS) fr.2.1) (hK _ _ rfl (Below.refl _ _))⟩),
        (fun Q a1 ww hS fr kn => ⟨trivial, fun K hK => wp_value (look_st rfl isAddr (SAt.kept q3 hS) fr.2.1) (hK _ _ rfl (Below.refl _ _))⟩),
        (fun Q a1 ww hS fr kn => ⟨trivial, fun K hK => stepc enterWid rfl (args1 kn.1) (widest_run v b ww) (fun w' hb => hK _ _ rfl hb)⟩),
        (fun Q a1 ww hS fr kn => ⟨trivial, fun K hK => wp_value (exec_px2 rfl kn.1 kn.2.1) (hK _ _ rfl (Below.refl _ _))⟩),
        trivial⟩ ?_)
  · intro iq vq u' u'' hh hb
    match iq with
    | 0 | 1 | 2 | 3 | 4 => exact hh

    | n + 5 => trivial
  intro vs w3 hS3 hk3
  have e12 : vs 12 = .pointer none := hk3 0 (by decide)
  have e16 : vs 16 = .agg (SC 18 (prV v b (wdN v : Int))) := hk3 4 (by decide)
  clear hk3
  replace q3 := SAt.kept q3 hS3
  replace q5 := SAt.kept q5 hS3
  replace q8 := SAt.kept q8 hS3
  replace n7 := bheap hS3 n7 (by omega)
  replace n9 := bheap hS3 n9 (by omega)
  replace hBd := hBd.trans (hS3.mono hBd.size)
  have hs9' : g9 < w3.heap.size := by have := hS3.size; omega
  clear hS3 hs9
  show wpList Try.prog _ _ (_ :: []) _ _
  simp only [putAll, Act.put, List.setIfInBounds_toArray, List.set_cons_zero, List.set_cons_succ, e12, e16]
  clear e12 e16
  go_wp2_with fail
  refine (path_run _ v b (wdN v : Int) w3).mono ?_
  rintro e wl ⟨bt, bp, rfl, hbt, hbp, nbt, qbp, hBl⟩
  replace q3 := SAt.kept q3 hBl
  replace q5 := SAt.kept q5 hBl
  replace q8 := SAt.kept q8 hBl
  replace n7 := bheap hBl n7 (by omega)
  replace n9 := bheap hBl n9 (by omega)
  have hBw := hBd.trans (hBl.mono hBd.size)
  have hl2 := hBl.size
  have hwl := hBw.size
  clear hBd hBl
  have HG := path_none (bp := bp) (A := fun k => k = bt) nbt
  have hga : ∀ k, k = bt → k < wl.heap.size := fun k hk => by rw [hk]; exact heap_lt nbt
  go_wp2_with fail
  refine wp_rangeT (by rfl) enterPath1 HG (Below.refl _ _) (fun x => rfl) hga (fun k => k = g7 ∨ k = g8 ∨ k = g9) ?hT
    (fun i X => X.heap[g7]? = some (.cells #[.int .i64 (bO (none : Option (Nat × Int)))] 3 (0, 0)) ∧ SAt X g8 37 18 (bP v b (none : Option (Nat × Int))) ∧ X.heap[g9]? = some (.cells #[.bool (none : Option (Nat × Int)).isSome] 4 (0, 0)))
    (fun _ _ => False) ?hJ (fun _ _ _ h _ => h) ⟨n7, q8, n9⟩ ?round ?done (fun _ _ _ _ h => h.elim)
  case hT =>
    rintro k (rfl | rfl | rfl)
    · exact ⟨by omega, fun e => by omega⟩
    · exact ⟨by omega, fun e => by omega⟩
    · exact ⟨by omega, fun e => by omega⟩
  case hJ =>
    rintro i X Y ⟨h1, h2, h3⟩ hb
    exact ⟨bheap hb h1 (by omega), h2.block (hb.block _ (by omega)), bheap hb h3 (by omega)⟩
  case round =>
    intro l i x X hl hlX hx
    simp at hx
  case done =>
    rintro D Y hD hY hty hKD
    obtain ⟨ZO, hZO⟩ : ∃ x, bO (none : Option (Nat × Int)) = x := ⟨_, rfl⟩
    obtain ⟨ZP, hZP⟩ : ∃ x, bP v b (none : Option (Nat × Int)) = x := ⟨_, rfl⟩
    obtain ⟨ZF, hZF⟩ : ∃ x, (none : Option (Nat × Int)).isSome = x := ⟨_, rfl⟩
    rw [hZO, hZP, hZF] at hY
    obtain ⟨y7, y8, y9⟩ := hY
    have y5 : SAt Y g5 37 18 (prV false (fun _ => 0) 0) := q5.block (hty.block _ q5.lt (fun e => by omega))
    have HBX : Hid (∀ X, Touch (fun k => k = g5) Y X → X.cell? ⟨g7, 0, none⟩ = some (.int .i64 ZO) ∧ SAt X g8 37 18 ZP ∧ X.cell? ⟨g9, 0, none⟩ = some (.bool ZF)) := Hid.mk (fun X hX => ⟨(one_cell ((hX.block g7 (heap_lt y7) (by omega)).trans y7)).1, y8.tou hX (by omega), (one_cell ((hX.block g9 (heap_lt y9) (by omega)).trans y9)).1⟩)
    have HZ1 : Hid (∀ j, (ZP j).oneCell' = true) := Hid.mk (by rw [← hZP]; exact bP_one v b _)
    have hBy : Below w.heap.size w Y := hBw.trans (tou_below hty (fun k hk => by omega) (by omega))
    have HR : Hid ((.tuple #[.int .i64 0, .agg (SC 18 (prV false (fun _ => 0) 0)), .bool false] : Value) = .tuple #[.int .i64 ZO, .agg (SC 18 ZP), .bool ZF]) := Hid.mk (by
      rw [← hZO, ← hZP, ← hZF]
      rfl)
    clear hZO hZP hZF
    go_wp2_with fail
    refine wp_region3 (Touch (fun k => k = g5) Y) Y.heap.size
        [(g5, once (SC 18 (prV false (fun _ => 0) 0)) 37 4 (SC 18 ZP))]
        [kv (.int .i64 ZO), kv (.agg (SC 18 ZP)), kv (.bool ZF), kv (.int .i64 ZO), .val fun _ => True, kv (.bool ZF)]
        [.none, .none, .none, .none, .base 0 1, .none]
        [some 32, some 33, some 34, some 4, none, some 6]
        [(5, .pointer (some ⟨g5, 0, none⟩)), (7, .pointer (some ⟨g7, 0, none⟩)), (8, .pointer (some ⟨g8, 0, none⟩)), (9, .pointer (some ⟨g9, 0, none⟩))]
        [[], [], [], [.slot 0], [.slot 1, .base 0 0], [.slot 2]]
        [.slot 3, .slot 5, .base 0 1] [32, 33, 34, 4, 6]
        rfl (by kernel_rfl) ⟨rfl, rfl, rfl, rfl, trivial⟩ (Touch.refl _ _).drew (Nat.le_refl _) ⟨⟨SAt.lt y5, obIn y5⟩, trivial⟩ ⟨trivial, trivial⟩ (tou_G1 (Nat.le_refl _))
        ⟨
          (fun Q aq ww own hS hBg fr kn => .inl ⟨trivial, fun K hK => wp_value (exec_ld rfl fr.2.1 (ld_int (HBX.out ww hS).1)) (hK _ _ ⟨Touch.refl _ _, rfl⟩)⟩),
          (fun Q aq ww own hS hBg fr kn => .inl ⟨trivial, fun K hK => wp_value (look_st rfl isPfx (HBX.out ww hS).2.1 fr.2.2.1) (hK _ _ ⟨Touch.refl _ _, rfl⟩)⟩),
          (fun Q aq ww own hS hBg fr kn => .inl ⟨trivial, fun K hK => wp_value (exec_ld rfl fr.2.2.2.1 (ld_bool (HBX.out ww hS).2.2)) (hK _ _ ⟨Touch.refl _ _, rfl⟩)⟩),
          (fun Q aq ww own hS hBg fr kn => .inl ⟨trivial, fun K hK => wp_value (exec_assign rfl kn.1) (hK _ _ ⟨Touch.refl _ _, rfl⟩)⟩),
          (fun Q aq ww own hS hBg fr kn => .inl ⟨trivial, fun K hK => act_st7 rfl isPfx HZ1.out fr.1 kn.1 (obAt kn.2.1) (fun w2 hg ho => hK _ _ ⟨⟨touch_only ho, obIn hg⟩, trivial⟩)⟩),
          (fun Q aq ww own hS hBg fr kn => .inl ⟨trivial, fun K hK => wp_value (exec_assign rfl kn.1) (hK _ _ ⟨Touch.refl _ _, rfl⟩)⟩),
          trivial⟩ ?_
    intro vs own Y3 hS3 hsz kn inj
    have e4 : vs 4 = .int .i64 ZO := kn.1
    have e6 : vs 6 = .bool ZF := kn.2.1
    have z5 : SAt Y3 g5 37 18 ZP := obAt kn.2.2.1
    clear kn inj hsz
    simp only [putAll, Act.put, List.setIfInBounds_toArray, List.set_cons_zero, List.set_cons_succ, e4, e6]
    clear e4 e6
    have hKD3 := (hS3.block D (heap_lt hKD) (by omega)).trans hKD
    have hB3 : Below w.heap.size w Y3 := hBy.trans (tou_below hS3 (fun k hk => by omega) hBy.size)
    go_wp2_with fail
    refine postM_ret [D] rfl (fun E hE => by simp at hE; rw [hE]; exact hKD3) (by simp) (fun w' ht' hs' => ?_)
    exact ⟨_, res_tct rfl isPfx (z5.block (ht'.block g5 z5.lt (fun e => by simp at e; omega))) (by rfl) (by rfl) (by rfl), by rw [HR.out]; rfl, hB3.trans (tou_below ht' (fun k hk => by simp at hk; omega) hB3.size)⟩
theorem right_wide (v : Bool) (b : Nat → Int) : rightF v b (wdN v : Int) = validF v b := by
  rw [right_wd, decide_eq_true (show (0 : Int) ≤ (wdN v : Int) by omega), decide_eq_true (Int.le_refl _)]
  simp
set_option maxHeartbeats 16000000 in
theorem findC_run {w : World} {t : Nat} {m : Int} {T4 T6 : Tr} {p4 p6 : Option Addr} (h : TabM w t m T4 T6 p4 p6) (v : Bool) (b : Nat → Int) (hb : Byts 16 b) : Calls Try.prog 13 #[.pointer (some ⟨t, 0, none⟩), .agg (SC 17 (adV v b))] w fun e w' => e = .returned (bestA v b (bestG T4 T6 v b)) ∧ Below w.heap.size w w' := by
  obtain ⟨xs, hyes, hno, hxl⟩ := tab_pth h v b (wdN v : Int)
  have HP : ∀ (i : Nat) (x : Stp), xs[i]? = some x → x.i = i ∧ (∃ pl pr, SAt w x.blk 72 4 (ndV pl pr x.th x.ow)) ∧ gt b i 0 (trV T4 T6 v) = if x.th = true then some x.ow else none := fun i x hx => by
    rcases Bool.eq_false_or_eq_true (rightF v b (wdN v : Int)) with hr | hr
    · obtain ⟨e1, e2, e3⟩ := (pth_at _ _ _ _ _ (hyes hr)).2.1 i x hx
      exact ⟨by omega, e2, e3⟩
    · rw [hno hr] at hx
      simp at hx
  have HI : Hid (∀ (i : Nat) (x : Stp), xs[i]? = some x → x.i = i ∧ True ∧ ∃ pl pr, SAt w x.blk 72 4 (ndV pl pr x.th x.ow)) := Hid.mk (fun i x hx => ⟨(HP i x hx).1, trivial, (HP i x hx).2.1⟩)
  have HSTEP : Hid (∀ (i : Nat) (x : Stp), xs[i]? = some x → (x.th = true → bst b (trV T4 T6 v) (i + 1) = some (x.i, x.ow)) ∧ (x.th = false → bst b (trV T4 T6 v) (i + 1) = bst b (trV T4 T6 v) i)) := Hid.mk (fun i x hx => by
    obtain ⟨e1, _, e3⟩ := HP i x hx
    refine ⟨fun ht => ?_, fun ht => ?_⟩
    · rw [if_pos ht] at e3
      show (match gt b i 0 (trV T4 T6 v) with | some o => some (i, o) | none => bst b (trV T4 T6 v) i) = _
      rw [e3, e1]
    · rw [if_neg (by rw [ht]; simp)] at e3
      show (match gt b i 0 (trV T4 T6 v) with | some o => some (i, o) | none => bst b (trV T4 T6 v) i) = _
      rw [e3])
  have HEND : Hid (bestG T4 T6 v b = bst b (trV T4 T6 v) xs.length) := Hid.mk (by
    unfold bestG
    rcases Bool.eq_false_or_eq_true (validF v b) with hr | hr
    · rw [if_pos hr]
      have hp := hyes (by rw [right_wide]; exact hr)
      obtain ⟨h1, _, h3⟩ := pth_at _ _ _ _ _ hp
      rw [Int.toNat_natCast] at h1 h3
      exact bst_same _ h1 (fun j h4 h5 => h3 j (by omega) h4)
    · rw [if_neg (by rw [hr]; simp), hno (by rw [right_wide]; exact hr)]
      rfl)
  clear HP
  refine calls_of_wpM Try.func13 rfl ?_
  simp only [Try.ntmps13, List.size_toArray, List.length_cons, List.length_nil, Nat.reduceAdd, Nat.reduceSub, Array.replicate_succ, Array.replicate_zero, List.push_toArray, List.append_toArray, List.nil_append, List.cons_append]
  go_wp2_with (refine wl_boxO rfl rfl isAddr (by rfl) ?_; intro g3 w1 hg3 q31 hB1; refine Hid.out ?_)
  refine Hid.mk ?_
  go_wp2_with (refine wl_alO rfl rfl zeroPfx ?_; intro g5 w5 hg5 q55 hB5; refine Hid.out ?_)
  refine Hid.mk ?_
  have q35 := SAt.kept q31 hB5
  have hBa : Below w.heap.size w w5 := hB1.trans (hB5.mono hB1.size)
  have hw3 : w.heap.size ≤ g3 := hg3
  have hw5 : w.heap.size ≤ g5 := by have := hB1.size; omega
  have h35 : g3 < g5 := by have := SAt.lt q31; omega
  clear q31 hB1 hB5 hg3 hg5
  have n7 := heap_alloc_new w5 (.cells #[.int .i64 0] 3 (0, 0))
  have b7 := (Below.refl w5.heap.size w5).alloc (Nat.le_refl _) (.cells #[.int .i64 0] 3 (0, 0))
  go_upto_region 2 with fail
  refine wp_gen (fun u => u.heap[w5.heap.size]? = some (.cells #[.int .i64 0] 3 (0, 0)) ∧ Below w5.heap.size w5 u ∧ w5.heap.size < u.heap.size) ⟨n7, b7, by simp⟩ ?_
  clear n7 b7
  rintro w7 ⟨n7, hB7, hs7⟩
  obtain ⟨g7, e7⟩ : ∃ g, w5.heap.size = g := ⟨_, rfl⟩
  have h57 : g5 < g7 := by rw [← e7]; exact SAt.lt q55
  have q37 := SAt.kept q35 hB7
  have q57 := SAt.kept q55 hB7
  have hBb : Below w.heap.size w w7 := hBa.trans (hB7.mono hBa.size)
  rw [e7] at n7 hs7
  simp only [e7]
  clear q35 q55 hB7 hBa e7
  go_wp2_with (refine wl_alO rfl rfl zeroPfx ?_; intro g8 w8 hg8 q88 hB8; refine Hid.out ?_)
  refine Hid.mk ?_
  have h78 : g7 < g8 := by omega
  have q38 := SAt.kept q37 hB8
  have q58 := SAt.kept q57 hB8
  have n78 := bheap hB8 n7 hs7
  have hBc : Below w.heap.size w w8 := hBb.trans (hB8.mono hBb.size)
  clear q37 q57 n7 hB8 hBb hs7 hg8
  have n9 := heap_alloc_new w8 (.cells #[.bool false] 4 (0, 0))
  have b9 := (Below.refl w8.heap.size w8).alloc (Nat.le_refl _) (.cells #[.bool false] 4 (0, 0))
  go_upto_region 4 with fail
  refine wp_gen (fun u => u.heap[w8.heap.size]? = some (.cells #[.bool false] 4 (0, 0)) ∧ Below w8.heap.size w8 u ∧ w8.heap.size < u.heap.size) ⟨n9, b9, by simp⟩ ?_
  clear n9 b9
  rintro w2 ⟨n9, hB9, hs9⟩
  obtain ⟨g9, e9⟩ : ∃ g, w8.heap.size = g := ⟨_, rfl⟩
  have h89 : g8 < g9 := by rw [← e9]; exact SAt.lt q88
  have q3 := SAt.kept q38 hB9
  have q5 := SAt.kept q58 hB9
  have q8 := SAt.kept q88 hB9
  have n7 := bheap hB9 n78 (heap_lt n78)
  have hBd : Below w.heap.size w w2 := hBc.trans (hB9.mono hBc.size)
  rw [e9] at n9 hs9
  simp only [e9]
  clear q38 q58 q88 n78 hB9 hBc e9
  refine wp_region_cut 5 rfl (by kernel_rfl) (any_steps (Below w2.heap.size w2) (fun v v' => Below v.heap.size v v') (fun iq vq v0 => match iq with | 0 => vq = .pointer (some ⟨t, 0, none⟩) | 1 => vq = .agg (SC 17 (adV v b)) | 2 => vq = .agg (SC 17 (adV v b)) | 3 => vq = .int .i64 (wdN v : Int) | 4 => vq = .agg (SC 18 (prV v b (wdN v : Int))) | _ => True)
      [12, 13, 14, 15, 16]
      [(0, .pointer (some ⟨t, 0, none⟩)), (3, .pointer (some ⟨g3, 0, none⟩))]
      [[], [], [], [2], [1, 3]]
      (by kernel_rfl) ⟨rfl, rfl, trivial⟩ (Below.drew (Below.refl _ _)) (fun v v' h hb => h.trans (hb.mono h.size)) ?_
      ⟨
        (fun Q a1 ww hS fr kn => ⟨trivial, fun K hK => wp_value (exec_move rfl fr.1) (hK _ _ rfl (Below.refl _ _))⟩),
        (fun Q a1 ww hS fr kn => ⟨trivial, fun K hK => wp_value (look_st rfl isAddr (SAt.kept q3 hS) fr.2.1) (hK _ _ rfl (Below.refl _ _))⟩),
        (fun Q a1 ww hS fr kn => ⟨trivial, fun K hK => wp_value (look_st rfl isAddr (SAt.kept q3 hS) fr.2.1) (hK _ _ rfl (Below.refl _ _))⟩),
        (fun Q a1 ww hS fr kn => ⟨trivial, fun K hK => stepc enterWid rfl (args1 kn.1) (widest_run v b ww) (fun w' hb => hK _ _ rfl hb)⟩),
        (fun Q a1 ww hS fr kn => ⟨trivial, fun K hK => wp_value (exec_px2 rfl kn.1 kn.2.1) (hK _ _ rfl (Below.refl _ _))⟩),
        trivial⟩ ?_)
  · intro iq vq u' u'' hh hb
    match iq with
    | 0 | 1 | 2 | 3 | 4 => exact hh

    | n + 5 => trivial
  intro vs w3 hS3 hk3
  have e12 : vs 12 = .pointer (some ⟨t, 0, none⟩) := hk3 0 (by decide)
  have e16 : vs 16 = .agg (SC 18 (prV v b (wdN v : Int))) := hk3 4 (by decide)
  clear hk3
  replace q3 := SAt.kept q3 hS3
  replace q5 := SAt.kept q5 hS3
  replace q8 := SAt.kept q8 hS3
  replace n7 := bheap hS3 n7 (by omega)
  replace n9 := bheap hS3 n9 (by omega)
  replace hBd := hBd.trans (hS3.mono hBd.size)
  have hs9' : g9 < w3.heap.size := by have := hS3.size; omega
  clear hS3 hs9
  show wpList Try.prog _ _ (_ :: []) _ _
  simp only [putAll, Act.put, List.setIfInBounds_toArray, List.set_cons_zero, List.set_cons_succ, e12, e16]
  clear e12 e16
  go_wp2_with fail
  refine (path_run _ v b (wdN v : Int) w3).mono ?_
  rintro e wl ⟨bt, bp, rfl, hbt, hbp, nbt, qbp, hBl⟩
  replace q3 := SAt.kept q3 hBl
  replace q5 := SAt.kept q5 hBl
  replace q8 := SAt.kept q8 hBl
  replace n7 := bheap hBl n7 (by omega)
  replace n9 := bheap hBl n9 (by omega)
  have hBw := hBd.trans (hBl.mono hBd.size)
  have hl2 := hBl.size
  have hwl := hBw.size
  clear hBd hBl
  have hTB := h.below hBw
  have htl : t < w.heap.size := h.blk.lt
  have hga : ∀ k, (k = bt ∨ k = bp ∨ k = t ∨ ∃ x ∈ xs, x.blk = k) → k < wl.heap.size := fun k hk => by
    rcases hk with rfl | rfl | rfl | ⟨x, hx, rfl⟩
    · exact heap_lt nbt
    · exact qbp.lt
    · exact hTB.blk.lt
    · have := hxl x hx; omega
  have HG : Gives Try.prog 40 #[.pointer (some ⟨bt, 0, none⟩), .pointer (some ⟨bp, 0, none⟩)] encS xs (fun k => k = bt ∨ k = bp ∨ k = t ∨ ∃ x ∈ xs, x.blk = k) wl :=
    path_gives (v := v) (b := b) (n := (wdN v : Int)) (Tv := trV T4 T6 v) hb nbt qbp hTB.blk (fun hr => (hyes hr).kept _ _ _ _ _ (fun x hx => hBw.block x.blk (hxl x hx))) hno (.inl rfl) (.inr (.inl rfl)) (.inr (.inr (.inl rfl))) (fun x hx => .inr (.inr (.inr ⟨x, hx, rfl⟩)))
  have HND : Hid (∀ (i : Nat) (x : Stp), xs[i]? = some x → ∃ pl pr, ∀ X, Touch (fun k => k = g7 ∨ k = g8 ∨ k = g9) wl X → SAt X x.blk 72 4 (ndV pl pr x.th x.ow)) := Hid.mk (fun i x hx => by
    obtain ⟨_, _, pl, pr, hs⟩ := HI.out i x hx
    have hlt := hs.lt
    exact ⟨pl, pr, fun X hX => (hs.block (hBw.block _ hlt)).block (hX.block _ (by omega) (fun e => by omega))⟩)
  have HAB : Hid (∀ X, Touch (fun k => k = g7 ∨ k = g8 ∨ k = g9) wl X → SAt X g3 35 17 (adV v b)) := Hid.mk (fun X hX => q3.block (hX.block _ q3.lt (fun e => by omega)))
  clear hyes hno h hTB
  go_wp2_with fail
  refine wp_rangeT (by rfl) enterPath1 HG (Below.refl _ _) (fun x => rfl) hga (fun k => k = g7 ∨ k = g8 ∨ k = g9) ?hT
    (fun i X => X.heap[g7]? = some (.cells #[.int .i64 (bO (bst b (trV T4 T6 v) i))] 3 (0, 0)) ∧ SAt X g8 37 18 (bP v b (bst b (trV T4 T6 v) i)) ∧ X.heap[g9]? = some (.cells #[.bool (bst b (trV T4 T6 v) i).isSome] 4 (0, 0)))
    (fun _ _ => False) ?hJ (fun _ _ _ h _ => h) ⟨n7, q8, n9⟩ ?round ?done (fun _ _ _ _ h => h.elim)
  case hT =>
    rintro k (rfl | rfl | rfl)
    · refine ⟨by omega, ?_⟩
      rintro (e | e | e | ⟨x, hx, e⟩)
      · omega
      · omega
      · omega
      · have := hxl x hx; omega
    · refine ⟨by omega, ?_⟩
      rintro (e | e | e | ⟨x, hx, e⟩)
      · omega
      · omega
      · omega
      · have := hxl x hx; omega
    · refine ⟨by omega, ?_⟩
      rintro (e | e | e | ⟨x, hx, e⟩)
      · omega
      · omega
      · omega
      · have := hxl x hx; omega
  case hJ =>
    rintro i X Y ⟨h1, h2, h3⟩ hb
    exact ⟨bheap hb h1 (by omega), h2.block (hb.block _ (by omega)), bheap hb h3 (by omega)⟩
  case round =>
    intro l i x X hl hlX hx ht hj
    simp only [setPs, encS, List.zip_toArray, List.zip_cons_cons, List.zip_nil_left]
    obtain ⟨pl, pr, hnd⟩ := HND.out i x hx
    have HNX := Hid.mk hnd
    have HXI := Hid.mk (HI.out i x hx)
    clear hnd
    refine wpIn_seq (regIn (fun ⟨_, _, hq⟩ => hq) rfl ?_)
    go_wp2_with fail
    refine regIn (fun ⟨_, _, hq⟩ => hq) rfl ?_
    go_wp2_with fail
    refine ⟨Below.refl _ _, fun X2 _ ht2 hj2 => ?_⟩
    have ct := nd_t (HNX.out X2 ht2)
    refine wpIn_block (wpIn_seq (regIn (fun ⟨_, _, hq⟩ => hq) rfl ?_))
    rcases Bool.eq_false_or_eq_true x.th with hth | hth
    · have HBS : Hid (bst b (trV T4 T6 v) (i + 1) = some (x.i, x.ow)) := Hid.mk (by
        rw [(HSTEP.out i x hx).1 hth])
      rw [hth] at ct
      go_wp2_with (refine wl_value rfl (exec_fn1 rfl (by rfl)) ?_)
      refine wpIn_cond_true (by rfl) ?_
      clear ct
      refine regIn_cut 8 rfl (by kernel_rfl) (fun ⟨_, _, hq⟩ => hq) rfl (any_steps (Below X2.heap.size X2) (fun v v' => Below v.heap.size v v') (fun iq vq v0 => match iq with | 0 => vq = .pointer (some ⟨x.blk, 0, none⟩) | 1 => vq = .pointer (some ⟨x.blk, 0, none⟩) | 2 => vq = .pointer (some ⟨x.blk, 3, none⟩) | 3 => vq = .int .i64 x.ow | 4 => vq = .agg (SC 17 (adV v b)) | 5 => vq = .int .i64 (x.i : Int) | 6 => vq = .agg (SC 18 (prV v b (x.i : Int))) | 7 => vq = .agg (SC 18 (wholeV v b (x.i : Int))) | _ => True)
          [24, 25, 26, 27, 28, 29, 30, 31]
          [(3, .pointer (some ⟨g3, 0, none⟩)), (10, .int .i64 (x.i : Int)), (11, .pointer (some ⟨x.blk, 0, none⟩))]
          [[], [0], [1], [2], [], [], [4, 5], [6]]
          (by kernel_rfl) ⟨rfl, rfl, rfl, trivial⟩ (Below.drew (Below.refl _ _)) (fun v v' h hb => h.trans (hb.mono h.size)) ?_
          ⟨
            (fun Q a1 ww hS fr kn => ⟨trivial, fun K hK => wp_value (exec_move rfl fr.2.2.1) (hK _ _ rfl (Below.refl _ _))⟩),
            (fun Q a1 ww hS fr kn => ⟨trivial, fun K hK => wp_value (exec_nilc rfl kn.1) (hK _ _ rfl (Below.refl _ _))⟩),
            (fun Q a1 ww hS fr kn => ⟨trivial, fun K hK => wp_value (exec_fn2 rfl kn.1) (hK _ _ rfl (Below.refl _ _))⟩),
            (fun Q a1 ww hS fr kn => ⟨trivial, fun K hK => wp_value (exec_ld rfl kn.1 (ld_int (nd_o (HNX.out ww (ht2.bel hS ht2.size))))) (hK _ _ rfl (Below.refl _ _))⟩),
            (fun Q a1 ww hS fr kn => ⟨trivial, fun K hK => wp_value (look_st rfl isAddr (HAB.out ww (ht2.bel hS ht2.size)) fr.1) (hK _ _ rfl (Below.refl _ _))⟩),
            (fun Q a1 ww hS fr kn => ⟨trivial, fun K hK => wp_value (exec_move rfl fr.2.1) (hK _ _ rfl (Below.refl _ _))⟩),
            (fun Q a1 ww hS fr kn => ⟨trivial, fun K hK => wp_value (exec_px2 rfl kn.1 kn.2.1) (hK _ _ rfl (Below.refl _ _))⟩),
            (fun Q a1 ww hS fr kn => ⟨trivial, fun K hK => stepc enterWhoC rfl (args1 kn.1) (wholeC_run v b (x.i : Int) ww hb) (fun w' hb => hK _ _ rfl hb)⟩),
            trivial⟩ ?_)
      · intro iq vq u' u'' hh hb
        match iq with
        | 0 | 1 | 2 | 3 | 4 | 5 | 6 | 7 => exact hh

        | n + 8 => trivial
      intro vs X3 hS3 hk3
      have e27 : vs 27 = .int .i64 x.ow := hk3 3 (by decide)
      have e31 : vs 31 = .agg (SC 18 (wholeV v b (x.i : Int))) := hk3 7 (by decide)
      clear hk3
      have j7 := bheap hS3 hj2.1 (heap_lt hj2.1)
      have j8 := SAt.kept hj2.2.1 hS3
      have j9 := bheap hS3 hj2.2.2 (heap_lt hj2.2.2)
      show wpListIn (Wd (some l)) 0 _ _ _ (_ :: _ :: _ :: []) _ _
      refine all_in (fun ⟨_, _, hq⟩ => hq) _ _ _ rfl ?_
      simp only [putAll, Act.put, List.setIfInBounds_toArray, List.set_cons_zero, List.set_cons_succ, e27, e31]
      clear e27 e31
      have c7 := (one_cell j7).1
      have f7 := (one_cell j7).2
      have o7 : Only g7 X3 (X3.setCell ⟨g7, 0, none⟩ (.int .i64 x.ow)) := only_set
      have k7 := one_set (v' := .int .i64 x.ow) j7
      have k8 := j8.only o7 (by omega)
      have k9 := (o7.block g9 (by omega)).trans j9
      have O7 := Hid.mk o7
      have K7 := Hid.mk k7
      clear o7 k7 j8
      go_wp2_with (refine st_stO rfl rfl isPfx (whV_one _ _ _) k8 (by rfl) (by rfl) ?_; intro X4 m8 o8; refine Hid.out ?_)
      refine Hid.mk ?_
      have m7 := (o8.block g7 (by omega)).trans K7.out
      have m9 := (o8.block g9 (by omega)).trans k9
      have c9 := (one_cell m9).1
      have f9 := (one_cell m9).2
      have o9 : Only g9 X4 (X4.setCell ⟨g9, 0, none⟩ (.bool true)) := only_set
      have HFIN : Hid ((X4.setCell ⟨g9, 0, none⟩ (.bool true)).heap[g7]? = some (.cells #[.int .i64 x.ow] 3 (0, 0)) ∧ SAt (X4.setCell ⟨g9, 0, none⟩ (.bool true)) g8 37 18 (wholeV v b (x.i : Int)) ∧ (X4.setCell ⟨g9, 0, none⟩ (.bool true)).heap[g9]? = some (.cells #[.bool true] 4 (0, 0)) ∧ Touch (fun k => k = g7 ∨ k = g8 ∨ k = g9) X2 (X4.setCell ⟨g9, 0, none⟩ (.bool true))) := Hid.mk
        ⟨(o9.block g7 (by omega)).trans m7, m8.only o9 (by omega), one_set m9, (((Below.tou hS3 (Nat.le_refl _)).tr ((touch_only O7.out).mono (fun k _ e => .inl e))).tr ((touch_only o8).mono (fun k _ e => .inr (.inl e)))).tr ((touch_only o9).mono (fun k _ e => .inr (.inr e)))⟩
      clear o9 m7 m8 o8 O7 K7
      go_wp2_with fail
      refine ⟨?_, HFIN.out.2.2.2⟩
      show _ ∧ _ ∧ _
      rw [HBS.out]
      exact ⟨HFIN.out.1, HFIN.out.2.1, HFIN.out.2.2.1⟩
    · have HBS : Hid (bst b (trV T4 T6 v) (i + 1) = bst b (trV T4 T6 v) i) := Hid.mk ((HSTEP.out i x hx).2 hth)
      rw [hth] at ct
      go_wp2_with (refine wl_value rfl (exec_fn1 rfl (by rfl)) ?_)
      refine wpIn_cond_false (by rfl) (wpIn_skip ⟨?_, Touch.refl _ _⟩)
      show _ ∧ _ ∧ _
      rw [HBS.out]
      exact hj2
  case done =>
    rintro D Y hD hY hty hKD
    obtain ⟨ZO, hZO⟩ : ∃ x, bO (bst b (trV T4 T6 v) xs.length) = x := ⟨_, rfl⟩
    obtain ⟨ZP, hZP⟩ : ∃ x, bP v b (bst b (trV T4 T6 v) xs.length) = x := ⟨_, rfl⟩
    obtain ⟨ZF, hZF⟩ : ∃ x, (bst b (trV T4 T6 v) xs.length).isSome = x := ⟨_, rfl⟩
    rw [hZO, hZP, hZF] at hY
    obtain ⟨y7, y8, y9⟩ := hY
    have y5 : SAt Y g5 37 18 (prV false (fun _ => 0) 0) := q5.block (hty.block _ q5.lt (fun e => by omega))
    have HBX : Hid (∀ X, Touch (fun k => k = g5) Y X → X.cell? ⟨g7, 0, none⟩ = some (.int .i64 ZO) ∧ SAt X g8 37 18 ZP ∧ X.cell? ⟨g9, 0, none⟩ = some (.bool ZF)) := Hid.mk (fun X hX => ⟨(one_cell ((hX.block g7 (heap_lt y7) (by omega)).trans y7)).1, y8.tou hX (by omega), (one_cell ((hX.block g9 (heap_lt y9) (by omega)).trans y9)).1⟩)
    have HZ1 : Hid (∀ j, (ZP j).oneCell' = true) := Hid.mk (by rw [← hZP]; exact bP_one v b _)
    have hBy : Below w.heap.size w Y := hBw.trans (tou_below hty (fun k hk => by omega) (by omega))
    have HR : Hid (bestA v b (bestG T4 T6 v b) = .tuple #[.int .i64 ZO, .agg (SC 18 ZP), .bool ZF]) := Hid.mk (by
      rw [← hZO, ← hZP, ← hZF]
      rw [HEND.out]
      cases bst b (trV T4 T6 v) xs.length <;> rfl)
    clear hZO hZP hZF
    go_wp2_with fail
    refine wp_region3 (Touch (fun k => k = g5) Y) Y.heap.size
        [(g5, once (SC 18 (prV false (fun _ => 0) 0)) 37 4 (SC 18 ZP))]
        [kv (.int .i64 ZO), kv (.agg (SC 18 ZP)), kv (.bool ZF), kv (.int .i64 ZO), .val fun _ => True, kv (.bool ZF)]
        [.none, .none, .none, .none, .base 0 1, .none]
        [some 32, some 33, some 34, some 4, none, some 6]
        [(5, .pointer (some ⟨g5, 0, none⟩)), (7, .pointer (some ⟨g7, 0, none⟩)), (8, .pointer (some ⟨g8, 0, none⟩)), (9, .pointer (some ⟨g9, 0, none⟩))]
        [[], [], [], [.slot 0], [.slot 1, .base 0 0], [.slot 2]]
        [.slot 3, .slot 5, .base 0 1] [32, 33, 34, 4, 6]
        rfl (by kernel_rfl) ⟨rfl, rfl, rfl, rfl, trivial⟩ (Touch.refl _ _).drew (Nat.le_refl _) ⟨⟨SAt.lt y5, obIn y5⟩, trivial⟩ ⟨trivial, trivial⟩ (tou_G1 (Nat.le_refl _))
        ⟨
          (fun Q aq ww own hS hBg fr kn => .inl ⟨trivial, fun K hK => wp_value (exec_ld rfl fr.2.1 (ld_int (HBX.out ww hS).1)) (hK _ _ ⟨Touch.refl _ _, rfl⟩)⟩),
          (fun Q aq ww own hS hBg fr kn => .inl ⟨trivial, fun K hK => wp_value (look_st rfl isPfx (HBX.out ww hS).2.1 fr.2.2.1) (hK _ _ ⟨Touch.refl _ _, rfl⟩)⟩),
          (fun Q aq ww own hS hBg fr kn => .inl ⟨trivial, fun K hK => wp_value (exec_ld rfl fr.2.2.2.1 (ld_bool (HBX.out ww hS).2.2)) (hK _ _ ⟨Touch.refl _ _, rfl⟩)⟩),
          (fun Q aq ww own hS hBg fr kn => .inl ⟨trivial, fun K hK => wp_value (exec_assign rfl kn.1) (hK _ _ ⟨Touch.refl _ _, rfl⟩)⟩),
          (fun Q aq ww own hS hBg fr kn => .inl ⟨trivial, fun K hK => act_st7 rfl isPfx HZ1.out fr.1 kn.1 (obAt kn.2.1) (fun w2 hg ho => hK _ _ ⟨⟨touch_only ho, obIn hg⟩, trivial⟩)⟩),
          (fun Q aq ww own hS hBg fr kn => .inl ⟨trivial, fun K hK => wp_value (exec_assign rfl kn.1) (hK _ _ ⟨Touch.refl _ _, rfl⟩)⟩),
          trivial⟩ ?_
    intro vs own Y3 hS3 hsz kn inj
    have e4 : vs 4 = .int .i64 ZO := kn.1
    have e6 : vs 6 = .bool ZF := kn.2.1
    have z5 : SAt Y3 g5 37 18 ZP := obAt kn.2.2.1
    clear kn inj hsz
    simp only [putAll, Act.put, List.setIfInBounds_toArray, List.set_cons_zero, List.set_cons_succ, e4, e6]
    clear e4 e6
    have hKD3 := (hS3.block D (heap_lt hKD) (by omega)).trans hKD
    have hB3 : Below w.heap.size w Y3 := hBy.trans (tou_below hS3 (fun k hk => by omega) hBy.size)
    go_wp2_with fail
    refine postM_ret [D] rfl (fun E hE => by simp at hE; rw [hE]; exact hKD3) (by simp) (fun w' ht' hs' => ?_)
    exact ⟨_, res_tct rfl isPfx (z5.block (ht'.block g5 z5.lt (fun e => by simp at e; omega))) (by rfl) (by rfl) (by rfl), by rw [HR.out]; rfl, hB3.trans (tou_below ht' (fun k hk => by simp at hk; omega) hB3.size)⟩
end Go.Proofs.Ytcpnleanjclfjaa
