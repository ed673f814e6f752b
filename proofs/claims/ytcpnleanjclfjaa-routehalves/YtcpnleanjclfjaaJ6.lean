/-
  Own text. The code's New, Len, Put, Drop.
-/
import Derived.Test.YtcpnleanjclfjaaJ5
import Derived.Deep.LoopGhost
namespace Go.Proofs.Ytcpnleanjclfjaa
open Go.RowKit Go.Proofs
set_option maxRecDepth 100000
theorem run_tb0 (w : World) : (Instr.build 58 #[]).run Try.prog w = .ok (.agg (SC 3 (tbV none none 0))) w := by kernel_rfl
theorem exec_tb0 {a : Act} {o : Oper} {w : World} (ho : o.op = .build 58 #[]) : (execOp a.eval o).run Try.prog w = .ok (.value (.agg (SC 3 (tbV none none 0)))) w := by
  unfold execOp
  simp only [ho]
  simp [run_tb0]
theorem new_tab {w : World} {t : Nat} (h : SAt w t 58 3 (tbV none none 0)) : TabM w t 0 .nil .nil none none := ⟨h, rfl, rfl, trivial, trivial⟩
theorem new_run (w : World) : Calls Try.prog 9 #[] w fun e w' => ∃ t, e = .returned (.pointer (some ⟨t, 0, none⟩)) ∧ w.heap.size ≤ t ∧ TabM w' t 0 .nil .nil none none ∧ Below w.heap.size w w' := by
  go_enter Try.func9, Try.ntmps9
  go_wp2_with (first | (refine wl_value rfl (exec_tb0 rfl) ?_) | (refine wl_boxO rfl rfl isTb (by rfl) ?_; intro t w1 ht q1 hB1; refine Hid.out ?_))
  refine Hid.mk ?_
  go_wp2_with fail
  go_ret
  exact ⟨t, rfl, ht, new_tab q1, hB1⟩
theorem len_none (w : World) : Calls Try.prog 17 #[.pointer none] w fun e w' => e = .returned (.int .i64 0) ∧ Below w.heap.size w w' := by
  go_enter Try.func17, Try.ntmps17
  go_wp2_with fail
  go_ret
  exact ⟨rfl, Below.refl _ _⟩
theorem len_run {w : World} {t : Nat} {m : Int} {T4 T6 : Tr} {p4 p6 : Option Addr} (h : TabM w t m T4 T6 p4 p6) : Calls Try.prog 17 #[.pointer (some ⟨t, 0, none⟩)] w fun e w' => e = .returned (.int .i64 m) ∧ Below w.heap.size w w' := by
  have ct := tb_n h.blk
  go_enter Try.func17, Try.ntmps17
  go_wp2_with fail
  go_ret
  exact ⟨rfl, Below.refl _ _⟩
/-- A store into a table leaves the tries. -/
theorem IsTr.offT {S : Nat → Prop} {w w' : World} {t : Nat} {V : Nat → Value} {p : Option Addr} {T : Tr} (h : IsTr S w p T) (ht : SAt w t 58 3 V) (ho : Only t w w') : IsTr S w' p T :=
  IsTr.kept (fun b U hS hs => ⟨hS, hs.only ho (fun e => by
    subst e
    have h1 := ht.symm.trans hs
    simp at h1)⟩) h
theorem tb_setn {w : World} {t : Nat} {p4 p6 : Option Addr} {m m2 : Int} (h : SAt w t 58 3 (tbV p4 p6 m)) : SAt (w.setCell ⟨t, 2, none⟩ (.int .i64 m2)) t 58 3 (tbV p4 p6 m2) :=
  (h.set 2 (.int .i64 m2) (by omega)).congr (fun i hi => by
    match i, hi with
    | 0, _ => rfl
    | 1, _ => rfl
    | 2, _ => rfl)
def setP (v c : Bool) (p q : Option Addr) : Option Addr := if v = c then q else p
def setT (v c : Bool) (T S : Tr) : Tr := if v = c then S else T
theorem tb_setp {w : World} {t : Nat} {p4 p6 : Option Addr} {m : Int} (h : SAt w t 58 3 (tbV p4 p6 m)) (v : Bool) (q : Option Addr) : SAt (w.setCell ⟨t, vN v, none⟩ (.pointer q)) t 58 3 (tbV (setP v false p4 q) (setP v true p6 q) m) := by
  cases v
  · exact (h.set 0 (.pointer q) (by omega)).congr (fun i hi => by
      match i, hi with
      | 0, _ => rfl
      | 1, _ => rfl
      | 2, _ => rfl)
  · exact (h.set 1 (.pointer q) (by omega)).congr (fun i hi => by
      match i, hi with
      | 0, _ => rfl
      | 1, _ => rfl
      | 2, _ => rfl)
theorem TabM.setn {w : World} {t : Nat} {m m2 : Int} {T4 T6 : Tr} {p4 p6 : Option Addr} (h : TabM w t m T4 T6 p4 p6) : TabM (w.setCell ⟨t, 2, none⟩ (.int .i64 m2)) t m2 T4 T6 p4 p6 := ⟨tb_setn h.blk, h.t4.offT h.blk only_set, h.t6.offT h.blk only_set, h.f4, h.f6⟩
theorem TabM.setp {w : World} {t : Nat} {m : Int} {T4 T6 S : Tr} {p4 p6 q : Option Addr} (h : TabM w t m T4 T6 p4 p6) (v : Bool) (hq : IsTr (fun _ => True) w q S) (hf : Fit (wdN v) S) : TabM (w.setCell ⟨t, vN v, none⟩ (.pointer q)) t m (setT v false T4 S) (setT v true T6 S) (setP v false p4 q) (setP v true p6 q) := by
  refine ⟨tb_setp h.blk v q, ?_, ?_, ?_, ?_⟩
  · cases v
    · exact hq.offT h.blk only_set
    · exact h.t4.offT h.blk only_set
  · cases v
    · exact h.t6.offT h.blk only_set
    · exact hq.offT h.blk only_set
  · cases v
    · exact hf
    · exact h.f4
  · cases v
    · exact h.f6
    · exact hf
theorem put_none (v : Bool) (b : Nat → Int) (n ow : Int) (w : World) : Calls Try.prog 15 #[.pointer none, .agg (SC 18 (prV v b n)), .int .i64 ow] w fun e w' => e = .returned (.int .i64 1) ∧ Below w.heap.size w w' := by
  go_enter Try.func15, Try.ntmps15
  go_wp2_with (refine wl_boxO rfl rfl isPfx (by rfl) ?_; intro gp w1 hg q1 hB1; refine Hid.out ?_)
  refine Hid.mk ?_
  go_wp2_with fail
  go_ret
  exact ⟨rfl, hB1⟩
set_option maxHeartbeats 16000000 in
theorem put_no {w : World} {t : Nat} (v : Bool) (b : Nat → Int) (n ow : Int) (hr : rightF v b n = false) : Calls Try.prog 15 #[.pointer (some ⟨t, 0, none⟩), .agg (SC 18 (prV v b n)), .int .i64 ow] w fun e w' => e = .returned (.int .i64 25) ∧ Below w.heap.size w w' := by
  go_enter Try.func15, Try.ntmps15
  go_wp2_with (refine wl_boxO rfl rfl isPfx (by rfl) ?_; intro gp w1 hg q1 hB1; refine Hid.out ?_)
  refine Hid.mk ?_
  go_wp2_with (refine wl_value rfl (look_st rfl isPfx q1 (by rfl)) ?_)
  refine (isPrefix_run v b n w1).mono ?_
  rintro e w2 ⟨rfl, hB2⟩
  rw [hr]
  go_wp2_with fail
  go_ret
  exact ⟨rfl, hB1.trans (hB2.mono hB1.size)⟩
theorem drop_none (v : Bool) (b : Nat → Int) (n : Int) (w : World) : Calls Try.prog 11 #[.pointer none, .agg (SC 18 (prV v b n))] w fun e w' => e = .returned (.tuple #[.int .i64 0, .bool false]) ∧ Below w.heap.size w w' := by
  go_enter Try.func11, Try.ntmps11
  go_wp2_with (refine wl_boxO rfl rfl isPfx (by rfl) ?_; intro gp w1 hg q1 hB1; refine Hid.out ?_)
  refine Hid.mk ?_
  go_wp2_with (refine wl_value rfl (look_st rfl isPfx q1 (by rfl)) ?_)
  refine (at_none v b n w1).mono ?_
  rintro e w2 ⟨rfl, hB2⟩
  go_wp2_with (refine wl_value rfl (exec_ext rfl (by rfl) rfl) ?_)
  exact bodyPost_ret (res_tt rfl (by rfl) (by rfl)) rfl ⟨rfl, hB1.trans (hB2.mono hB1.size)⟩
theorem setT_tr {T4 T6 S : Tr} (v : Bool) : trV (setT v false T4 S) (setT v true T6 S) v = S := by cases v <;> rfl
theorem setT_other {T4 T6 S : Tr} (v u : Bool) (h : u ≠ v) : trV (setT v false T4 S) (setT v true T6 S) u = trV T4 T6 u := by cases v <;> cases u <;> first | rfl | exact absurd rfl h
set_option maxHeartbeats 16000000 in
theorem put_full {w : World} {t : Nat} {m : Int} {T4 T6 : Tr} {p4 p6 : Option Addr} (h : TabM w t m T4 T6 p4 p6) (v : Bool) (b : Nat → Int) (n ow : Int) (hb : Byts 16 b) (hr : rightF v b n = true) (hg : atG T4 T6 v b n = none) (hm : 64 ≤ m) : Calls Try.prog 15 #[.pointer (some ⟨t, 0, none⟩), .agg (SC 18 (prV v b n)), .int .i64 ow] w fun e w' => e = .returned (.int .i64 81) ∧ Below w.heap.size w w' := by
  go_enter Try.func15, Try.ntmps15
  go_wp2_with (refine wl_boxO rfl rfl isPfx (by rfl) ?_; intro gp w1 hgp q1 hB1; refine Hid.out ?_)
  refine Hid.mk ?_
  go_wp2_with (refine wl_value rfl (look_st rfl isPfx q1 (by rfl)) ?_)
  refine (isPrefix_run v b n w1).mono ?_
  rintro e w2 ⟨rfl, hB2⟩
  rw [hr]
  have q2 := SAt.kept q1 hB2
  have hBa := hB1.trans (hB2.mono hB1.size)
  have h2 := h.below hBa
  clear q1 hB1 hB2
  go_wp2_with (refine wl_value rfl (look_st rfl isPfx q2 (by rfl)) ?_)
  refine (at_run h2 v b n hb).mono ?_
  rintro e wz ⟨rfl, hB3⟩
  have hz := h2.below hB3
  have hBz := hBa.trans (hB3.mono hBa.size)
  clear hB3 hBa h2 q2
  rw [hg]
  have ct := tb_n hz.blk
  have hd : decide (64 ≤ m) = true := decide_eq_true hm
  go_wp2_with (first | (refine wl_value rfl (exec_ext rfl (by rfl) rfl) ?_) | (refine wl_value rfl (exec_geqI rfl (by rfl) (by rfl) hd) ?_))
  go_ret
  exact ⟨rfl, hBz⟩
set_option maxHeartbeats 16000000 in
theorem put_yes {w : World} {t : Nat} {m m2 : Int} {T4 T6 : Tr} {p4 p6 : Option Addr} (h : TabM w t m T4 T6 p4 p6) (v : Bool) (b : Nat → Int) (N : Nat) (ow : Int) (hb : Byts 16 b) (hr : rightF v b (N : Int) = true) (hm0 : 0 ≤ m) (hg : atG T4 T6 v b (N : Int) = none ∧ m < 64 ∧ m2 = m + 1 ∨ (∃ o, atG T4 T6 v b (N : Int) = some o) ∧ m2 = m) : Calls Try.prog 15 #[.pointer (some ⟨t, 0, none⟩), .agg (SC 18 (prV v b (N : Int))), .int .i64 ow] w fun e w' => e = .returned (.int .i64 0) ∧ (∃ p4' p6', TabM w' t m2 (setT v false T4 (wiT b ow N 0 (trV T4 T6 v))) (setT v true T6 (wiT b ow N 0 (trV T4 T6 v))) p4' p6') ∧ Touch (fun k => k = t) w w' := by
  have hNw : N ≤ wdN v := by have := (right_wn hr).2; omega
  have hN : N ≤ 128 := by have := (right_n hr).2; omega
  have htl : t < w.heap.size := h.blk.lt
  obtain ⟨St, hSt⟩ : ∃ St, wiT b ow N 0 (trV T4 T6 v) = St := ⟨_, rfl⟩
  have HFT : Hid (Fit (wdN v) St) := Hid.mk (by rw [← hSt]; exact fit_wi b ow N (wdN v) 0 _ hNw (h.fit v))
  rw [hSt]
  go_enter Try.func15, Try.ntmps15
  go_wp2_with (refine wl_boxO rfl rfl isPfx (by rfl) ?_; intro gp w1 hgp q1 hB1; refine Hid.out ?_)
  refine Hid.mk ?_
  go_wp2_with (refine wl_value rfl (look_st rfl isPfx q1 (by rfl)) ?_)
  refine (isPrefix_run v b (N : Int) w1).mono ?_
  rintro e w2 ⟨rfl, hB2⟩
  rw [hr]
  have q2 := SAt.kept q1 hB2
  have hBa := hB1.trans (hB2.mono hB1.size)
  have h2 := h.below hBa
  clear q1 hB1 hB2 hr
  go_wp2_with (refine wl_value rfl (look_st rfl isPfx q2 (by rfl)) ?_)
  refine (at_run h2 v b (N : Int) hb).mono ?_
  rintro e w3 ⟨rfl, hB3⟩
  have h3 := h2.below hB3
  have qp := SAt.kept q2 hB3
  have hBb := hBa.trans (hB3.mono hBa.size)
  have htou : Touch (fun k => k = t) w w3 := Below.tou hBb (Nat.le_refl _)
  clear hB3 hBa h2 q2 hBb
  have hgt : gp ≠ t := by omega
  rcases hg with ⟨hg, hm, rfl⟩ | ⟨⟨o, hg⟩, rfl⟩
  · rw [hg]
    have ct := tb_n h3.blk
    have ft : w3.frozen? ⟨t, 2, none⟩ = false := frozen_of_row w3 t 2 _ _ h3.blk
    have hd : decide (64 ≤ m) = false := decide_eq_false (by omega)
    go_upto_region 10 with (first | (refine wl_value rfl (exec_ext rfl (by rfl) rfl) ?_) | (refine wl_value rfl (exec_geqI rfl (by rfl) (by rfl) hd) ?_) | (refine wl_value rfl (exec_add rfl (by rfl) (by rfl) (by omega) (by omega)) ?_))
    refine wp_gen (fun u => TabM u t (m + 1) T4 T6 p4 p6 ∧ Only t w3 u) ⟨h3.setn, only_set⟩ ?_
    rintro wz ⟨hz, oz⟩
    replace qp := qp.only oz hgt
    replace htou := htou.tr (touch_only oz)
    clear ct ft h3 oz
    go_wp2_with (first | (refine wl_value rfl (exec_fpx rfl (by rfl)) ?_) | (refine wl_value rfl (exec_ldA rfl qp (by rfl)) ?_))
    refine (version_run v b wz).mono ?_
    rintro e wy ⟨rfl, hBy⟩
    have hy := hz.below hBy
    replace qp := SAt.kept qp hBy
    replace htou := htou.bel hBy htou.size
    clear hz hBy
    obtain ⟨pc, hpc⟩ : ∃ p, rootV p4 p6 v = p := ⟨_, rfl⟩
    have htr := hy.tr v
    rw [hpc] at htr
    have HPC : Hid (∀ ww, Below wy.heap.size wy ww → ww.cell? ⟨t, vN v, none⟩ = some (.pointer pc)) := Hid.mk (fun ww hh => by rw [← hpc]; exact tb_root (SAt.kept hy.blk hh) v)
    have HI : Hid (∀ ww, Below wy.heap.size wy ww → Calls Try.prog 32 #[.pointer pc, .agg (SC 18 (prV v b (N : Int))), .int .i64 0, .int .i64 ow] ww fun r w' => ∃ u, r = .returned u ∧ ((∃ p2, u = .pointer p2 ∧ IsTr (fun _ => True) w' p2 St) ∧ Below ww.heap.size ww w')) := Hid.mk (fun ww hh => by
      have h1 := with_run v b N ow hb hN N 0 pc (trV T4 T6 v) ww (fun _ => True) (by omega) (htr.below hh)
      rw [show ((0 : Nat) : Int) = 0 from rfl] at h1
      refine h1.mono ?_
      rintro e w' ⟨p2, rfl, h2, h3⟩
      exact ⟨_, rfl, ⟨p2, rfl, by rw [← hSt]; exact h2.mono (fun _ _ _ => trivial)⟩, h3⟩)
    clear htr
    go_wp2_with fail
    refine wp_region_cut 13 rfl (by kernel_rfl) (any_steps (Below wy.heap.size wy) (fun v v' => Below v.heap.size v v') (fun iq vq v0 => match iq with | 0 => vq = .pointer (some ⟨t, 0, none⟩) | 1 => vq = .int .i64 (vN v : Int) | 2 => vq = .pointer (some ⟨t, 0, none⟩) | 3 => vq = .int .i64 (vN v : Int) | 4 => vq = .pointer (some ⟨t, 0, none⟩) | 5 => vq = .pointer (some ⟨t, 0, none⟩) | 6 => vq = .pointer (some ⟨t, vN v, none⟩) | 7 => vq = .pointer pc | 8 => vq = .agg (SC 18 (prV v b (N : Int))) | 9 => vq = .int .i64 ow | 10 => ∃ p2, vq = .pointer p2 ∧ IsTr (fun _ => True) v0 p2 St | 11 => vq = .pointer (some ⟨t, 0, none⟩) | 12 => vq = .pointer (some ⟨t, 0, none⟩) | _ => True)
        [38, 39, 40, 41, 42, 43, 44, 45, 46, 47, 48, 49, 50]
        [(0, .pointer (some ⟨t, 0, none⟩)), (2, .int .i64 ow), (4, .pointer (some ⟨gp, 0, none⟩)), (9, .int .i64 (vN v : Int))]
        [[], [], [], [], [2], [4], [5, 3], [6], [], [], [7, 8, 9], [0], [11]]
        (by kernel_rfl) ⟨rfl, rfl, rfl, rfl, trivial⟩ (Below.drew (Below.refl _ _)) (fun v v' h hb => h.trans (hb.mono h.size)) ?_
        ⟨
          (fun Q a1 ww hS fr kn => ⟨trivial, fun K hK => wp_value (exec_move rfl fr.1) (hK _ _ rfl (Below.refl _ _))⟩),
          (fun Q a1 ww hS fr kn => ⟨trivial, fun K hK => wp_value (exec_move rfl fr.2.2.2.1) (hK _ _ rfl (Below.refl _ _))⟩),
          (fun Q a1 ww hS fr kn => ⟨trivial, fun K hK => wp_value (exec_move rfl fr.1) (hK _ _ rfl (Below.refl _ _))⟩),
          (fun Q a1 ww hS fr kn => ⟨trivial, fun K hK => wp_value (exec_move rfl fr.2.2.2.1) (hK _ _ rfl (Below.refl _ _))⟩),
          (fun Q a1 ww hS fr kn => ⟨trivial, fun K hK => wp_value (exec_nilc rfl kn.1) (hK _ _ rfl (Below.refl _ _))⟩),
          (fun Q a1 ww hS fr kn => ⟨trivial, fun K hK => wp_value (exec_ft0 rfl kn.1) (hK _ _ rfl (Below.refl _ _))⟩),
          (fun Q a1 ww hS fr kn => ⟨trivial, fun K hK => wp_value (exec_ix2 (c := vN v) rfl kn.1 kn.2.1 (vN_lt v)) (hK _ _ rfl (Below.refl _ _))⟩),
          (fun Q a1 ww hS fr kn => ⟨trivial, fun K hK => wp_value (exec_ld rfl kn.1 (ld_ptr (HPC.out ww hS))) (hK _ _ rfl (Below.refl _ _))⟩),
          (fun Q a1 ww hS fr kn => ⟨trivial, fun K hK => wp_value (look_st rfl isPfx (SAt.kept qp hS) fr.2.2.1) (hK _ _ rfl (Below.refl _ _))⟩),
          (fun Q a1 ww hS fr kn => ⟨trivial, fun K hK => wp_value (exec_move rfl fr.2.1) (hK _ _ rfl (Below.refl _ _))⟩),
          (fun Q a1 ww hS fr kn => ⟨trivial, fun K hK => stepp enterWith rfl (args4 kn.1 kn.2.1 rfl kn.2.2.1) (HI.out ww hS) (fun v1 w1 hr => hK v1 w1 hr.1 hr.2)⟩),
          (fun Q a1 ww hS fr kn => ⟨trivial, fun K hK => wp_value (exec_nilc rfl kn.1) (hK _ _ rfl (Below.refl _ _))⟩),
          (fun Q a1 ww hS fr kn => ⟨trivial, fun K hK => wp_value (exec_ft0 rfl kn.1) (hK _ _ rfl (Below.refl _ _))⟩),
          trivial⟩ ?_)
    · intro iq vq u' u'' hh hb
      match iq with
      | 0 | 1 | 2 | 3 | 4 | 5 | 6 | 7 | 8 | 9 | 11 | 12 => exact hh
      | 10 => obtain ⟨p2, e2, h2⟩ := hh; exact ⟨p2, e2, h2.below hb⟩
      | n + 13 => trivial
    intro vs wA hSA hkA
    have ecv : vs 39 = .int .i64 (vN v : Int) := hkA 1 (by decide)
    have efa : vs 50 = .pointer (some ⟨t, 0, none⟩) := hkA 12 (by decide)
    obtain ⟨p2, ecl, htr⟩ : ∃ p2, vs 48 = .pointer p2 ∧ IsTr (fun _ => True) wA p2 St := hkA 10 (by decide)
    have cA := HPC.out wA hSA
    have hA := hy.below hSA
    have fA : wA.frozen? ⟨t, vN v, none⟩ = false := frozen_of_row wA t (vN v) _ _ hA.blk
    have htA : Touch (fun k => k = t) w wA := htou.bel hSA htou.size
    have HF : Hid ((TabM (wA.setCell ⟨t, vN v, none⟩ (.pointer p2)) t (m + 1) (setT v false T4 St) (setT v true T6 St) (setP v false p4 p2) (setP v true p6 p2)) ∧ Touch (fun k => k = t) w (wA.setCell ⟨t, vN v, none⟩ (.pointer p2))) := Hid.mk ⟨hA.setp v htr HFT.out, htA.tr (touch_only only_set)⟩
    clear hkA hSA HI HPC htr hA htA htou hy
    show wpList Try.prog _ _ (_ :: _ :: []) _ _
    simp only [putAll, Act.put, List.setIfInBounds_toArray, List.set_cons_zero, List.set_cons_succ, ecv, efa, ecl]
    clear ecv efa ecl
    go_wp2_with (refine wl_value rfl (exec_ix2 (c := vN v) rfl (by rfl) (by rfl) (vN_lt v)) ?_)
    go_ret
    exact ⟨rfl, ⟨_, _, HF.out.1⟩, HF.out.2⟩
  · rw [hg]
    go_upto_region 10 with (refine wl_value rfl (exec_ext rfl (by rfl) rfl) ?_)
    refine wp_gen (fun u => TabM u t m2 T4 T6 p4 p6 ∧ Only t w3 u) ⟨h3, Only.refl _ _⟩ ?_
    rintro wz ⟨hz, oz⟩
    replace qp := qp.only oz hgt
    replace htou := htou.tr (touch_only oz)
    clear h3 oz
    go_wp2_with (first | (refine wl_value rfl (exec_fpx rfl (by rfl)) ?_) | (refine wl_value rfl (exec_ldA rfl qp (by rfl)) ?_))
    refine (version_run v b wz).mono ?_
    rintro e wy ⟨rfl, hBy⟩
    have hy := hz.below hBy
    replace qp := SAt.kept qp hBy
    replace htou := htou.bel hBy htou.size
    clear hz hBy
    obtain ⟨pc, hpc⟩ : ∃ p, rootV p4 p6 v = p := ⟨_, rfl⟩
    have htr := hy.tr v
    rw [hpc] at htr
    have HPC : Hid (∀ ww, Below wy.heap.size wy ww → ww.cell? ⟨t, vN v, none⟩ = some (.pointer pc)) := Hid.mk (fun ww hh => by rw [← hpc]; exact tb_root (SAt.kept hy.blk hh) v)
    have HI : Hid (∀ ww, Below wy.heap.size wy ww → Calls Try.prog 32 #[.pointer pc, .agg (SC 18 (prV v b (N : Int))), .int .i64 0, .int .i64 ow] ww fun r w' => ∃ u, r = .returned u ∧ ((∃ p2, u = .pointer p2 ∧ IsTr (fun _ => True) w' p2 St) ∧ Below ww.heap.size ww w')) := Hid.mk (fun ww hh => by
      have h1 := with_run v b N ow hb hN N 0 pc (trV T4 T6 v) ww (fun _ => True) (by omega) (htr.below hh)
      rw [show ((0 : Nat) : Int) = 0 from rfl] at h1
      refine h1.mono ?_
      rintro e w' ⟨p2, rfl, h2, h3⟩
      exact ⟨_, rfl, ⟨p2, rfl, by rw [← hSt]; exact h2.mono (fun _ _ _ => trivial)⟩, h3⟩)
    clear htr
    go_wp2_with fail
    refine wp_region_cut 13 rfl (by kernel_rfl) (any_steps (Below wy.heap.size wy) (fun v v' => Below v.heap.size v v') (fun iq vq v0 => match iq with | 0 => vq = .pointer (some ⟨t, 0, none⟩) | 1 => vq = .int .i64 (vN v : Int) | 2 => vq = .pointer (some ⟨t, 0, none⟩) | 3 => vq = .int .i64 (vN v : Int) | 4 => vq = .pointer (some ⟨t, 0, none⟩) | 5 => vq = .pointer (some ⟨t, 0, none⟩) | 6 => vq = .pointer (some ⟨t, vN v, none⟩) | 7 => vq = .pointer pc | 8 => vq = .agg (SC 18 (prV v b (N : Int))) | 9 => vq = .int .i64 ow | 10 => ∃ p2, vq = .pointer p2 ∧ IsTr (fun _ => True) v0 p2 St | 11 => vq = .pointer (some ⟨t, 0, none⟩) | 12 => vq = .pointer (some ⟨t, 0, none⟩) | _ => True)
        [38, 39, 40, 41, 42, 43, 44, 45, 46, 47, 48, 49, 50]
        [(0, .pointer (some ⟨t, 0, none⟩)), (2, .int .i64 ow), (4, .pointer (some ⟨gp, 0, none⟩)), (9, .int .i64 (vN v : Int))]
        [[], [], [], [], [2], [4], [5, 3], [6], [], [], [7, 8, 9], [0], [11]]
        (by kernel_rfl) ⟨rfl, rfl, rfl, rfl, trivial⟩ (Below.drew (Below.refl _ _)) (fun v v' h hb => h.trans (hb.mono h.size)) ?_
        ⟨
          (fun Q a1 ww hS fr kn => ⟨trivial, fun K hK => wp_value (exec_move rfl fr.1) (hK _ _ rfl (Below.refl _ _))⟩),
          (fun Q a1 ww hS fr kn => ⟨trivial, fun K hK => wp_value (exec_move rfl fr.2.2.2.1) (hK _ _ rfl (Below.refl _ _))⟩),
          (fun Q a1 ww hS fr kn => ⟨trivial, fun K hK => wp_value (exec_move rfl fr.1) (hK _ _ rfl (Below.refl _ _))⟩),
          (fun Q a1 ww hS fr kn => ⟨trivial, fun K hK => wp_value (exec_move rfl fr.2.2.2.1) (hK _ _ rfl (Below.refl _ _))⟩),
          (fun Q a1 ww hS fr kn => ⟨trivial, fun K hK => wp_value (exec_nilc rfl kn.1) (hK _ _ rfl (Below.refl _ _))⟩),
          (fun Q a1 ww hS fr kn => ⟨trivial, fun K hK => wp_value (exec_ft0 rfl kn.1) (hK _ _ rfl (Below.refl _ _))⟩),
          (fun Q a1 ww hS fr kn => ⟨trivial, fun K hK => wp_value (exec_ix2 (c := vN v) rfl kn.1 kn.2.1 (vN_lt v)) (hK _ _ rfl (Below.refl _ _))⟩),
          (fun Q a1 ww hS fr kn => ⟨trivial, fun K hK => wp_value (exec_ld rfl kn.1 (ld_ptr (HPC.out ww hS))) (hK _ _ rfl (Below.refl _ _))⟩),
          (fun Q a1 ww hS fr kn => ⟨trivial, fun K hK => wp_value (look_st rfl isPfx (SAt.kept qp hS) fr.2.2.1) (hK _ _ rfl (Below.refl _ _))⟩),
          (fun Q a1 ww hS fr kn => ⟨trivial, fun K hK => wp_value (exec_move rfl fr.2.1) (hK _ _ rfl (Below.refl _ _))⟩),
          (fun Q a1 ww hS fr kn => ⟨trivial, fun K hK => stepp enterWith rfl (args4 kn.1 kn.2.1 rfl kn.2.2.1) (HI.out ww hS) (fun v1 w1 hr => hK v1 w1 hr.1 hr.2)⟩),
          (fun Q a1 ww hS fr kn => ⟨trivial, fun K hK => wp_value (exec_nilc rfl kn.1) (hK _ _ rfl (Below.refl _ _))⟩),
          (fun Q a1 ww hS fr kn => ⟨trivial, fun K hK => wp_value (exec_ft0 rfl kn.1) (hK _ _ rfl (Below.refl _ _))⟩),
          trivial⟩ ?_)
    · intro iq vq u' u'' hh hb
      match iq with
      | 0 | 1 | 2 | 3 | 4 | 5 | 6 | 7 | 8 | 9 | 11 | 12 => exact hh
      | 10 => obtain ⟨p2, e2, h2⟩ := hh; exact ⟨p2, e2, h2.below hb⟩
      | n + 13 => trivial
    intro vs wA hSA hkA
    have ecv : vs 39 = .int .i64 (vN v : Int) := hkA 1 (by decide)
    have efa : vs 50 = .pointer (some ⟨t, 0, none⟩) := hkA 12 (by decide)
    obtain ⟨p2, ecl, htr⟩ : ∃ p2, vs 48 = .pointer p2 ∧ IsTr (fun _ => True) wA p2 St := hkA 10 (by decide)
    have cA := HPC.out wA hSA
    have hA := hy.below hSA
    have fA : wA.frozen? ⟨t, vN v, none⟩ = false := frozen_of_row wA t (vN v) _ _ hA.blk
    have htA : Touch (fun k => k = t) w wA := htou.bel hSA htou.size
    have HF : Hid ((TabM (wA.setCell ⟨t, vN v, none⟩ (.pointer p2)) t m2 (setT v false T4 St) (setT v true T6 St) (setP v false p4 p2) (setP v true p6 p2)) ∧ Touch (fun k => k = t) w (wA.setCell ⟨t, vN v, none⟩ (.pointer p2))) := Hid.mk ⟨hA.setp v htr HFT.out, htA.tr (touch_only only_set)⟩
    clear hkA hSA HI HPC htr hA htA htou hy
    show wpList Try.prog _ _ (_ :: _ :: []) _ _
    simp only [putAll, Act.put, List.setIfInBounds_toArray, List.set_cons_zero, List.set_cons_succ, ecv, efa, ecl]
    clear ecv efa ecl
    go_wp2_with (refine wl_value rfl (exec_ix2 (c := vN v) rfl (by rfl) (by rfl) (vN_lt v)) ?_)
    go_ret
    exact ⟨rfl, ⟨_, _, HF.out.1⟩, HF.out.2⟩
set_option maxHeartbeats 16000000 in
theorem drop_no {w : World} {t : Nat} {m : Int} {T4 T6 : Tr} {p4 p6 : Option Addr} (h : TabM w t m T4 T6 p4 p6) (v : Bool) (b : Nat → Int) (n : Int) (hb : Byts 16 b) (hg : atG T4 T6 v b n = none) : Calls Try.prog 11 #[.pointer (some ⟨t, 0, none⟩), .agg (SC 18 (prV v b n))] w fun e w' => e = .returned (.tuple #[.int .i64 0, .bool false]) ∧ Below w.heap.size w w' := by
  go_enter Try.func11, Try.ntmps11
  go_wp2_with (refine wl_boxO rfl rfl isPfx (by rfl) ?_; intro gp w1 hgp q1 hB1; refine Hid.out ?_)
  refine Hid.mk ?_
  go_wp2_with (refine wl_value rfl (look_st rfl isPfx q1 (by rfl)) ?_)
  refine (at_run (h.below hB1) v b n hb).mono ?_
  rintro e w2 ⟨rfl, hB2⟩
  rw [hg]
  go_wp2_with (refine wl_value rfl (exec_ext rfl (by rfl) rfl) ?_)
  exact bodyPost_ret (res_tt rfl (by rfl) (by rfl)) rfl ⟨rfl, hB1.trans (hB2.mono hB1.size)⟩
set_option maxHeartbeats 16000000 in
theorem drop_yes {w : World} {t : Nat} {m : Int} {T4 T6 : Tr} {p4 p6 : Option Addr} (h : TabM w t m T4 T6 p4 p6) (v : Bool) (b : Nat → Int) (N : Nat) (o : Int) (hb : Byts 16 b) (hr : rightF v b (N : Int) = true) (hm0 : 0 ≤ m) (hm : m ≤ 64) (hg : atG T4 T6 v b (N : Int) = some o) : Calls Try.prog 11 #[.pointer (some ⟨t, 0, none⟩), .agg (SC 18 (prV v b (N : Int)))] w fun e w' => e = .returned (.tuple #[.int .i64 o, .bool true]) ∧ (∃ p4' p6', TabM w' t (m - 1) (setT v false T4 (woT b N 0 (trV T4 T6 v))) (setT v true T6 (woT b N 0 (trV T4 T6 v))) p4' p6') ∧ Touch (fun k => k = t) w w' := by
  have hNw : N ≤ wdN v := by have := (right_wn hr).2; omega
  have hN : N ≤ 128 := by have := (right_n hr).2; omega
  have htl : t < w.heap.size := h.blk.lt
  have HGT : Hid (gt b N 0 (trV T4 T6 v) ≠ none) := Hid.mk (by
    unfold atG at hg
    rw [if_pos hr, Int.toNat_natCast] at hg
    rw [hg]
    simp)
  obtain ⟨St, hSt⟩ : ∃ St, woT b N 0 (trV T4 T6 v) = St := ⟨_, rfl⟩
  have HFT : Hid (Fit (wdN v) St) := Hid.mk (by rw [← hSt]; exact fit_wo b N (wdN v) 0 _ hNw (h.fit v))
  rw [hSt]
  go_enter Try.func11, Try.ntmps11
  go_wp2_with (refine wl_boxO rfl rfl isPfx (by rfl) ?_; intro gp w1 hgp q1 hB1; refine Hid.out ?_)
  refine Hid.mk ?_
  go_wp2_with (refine wl_value rfl (look_st rfl isPfx q1 (by rfl)) ?_)
  refine (at_run (h.below hB1) v b (N : Int) hb).mono ?_
  rintro e wz ⟨rfl, hB3⟩
  have hBz := hB1.trans (hB3.mono hB1.size)
  have hz := h.below hBz
  have qp := SAt.kept q1 hB3
  have htou : Touch (fun k => k = t) w wz := Below.tou hBz (Nat.le_refl _)
  have hgt : gp ≠ t := by omega
  clear hB3 q1 hBz hB1 hr
  rw [hg]
  go_wp2_with (first | (refine wl_value rfl (exec_fpx rfl (by rfl)) ?_) | (refine wl_value rfl (exec_ldA rfl qp (by rfl)) ?_) | (refine wl_value rfl (exec_ext rfl (by rfl) rfl) ?_))
  refine (version_run v b wz).mono ?_
  rintro e wy ⟨rfl, hBy⟩
  have hy := hz.below hBy
  replace qp := SAt.kept qp hBy
  replace htou := htou.bel hBy htou.size
  clear hz hBy
  obtain ⟨pc, hpc⟩ : ∃ p, rootV p4 p6 v = p := ⟨_, rfl⟩
  have htr := hy.tr v
  rw [hpc] at htr
  have HPC : Hid (∀ ww, Below wy.heap.size wy ww → ww.cell? ⟨t, vN v, none⟩ = some (.pointer pc)) := Hid.mk (fun ww hh => by rw [← hpc]; exact tb_root (SAt.kept hy.blk hh) v)
  have HI : Hid (∀ ww, Below wy.heap.size wy ww → Calls Try.prog 29 #[.pointer pc, .agg (SC 18 (prV v b (N : Int))), .int .i64 0] ww fun r w' => ∃ u, r = .returned u ∧ ((∃ p2, u = .pointer p2 ∧ IsTr (fun _ => True) w' p2 St) ∧ Below ww.heap.size ww w')) := Hid.mk (fun ww hh => by
    have h1 := without_run v b N hb hN N 0 pc (trV T4 T6 v) ww (fun _ => True) (by omega) (htr.below hh) HGT.out
    rw [show ((0 : Nat) : Int) = 0 from rfl] at h1
    refine h1.mono ?_
    rintro e w' ⟨p2, rfl, h2, h3⟩
    exact ⟨_, rfl, ⟨p2, rfl, by rw [← hSt]; exact h2.mono (fun _ _ _ => trivial)⟩, h3⟩)
  clear htr
  go_wp2_with fail
  refine wp_region_cut 12 rfl (by kernel_rfl) (any_steps (Below wy.heap.size wy) (fun v v' => Below v.heap.size v v') (fun iq vq v0 => match iq with | 0 => vq = .pointer (some ⟨t, 0, none⟩) | 1 => vq = .int .i64 (vN v : Int) | 2 => vq = .pointer (some ⟨t, 0, none⟩) | 3 => vq = .int .i64 (vN v : Int) | 4 => vq = .pointer (some ⟨t, 0, none⟩) | 5 => vq = .pointer (some ⟨t, 0, none⟩) | 6 => vq = .pointer (some ⟨t, vN v, none⟩) | 7 => vq = .pointer pc | 8 => vq = .agg (SC 18 (prV v b (N : Int))) | 9 => ∃ p2, vq = .pointer p2 ∧ IsTr (fun _ => True) v0 p2 St | 10 => vq = .pointer (some ⟨t, 0, none⟩) | 11 => vq = .pointer (some ⟨t, 0, none⟩) | _ => True)
      [19, 20, 21, 22, 23, 24, 25, 26, 27, 28, 29, 30]
      [(0, .pointer (some ⟨t, 0, none⟩)), (3, .pointer (some ⟨gp, 0, none⟩)), (8, .int .i64 (vN v : Int))]
      [[], [], [], [], [2], [4], [5, 3], [6], [], [7, 8], [0], [10]]
      (by kernel_rfl) ⟨rfl, rfl, rfl, trivial⟩ (Below.drew (Below.refl _ _)) (fun v v' h hb => h.trans (hb.mono h.size)) ?_
      ⟨
        (fun Q a1 ww hS fr kn => ⟨trivial, fun K hK => wp_value (exec_move rfl fr.1) (hK _ _ rfl (Below.refl _ _))⟩),
        (fun Q a1 ww hS fr kn => ⟨trivial, fun K hK => wp_value (exec_move rfl fr.2.2.1) (hK _ _ rfl (Below.refl _ _))⟩),
        (fun Q a1 ww hS fr kn => ⟨trivial, fun K hK => wp_value (exec_move rfl fr.1) (hK _ _ rfl (Below.refl _ _))⟩),
        (fun Q a1 ww hS fr kn => ⟨trivial, fun K hK => wp_value (exec_move rfl fr.2.2.1) (hK _ _ rfl (Below.refl _ _))⟩),
        (fun Q a1 ww hS fr kn => ⟨trivial, fun K hK => wp_value (exec_nilc rfl kn.1) (hK _ _ rfl (Below.refl _ _))⟩),
        (fun Q a1 ww hS fr kn => ⟨trivial, fun K hK => wp_value (exec_ft0 rfl kn.1) (hK _ _ rfl (Below.refl _ _))⟩),
        (fun Q a1 ww hS fr kn => ⟨trivial, fun K hK => wp_value (exec_ix2 (c := vN v) rfl kn.1 kn.2.1 (vN_lt v)) (hK _ _ rfl (Below.refl _ _))⟩),
        (fun Q a1 ww hS fr kn => ⟨trivial, fun K hK => wp_value (exec_ld rfl kn.1 (ld_ptr (HPC.out ww hS))) (hK _ _ rfl (Below.refl _ _))⟩),
        (fun Q a1 ww hS fr kn => ⟨trivial, fun K hK => wp_value (look_st rfl isPfx (SAt.kept qp hS) fr.2.1) (hK _ _ rfl (Below.refl _ _))⟩),
        (fun Q a1 ww hS fr kn => ⟨trivial, fun K hK => stepp enterWithout rfl (args3 kn.1 kn.2.1 rfl) (HI.out ww hS) (fun v1 w1 hr => hK v1 w1 hr.1 hr.2)⟩),
        (fun Q a1 ww hS fr kn => ⟨trivial, fun K hK => wp_value (exec_nilc rfl kn.1) (hK _ _ rfl (Below.refl _ _))⟩),
        (fun Q a1 ww hS fr kn => ⟨trivial, fun K hK => wp_value (exec_ft0 rfl kn.1) (hK _ _ rfl (Below.refl _ _))⟩),
        trivial⟩ ?_)
  · intro iq vq u' u'' hh hb
    match iq with
    | 0 | 1 | 2 | 3 | 4 | 5 | 6 | 7 | 8 | 10 | 11 => exact hh
    | 9 => obtain ⟨p2, e2, h2⟩ := hh; exact ⟨p2, e2, h2.below hb⟩
    | n + 12 => trivial
  intro vs wA hSA hkA
  have ecv : vs 20 = .int .i64 (vN v : Int) := hkA 1 (by decide)
  have efa : vs 30 = .pointer (some ⟨t, 0, none⟩) := hkA 11 (by decide)
  obtain ⟨p2, ecl, htr⟩ : ∃ p2, vs 28 = .pointer p2 ∧ IsTr (fun _ => True) wA p2 St := hkA 9 (by decide)
  have cA := HPC.out wA hSA
  have hA := hy.below hSA
  have fA : wA.frozen? ⟨t, vN v, none⟩ = false := frozen_of_row wA t (vN v) _ _ hA.blk
  have htA : Touch (fun k => k = t) w wA := htou.bel hSA htou.size
  have HF : Hid ((TabM (wA.setCell ⟨t, vN v, none⟩ (.pointer p2)) t m (setT v false T4 St) (setT v true T6 St) (setP v false p4 p2) (setP v true p6 p2)) ∧ Touch (fun k => k = t) w (wA.setCell ⟨t, vN v, none⟩ (.pointer p2))) := Hid.mk ⟨hA.setp v htr HFT.out, htA.tr (touch_only only_set)⟩
  clear hkA hSA HI HPC htr hA htA htou hy
  show wpList Try.prog _ _ (_ :: _ :: []) _ _
  simp only [putAll, Act.put, List.setIfInBounds_toArray, List.set_cons_zero, List.set_cons_succ, ecv, efa, ecl]
  clear ecv efa ecl
  go_upto_region 5 with (refine wl_value rfl (exec_ix2 (c := vN v) rfl (by rfl) (by rfl) (vN_lt v)) ?_)
  refine wp_gen (fun u => TabM u t m (setT v false T4 St) (setT v true T6 St) (setP v false p4 p2) (setP v true p6 p2) ∧ Touch (fun k => k = t) w u) HF.out ?_
  rintro wB ⟨hB, htB⟩
  have ct := tb_n hB.blk
  have ft : wB.frozen? ⟨t, 2, none⟩ = false := frozen_of_row wB t 2 _ _ hB.blk
  have HE : Hid (TabM (wB.setCell ⟨t, 2, none⟩ (.int .i64 (m - 1))) t (m - 1) (setT v false T4 St) (setT v true T6 St) (setP v false p4 p2) (setP v true p6 p2) ∧ Touch (fun k => k = t) w (wB.setCell ⟨t, 2, none⟩ (.int .i64 (m - 1)))) := Hid.mk ⟨hB.setn, htB.tr (touch_only only_set)⟩
  clear HF cA fA hB htB
  go_wp2_with (refine wl_value rfl (exec_sub64 rfl (by rfl) (by rfl) (by omega) (by omega)) ?_)
  exact bodyPost_ret (res_tt rfl (by rfl) (by rfl)) rfl ⟨rfl, ⟨_, _, HE.out.1⟩, HE.out.2⟩
end Go.Proofs.Ytcpnleanjclfjaa
/-
  Own text. The code's all of a node: what it gives.
-/
namespace Go.Proofs.Ytcpnleanjclfjaa
open Go.RowKit Go.Proofs
set_option maxRecDepth 100000
def encR (x : Rw) : Array Value := #[.agg (SC 18 (prV x.v x.b x.n)), .int .i64 x.o]
/-- The rows of a trie, to which d bits of b lead. -/
def rowsT (v : Bool) : Nat → (Nat → Int) → Tr → List Rw
  | _, _, .nil => []
  | d, b, .node l r th ow => (if th = true then [⟨v, b, (d : Int), ow⟩] else []) ++ (rowsT v (d + 1) (longB b d 0) l ++ rowsT v (d + 1) (longB b d 1) r)
theorem fit_mono : ∀ {k K : Nat} {T : Tr}, k ≤ K → Fit k T → Fit K T
  | _, _, .nil, _, _ => fit_nil _
  | 0, 0, .node _ _ _ _, _, h => h
  | 0, K + 1, .node _ _ _ _, _, ⟨h1, h2, h3⟩ => ⟨by rw [h1]; exact fit_nil K, by rw [h2]; exact fit_nil K, h3⟩
  | k + 1, K + 1, .node _ _ _ _, hk, ⟨h1, h2, h3⟩ => ⟨fit_mono (by omega) h1, fit_mono (by omega) h2, h3⟩
section
variable {a : Act} {o : Oper} {w : World} {x y : Operand}
theorem exec_pnt (ho : o.op = .binOp .eql 55 x y 55) (hx : a.eval x = .pointer none) (hy : a.eval y = .pointer none) : (execOp a.eval o).run Try.prog w = .ok (.value (.bool true)) w := by
  refine exec_bin ho (by simp [go_sem]) hx hy ?_
  simp [go_sem]
theorem exec_pnf (ho : o.op = .binOp .eql 55 x y 55) {p : Addr} (hx : a.eval x = .pointer (some p)) (hy : a.eval y = .pointer none) : (execOp a.eval o).run Try.prog w = .ok (.value (.bool false)) w := by
  refine exec_bin ho (by simp [go_sem]) hx hy ?_
  simp [go_sem]
theorem ld_fn {p : Addr} {v : Value} (h : w.cell? p = some v) : (Instr.loadAt 62 (.pointer (some p))).run Try.prog w = .ok v w := by simp [go_sem, h]
theorem exec_ixB (ho : o.op = .index 56 x y) {pl pr : Option Addr} {i : Nat} (hx : a.eval x = .agg (SC 2 (brV pl pr))) (hy : a.eval y = .int .i64 (i : Int)) (hi : i < 2) : (execOp a.eval o).run Try.prog w = .ok (.value (.pointer (if i = 0 then pl else pr))) w := by
  have h0 : (Instr.index 56 (.agg (SC 2 (brV pl pr))) (.int .i64 0)).run Try.prog w = .ok (brV pl pr 0) w := by kernel_rfl
  have h1 : (Instr.index 56 (.agg (SC 2 (brV pl pr))) (.int .i64 1)).run Try.prog w = .ok (brV pl pr 1) w := by kernel_rfl
  have h : (Instr.index 56 (.agg (SC 2 (brV pl pr))) (.int .i64 (i : Int))).run Try.prog w = .ok (brV pl pr i) w := by
    match i, hi with
    | 0, _ => exact h0
    | 1, _ => exact h1
  unfold execOp
  simp only [ho, hx, hy, Sem.run_bind, h, Result.andThen_ok, Sem.run_pure]
  rfl
end
theorem enterAllN (args : Array Value) (w : World) : (callFunc 26 args).run Try.prog w = .ok (.enter 26 args) w := by kernel_rfl
theorem enterAllN1 (args : Array Value) (w : World) : (callFunc 37 args).run Try.prog w = .ok (.enter 37 args) w := by kernel_rfl
theorem enterLong (args : Array Value) (w : World) : (callFunc 38 args).run Try.prog w = .ok (.enter 38 args) w := by kernel_rfl
theorem allN_run (p : Option Addr) (v : Bool) (b : Nat → Int) (n : Int) (w : World) : Calls Try.prog 26 #[.pointer p, .agg (SC 18 (prV v b n))] w fun e w' => ∃ bn bp, e = .returned (.func (.func 37) #[] #[.pointer (some ⟨bn, 0, none⟩), .pointer (some ⟨bp, 0, none⟩)]) ∧ w.heap.size ≤ bn ∧ bn < bp ∧ w'.heap[bn]? = some (.cells #[.pointer p] 55 (0, 0)) ∧ SAt w' bp 37 18 (prV v b n) ∧ Below w.heap.size w w' := by
  go_enter Try.func26, Try.ntmps26
  have hn := heap_alloc_new w (.cells #[.pointer p] 55 (0, 0))
  have hB := (Below.refl w.heap.size w).alloc (Nat.le_refl _) (.cells #[.pointer p] 55 (0, 0))
  have hz : (w.alloc (.cells #[.pointer p] 55 (0, 0))).heap.size = w.heap.size + 1 := by simp
  go_wp2_with (refine wl_boxO rfl rfl isPfx (by rfl) ?_; intro bp w1 hg q1 hB1; refine Hid.out ?_)
  refine Hid.mk ?_
  have hbb : w.heap.size < bp := by omega
  have hn1 := bheap hB1 hn (by omega)
  have hBw := hB.trans (hB1.mono (by omega))
  clear hB1 hg hn hB hz
  go_wp2_with fail
  go_ret
  exact ⟨w.heap.size, bp, rfl, Nat.le_refl _, hbb, hn1, q1, hBw⟩
theorem rows_at {α : Type} (own L Rr : List α) (C : Nat → List α) (hC0 : C 0 = L) (hC1 : C 1 = Rr) (i : Nat) (hi : i < 2) (j : Nat) (x : α) (hx : (C i)[j]? = some x) : (own ++ (L ++ Rr))[(own.length + if i = 0 then 0 else L.length) + j]? = some x := by
  match i, hi with
  | 0, _ =>
    rw [hC0] at hx
    have hj := (List.getElem?_eq_some_iff.1 hx).1
    rw [if_pos rfl, Nat.add_zero, List.getElem?_append_right (by omega), Nat.add_sub_cancel_left, List.getElem?_append_left hj]
    exact hx
  | 1, _ =>
    rw [hC1] at hx
    rw [if_neg (by omega), List.getElem?_append_right (by omega), List.getElem?_append_right (by omega), show own.length + L.length + j - own.length - L.length = j by omega]
    exact hx
/-- How many came ahead of branch i. -/
def cntF (o l r i : Nat) : Nat := o + (if i = 0 then 0 else if i = 1 then l else l + r)
set_option maxHeartbeats 32000000 in
theorem allN_gives (v : Bool) : ∀ (Tt : Tr) (d : Nat) (b : Nat → Int) (p : Option Addr) (W0 : World) (bn bp : Nat) (A S : Nat → Prop), Byts 16 b → d ≤ 128 → Fit (128 - d) Tt → W0.heap[bn]? = some (.cells #[.pointer p] 55 (0, 0)) → SAt W0 bp 37 18 (prV v b (d : Int)) → IsTr S W0 p Tt → (∀ k, S k → A k) → A bn → A bp →
    Gives Try.prog 37 #[.pointer (some ⟨bn, 0, none⟩), .pointer (some ⟨bp, 0, none⟩)] encR (rowsT v d b Tt) A W0 := by
  intro Tt
  induction Tt with
  | nil =>
    intro d b p W0 bn bp A S hb hd hf hbn hbp htr hSA hA1 hA2
    intro l T J Jx W hW hT hJ hJx hY h0
    rw [show (#[Value.func (.yield l) #[] #[]] ++ #[Value.pointer (some ⟨bn, 0, none⟩), Value.pointer (some ⟨bp, 0, none⟩)]) = #[Value.func (.yield l) #[] #[], Value.pointer (some ⟨bn, 0, none⟩), Value.pointer (some ⟨bp, 0, none⟩)] from rfl]
    obtain rfl : p = none := htr
    have HBX : Hid (∀ X, Touch T W X → X.cell? ⟨bn, 0, none⟩ = some (.pointer none) ∧ SAt X bp 37 18 (prV v b (d : Int))) := Hid.mk (fun X hx => by
      have hk : ∀ k, A k → k < W0.heap.size → X.heap[k]? = W0.heap[k]? := fun k hk h1 => (hx.block k (Nat.lt_of_lt_of_le h1 hW.size) (fun e => (hT k e).2 hk)).trans (hW.block k h1)
      refine ⟨?_, hbp.block (hk bp hA2 hbp.lt)⟩
      rw [World.cell?_of_block (w := W0) (hk bn hA1 (heap_lt hbn)), cell_of_row W0 bn 0 _ _ _ hbn]
      rfl)
    have hj2 := hJ 0 W _ h0 ((Below.refl _ W).alloc (Nat.le_refl _) (.cells #[.func (.yield l) #[] #[]] 62 (0, 0)))
    clear hY hbn hbp
    go_enter Try.func37, Try.ntmps37
    go_upto_region 1 with fail
    refine wp_gen (fun u => Touch T W u ∧ J 0 u) ⟨Below.tou ((Below.refl _ W).alloc (Nat.le_refl _) _) (Nat.le_refl _), hj2⟩ ?_
    clear hj2
    rintro w2 ⟨ht2, hj2⟩
    obtain ⟨g3, hg3⟩ : ∃ g, W.heap.size = g := ⟨_, rfl⟩
    simp only [hg3]
    have hWs := ht2.size
    refine wp_region3 (fun ww => Touch T W ww ∧ Below w2.heap.size w2 ww) w2.heap.size
        ([] : List (Nat × Cont))
        [kv (.pointer none), kv (.bool true), kv (.bool true), kv (undef), kv (undef), kv (undef), kv (undef), kv (undef), kv (undef), kv (undef), kv (undef), kv (undef), kv (undef), kv (undef), kv (undef), kv (undef), kv (undef), kv (.bool true)]
        [.none, .none, .none, .none, .none, .none, .none, .none, .none, .none, .none, .none, .none, .none, .none, .none, .none, .none]
        [some 8, some 9, some 10, some 11, some 12, some 13, some 14, some 15, some 16, some 17, some 18, some 19, some 20, some 21, some 22, some 23, some 24, some 25]
        [(1, .pointer (some ⟨bn, 0, none⟩)), (2, .pointer (some ⟨bp, 0, none⟩)), (3, .pointer (some ⟨g3, 0, none⟩))]
        [[], [.slot 0], [.slot 1], [.slot 2], [.slot 2], [.slot 2], [.slot 2], [.slot 2], [.slot 7], [.slot 7], [.slot 7], [.slot 7], [.slot 7], [.slot 7], [.slot 7], [.slot 7], [.slot 2], [.slot 2]]
        [.slot 17] [8, 9, 10, 11, 12, 13, 14, 15, 16, 17, 18, 19, 20, 21, 22, 23, 24, 25]
        rfl (by kernel_rfl) ⟨rfl, rfl, rfl, trivial⟩ ⟨ht2.drew, (Below.refl _ w2).drew⟩ (Nat.le_refl _) trivial trivial (tb_G (by omega) (Nat.le_refl _))
        ⟨
          (fun Q aq ww own hS hBg fr kn => .inl ⟨trivial, fun K hK => wp_value (exec_ld rfl fr.1 (ld_ptr (HBX.out ww hS.1).1)) (hK _ _ ⟨Touch.refl _ _, rfl⟩)⟩),
          (fun Q aq ww own hS hBg fr kn => .inl ⟨trivial, fun K hK => wp_value (exec_pnt rfl kn.1 rfl) (hK _ _ ⟨Touch.refl _ _, rfl⟩)⟩),
          (fun Q aq ww own hS hBg fr kn => .inl ⟨trivial, fun K hK => wp_value (exec_move rfl kn.1) (hK _ _ ⟨Touch.refl _ _, rfl⟩)⟩),
          (fun Q aq ww own hS hBg fr kn => .inr ⟨.inl kn.1, ⟨Touch.refl _ _, rfl⟩⟩),
          (fun Q aq ww own hS hBg fr kn => .inr ⟨.inl kn.1, ⟨Touch.refl _ _, rfl⟩⟩),
          (fun Q aq ww own hS hBg fr kn => .inr ⟨.inl kn.1, ⟨Touch.refl _ _, rfl⟩⟩),
          (fun Q aq ww own hS hBg fr kn => .inr ⟨.inl kn.1, ⟨Touch.refl _ _, rfl⟩⟩),
          (fun Q aq ww own hS hBg fr kn => .inr ⟨.inl kn.1, ⟨Touch.refl _ _, rfl⟩⟩),
          (fun Q aq ww own hS hBg fr kn => .inr ⟨.inr kn.1, ⟨Touch.refl _ _, rfl⟩⟩),
          (fun Q aq ww own hS hBg fr kn => .inr ⟨.inr kn.1, ⟨Touch.refl _ _, rfl⟩⟩),
          (fun Q aq ww own hS hBg fr kn => .inr ⟨.inr kn.1, ⟨Touch.refl _ _, rfl⟩⟩),
          (fun Q aq ww own hS hBg fr kn => .inr ⟨.inr kn.1, ⟨Touch.refl _ _, rfl⟩⟩),
          (fun Q aq ww own hS hBg fr kn => .inr ⟨.inr kn.1, ⟨Touch.refl _ _, rfl⟩⟩),
          (fun Q aq ww own hS hBg fr kn => .inr ⟨.inr kn.1, ⟨Touch.refl _ _, rfl⟩⟩),
          (fun Q aq ww own hS hBg fr kn => .inr ⟨.inr kn.1, ⟨Touch.refl _ _, rfl⟩⟩),
          (fun Q aq ww own hS hBg fr kn => .inr ⟨.inr kn.1, ⟨Touch.refl _ _, rfl⟩⟩),
          (fun Q aq ww own hS hBg fr kn => .inr ⟨.inl kn.1, ⟨Touch.refl _ _, rfl⟩⟩),
          (fun Q aq ww own hS hBg fr kn => .inl ⟨trivial, fun K hK => wp_value (exec_pick (v := .bool true) rfl kn.1 rfl) (hK _ _ ⟨Touch.refl _ _, rfl⟩)⟩),
          trivial⟩ ?_
    intro vs own w4 hS4 hsz kn inj
    have e25 : vs 25 = .bool true := kn.1
    clear kn inj hsz
    have hj4 := hJ 0 w2 w4 hj2 (hS4.2.mono hWs)
    simp only [putAll, Act.put, List.setIfInBounds_toArray, List.set_cons_zero, List.set_cons_succ, e25]
    clear e25
    go_wp2_with fail
    exact bodyPost_ret (results_none rfl _ _ _) rfl ⟨⟨_, rfl⟩, hS4.1, .inl hj4⟩
  | node lt rt th ow ihl ihr =>
    intro d b p W0 bn bp A S hb hd hf hbn hbp htr hSA hA1 hA2
    intro l T J Jx W hW hT hJ hJx hY h0
    rw [show (#[Value.func (.yield l) #[] #[]] ++ #[Value.pointer (some ⟨bn, 0, none⟩), Value.pointer (some ⟨bp, 0, none⟩)]) = #[Value.func (.yield l) #[] #[], Value.pointer (some ⟨bn, 0, none⟩), Value.pointer (some ⟨bp, 0, none⟩)] from rfl]
    obtain ⟨bk, pl, pr, rfl, hSb, hs, hl, hr⟩ := htr
    have hk : ∀ X, Touch T W X → ∀ k, A k → k < W0.heap.size → X.heap[k]? = W0.heap[k]? := fun X hx k hk h1 => (hx.block k (Nat.lt_of_lt_of_le h1 hW.size) (fun e => (hT k e).2 hk)).trans (hW.block k h1)
    have HBX : Hid (∀ X, Touch T W X → X.cell? ⟨bn, 0, none⟩ = some (.pointer (some ⟨bk, 0, none⟩)) ∧ SAt X bp 37 18 (prV v b (d : Int))) := Hid.mk (fun X hx => by
      refine ⟨?_, hbp.block (hk X hx bp hA2 hbp.lt)⟩
      rw [World.cell?_of_block (w := W0) (hk X hx bn hA1 (heap_lt hbn)), cell_of_row W0 bn 0 _ _ _ hbn]
      rfl)
    have HND : Hid (∀ X, Touch T W X → SAt X bk 72 4 (ndV pl pr th ow)) := Hid.mk (fun X hx => hs.block (hk X hx bk (hSA bk hSb) hs.lt))
    have HTR : Hid (∀ X, Touch T W X → ∀ i, IsTr S X (if i = 0 then pl else pr) ((Tr.node lt rt th ow).br i)) := Hid.mk (fun X hx i => IsTr.kept (fun k V hSk hsk => ⟨hSk, hsk.block (hk X hx k (hSA k hSk) hsk.lt)⟩) (IsTr.br th ow hl hr i))
    obtain ⟨C, hC⟩ : ∃ C : Nat → List Rw, ∀ i, C i = rowsT v (d + 1) (longB b d i) ((Tr.node lt rt th ow).br i) := ⟨_, fun _ => rfl⟩
    obtain ⟨own, hown⟩ : ∃ own : List Rw, (if th = true then [⟨v, b, (d : Int), ow⟩] else []) = own := ⟨_, rfl⟩
    have hxs : rowsT v d b (.node lt rt th ow) = own ++ (C 0 ++ C 1) := by rw [hC, hC, ← hown]; rfl
    rw [hxs] at hY ⊢
    obtain ⟨cnt, hcnt⟩ : ∃ cnt : Nat → Nat, ∀ i, cnt i = cntF own.length (C 0).length (C 1).length i := ⟨_, fun _ => rfl⟩
    have HIX : Hid (∀ i, i < 2 → ∀ j x, (C i)[j]? = some x → (own ++ (C 0 ++ C 1))[cnt i + j]? = some x) := Hid.mk (fun i hi j x hx => by
      have := rows_at own (C 0) (C 1) C rfl rfl i hi j x hx
      rw [hcnt]
      unfold cntF
      match i, hi with
      | 0, _ => exact this
      | 1, _ => exact this)
    have HNX : Hid (∀ i, i < 2 → cnt (i + 1) = cnt i + (C i).length) := Hid.mk (fun i hi => by
      rw [hcnt, hcnt]
      unfold cntF
      match i, hi with
      | 0, _ => rfl
      | 1, _ => simp; omega)
    have hc0 : cnt 0 = own.length := by rw [hcnt]; rfl
    have hc2 : cnt 2 = (own ++ (C 0 ++ C 1)).length := by rw [hcnt]; simp [cntF]
    have HIH : Hid (∀ i, i < 2 → ∀ (pc : Option Addr) (Z : World) (bn' bp' : Nat) (A' S' : Nat → Prop), d + 1 ≤ 128 → Z.heap[bn']? = some (.cells #[.pointer pc] 55 (0, 0)) → SAt Z bp' 37 18 (prV v (longB b d i) ((d + 1 : Nat) : Int)) → IsTr S' Z pc ((Tr.node lt rt th ow).br i) → (∀ k, S' k → A' k) → A' bn' → A' bp' → Gives Try.prog 37 #[.pointer (some ⟨bn', 0, none⟩), .pointer (some ⟨bp', 0, none⟩)] encR (C i) A' Z) := Hid.mk (fun i hi pc Z bn' bp' A' S' hd1 h1 h2 h3 h4 h5 h6 => by
      have hf1 : Fit (128 - (d + 1) + 1) (.node lt rt th ow) := by rw [show 128 - (d + 1) + 1 = 128 - d by omega]; exact hf
      rw [hC]
      match i, hi with
      | 0, _ => exact ihl (d + 1) _ pc Z bn' bp' A' S' (long_byts hb d 0 (by omega)) hd1 hf1.1 h1 h2 h3 h4 h5 h6
      | 1, _ => exact ihr (d + 1) _ pc Z bn' bp' A' S' (long_byts hb d 1 (by omega)) hd1 hf1.2.1 h1 h2 h3 h4 h5 h6)
    have HC0 : Hid (∀ i, (Tr.node lt rt th ow).br i = .nil → C i = []) := Hid.mk (fun i e => by rw [hC, e]; rfl)
    have HDN : Hid (∀ i, i < 2 → (Tr.node lt rt th ow).br i ≠ .nil → d < 128) := Hid.mk (fun i hi hne => by
      rcases Nat.lt_or_ge d 128 with h1 | h1
      · exact h1
      · exfalso
        rw [show 128 - d = 0 by omega] at hf
        refine hne ?_
        unfold Tr.br
        split
        · exact hf.1
        · exact hf.2.1)
    have HJ := Hid.mk hJ
    have HJX := Hid.mk hJx
    have HY := Hid.mk hY
    clear ihl ihr hY hJ hJx hbn hbp hs hl hr hk hf hxs hC hcnt
    have hA0 := (Below.refl W.heap.size W).alloc (Nat.le_refl _) (.cells #[.func (.yield l) #[] #[]] 62 (0, 0))
    have hN0 := heap_alloc_new W (.cells #[.func (.yield l) #[] #[]] 62 (0, 0))
    refine calls_of_wpM Try.func37 rfl ?_
    simp only [Try.ntmps37, List.size_toArray, List.length_cons, List.length_nil, Nat.reduceAdd, Nat.reduceSub, Array.replicate_succ, Array.replicate_zero, List.push_toArray, List.append_toArray, List.nil_append, List.cons_append]
    go_upto_region 1 with fail
    refine wp_gen (fun u => Touch T W u ∧ J 0 u ∧ u.heap[W.heap.size]? = some (.cells #[.func (.yield l) #[] #[]] 62 (0, 0))) ⟨Below.tou hA0 (Nat.le_refl _), HJ.out 0 _ _ h0 hA0, hN0⟩ ?_
    clear hA0 hN0 h0
    obtain ⟨g3, hg3⟩ : ∃ g, W.heap.size = g := ⟨_, rfl⟩
    simp only [hg3]
    rintro w2 ⟨ht2, hj2, hn2⟩
    have hWs := ht2.size
    have HG3 : Hid (∀ X, Below w2.heap.size w2 X → X.cell? ⟨g3, 0, none⟩ = some (.func (.yield l) #[] #[])) := Hid.mk (fun X hx => (one_cell (bheap hx hn2 (heap_lt hn2))).1)
    obtain ⟨M, HMI, HME⟩ : ∃ M : Exit → Act → World → Prop, Hid (∀ (s4 s5 s6 s7 s8 s9 s10 s11 s12 s13 s14 s15 s16 s17 s18 s19 s20 s21 s22 s23 s24 s26 s27 s28 s29 s30 s31 s32 s33 s34 s35 s36 s37 s38 s39 s40 s41 s42 s43 s44 s45 s46 s47 s48 : Value) (r : Bool) (w' : World), Touch T W w' ∧ w'.heap[g3]? = some (.cells #[.func (.yield l) #[] #[]] 62 (0, 0)) ∧ (r = false → J (cnt 0) w') ∧ (r = true → Jx w') → M .normal { tmps := #[.func (.yield l) #[] #[], .pointer (some ⟨bn, 0, none⟩), .pointer (some ⟨bp, 0, none⟩), .pointer (some ⟨g3, 0, none⟩), s4, s5, s6, s7, s8, s9, s10, s11, s12, s13, s14, s15, s16, s17, s18, s19, s20, s21, s22, s23, s24, .bool r, s26, s27, s28, s29, s30, s31, s32, s33, s34, s35, s36, s37, s38, s39, s40, s41, s42, s43, s44, s45, s46, s47, s48], defers := [] } w') ∧ Hid (∀ e a' w', M e a' w' → e = Exit.normal ∧ ∃ (s4 s5 s6 s7 s8 s9 s10 s11 s12 s13 s14 s15 s16 s17 s18 s19 s20 s21 s22 s23 s24 s26 s27 s28 s29 s30 s31 s32 s33 s34 s35 s36 s37 s38 s39 s40 s41 s42 s43 s44 s45 s46 s47 s48 : Value) (r : Bool), a' = { tmps := #[.func (.yield l) #[] #[], .pointer (some ⟨bn, 0, none⟩), .pointer (some ⟨bp, 0, none⟩), .pointer (some ⟨g3, 0, none⟩), s4, s5, s6, s7, s8, s9, s10, s11, s12, s13, s14, s15, s16, s17, s18, s19, s20, s21, s22, s23, s24, .bool r, s26, s27, s28, s29, s30, s31, s32, s33, s34, s35, s36, s37, s38, s39, s40, s41, s42, s43, s44, s45, s46, s47, s48], defers := [] } ∧ Touch T W w' ∧ w'.heap[g3]? = some (.cells #[.func (.yield l) #[] #[]] 62 (0, 0)) ∧ (r = false → J (cnt 0) w') ∧ (r = true → Jx w')) :=
      ⟨fun e a' w' => e = Exit.normal ∧ ∃ (s4 s5 s6 s7 s8 s9 s10 s11 s12 s13 s14 s15 s16 s17 s18 s19 s20 s21 s22 s23 s24 s26 s27 s28 s29 s30 s31 s32 s33 s34 s35 s36 s37 s38 s39 s40 s41 s42 s43 s44 s45 s46 s47 s48 : Value) (r : Bool), a' = { tmps := #[.func (.yield l) #[] #[], .pointer (some ⟨bn, 0, none⟩), .pointer (some ⟨bp, 0, none⟩), .pointer (some ⟨g3, 0, none⟩), s4, s5, s6, s7, s8, s9, s10, s11, s12, s13, s14, s15, s16, s17, s18, s19, s20, s21, s22, s23, s24, .bool r, s26, s27, s28, s29, s30, s31, s32, s33, s34, s35, s36, s37, s38, s39, s40, s41, s42, s43, s44, s45, s46, s47, s48], defers := [] } ∧ Touch T W w' ∧ w'.heap[g3]? = some (.cells #[.func (.yield l) #[] #[]] 62 (0, 0)) ∧ (r = false → J (cnt 0) w') ∧ (r = true → Jx w'), Hid.mk (fun s4 s5 s6 s7 s8 s9 s10 s11 s12 s13 s14 s15 s16 s17 s18 s19 s20 s21 s22 s23 s24 s26 s27 s28 s29 s30 s31 s32 s33 s34 s35 s36 s37 s38 s39 s40 s41 s42 s43 s44 s45 s46 s47 s48 r w' hh => ⟨rfl, s4, s5, s6, s7, s8, s9, s10, s11, s12, s13, s14, s15, s16, s17, s18, s19, s20, s21, s22, s23, s24, s26, s27, s28, s29, s30, s31, s32, s33, s34, s35, s36, s37, s38, s39, s40, s41, s42, s43, s44, s45, s46, s47, s48, r, rfl, hh⟩), Hid.mk (fun _ _ _ hh => hh)⟩
    refine wp_mono (Q := M) ?_ ?_
    · cases th
      · obtain rfl : own = [] := hown.symm
        refine wp_region3 (fun ww => Touch T W ww ∧ Below w2.heap.size w2 ww) w2.heap.size
            ([] : List (Nat × Cont))
            [kv (.pointer (some ⟨bk, 0, none⟩)), kv (.bool false), kv (.bool false), kv (.pointer (some ⟨bk, 0, none⟩)), kv (.pointer (some ⟨bk, 0, none⟩)), kv (.pointer (some ⟨bk, 2, none⟩)), kv (.bool false), kv (.bool false), kv (undef), kv (undef), kv (undef), kv (undef), kv (undef), kv (undef), kv (undef), kv (undef), kv (.bool false), kv (.bool false)]
            [.none, .none, .none, .none, .none, .none, .none, .none, .none, .none, .none, .none, .none, .none, .none, .none, .none, .none]
            [some 8, some 9, some 10, some 11, some 12, some 13, some 14, some 15, some 16, some 17, some 18, some 19, some 20, some 21, some 22, some 23, some 24, some 25]
            [(1, .pointer (some ⟨bn, 0, none⟩)), (2, .pointer (some ⟨bp, 0, none⟩)), (3, .pointer (some ⟨g3, 0, none⟩))]
            [[], [.slot 0], [.slot 1], [.slot 2], [.slot 2, .slot 3], [.slot 2, .slot 4], [.slot 2, .slot 5], [.slot 2, .slot 6], [.slot 7], [.slot 7], [.slot 7], [.slot 7], [.slot 7], [.slot 7], [.slot 7], [.slot 7], [.slot 2, .slot 7], [.slot 2, .slot 16]]
            [.slot 17] [8, 9, 10, 11, 12, 13, 14, 15, 16, 17, 18, 19, 20, 21, 22, 23, 24, 25]
            rfl (by kernel_rfl) ⟨rfl, rfl, rfl, trivial⟩ ⟨ht2.drew, (Below.refl _ w2).drew⟩ (Nat.le_refl _) trivial trivial (tb_G (by omega) (Nat.le_refl _))
            ⟨
              (fun Q aq ww own hS hBg fr kn => .inl ⟨trivial, fun K hK => wp_value (exec_ld rfl fr.1 (ld_ptr (HBX.out ww hS.1).1)) (hK _ _ ⟨Touch.refl _ _, rfl⟩)⟩),
              (fun Q aq ww own hS hBg fr kn => .inl ⟨trivial, fun K hK => wp_value (exec_pnf rfl kn.1 rfl) (hK _ _ ⟨Touch.refl _ _, rfl⟩)⟩),
              (fun Q aq ww own hS hBg fr kn => .inl ⟨trivial, fun K hK => wp_value (exec_move rfl kn.1) (hK _ _ ⟨Touch.refl _ _, rfl⟩)⟩),
              (fun Q aq ww own hS hBg fr kn => .inl ⟨kn.1, fun K hK => wp_value (exec_ld rfl fr.1 (ld_ptr (HBX.out ww hS.1).1)) (hK _ _ ⟨Touch.refl _ _, rfl⟩)⟩),
              (fun Q aq ww own hS hBg fr kn => .inl ⟨kn.1, fun K hK => wp_value (exec_nilc rfl kn.2.1) (hK _ _ ⟨Touch.refl _ _, rfl⟩)⟩),
              (fun Q aq ww own hS hBg fr kn => .inl ⟨kn.1, fun K hK => wp_value (exec_fn1 rfl kn.2.1) (hK _ _ ⟨Touch.refl _ _, rfl⟩)⟩),
              (fun Q aq ww own hS hBg fr kn => .inl ⟨kn.1, fun K hK => wp_value (exec_ld rfl kn.2.1 (ld_bool (nd_t (HND.out ww hS.1)))) (hK _ _ ⟨Touch.refl _ _, rfl⟩)⟩),
              (fun Q aq ww own hS hBg fr kn => .inl ⟨kn.1, fun K hK => wp_value (exec_move rfl kn.2.1) (hK _ _ ⟨Touch.refl _ _, rfl⟩)⟩),
              (fun Q aq ww own hS hBg fr kn => .inr ⟨.inl kn.1, ⟨Touch.refl _ _, rfl⟩⟩),
              (fun Q aq ww own hS hBg fr kn => .inr ⟨.inl kn.1, ⟨Touch.refl _ _, rfl⟩⟩),
              (fun Q aq ww own hS hBg fr kn => .inr ⟨.inl kn.1, ⟨Touch.refl _ _, rfl⟩⟩),
              (fun Q aq ww own hS hBg fr kn => .inr ⟨.inl kn.1, ⟨Touch.refl _ _, rfl⟩⟩),
              (fun Q aq ww own hS hBg fr kn => .inr ⟨.inl kn.1, ⟨Touch.refl _ _, rfl⟩⟩),
              (fun Q aq ww own hS hBg fr kn => .inr ⟨.inl kn.1, ⟨Touch.refl _ _, rfl⟩⟩),
              (fun Q aq ww own hS hBg fr kn => .inr ⟨.inl kn.1, ⟨Touch.refl _ _, rfl⟩⟩),
              (fun Q aq ww own hS hBg fr kn => .inr ⟨.inl kn.1, ⟨Touch.refl _ _, rfl⟩⟩),
              (fun Q aq ww own hS hBg fr kn => .inl ⟨kn.1, fun K hK => wp_value (exec_pickF (v := .bool false) rfl kn.2.1 rfl) (hK _ _ ⟨Touch.refl _ _, rfl⟩)⟩),
              (fun Q aq ww own hS hBg fr kn => .inl ⟨trivial, fun K hK => wp_value (exec_pickF (v := .bool false) rfl kn.1 kn.2.1) (hK _ _ ⟨Touch.refl _ _, rfl⟩)⟩),
              trivial⟩ ?_
        intro vs own w4 hS4 hsz kn inj
        have e25 : vs 25 = .bool false := kn.1
        clear kn inj hsz
        simp only [putAll, Act.put, List.setIfInBounds_toArray, List.set_cons_zero, List.set_cons_succ, e25]
        exact HMI.out _ _ _ _ _ _ _ _ _ _ _ _ _ _ _ _ _ _ _ _ _ _ _ _ _ _ _ _ _ _ _ _ _ _ _ _ _ _ _ _ _ _ _ _ false _ ⟨hS4.1, bheap hS4.2 hn2 (heap_lt hn2), (fun _ => by rw [hc0]; exact HJ.out 0 w2 w4 hj2 (hS4.2.mono hWs)), (fun e => by cases e)⟩
      · obtain rfl : own = [⟨v, b, (d : Int), ow⟩] := hown.symm
        have HQ : Hid (¬ LetsOut M) := Hid.mk (fun ⟨_, _, hq⟩ => by cases (HME.out _ _ _ hq).1)
        refine (wpIn_wide (n := 0)).1 ?_
        show Code.wpIn (Wd none) 0 _ _ _ _ _
        refine regIn_cut (ro := none) 14 rfl (by kernel_rfl) HQ.out rfl (any_steps (Below w2.heap.size w2) (fun v v' => Below v.heap.size v v') (fun iq vq v0 => match iq with | 0 => vq = .pointer (some ⟨bk, 0, none⟩) | 1 => vq = .bool false | 2 => vq = .bool false | 3 => vq = .pointer (some ⟨bk, 0, none⟩) | 4 => vq = .pointer (some ⟨bk, 0, none⟩) | 5 => vq = .pointer (some ⟨bk, 2, none⟩) | 6 => vq = .bool true | 7 => vq = .bool true | 8 => vq = .func (.yield l) #[] #[] | 9 => vq = .agg (SC 18 (prV v b (d : Int))) | 10 => vq = .pointer (some ⟨bk, 0, none⟩) | 11 => vq = .pointer (some ⟨bk, 0, none⟩) | 12 => vq = .pointer (some ⟨bk, 3, none⟩) | 13 => vq = .int .i64 ow | _ => True)
            [8, 9, 10, 11, 12, 13, 14, 15, 16, 17, 18, 19, 20, 21]
            [(1, .pointer (some ⟨bn, 0, none⟩)), (2, .pointer (some ⟨bp, 0, none⟩)), (3, .pointer (some ⟨g3, 0, none⟩))]
            [[], [0], [1], [2], [2, 3], [2, 4], [2, 5], [2, 6], [7], [7], [7], [7, 10], [7, 11], [7, 12]]
            (by kernel_rfl) ⟨rfl, rfl, rfl, trivial⟩ (Below.drew (Below.refl _ _)) (fun v v' h hb => h.trans (hb.mono h.size)) ?_
            ⟨
              (fun Q a1 ww hS fr kn => ⟨trivial, fun K hK => wp_value (exec_ld rfl fr.1 (ld_ptr (HBX.out ww (ht2.bel hS ht2.size)).1)) (hK _ _ rfl (Below.refl _ _))⟩),
              (fun Q a1 ww hS fr kn => ⟨trivial, fun K hK => wp_value (exec_pnf rfl kn.1 rfl) (hK _ _ rfl (Below.refl _ _))⟩),
              (fun Q a1 ww hS fr kn => ⟨trivial, fun K hK => wp_value (exec_move rfl kn.1) (hK _ _ rfl (Below.refl _ _))⟩),
              (fun Q a1 ww hS fr kn => ⟨kn.1, fun K hK => wp_value (exec_ld rfl fr.1 (ld_ptr (HBX.out ww (ht2.bel hS ht2.size)).1)) (hK _ _ rfl (Below.refl _ _))⟩),
              (fun Q a1 ww hS fr kn => ⟨kn.1, fun K hK => wp_value (exec_nilc rfl kn.2.1) (hK _ _ rfl (Below.refl _ _))⟩),
              (fun Q a1 ww hS fr kn => ⟨kn.1, fun K hK => wp_value (exec_fn1 rfl kn.2.1) (hK _ _ rfl (Below.refl _ _))⟩),
              (fun Q a1 ww hS fr kn => ⟨kn.1, fun K hK => wp_value (exec_ld rfl kn.2.1 (ld_bool (nd_t (HND.out ww (ht2.bel hS ht2.size))))) (hK _ _ rfl (Below.refl _ _))⟩),
              (fun Q a1 ww hS fr kn => ⟨kn.1, fun K hK => wp_value (exec_move rfl kn.2.1) (hK _ _ rfl (Below.refl _ _))⟩),
              (fun Q a1 ww hS fr kn => ⟨kn.1, fun K hK => wp_value (exec_ld rfl fr.2.2.1 (ld_fn (HG3.out ww hS))) (hK _ _ rfl (Below.refl _ _))⟩),
              (fun Q a1 ww hS fr kn => ⟨kn.1, fun K hK => wp_value (look_st rfl isPfx (HBX.out ww (ht2.bel hS ht2.size)).2 fr.2.1) (hK _ _ rfl (Below.refl _ _))⟩),
              (fun Q a1 ww hS fr kn => ⟨kn.1, fun K hK => wp_value (exec_ld rfl fr.1 (ld_ptr (HBX.out ww (ht2.bel hS ht2.size)).1)) (hK _ _ rfl (Below.refl _ _))⟩),
              (fun Q a1 ww hS fr kn => ⟨kn.1, fun K hK => wp_value (exec_nilc rfl kn.2.1) (hK _ _ rfl (Below.refl _ _))⟩),
              (fun Q a1 ww hS fr kn => ⟨kn.1, fun K hK => wp_value (exec_fn2 rfl kn.2.1) (hK _ _ rfl (Below.refl _ _))⟩),
              (fun Q a1 ww hS fr kn => ⟨kn.1, fun K hK => wp_value (exec_ld rfl kn.2.1 (ld_int (nd_o (HND.out ww (ht2.bel hS ht2.size))))) (hK _ _ rfl (Below.refl _ _))⟩),
              trivial⟩ ?_)
        · intro iq vq u' u'' hh hb
          match iq with
          | 0 | 1 | 2 | 3 | 4 | 5 | 6 | 7 | 8 | 9 | 10 | 11 | 12 | 13 => exact hh

          | n + 14 => trivial
        intro vs w3 hS3 hk3
        have e10 : vs 10 = .bool false := hk3 2 (by decide)
        have e15 : vs 15 = .bool true := hk3 7 (by decide)
        have e16 : vs 16 = .func (.yield l) #[] #[] := hk3 8 (by decide)
        have e17 : vs 17 = .agg (SC 18 (prV v b (d : Int))) := hk3 9 (by decide)
        have e21 : vs 21 = .int .i64 ow := hk3 13 (by decide)
        clear hk3
        have ht3 := ht2.bel hS3 ht2.size
        have hn3 := bheap hS3 hn2 (heap_lt hn2)
        have hy := HY.out 0 ⟨v, b, (d : Int), ow⟩ w3 rfl (HJ.out 0 w2 w3 hj2 (hS3.mono hWs))
        refine spl_mk ?_
        simp only [putAll, Act.put, List.setIfInBounds_toArray, List.set_cons_zero, List.set_cons_succ, List.drop_succ_cons, List.drop_zero, e10, e15, e16, e17, e21]
        clear e10 e15 e16 e17 e21
        refine li_yield rfl rfl (by rfl) (args2 (by rfl) (by rfl)) hy ?_
        rintro e w5 (⟨rfl, hj5, htj⟩ | ⟨rfl, hj5, htj⟩)
        · refine ⟨_, rfl, all_in HQ.out _ _ _ rfl ?_⟩
          simp only [Act.put, List.setIfInBounds_toArray, List.set_cons_zero, List.set_cons_succ]
          go_wp2_with fail
          exact HMI.out _ _ _ _ _ _ _ _ _ _ _ _ _ _ _ _ _ _ _ _ _ _ _ _ _ _ _ _ _ _ _ _ _ _ _ _ _ _ _ _ _ _ _ _ false _ ⟨ht3.tr htj, (htj.block g3 (heap_lt hn3) (fun e => by have := (hT g3 e).1; omega)).trans hn3, (fun _ => by rw [hc0]; exact hj5), (fun e => by cases e)⟩
        · refine ⟨_, rfl, all_in HQ.out _ _ _ rfl ?_⟩
          simp only [Act.put, List.setIfInBounds_toArray, List.set_cons_zero, List.set_cons_succ]
          go_wp2_with fail
          exact HMI.out _ _ _ _ _ _ _ _ _ _ _ _ _ _ _ _ _ _ _ _ _ _ _ _ _ _ _ _ _ _ _ _ _ _ _ _ _ _ _ _ _ _ _ _ true _ ⟨ht3.tr htj, (htj.block g3 (heap_lt hn3) (fun e => by have := (hT g3 e).1; omega)).trans hn3, (fun e => by cases e), (fun _ => hj5)⟩
    · intro e a' w3 hme
      obtain ⟨rfl, s4, s5, s6, s7, s8, s9, s10, s11, s12, s13, s14, s15, s16, s17, s18, s19, s20, s21, s22, s23, s24, s26, s27, s28, s29, s30, s31, s32, s33, s34, s35, s36, s37, s38, s39, s40, s41, s42, s43, s44, s45, s46, s47, s48, r, rfl, ht3, hn3, hjf, hjt⟩ := HME.out e a' w3 hme
      clear hme HMI HME
      clear ht2 hj2 hn2 HG3 hWs
      cases r
      · have hj3 := hjf rfl
        clear hjf hjt
        have hWs := ht3.size
        have cbn := (HBX.out w3 ht3).1
        have qk := HND.out w3 ht3
        go_wp2_with (first | (refine wl_value rfl (exec_fn0 rfl (by rfl)) ?_) | (refine wl_value rfl (exec_ldB rfl qk (by rfl)) ?_))
        refine wp_loop_ghost_k (fun gn a z => ∃ (i : Nat) (ds : List Nat) (s4 s5 s6 s7 s8 s9 s10 s11 s12 s13 s14 s15 s16 s17 s18 s19 s20 s21 s22 s23 s24 s25 s26 s27 s28 s31 s32 s33 s34 s35 s36 s37 s38 s39 s40 s41 s42 s43 s44 s45 s46 s47 s48 : Value), gn = 2 - i ∧ i ≤ 2 ∧ a = { tmps := #[.func (.yield l) #[] #[], .pointer (some ⟨bn, 0, none⟩), .pointer (some ⟨bp, 0, none⟩), .pointer (some ⟨g3, 0, none⟩), s4, s5, s6, s7, s8, s9, s10, s11, s12, s13, s14, s15, s16, s17, s18, s19, s20, s21, s22, s23, s24, s25, s26, s27, s28, .agg (SC 2 (brV pl pr)), .int .i64 (i : Int), s31, s32, s33, s34, s35, s36, s37, s38, s39, s40, s41, s42, s43, s44, s45, s46, s47, s48], defers := ds.map mark } ∧ Hid (J (cnt i) z ∧ Touch T W z ∧ z.heap[g3]? = some (.cells #[.func (.yield l) #[] #[]] 62 (0, 0)) ∧ (∀ D ∈ ds, W.heap.size ≤ D ∧ g3 < D ∧ z.heap[D]? = some (.deferred (some []))) ∧ ds.Nodup)) 2 ?start ?round
        case start => exact ⟨0, [], _, _, _, _, _, _, _, _, _, _, _, _, _, _, _, _, _, _, _, _, _, _, _, _, _, _, _, _, _, _, _, _, _, _, _, _, _, _, _, _, _, _, _, rfl, by omega, rfl, Hid.mk ⟨hj3, ht3, hn3, (fun D hD => by cases hD), List.nodup_nil⟩⟩
        case round =>
          rintro gn a z ⟨i, ds, s4, s5, s6, s7, s8, s9, s10, s11, s12, s13, s14, s15, s16, s17, s18, s19, s20, s21, s22, s23, s24, s25, s26, s27, s28, s31, s32, s33, s34, s35, s36, s37, s38, s39, s40, s41, s42, s43, s44, s45, s46, s47, s48, hgn, hi2, rfl, HS⟩ Jk Kk hJk hKk
          clear ht3 hj3 hn3 hWs cbn qk
          obtain ⟨hj, ht, hn, hds, hnd⟩ := HS.out
          clear HS
          have hWs := ht.size
          by_cases hlt : i < 2
          · have hki : (i : Int) < 2 := by omega
            obtain ⟨pc, hpc⟩ : ∃ q, (if i = 0 then pl else pr) = q := ⟨_, rfl⟩
            have htr := HTR.out z ht i
            rw [hpc] at htr
            have HIB : Hid (∀ {a : Act} {o : Oper} {w : World} {x y : Operand}, o.op = .index 56 x y → a.eval x = .agg (SC 2 (brV pl pr)) → a.eval y = .int .i64 (i : Int) → (execOp a.eval o).run Try.prog w = .ok (.value (.pointer pc)) w) := Hid.mk (fun ho hx hy => by rw [← hpc]; exact exec_ixB ho hx hy hlt)
            cases hTc : (Tr.node lt rt th ow).br i with
            | nil =>
              rw [hTc] at htr
              obtain rfl : pc = none := htr
              have hcn : cnt (i + 1) = cnt i := by rw [HNX.out i hlt, HC0.out i hTc]; rfl
              have HF : Hid (J (cnt (i + 1)) z) := Hid.mk (by rw [hcn]; exact hj)
              clear hcn hj hpc
              go_wp2_with (refine wl_value rfl (HIB.out rfl (by rfl) (by rfl)) ?_)
              exact Handed.intro (2 - (i + 1)) (by omega) (hJk _ _ _ ⟨i + 1, ds, _, _, _, _, _, _, _, _, _, _, _, _, _, _, _, _, _, _, _, _, _, _, _, _, _, _, _, _, _, _, _, _, _, _, _, _, _, _, _, _, _, _, _, rfl, by omega, rfl, Hid.mk ⟨HF.out, ht, hn, hds, hnd⟩⟩)
            | node tl tr tth tow =>
              have hd1 : d < 128 := HDN.out i hlt (by rw [hTc]; intro e; cases e)
              obtain ⟨bk2, hpk⟩ : ∃ q, pc = some ⟨q, 0, none⟩ := by
                rw [hTc] at htr
                obtain ⟨q, _, _, hq, _⟩ := htr
                exact ⟨q, hq⟩
              subst hpk
              have qp := (HBX.out z ht).2
              clear hpc hTc
              go_wp2_with (first | (refine wl_value rfl (HIB.out rfl (by rfl) (by rfl)) ?_) | (refine wl_value rfl (look_st rfl isPfx qp (by rfl)) ?_))
              refine (longer_run v b d i z hb hd1 hlt).mono ?_
              rintro e z2 ⟨rfl, hBz2⟩
              go_wp2_with fail
              refine (allN_run _ v (longB b d i) ((d : Int) + 1) z2).mono ?_
              rintro e wl ⟨bn2, bp2, rfl, hbn2, hbp2, nbn, qbp, hBl⟩
              have hBw : Below z.heap.size z wl := hBz2.trans (hBl.mono hBz2.size)
              have htl : Touch T W wl := ht.bel hBw hWs
              have hz2 := hBz2.size
              have hwl := hBw.size
              have hjl : J (cnt i + 0) wl := HJ.out _ _ _ hj (hBw.mono hWs)
              have hnl := bheap hBw hn (heap_lt hn)
              have hdl : ∀ D ∈ ds, W.heap.size ≤ D ∧ g3 < D ∧ D < wl.heap.size ∧ wl.heap[D]? = some (.deferred (some [])) := fun D hD => ⟨(hds D hD).1, (hds D hD).2.1, Nat.lt_of_lt_of_le (heap_lt (hds D hD).2.2) hwl, bheap hBw (hds D hD).2.2 (heap_lt (hds D hD).2.2)⟩
              have hTG : ∀ k, T k → k < W.heap.size := fun k hk => (hT k hk).1
              have HG := HIH.out i hlt _ wl bn2 bp2 (fun k => k = bn2 ∨ k = bp2 ∨ (S k ∧ k < wl.heap.size)) (fun k => S k ∧ k < wl.heap.size) (by omega) nbn (by rw [show ((d + 1 : Nat) : Int) = (d : Int) + 1 by omega]; exact qbp) ((htr.below hBw).mono (fun k hk hs => ⟨hs, hk⟩)) (fun k hk => .inr (.inr hk)) (.inl rfl) (.inr (.inl rfl))
              clear hBz2 hBl hj hn hds htr qp
              go_wp2_with fail
              refine wp_rangeT (by rfl) enterAllN1 HG (Below.refl _ _) (fun x => rfl) ?hga T ?hT2 (fun j X => J (cnt i + j) X) (fun c X => c = .ret ∧ Jx X) ?hJ2 ?hJx2 hjl ?rnd ?done ?stop
              case hga =>
                rintro k (rfl | rfl | hk)
                · exact heap_lt nbn
                · exact qbp.lt
                · exact hk.2
              case hT2 =>
                intro k hk
                have h1 := hTG k hk
                refine ⟨by omega, ?_⟩
                rintro (e | e | e)
                · omega
                · omega
                · exact (hT k hk).2 (hSA k e.1)
              case hJ2 =>
                intro j X Y hX hb
                exact HJ.out _ _ _ hX (hb.mono (by omega))
              case hJx2 =>
                rintro c X Y ⟨hc, hX⟩ hb
                exact ⟨hc, HJX.out _ _ hX (hb.mono (by omega))⟩
              case rnd =>
                intro lq j x X hlq hlX hx htX hjX
                simp only [setPs, encR, List.zip_toArray, List.zip_cons_cons, List.zip_nil_left]
                refine wpIn_seq (regIn (fun ⟨_, _, hq⟩ => hq) rfl ?_)
                go_wp2_with (refine wl_alO rfl rfl zeroPfx ?_; intro gf X1 hgf qf hBf; refine Hid.out ?_)
                refine Hid.mk ?_
                go_wp2_with (refine st_stO rfl rfl isPfx (prV_one _ _ _) qf (by rfl) (by rfl) ?_; intro X3 qf3 of3; refine Hid.out ?_)
                refine Hid.mk ?_
                go_wp2_with fail
                refine regIn (fun ⟨_, _, hq⟩ => hq) rfl ?_
                go_wp2_with fail
                refine ⟨hBf.trans (of3.below hgf), fun X2 hX2 htX2 hjX2 => ?_⟩
                have q2 : SAt X2 gf 37 18 (prV x.v x.b x.n) := qf3.tou hX2 (by omega)
                have n2 := (htX2.block g3 (heap_lt hnl) (fun e => by have := hTG g3 e; omega)).trans hnl
                have c2 := (one_cell n2).1
                have hy := HY.out (cnt i + j) x X2 (HIX.out i hlt j x hx) hjX2
                clear qf3 of3 qf hBf n2
                refine wpIn_block (wpIn_seq (regIn_at 3 (fun ⟨_, _, hq⟩ => hq) rfl ?_))
                simp only [List.take_succ_cons, List.take_zero, List.drop_succ_cons, List.drop_zero]
                go_wp2_with (refine wl_value rfl (look_st rfl isPfx q2 (by rfl)) ?_)
                refine spl_mk ?_
                refine li_yield rfl rfl (by rfl) (args2 (by rfl) (by rfl)) hy ?_
                rintro e Y (⟨rfl, hjY, htY⟩ | ⟨rfl, hjY, htY⟩)
                · refine ⟨_, rfl, all_in (fun ⟨_, _, hq⟩ => hq) _ _ _ rfl ?_⟩
                  simp only [Act.put, List.setIfInBounds_toArray, List.set_cons_zero, List.set_cons_succ]
                  go_wp2_with fail
                  exact wpIn_cond_false (by rfl) (wpIn_skip ⟨hjY, htY⟩)
                · refine ⟨_, rfl, all_in (fun ⟨_, _, hq⟩ => hq) _ _ _ rfl ?_⟩
                  simp only [Act.put, List.setIfInBounds_toArray, List.set_cons_zero, List.set_cons_succ]
                  go_wp2_with fail
                  exact wpIn_cond_true (by rfl) (wpIn_ret ⟨⟨rfl, hjY⟩, htY⟩)
              case done =>
                intro D Y hD hjY htY hKD
                have HF : Hid (J (cnt (i + 1)) Y) := Hid.mk (by rw [HNX.out i hlt]; exact hjY)
                have HFD : Hid ((∀ E ∈ D :: ds, W.heap.size ≤ E ∧ g3 < E ∧ Y.heap[E]? = some (.deferred (some []))) ∧ (D :: ds).Nodup) := Hid.mk ⟨fun E hE => by
                  rcases List.mem_cons.1 hE with rfl | hE
                  · exact ⟨by omega, by have := heap_lt hnl; omega, hKD⟩
                  · exact ⟨(hdl E hE).1, (hdl E hE).2.1, (htY.block E (hdl E hE).2.2.1 (fun e => by have := hTG E e; have := (hdl E hE).1; omega)).trans (hdl E hE).2.2.2⟩, List.nodup_cons.2 ⟨fun hE => by have := (hdl D hE).2.2.1; omega, hnd⟩⟩
                have HFT : Hid (Touch T W Y) := Hid.mk (htl.tr htY)
                have HFN : Hid (Y.heap[g3]? = some (.cells #[.func (.yield l) #[] #[]] 62 (0, 0))) := Hid.mk ((htY.block g3 (heap_lt hnl) (fun e => by have := hTG g3 e; omega)).trans hnl)
                clear hjY htY hKD hdl hjl hnl nbn qbp htl
                go_wp2_with fail
                exact Handed.intro (2 - (i + 1)) (by omega) (hJk _ _ _ ⟨i + 1, D :: ds, _, _, _, _, _, _, _, _, _, _, _, _, _, _, _, _, _, _, _, _, _, _, _, _, _, _, _, _, _, _, _, _, _, _, _, _, _, _, _, _, _, _, _, rfl, by omega, rfl, Hid.mk ⟨HF.out, HFT.out, HFN.out, HFD.out.1, HFD.out.2⟩⟩)
              case stop =>
                rintro D c Y hD ⟨rfl, hjY⟩ htY hKD
                have htWY : Touch T W Y := htl.tr htY
                go_wp2_with fail
                refine postM_ret (D :: ds) rfl (fun E hE => ?_) (List.nodup_cons.2 ⟨fun hE => by have := (hdl D hE).2.2.1; omega, hnd⟩) (fun w' ht' hs' => ?_)
                · rcases List.mem_cons.1 hE with rfl | hE
                  · exact hKD
                  · exact (htY.block E (hdl E hE).2.2.1 (fun e => by have := hTG E e; have := (hdl E hE).1; omega)).trans (hdl E hE).2.2.2
                · have hb' : Below W.heap.size Y w' := tou_below ht' (fun k hk => by
                    rcases List.mem_cons.1 hk with rfl | hk
                    · omega
                    · exact (hdl k hk).1) htWY.size
                  exact ⟨_, results_none rfl _ _ _, ⟨_, rfl⟩, htWY.bel hb' (Nat.le_refl _), .inr (HJX.out Y w' hjY hb')⟩
          · obtain rfl : i = 2 := by omega
            rw [hc2] at hj
            go_wp2_with fail
            refine postM_end ds rfl (fun E hE => (hds E hE).2.2) hnd (fun w' ht' hs' => ?_)
            have hb' : Below W.heap.size z w' := tou_below ht' (fun k hk => (hds k hk).1) hWs
            exact ⟨_, results_none rfl _ _ _, ⟨_, rfl⟩, ht.bel hb' (Nat.le_refl _), .inl (by have h9 := HJ.out _ z w' hj hb'; simpa using h9)⟩
      · have hj3 := hjt rfl
        go_wp2_with fail
        refine postM_ret [] rfl (fun E hE => by cases hE) (by simp) (fun w' ht' hs' => ?_)
        have hb' : Below W.heap.size w3 w' := tou_below ht' (fun k hk => by cases hk) ht3.size
        exact ⟨_, results_none rfl _ _ _, ⟨_, rfl⟩, ht3.bel hb' (Nat.le_refl _), .inr (HJX.out w3 w' hj3 hb')⟩
end Go.Proofs.Ytcpnleanjclfjaa
/-
  Own text. The code's All: what it gives.
-/
namespace Go.Proofs.Ytcpnleanjclfjaa
open Go.RowKit Go.Proofs
set_option maxRecDepth 100000
section
variable {a : Act} {o : Oper} {w : World} {x y : Operand}
theorem zeroB2 (w : World) : (zeroValue 56).run Try.prog w = .ok (.agg (SC 2 (brV none none))) w := by kernel_rfl
theorem brV_one (p q : Option Addr) (j : Nat) : (brV p q j).oneCell' = true := rfl
theorem exec_ldR (ho : o.op = .load 56 x) {g : Nat} {p4 p6 : Option Addr} {m : Int} (hg : SAt w g 58 3 (tbV p4 p6 m)) (hx : a.eval x = .pointer (some ⟨g, 0, none⟩)) : (execOp a.eval o).run Try.prog w = .ok (.value (.agg (SC 2 (brV p4 p6)))) w := by
  have h := run_loadAt_addr w ⟨g, 0, none⟩ 56 (SC 2 (brV p4 p6)).toList _ (fun j u hv => by
    have hj : j < 2 := by have := (List.getElem?_eq_some_iff.1 hv).1; rwa [Array.length_toList, SC_size] at this
    rw [Addr.add_lit, Nat.zero_add, hg.at j (by omega)]
    rw [Array.getElem?_toList, SC_get 2 _ j hj] at hv
    rw [← hv]
    match j, hj with
    | 0, _ => rfl
    | 1, _ => rfl) Try.underlying56 rfl (by rw [Array.length_toList, SC_size]; kernel_rfl)
  exact exec_ld ho hx h
theorem run_ad1 (u : Bool) (w : World) : (Instr.build 35 #[(0, .bool u)]).run Try.prog w = .ok (.agg (SC 17 (adV u (fun _ => 0)))) w := by kernel_rfl
theorem exec_ad1 (ho : o.op = .build 35 #[(0, x)]) {u : Bool} (hx : a.eval x = .bool u) : (execOp a.eval o).run Try.prog w = .ok (.value (.agg (SC 17 (adV u (fun _ => 0))))) w := by
  unfold execOp
  simp only [ho]
  simp [hx, run_ad1]
theorem run_px3 (u : Bool) (w : World) : (Instr.build 37 #[(0, .agg (SC 17 (adV u (fun _ => 0))))]).run Try.prog w = .ok (.agg (SC 18 (prV u (fun _ => 0) 0))) w := by kernel_rfl
theorem exec_px3 (ho : o.op = .build 37 #[(0, x)]) {u : Bool} (hx : a.eval x = .agg (SC 17 (adV u (fun _ => 0)))) : (execOp a.eval o).run Try.prog w = .ok (.value (.agg (SC 18 (prV u (fun _ => 0) 0)))) w := by
  unfold execOp
  simp only [ho]
  simp [hx, run_px3]
end
theorem enterAll1 (args : Array Value) (w : World) : (callFunc 25 args).run Try.prog w = .ok (.enter 25 args) w := by kernel_rfl
theorem all_run {w : World} {t : Nat} {m : Int} {p4 p6 : Option Addr} (h : SAt w t 58 3 (tbV p4 p6 m)) : Calls Try.prog 10 #[.pointer (some ⟨t, 0, none⟩)] w fun e w' => ∃ bs, e = .returned (.func (.func 25) #[] #[.pointer (some ⟨bs, 0, none⟩)]) ∧ w.heap.size ≤ bs ∧ SAt w' bs 56 2 (brV p4 p6) ∧ Below w.heap.size w w' := by
  go_enter Try.func10, Try.ntmps10
  go_wp2_with (refine wl_alO rfl rfl zeroB2 ?_; intro bs w1 hg q1 hB1; refine Hid.out ?_)
  refine Hid.mk ?_
  have qt := SAt.kept h hB1
  go_wp2_with (first | (refine wl_value rfl (exec_ft0 rfl (by rfl)) ?_) | (refine wl_value rfl (exec_ldR rfl qt (by rfl)) ?_) | (refine st_stO rfl rfl isArr2 (brV_one _ _) q1 (by rfl) (by rfl) ?_; intro w2 q2 o2; refine Hid.out ?_))
  refine Hid.mk ?_
  go_wp2_with fail
  go_ret
  exact ⟨bs, rfl, hg, q2, hB1.trans (o2.below hg)⟩
theorem all_none (w : World) : Calls Try.prog 10 #[.pointer none] w fun e w' => ∃ bs, e = .returned (.func (.func 25) #[] #[.pointer (some ⟨bs, 0, none⟩)]) ∧ w.heap.size ≤ bs ∧ SAt w' bs 56 2 (brV none none) ∧ Below w.heap.size w w' := by
  go_enter Try.func10, Try.ntmps10
  go_wp2_with (refine wl_alO rfl rfl zeroB2 ?_; intro bs w1 hg q1 hB1; refine Hid.out ?_)
  refine Hid.mk ?_
  go_wp2_with fail
  go_ret
  exact ⟨bs, rfl, hg, q1, hB1⟩
theorem zeroByts : Byts 16 (fun _ => 0) := fun _ _ => ⟨Int.le_refl 0, (by decide : (0 : Int) < 256)⟩
def vB (i : Nat) : Bool := decide ((i : Int) = 1)
def rowsA (T4 T6 : Tr) : List Rw := rowsT false 0 (fun _ => 0) T4 ++ rowsT true 0 (fun _ => 0) T6
set_option maxHeartbeats 32000000 in
theorem all_gives {W0 : World} {bs : Nat} {p4 p6 : Option Addr} {T4 T6 : Tr} {A S : Nat → Prop} (hbs : SAt W0 bs 56 2 (brV p4 p6)) (h4 : IsTr S W0 p4 T4) (h6 : IsTr S W0 p6 T6) (hf4 : Fit 32 T4) (hf6 : Fit 128 T6) (hSA : ∀ k, S k → A k) (hA1 : A bs) :
    Gives Try.prog 25 #[.pointer (some ⟨bs, 0, none⟩)] encR (rowsA T4 T6) A W0 := by
  intro l T J Jx W hW hT hJ hJx hY h0
  rw [show (#[Value.func (.yield l) #[] #[]] ++ #[Value.pointer (some ⟨bs, 0, none⟩)]) = #[Value.func (.yield l) #[] #[], Value.pointer (some ⟨bs, 0, none⟩)] from rfl]
  have hk : ∀ X, Touch T W X → ∀ k, A k → k < W0.heap.size → X.heap[k]? = W0.heap[k]? := fun X hx k hk h1 => (hx.block k (Nat.lt_of_lt_of_le h1 hW.size) (fun e => (hT k e).2 hk)).trans (hW.block k h1)
  have HBX : Hid (∀ X, Touch T W X → SAt X bs 56 2 (brV p4 p6)) := Hid.mk (fun X hx => hbs.block (hk X hx bs hA1 hbs.lt))
  obtain ⟨Tc, hTc⟩ : ∃ Tc : Nat → Tr, ∀ i, Tc i = if i = 0 then T4 else T6 := ⟨_, fun _ => rfl⟩
  have HTR : Hid (∀ X, Touch T W X → ∀ i, IsTr S X (if i = 0 then p4 else p6) (Tc i)) := Hid.mk (fun X hx i => IsTr.kept (fun k V hSk hsk => ⟨hSk, hsk.block (hk X hx k (hSA k hSk) hsk.lt)⟩) (by
    rw [hTc]
    by_cases e : i = 0
    · rw [if_pos e, if_pos e]; exact h4
    · rw [if_neg e, if_neg e]; exact h6))
  have HFT : Hid (∀ i, Fit (128 - 0) (Tc i)) := Hid.mk (fun i => by
    rw [hTc]
    split
    · exact fit_mono (by omega) hf4
    · exact hf6)
  obtain ⟨C, hC⟩ : ∃ C : Nat → List Rw, ∀ i, C i = rowsT (vB i) 0 (fun _ => 0) (Tc i) := ⟨_, fun _ => rfl⟩
  obtain ⟨own, hown⟩ : ∃ own : List Rw, own = [] := ⟨_, rfl⟩
  have hxs : rowsA T4 T6 = own ++ (C 0 ++ C 1) := by rw [hC, hC, hown, hTc, hTc]; rfl
  rw [hxs] at hY ⊢
  obtain ⟨cnt, hcnt⟩ : ∃ cnt : Nat → Nat, ∀ i, cnt i = cntF own.length (C 0).length (C 1).length i := ⟨_, fun _ => rfl⟩
  have HIX : Hid (∀ i, i < 2 → ∀ j x, (C i)[j]? = some x → (own ++ (C 0 ++ C 1))[cnt i + j]? = some x) := Hid.mk (fun i hi j x hx => by
    have := rows_at own (C 0) (C 1) C rfl rfl i hi j x hx
    rw [hcnt]
    unfold cntF
    match i, hi with
    | 0, _ => exact this
    | 1, _ => exact this)
  have HNX : Hid (∀ i, i < 2 → cnt (i + 1) = cnt i + (C i).length) := Hid.mk (fun i hi => by
    rw [hcnt, hcnt]
    unfold cntF
    match i, hi with
    | 0, _ => rfl
    | 1, _ => simp; omega)
  have hc0 : cnt 0 = 0 := by rw [hcnt, hown]; rfl
  have hc2 : cnt 2 = (own ++ (C 0 ++ C 1)).length := by rw [hcnt]; simp [cntF]
  have HJ := Hid.mk hJ
  have HJX := Hid.mk hJx
  have HY := Hid.mk hY
  have HCR := Hid.mk hC
  have hA0 := (Below.refl W.heap.size W).alloc (Nat.le_refl _) (.cells #[.func (.yield l) #[] #[]] 62 (0, 0))
  have hN0 := heap_alloc_new W (.cells #[.func (.yield l) #[] #[]] 62 (0, 0))
  clear hY hJ hJx hbs h4 h6 hk hf4 hf6 hxs hC hcnt hTc
  refine calls_of_wpM Try.func25 rfl ?_
  simp only [Try.ntmps25, List.size_toArray, List.length_cons, List.length_nil, Nat.reduceAdd, Nat.reduceSub, Array.replicate_succ, Array.replicate_zero, List.push_toArray, List.append_toArray, List.nil_append, List.cons_append]
  go_upto_region 1 with fail
  refine wp_gen (fun u => Touch T W u ∧ J 0 u ∧ u.heap[W.heap.size]? = some (.cells #[.func (.yield l) #[] #[]] 62 (0, 0))) ⟨Below.tou hA0 (Nat.le_refl _), HJ.out 0 _ _ h0 hA0, hN0⟩ ?_
  clear hA0 hN0 h0
  obtain ⟨g3, hg3⟩ : ∃ g, W.heap.size = g := ⟨_, rfl⟩
  simp only [hg3]
  rintro w3 ⟨ht3, hj3, hn3⟩
  have hWs := ht3.size
  have qk := HBX.out w3 ht3
  go_wp2_with (refine wl_value rfl (look_st rfl isArr2 qk (by rfl)) ?_)
  refine wp_loop_ghost_k (fun gn a z => ∃ (i : Nat) (ds : List Nat) (s3 s4 s5 s6 s9 s10 s11 s12 s13 s14 s15 s16 s17 s18 s19 s20 s21 s22 s23 s24 s25 : Value), gn = 2 - i ∧ i ≤ 2 ∧ a = { tmps := #[.func (.yield l) #[] #[], .pointer (some ⟨bs, 0, none⟩), .pointer (some ⟨g3, 0, none⟩), s3, s4, s5, s6, .agg (SC 2 (brV p4 p6)), .int .i64 (i : Int), s9, s10, s11, s12, s13, s14, s15, s16, s17, s18, s19, s20, s21, s22, s23, s24, s25], defers := ds.map mark } ∧ Hid (J (cnt i) z ∧ Touch T W z ∧ z.heap[g3]? = some (.cells #[.func (.yield l) #[] #[]] 62 (0, 0)) ∧ (∀ D ∈ ds, W.heap.size ≤ D ∧ g3 < D ∧ z.heap[D]? = some (.deferred (some []))) ∧ ds.Nodup)) 2 ?start ?round
  case start => exact ⟨0, [], _, _, _, _, _, _, _, _, _, _, _, _, _, _, _, _, _, _, _, _, _, rfl, by omega, rfl, Hid.mk ⟨by rw [hc0]; exact hj3, ht3, hn3, (fun D hD => by cases hD), List.nodup_nil⟩⟩
  case round =>
    rintro gn a z ⟨i, ds, s3, s4, s5, s6, s9, s10, s11, s12, s13, s14, s15, s16, s17, s18, s19, s20, s21, s22, s23, s24, s25, hgn, hi2, rfl, HS⟩ Jk Kk hJk hKk
    clear ht3 hj3 hn3 hWs qk
    obtain ⟨hj, ht, hn, hds, hnd⟩ := HS.out
    clear HS
    have hWs := ht.size
    by_cases hlt : i < 2
    · have hki : (i : Int) < 2 := by omega
      obtain ⟨pc, hpc⟩ : ∃ q, (if i = 0 then p4 else p6) = q := ⟨_, rfl⟩
      have htr := HTR.out z ht i
      rw [hpc] at htr
      have HIB : Hid (∀ {a : Act} {o : Oper} {w : World} {x y : Operand}, o.op = .index 56 x y → a.eval x = .agg (SC 2 (brV p4 p6)) → a.eval y = .int .i64 (i : Int) → (execOp a.eval o).run Try.prog w = .ok (.value (.pointer pc)) w) := Hid.mk (fun ho hx hy => by rw [← hpc]; exact exec_ixB ho hx hy hlt)
      have hdv : decide ((i : Int) = 1) = vB i := rfl
      go_wp2_with (first | (refine wl_value rfl (HIB.out rfl (by rfl) (by rfl)) ?_) | (refine wl_value rfl (exec_eqI rfl (by rfl) (by rfl) hdv) ?_) | (refine wl_value rfl (exec_ad1 rfl (by rfl)) ?_) | (refine wl_value rfl (exec_px3 rfl (by rfl)) ?_))
      refine (allN_run _ (vB i) (fun _ => 0) 0 z).mono ?_
      rintro e wl ⟨bn2, bp2, rfl, hbn2, hbp2, nbn, qbp, hBl⟩
      have hBw : Below z.heap.size z wl := hBl
      have htl : Touch T W wl := ht.bel hBw hWs
      have hwl := hBw.size
      have hjl : J (cnt i + 0) wl := HJ.out _ _ _ hj (hBw.mono hWs)
      have hnl := bheap hBw hn (heap_lt hn)
      have hdl : ∀ D ∈ ds, W.heap.size ≤ D ∧ g3 < D ∧ D < wl.heap.size ∧ wl.heap[D]? = some (.deferred (some [])) := fun D hD => ⟨(hds D hD).1, (hds D hD).2.1, Nat.lt_of_lt_of_le (heap_lt (hds D hD).2.2) hwl, bheap hBw (hds D hD).2.2 (heap_lt (hds D hD).2.2)⟩
      have hTG : ∀ k, T k → k < W.heap.size := fun k hk => (hT k hk).1
      have HG := allN_gives (vB i) (Tc i) 0 (fun _ => 0) _ wl bn2 bp2 (fun k => k = bn2 ∨ k = bp2 ∨ (S k ∧ k < wl.heap.size)) (fun k => S k ∧ k < wl.heap.size) zeroByts (by omega) (HFT.out i) nbn (by rw [show ((0 : Nat) : Int) = 0 from rfl]; exact qbp) ((htr.below hBw).mono (fun k hk hs => ⟨hs, hk⟩)) (fun k hk => .inr (.inr hk)) (.inl rfl) (.inr (.inl rfl))
      rw [← HCR.out i] at HG
      clear hBl hj hn hds htr hpc
      go_wp2_with fail
      refine wp_rangeT (by rfl) enterAllN1 HG (Below.refl _ _) (fun x => rfl) ?hga T ?hT2 (fun j X => J (cnt i + j) X) (fun c X => c = .ret ∧ Jx X) ?hJ2 ?hJx2 hjl ?rnd ?done ?stop
      case hga =>
        rintro k (rfl | rfl | hk)
        · exact heap_lt nbn
        · exact qbp.lt
        · exact hk.2
      case hT2 =>
        intro k hk
        have h1 := hTG k hk
        refine ⟨by omega, ?_⟩
        rintro (e | e | e)
        · omega
        · omega
        · exact (hT k hk).2 (hSA k e.1)
      case hJ2 =>
        intro j X Y hX hb
        exact HJ.out _ _ _ hX (hb.mono (by omega))
      case hJx2 =>
        rintro c X Y ⟨hc, hX⟩ hb
        exact ⟨hc, HJX.out _ _ hX (hb.mono (by omega))⟩
      case rnd =>
        intro lq j x X hlq hlX hx htX hjX
        simp only [setPs, encR, List.zip_toArray, List.zip_cons_cons, List.zip_nil_left]
        refine wpIn_seq (regIn (fun ⟨_, _, hq⟩ => hq) rfl ?_)
        go_wp2_with (refine wl_alO rfl rfl zeroPfx ?_; intro gf X1 hgf qf hBf; refine Hid.out ?_)
        refine Hid.mk ?_
        go_wp2_with (refine st_stO rfl rfl isPfx (prV_one _ _ _) qf (by rfl) (by rfl) ?_; intro X3 qf3 of3; refine Hid.out ?_)
        refine Hid.mk ?_
        go_wp2_with fail
        refine regIn (fun ⟨_, _, hq⟩ => hq) rfl ?_
        go_wp2_with fail
        refine ⟨hBf.trans (of3.below hgf), fun X2 hX2 htX2 hjX2 => ?_⟩
        have q2 : SAt X2 gf 37 18 (prV x.v x.b x.n) := qf3.tou hX2 (by omega)
        have n2 := (htX2.block g3 (heap_lt hnl) (fun e => by have := hTG g3 e; omega)).trans hnl
        have c2 := (one_cell n2).1
        have hy := HY.out (cnt i + j) x X2 (HIX.out i hlt j x hx) hjX2
        clear qf3 of3 qf hBf n2
        refine wpIn_block (wpIn_seq (regIn_at 3 (fun ⟨_, _, hq⟩ => hq) rfl ?_))
        simp only [List.take_succ_cons, List.take_zero, List.drop_succ_cons, List.drop_zero]
        go_wp2_with (refine wl_value rfl (look_st rfl isPfx q2 (by rfl)) ?_)
        refine spl_mk ?_
        refine li_yield rfl rfl (by rfl) (args2 (by rfl) (by rfl)) hy ?_
        rintro e Y (⟨rfl, hjY, htY⟩ | ⟨rfl, hjY, htY⟩)
        · refine ⟨_, rfl, all_in (fun ⟨_, _, hq⟩ => hq) _ _ _ rfl ?_⟩
          simp only [Act.put, List.setIfInBounds_toArray, List.set_cons_zero, List.set_cons_succ]
          go_wp2_with fail
          exact wpIn_cond_false (by rfl) (wpIn_skip ⟨hjY, htY⟩)
        · refine ⟨_, rfl, all_in (fun ⟨_, _, hq⟩ => hq) _ _ _ rfl ?_⟩
          simp only [Act.put, List.setIfInBounds_toArray, List.set_cons_zero, List.set_cons_succ]
          go_wp2_with fail
          exact wpIn_cond_true (by rfl) (wpIn_ret ⟨⟨rfl, hjY⟩, htY⟩)
      case done =>
        intro D Y hD hjY htY hKD
        have HF : Hid (J (cnt (i + 1)) Y) := Hid.mk (by rw [HNX.out i hlt]; exact hjY)
        have HFD : Hid ((∀ E ∈ D :: ds, W.heap.size ≤ E ∧ g3 < E ∧ Y.heap[E]? = some (.deferred (some []))) ∧ (D :: ds).Nodup) := Hid.mk ⟨fun E hE => by
          rcases List.mem_cons.1 hE with rfl | hE
          · exact ⟨by omega, by have := heap_lt hnl; omega, hKD⟩
          · exact ⟨(hdl E hE).1, (hdl E hE).2.1, (htY.block E (hdl E hE).2.2.1 (fun e => by have := hTG E e; have := (hdl E hE).1; omega)).trans (hdl E hE).2.2.2⟩, List.nodup_cons.2 ⟨fun hE => by have := (hdl D hE).2.2.1; omega, hnd⟩⟩
        have HFT : Hid (Touch T W Y) := Hid.mk (htl.tr htY)
        have HFN : Hid (Y.heap[g3]? = some (.cells #[.func (.yield l) #[] #[]] 62 (0, 0))) := Hid.mk ((htY.block g3 (heap_lt hnl) (fun e => by have := hTG g3 e; omega)).trans hnl)
        clear hjY htY hKD hdl hjl hnl nbn qbp htl
        go_wp2_with fail
        exact Handed.intro (2 - (i + 1)) (by omega) (hJk _ _ _ ⟨i + 1, D :: ds, _, _, _, _, _, _, _, _, _, _, _, _, _, _, _, _, _, _, _, _, _, rfl, by omega, rfl, Hid.mk ⟨HF.out, HFT.out, HFN.out, HFD.out.1, HFD.out.2⟩⟩)
      case stop =>
        rintro D c Y hD ⟨rfl, hjY⟩ htY hKD
        have htWY : Touch T W Y := htl.tr htY
        go_wp2_with fail
        refine postM_ret (D :: ds) rfl (fun E hE => ?_) (List.nodup_cons.2 ⟨fun hE => by have := (hdl D hE).2.2.1; omega, hnd⟩) (fun w' ht' hs' => ?_)
        · rcases List.mem_cons.1 hE with rfl | hE
          · exact hKD
          · exact (htY.block E (hdl E hE).2.2.1 (fun e => by have := hTG E e; have := (hdl E hE).1; omega)).trans (hdl E hE).2.2.2
        · have hb' : Below W.heap.size Y w' := tou_below ht' (fun k hk => by
            rcases List.mem_cons.1 hk with rfl | hk
            · omega
            · exact (hdl k hk).1) htWY.size
          exact ⟨_, results_none rfl _ _ _, ⟨_, rfl⟩, htWY.bel hb' (Nat.le_refl _), .inr (HJX.out Y w' hjY hb')⟩
    · obtain rfl : i = 2 := by omega
      rw [hc2] at hj
      go_wp2_with fail
      refine postM_end ds rfl (fun E hE => (hds E hE).2.2) hnd (fun w' ht' hs' => ?_)
      have hb' : Below W.heap.size z w' := tou_below ht' (fun k hk => (hds k hk).1) hWs
      exact ⟨_, results_none rfl _ _ _, ⟨_, rfl⟩, ht.bel hb' (Nat.le_refl _), .inl (by have h9 := HJ.out _ z w' hj hb'; simpa using h9)⟩
end Go.Proofs.Ytcpnleanjclfjaa
/-
  Own text. The trie and the rows in order: what stands for what; Put and Drop.
-/
namespace Go.Proofs.Ytcpnleanjclfjaa
open Go.RowKit Go.Proofs
set_option maxRecDepth 100000
/-- A row is of this prefix. -/
def Same (r : Rw) (v : Bool) (b : Nat → Int) (n : Int) : Prop := r.v = v ∧ r.n = n ∧ ∀ i : Nat, (i : Int) < n → bitF r.b i = bitF b i
theorem same_eqr {r : Rw} {v : Bool} {b : Nat → Int} {n : Int} (o : Int) (hr : RwW r) : Same r v b n ↔ Eqr r ⟨v, whB b n, n, o⟩ := by
  constructor
  · rintro ⟨h1, h2, h3⟩
    refine eqP_iff.2 ⟨h1, bits_same hr.ok.b (whB_byts b n) (fun i hi => ?_), h2⟩
    show bitF r.b i = bitF (whB b n) i
    rw [wh_bit]
    by_cases e : (i : Int) < n
    · rw [if_pos e]; exact h3 i e
    · rw [if_neg e]; exact hr.z i hi (by omega)
  · intro h
    obtain ⟨h1, h2, h3⟩ := eqP_iff.1 h
    have h3' : r.n = n := h3
    refine ⟨h1, h3', fun i hi => ?_⟩
    have hn := hr.ok.n1
    have e : bitF r.b i = bitF (whB b n) i := by
      unfold bitF
      rw [h2 (i / 8) (by omega)]
    rw [e, wh_bit, if_pos hi]
/-- What stands for what. -/
structure Rep (T4 T6 : Tr) (m : Nat) (ro : Nat → Rw) : Prop where
  sort : RSort ro m
  le : m ≤ 64
  row : ∀ j, j < m → RwW (ro j) ∧ rightF (ro j).v (ro j).b (ro j).n = true
  rep : ∀ (v : Bool) (b : Nat → Int) (n o : Int), Byts 16 b → rightF v b n = true → (gt b n.toNat 0 (trV T4 T6 v) = some o ↔ ∃ j, j < m ∧ Same (ro j) v b n ∧ (ro j).o = o)
theorem Rep.one {T4 T6 : Tr} {m : Nat} {ro : Nat → Rw} (h : Rep T4 T6 m ro) {v : Bool} {b : Nat → Int} {n : Int} {i j : Nat} (hi : i < m) (hj : j < m) (h1 : Same (ro i) v b n) (h2 : Same (ro j) v b n) : i = j := by
  have e1 := (same_eqr 0 (h.row i hi).1).1 h1
  have e2 := (same_eqr 0 (h.row j hj).1).1 h2
  exact sort_one h.sort hi hj (e1.trans e2.symm)
theorem rep_nil (ro : Nat → Rw) : Rep .nil .nil 0 ro :=
  ⟨fun i j _ hj => by omega, by omega, fun j hj => by omega, fun v b n o _ _ => ⟨(fun h => by rw [show trV .nil .nil v = .nil by cases v <;> rfl, gt_nil] at h; cases h), (fun ⟨j, hj, _⟩ => by omega)⟩⟩
theorem bits_N {b b2 : Nat → Int} {n : Int} (h0 : 0 ≤ n) : (∀ i : Nat, (i : Int) < n → bitF b i = bitF b2 i) ↔ SameP b b2 0 n.toNat := by
  constructor
  · intro h j _ h2
    exact bN_iff.2 (h j (by omega))
  · intro h i hi
    exact bN_iff.1 (h i (by omega) (by omega))
/-- Two prefixes are the same. -/
def Sq (v : Bool) (b : Nat → Int) (n : Int) (v2 : Bool) (b2 : Nat → Int) (n2 : Int) : Prop := v2 = v ∧ n2 = n ∧ ∀ i : Nat, (i : Int) < n → bitF b i = bitF b2 i
theorem same_sq {r : Rw} {v v2 : Bool} {b b2 : Nat → Int} {n n2 : Int} (h : Same r v b n) : Same r v2 b2 n2 ↔ Sq v b n v2 b2 n2 := by
  obtain ⟨h1, h2, h3⟩ := h
  constructor
  · rintro ⟨e1, e2, e3⟩
    exact ⟨e1.symm.trans h1, e2.symm.trans h2, fun i hi => (h3 i hi).symm.trans (e3 i (by omega))⟩
  · rintro ⟨e1, e2, e3⟩
    exact ⟨h1.trans e1.symm, h2.trans e2.symm, fun i hi => (h3 i (by omega)).trans (e3 i (by omega))⟩
theorem gt_put {T4 T6 : Tr} {v v2 : Bool} {b b2 : Nat → Int} {n n2 ow : Int} (hn : 0 ≤ n) (hn2 : 0 ≤ n2) : (Sq v b n v2 b2 n2 → gt b2 n2.toNat 0 (trV (setT v false T4 (wiT b ow n.toNat 0 (trV T4 T6 v))) (setT v true T6 (wiT b ow n.toNat 0 (trV T4 T6 v))) v2) = some ow) ∧ (¬ Sq v b n v2 b2 n2 → gt b2 n2.toNat 0 (trV (setT v false T4 (wiT b ow n.toNat 0 (trV T4 T6 v))) (setT v true T6 (wiT b ow n.toNat 0 (trV T4 T6 v))) v2) = gt b2 n2.toNat 0 (trV T4 T6 v2)) := by
  by_cases e : v2 = v
  · subst e
    rw [setT_tr]
    obtain ⟨h1, h2⟩ := gt_wi b ow b2 n.toNat n2.toNat 0 (trV T4 T6 v2)
    refine ⟨fun ⟨_, e2, e3⟩ => h1 ⟨by rw [e2], (bits_N hn).1 e3⟩, fun hh => h2 (fun ⟨e2, e3⟩ => hh ⟨rfl, by omega, (bits_N hn).2 e3⟩)⟩
  · rw [setT_other v v2 e]
    exact ⟨fun h => absurd h.1 e, fun _ => rfl⟩
theorem gt_drop {T4 T6 : Tr} {v v2 : Bool} {b b2 : Nat → Int} {n n2 : Int} (hn : 0 ≤ n) (hn2 : 0 ≤ n2) : (Sq v b n v2 b2 n2 → gt b2 n2.toNat 0 (trV (setT v false T4 (woT b n.toNat 0 (trV T4 T6 v))) (setT v true T6 (woT b n.toNat 0 (trV T4 T6 v))) v2) = none) ∧ (¬ Sq v b n v2 b2 n2 → gt b2 n2.toNat 0 (trV (setT v false T4 (woT b n.toNat 0 (trV T4 T6 v))) (setT v true T6 (woT b n.toNat 0 (trV T4 T6 v))) v2) = gt b2 n2.toNat 0 (trV T4 T6 v2)) := by
  by_cases e : v2 = v
  · subst e
    rw [setT_tr]
    obtain ⟨h1, h2⟩ := gt_wo b b2 n.toNat n2.toNat 0 (trV T4 T6 v2)
    refine ⟨fun ⟨_, e2, e3⟩ => h1 ⟨by rw [e2], (bits_N hn).1 e3⟩, fun hh => h2 (fun ⟨e2, e3⟩ => hh ⟨rfl, by omega, (bits_N hn).2 e3⟩)⟩
  · rw [setT_other v v2 e]
    exact ⟨fun h => absurd h.1 e, fun _ => rfl⟩
/-- Where a prefix stands among the rows, if it is there. -/
theorem isAt_iff {ro : Nat → Rw} {m : Nat} (hs : RSort ro m) (v : Bool) (b : Nat → Int) (n : Int) : isAt ro m (posF ro m v b n) v b n = true ↔ ∃ j, j < m ∧ Eqr (ro j) ⟨v, b, n, 0⟩ := by
  unfold isAt
  rw [Bool.and_eq_true, decide_eq_true_eq]
  constructor
  · rintro ⟨h1, h2⟩
    exact ⟨_, h1, h2⟩
  · rintro ⟨j, hj, he⟩
    have hp : posF ro m v b n = j := by
      unfold posF
      rcases Nat.lt_trichotomy (firstF (bfP ro v b n) 0 m) j with h | h | h
      · exfalso
        have h1 := first_no (bfP ro v b n) m 0 (by omega)
        have h2 : Bf (ro (firstF (bfP ro v b n) 0 m)) ⟨v, b, n, 0⟩ := (hs _ j h hj).congr (Eqr.refl _) he
        have h3 : bfP ro v b n (firstF (bfP ro v b n) 0 m) = true := h2
        rw [h1] at h3
        cases h3
      · exact h
      · exfalso
        have h1 := first_all (bfP ro v b n) m 0 j (by omega) h
        exact Eqr.not he h1
    rw [hp]
    exact ⟨hj, he⟩
theorem pos_at {ro : Nat → Rw} {m : Nat} {v : Bool} {b : Nat → Int} {n : Int} (h : isAt ro m (posF ro m v b n) v b n = true) : posF ro m v b n < m ∧ Eqr (ro (posF ro m v b n)) ⟨v, b, n, 0⟩ := by
  unfold isAt at h
  rw [Bool.and_eq_true, decide_eq_true_eq] at h
  exact h
theorem eqr_o {r : Rw} {v : Bool} {b : Nat → Int} {n o o2 : Int} : Eqr r ⟨v, b, n, o⟩ ↔ Eqr r ⟨v, b, n, o2⟩ := Iff.rfl
/-- Is a prefix there? -/
theorem there_iff {T4 T6 : Tr} {m : Nat} {ro : Nat → Rw} (h : Rep T4 T6 m ro) {v : Bool} {b : Nat → Int} {n : Int} : isAt ro m (posF ro m v (whB b n) n) v (whB b n) n = true ↔ ∃ j, j < m ∧ Same (ro j) v b n := by
  rw [isAt_iff h.sort]
  exact ⟨fun ⟨j, hj, he⟩ => ⟨j, hj, (same_eqr 0 (h.row j hj).1).2 he⟩, fun ⟨j, hj, he⟩ => ⟨j, hj, (same_eqr 0 (h.row j hj).1).1 he⟩⟩
theorem at_some {T4 T6 : Tr} {m : Nat} {ro : Nat → Rw} (h : Rep T4 T6 m ro) {v : Bool} {b : Nat → Int} {n o : Int} (hb : Byts 16 b) (hr : rightF v b n = true) : atG T4 T6 v b n = some o ↔ ∃ j, j < m ∧ Same (ro j) v b n ∧ (ro j).o = o := by
  unfold atG
  rw [if_pos hr]
  exact h.rep v b n o hb hr
theorem at_none_iff {T4 T6 : Tr} {m : Nat} {ro : Nat → Rw} (h : Rep T4 T6 m ro) {v : Bool} {b : Nat → Int} {n : Int} (hb : Byts 16 b) (hr : rightF v b n = true) : atG T4 T6 v b n = none ↔ ¬ ∃ j, j < m ∧ Same (ro j) v b n := by
  constructor
  · rintro h1 ⟨j, hj, hs⟩
    have := (at_some h hb hr (o := (ro j).o)).2 ⟨j, hj, hs, rfl⟩
    rw [h1] at this
    cases this
  · intro h1
    cases hg : atG T4 T6 v b n with
    | none => rfl
    | some o =>
      obtain ⟨j, hj, hs, _⟩ := (at_some h hb hr).1 hg
      exact absurd ⟨j, hj, hs⟩ h1
theorem rowW_o {r : Rw} (h : RwW r) (o : Int) : RwW { r with o := o } := ⟨⟨h.ok.b, h.ok.n0, h.ok.n1⟩, h.z⟩
theorem wh_zero {b : Nat → Int} {n : Int} {j : Nat} (hj : j < 16) (h : n ≤ 8 * (j : Int)) : whB b n j = 0 :=
  byte_bits ((wh_b b n) j hj) ⟨by omega, by omega⟩ (fun t ht => by
    have h1 := wh_bit b n (8 * j + t)
    unfold bitF at h1
    rw [show (8 * j + t) / 8 = j by omega, show (8 * j + t) % 8 = t by omega, if_neg (by omega)] at h1
    rw [h1]
    simp)
theorem right_wh {v : Bool} {b : Nat → Int} {n : Int} (hr : rightF v b n = true) : rightF v (whB b n) n = true := by
  have hw := right_wn hr
  rw [right_wd, Bool.and_eq_true, Bool.and_eq_true] at hr ⊢
  refine ⟨⟨valid_iff.2 ?_, hr.1.2⟩, hr.2⟩
  rcases Bool.eq_false_or_eq_true v with e | e
  · exact .inl e
  · refine .inr (fun i h4 h16 => wh_zero h16 ?_)
    rw [e] at hw
    have : wdN false = 32 := rfl
    omega
/-- Put of a prefix that is there, or that there is room for. -/
theorem rep_put {T4 T6 : Tr} {m : Nat} {ro : Nat → Rw} (h : Rep T4 T6 m ro) (v : Bool) (b : Nat → Int) (n ow : Int) (_hb : Byts 16 b) (hr : rightF v b n = true) (hroom : (∃ j, j < m ∧ Same (ro j) v b n) ∨ m < 64) :
    Rep (setT v false T4 (wiT b ow n.toNat 0 (trV T4 T6 v))) (setT v true T6 (wiT b ow n.toNat 0 (trV T4 T6 v))) (putM ro m v (whB b n) n) (putRo ro m v (whB b n) n ow) := by
  have hn := (right_n hr).1
  have hsort := put_sort h.sort v (whB b n) n ow
  have hle := put_m h.le v (whB b n) n (ro := ro)
  have hww := whole_w hr ow
  have hwr := right_wh hr
  by_cases hat : isAt ro m (posF ro m v (whB b n) n) v (whB b n) n = true
  · obtain ⟨hp, he⟩ := pos_at hat
    have hM : putM ro m v (whB b n) n = m := by unfold putM; rw [if_pos hat]
    have hR : putRo ro m v (whB b n) n ow = setG ro (posF ro m v (whB b n) n) { ro (posF ro m v (whB b n) n) with o := ow } := by unfold putRo; rw [if_pos hat]
    rw [hM, hR] at hsort ⊢
    generalize posF ro m v (whB b n) n = p at *
    have hsm := (same_eqr 0 (h.row p hp).1).2 he
    refine ⟨hsort, h.le, fun j hj => ?_, fun v2 b2 n2 o hb2 hr2 => ?_⟩
    · by_cases e : j = p
      · subst e; rw [gE]; exact ⟨rowW_o (h.row j hj).1 ow, (h.row j hj).2⟩
      · rw [gD _ _ _ e]; exact h.row j hj
    · obtain ⟨g1, g2⟩ := gt_put (T4 := T4) (T6 := T6) (v := v) (v2 := v2) (b := b) (b2 := b2) (ow := ow) hn (right_n hr2).1
      by_cases hq : Sq v b n v2 b2 n2
      · rw [g1 hq]
        constructor
        · intro e
          obtain rfl := Option.some.inj e
          exact ⟨p, hp, by rw [gE]; exact (same_sq hsm).2 hq, by rw [gE]⟩
        · rintro ⟨j, hj, h1, h2⟩
          have hj2 : Same (ro j) v2 b2 n2 := by
            by_cases e : j = p
            · subst e; rw [gE] at h1; exact h1
            · rw [gD _ _ _ e] at h1; exact h1
          obtain rfl := h.one hj hp hj2 ((same_sq hsm).2 hq)
          rw [gE] at h2
          exact congrArg some h2
      · rw [g2 hq, h.rep v2 b2 n2 o hb2 hr2]
        constructor
        · rintro ⟨j, hj, h1, h2⟩
          have e : j ≠ p := fun e => by subst e; exact hq ((same_sq hsm).1 h1)
          exact ⟨j, hj, by rw [gD _ _ _ e]; exact h1, by rw [gD _ _ _ e]; exact h2⟩
        · rintro ⟨j, hj, h1, h2⟩
          by_cases e : j = p
          · subst e; rw [gE] at h1; exact absurd ((same_sq hsm).1 h1) hq
          · rw [gD _ _ _ e] at h1 h2; exact ⟨j, hj, h1, h2⟩
  · have hno : ¬ ∃ j, j < m ∧ Same (ro j) v b n := fun e => hat ((there_iff h).2 e)
    have hm : m < 64 := hroom.resolve_left hno
    have hM : putM ro m v (whB b n) n = m + 1 := by unfold putM; rw [if_neg hat, if_neg (by omega)]
    have hR : putRo ro m v (whB b n) n ow = insZ (posF ro m v (whB b n) n) ro ⟨v, whB b n, n, ow⟩ := by unfold putRo; rw [if_neg hat, if_neg (by omega)]
    have hpl := pos_le ro m v (whB b n) n
    rw [hM, hR] at hsort ⊢
    generalize posF ro m v (whB b n) n = p at *
    have hnew : Same ⟨v, whB b n, n, ow⟩ v b n := ⟨rfl, rfl, fun i hi => by show bitF (whB b n) i = _; rw [wh_bit, if_pos hi]⟩
    have back : ∀ j, j < m + 1 → (j = p ∧ insZ p ro ⟨v, whB b n, n, ow⟩ j = ⟨v, whB b n, n, ow⟩) ∨ ∃ k, k < m ∧ insZ p ro ⟨v, whB b n, n, ow⟩ j = ro k := fun j hj => by
      unfold insZ
      by_cases e1 : j < p
      · exact .inr ⟨j, by omega, by rw [if_pos e1]⟩
      · by_cases e2 : j = p
        · exact .inl ⟨e2, by rw [if_neg e1, if_pos e2]⟩
        · exact .inr ⟨j - 1, by omega, by rw [if_neg e1, if_neg e2]⟩
    have forth : ∀ k, k < m → ∃ j, j < m + 1 ∧ insZ p ro ⟨v, whB b n, n, ow⟩ j = ro k := fun k hk => by
      by_cases e1 : k < p
      · exact ⟨k, by omega, by unfold insZ; rw [if_pos e1]⟩
      · exact ⟨k + 1, by omega, by unfold insZ; rw [if_neg (by omega), if_neg (by omega)]; rfl⟩
    have atp : insZ p ro ⟨v, whB b n, n, ow⟩ p = ⟨v, whB b n, n, ow⟩ := by unfold insZ; rw [if_neg (by omega), if_pos rfl]
    refine ⟨hsort, by omega, fun j hj => ?_, fun v2 b2 n2 o hb2 hr2 => ?_⟩
    · rcases back j hj with ⟨_, e⟩ | ⟨k, hk, e⟩
      · rw [e]; exact ⟨hww, hwr⟩
      · rw [e]; exact h.row k hk
    · obtain ⟨g1, g2⟩ := gt_put (T4 := T4) (T6 := T6) (v := v) (v2 := v2) (b := b) (b2 := b2) (ow := ow) hn (right_n hr2).1
      by_cases hq : Sq v b n v2 b2 n2
      · rw [g1 hq]
        constructor
        · intro e
          obtain rfl := Option.some.inj e
          exact ⟨p, by omega, by rw [atp]; exact (same_sq hnew).2 hq, by rw [atp]⟩
        · rintro ⟨j, hj, h1, h2⟩
          rcases back j hj with ⟨_, e⟩ | ⟨k, hk, e⟩
          · rw [e] at h2; exact congrArg some h2
          · rw [e] at h1
            exact absurd ⟨k, hk, (by
              obtain ⟨a1, a2, a3⟩ := h1
              obtain ⟨q1, q2, q3⟩ := hq
              exact ⟨a1.trans q1, a2.trans q2, fun i hi => (a3 i (by omega)).trans (q3 i hi).symm⟩)⟩ hno
      · rw [g2 hq, h.rep v2 b2 n2 o hb2 hr2]
        constructor
        · rintro ⟨k, hk, h1, h2⟩
          obtain ⟨j, hj, e⟩ := forth k hk
          exact ⟨j, hj, by rw [e]; exact h1, by rw [e]; exact h2⟩
        · rintro ⟨j, hj, h1, h2⟩
          rcases back j hj with ⟨_, e⟩ | ⟨k, hk, e⟩
          · rw [e] at h1; exact absurd ((same_sq hnew).1 h1) hq
          · rw [e] at h1 h2; exact ⟨k, hk, h1, h2⟩
theorem drp_lt {ro : Nat → Rw} {m : Nat} {v : Bool} {b : Nat → Int} {n : Int} (h : drpF ro m v b n < m) : Eqr (ro (drpF ro m v b n)) ⟨v, b, n, 0⟩ := by
  have h1 := first_no (neP ro v b n) m 0 (by unfold drpF at h; omega)
  have h2 : (!eqPF (ro (drpF ro m v b n)).v (ro (drpF ro m v b n)).b (ro (drpF ro m v b n)).n v b n) = false := h1
  rw [Bool.not_eq_false'] at h2
  exact h2
theorem drp_ge {ro : Nat → Rw} {m : Nat} {v : Bool} {b : Nat → Int} {n : Int} (h : ¬ drpF ro m v b n < m) (j : Nat) (hj : j < m) : ¬ Eqr (ro j) ⟨v, b, n, 0⟩ := fun e => by
  have h1 := first_all (neP ro v b n) m 0 j (by omega) (by unfold drpF at h; omega)
  have h2 : (!eqPF (ro j).v (ro j).b (ro j).n v b n) = true := h1
  have h3 : eqPF (ro j).v (ro j).b (ro j).n v b n = true := e
  rw [h3] at h2
  cases h2
/-- Drop of a prefix that is there. -/
theorem rep_drop {T4 T6 : Tr} {m : Nat} {ro : Nat → Rw} (h : Rep T4 T6 m ro) (v : Bool) (b : Nat → Int) (n : Int) (hr : rightF v b n = true) (hd : drpF ro m v (whB b n) n < m) :
    Rep (setT v false T4 (woT b n.toNat 0 (trV T4 T6 v))) (setT v true T6 (woT b n.toNat 0 (trV T4 T6 v))) (dropM ro m v (whB b n) n) (dropRo ro m v (whB b n) n) := by
  have hn := (right_n hr).1
  have hsort := drop_sort h.sort v (whB b n) n
  have he := drp_lt hd
  have hM : dropM ro m v (whB b n) n = m - 1 := by unfold dropM; rw [if_pos hd]
  have hR : dropRo ro m v (whB b n) n = remZ (drpF ro m v (whB b n) n) ro := by unfold dropRo; rw [if_pos hd]
  rw [hM, hR] at hsort ⊢
  generalize drpF ro m v (whB b n) n = p at *
  have hsm := (same_eqr 0 (h.row p hd).1).2 he
  have hle := h.le
  have back : ∀ j, j < m - 1 → ∃ k, k < m ∧ k ≠ p ∧ remZ p ro j = ro k := fun j hj => by
    unfold remZ
    by_cases e1 : j < p
    · exact ⟨j, by omega, by omega, by rw [if_pos e1]⟩
    · exact ⟨j + 1, by omega, by omega, by rw [if_neg e1]⟩
  have forth : ∀ k, k < m → k ≠ p → ∃ j, j < m - 1 ∧ remZ p ro j = ro k := fun k hk hkp => by
    by_cases e1 : k < p
    · exact ⟨k, by omega, by unfold remZ; rw [if_pos e1]⟩
    · exact ⟨k - 1, by omega, by unfold remZ; rw [if_neg (by omega), show k - 1 + 1 = k by omega]⟩
  refine ⟨hsort, by omega, fun j hj => ?_, fun v2 b2 n2 o hb2 hr2 => ?_⟩
  · obtain ⟨k, hk, _, e⟩ := back j hj
    rw [e]; exact h.row k hk
  · obtain ⟨g1, g2⟩ := gt_drop (T4 := T4) (T6 := T6) (v := v) (v2 := v2) (b := b) (b2 := b2) hn (right_n hr2).1
    by_cases hq : Sq v b n v2 b2 n2
    · rw [g1 hq]
      refine ⟨(fun e => by cases e), ?_⟩
      rintro ⟨j, hj, h1, _⟩
      obtain ⟨k, hk, hkp, e⟩ := back j hj
      rw [e] at h1
      exact absurd (h.one hk hd h1 ((same_sq hsm).2 hq)) hkp
    · rw [g2 hq, h.rep v2 b2 n2 o hb2 hr2]
      constructor
      · rintro ⟨k, hk, h1, h2⟩
        obtain ⟨j, hj, e⟩ := forth k hk (fun e => by subst e; exact hq ((same_sq hsm).1 h1))
        exact ⟨j, hj, by rw [e]; exact h1, by rw [e]; exact h2⟩
      · rintro ⟨j, hj, h1, h2⟩
        obtain ⟨k, hk, _, e⟩ := back j hj
        rw [e] at h1 h2
        exact ⟨k, hk, h1, h2⟩
end Go.Proofs.Ytcpnleanjclfjaa
/-
  Own text. The trie and the rows in order: Find, All.
-/
namespace Go.Proofs.Ytcpnleanjclfjaa
open Go.RowKit Go.Proofs
set_option maxRecDepth 100000
theorem right_len {v : Bool} {b : Nat → Int} {L : Nat} (hv : validF v b = true) (hL : L ≤ wdN v) : rightF v b (L : Int) = true := by
  rw [right_wd, hv, decide_eq_true (show (0 : Int) ≤ (L : Int) by omega), decide_eq_true (show (L : Int) ≤ (wdN v : Int) by omega)]
  rfl
theorem has_same_iff {r : Rw} {v : Bool} {b : Nat → Int} (hv : validF v b = true) : Has r v b ↔ Same r v b r.n := by
  unfold Has
  rw [has_iff]
  exact ⟨fun ⟨_, h2, h3⟩ => ⟨h2, rfl, h3⟩, fun ⟨h2, _, h3⟩ => ⟨hv, h2, h3⟩⟩
theorem find_same {T4 T6 : Tr} {m : Nat} {ro : Nat → Rw} (h : Rep T4 T6 m ro) (v : Bool) (b : Nat → Int) (hb : Byts 16 b) : bestA v b (bestG T4 T6 v b) = findA ro v b m := by
  unfold bestG findA
  rcases Bool.eq_false_or_eq_true (validF v b) with hv | hv
  · rw [if_pos hv]
    cases hg : bst b (trV T4 T6 v) (wdN v + 1) with
    | none =>
      have hn := bst_none _ hg
      rcases find_spec ro v b m with ⟨e, _⟩ | ⟨k, hk, e, h1, _⟩
      · rw [e, if_pos (by omega)]
        rfl
      · exfalso
        have hs := (has_same_iff hv).1 h1
        have hw := (h.row k hk)
        have hwn := right_wn hw.2
        have hvv : (ro k).v = v := hs.1
        rw [hvv] at hwn
        have h3 := (h.rep v b (ro k).n (ro k).o hb (by
          have := right_len hv (show (ro k).n.toNat ≤ wdN v by omega)
          rw [show (((ro k).n.toNat : Nat) : Int) = (ro k).n by omega] at this
          exact this)).2 ⟨k, hk, hs, rfl⟩
        rw [hn _ (by omega)] at h3
        cases h3
    | some q =>
      obtain ⟨L, o⟩ := q
      obtain ⟨h1, h2, h3⟩ := bst_some _ hg
      have hr := right_len hv (show L ≤ wdN v by omega)
      obtain ⟨k, hk, hs, ho⟩ := (h.rep v b (L : Int) o hb hr).1 (by rw [Int.toNat_natCast]; exact h2)
      have hkn : (ro k).n = (L : Int) := hs.2.1
      have hH : Has (ro k) v b := (has_same_iff hv).2 (by rw [hkn]; exact hs)
      have hf : findF ro v b m = (k : Int) := find_uniq h.sort (fun j hj => (h.row j hj).1) v b hk hH (fun j hj hj2 => by
        have hs2 := (has_same_iff hv).1 hj2
        have hwn := right_wn (h.row j hj).2
        have hvv : (ro j).v = v := hs2.1
        rw [hvv] at hwn
        by_cases hc : (ro k).n < (ro j).n
        · exfalso
          have h4 := (h.rep v b (ro j).n (ro j).o hb (by
            have := right_len hv (show (ro j).n.toNat ≤ wdN v by omega)
            rw [show (((ro j).n.toNat : Nat) : Int) = (ro j).n by omega] at this
            exact this)).2 ⟨j, hj, hs2, rfl⟩
          rw [h3 _ (by omega) (by omega)] at h4
          cases h4
        · omega)
      rw [hf, if_neg (by omega), Int.toNat_natCast]
      show Value.tuple #[.int .i64 o, .agg (SC 18 (wholeV v b (L : Int))), .bool true] = _
      have he := (same_eqr 0 (h.row k hk).1).1 hs
      obtain ⟨e1, e2, e3⟩ := eqP_iff.1 he
      have hS : SC 18 (wholeV v b (L : Int)) = SC 18 (prV (ro k).v (ro k).b (ro k).n) := by
        unfold wholeV
        rw [if_pos hr, hs.1, hkn]
        exact SC_same (fun i hi => pr_congr (fun j hj => (e2 j hj).symm) i hi)
      rw [hS, ho]
  · rw [if_neg (by rw [hv]; simp)]
    rcases find_spec ro v b m with ⟨e, _⟩ | ⟨k, hk, e, h1, _⟩
    · rw [e, if_pos (by omega)]
      rfl
    · exfalso
      unfold Has at h1
      rw [has_iff, hv] at h1
      cases h1.1
/-- The order of prefixes by their bits. -/
theorem lex_bits {b b2 : Nat → Int} {r : Bool} {q : Nat} : ∀ m i, i ≤ q → q < i + m → (∀ j, i ≤ j → j < q → b j = b2 j) → b q < b2 q → lexF b b2 r i m = true
  | 0, i, h1, h2, _, _ => by omega
  | m + 1, i, h1, h2, h3, h4 => by
    unfold lexF
    by_cases e : i = q
    · subst e
      rw [if_neg (by omega)]
      exact decide_eq_true h4
    · rw [if_pos (h3 i (by omega) (by omega))]
      exact lex_bits m (i + 1) (by omega) (by omega) (fun j h5 h6 => h3 j (by omega) h6) h4
theorem lex_same {b b2 : Nat → Int} {r : Bool} : ∀ m i, (∀ j, i ≤ j → j < i + m → b j = b2 j) → lexF b b2 r i m = r
  | 0, _, _ => rfl
  | m + 1, i, h => by
    unfold lexF
    rw [if_pos (h i (by omega) (by omega))]
    exact lex_same m (i + 1) (fun j h1 h2 => h j (by omega) (by omega))
theorem half_pow (x : Int) {t : Nat} (ht : t < 8) : x / 2 ^ (8 - t) = (x / 2 ^ (7 - t)) / 2 := by
  rw [show 8 - t = (7 - t) + 1 by omega, Int.pow_succ, Int.ediv_ediv_of_nonneg (Int.le_of_lt (Int.pow_pos (by decide)))]
theorem byte_pre {x y : Int} (hx : 0 ≤ x ∧ x < 256) (hy : 0 ≤ y ∧ y < 256) : ∀ t : Nat, t ≤ 8 → (∀ s : Nat, s < t → (x / 2 ^ (7 - s)) % 2 = (y / 2 ^ (7 - s)) % 2) → x / 2 ^ (8 - t) = y / 2 ^ (8 - t)
  | 0, _, _ => by
    rw [show (2 : Int) ^ (8 - 0) = 256 from rfl]
    omega
  | t + 1, ht, h => by
    have ih := byte_pre hx hy t (by omega) (fun s hs => h s (by omega))
    have h1 := h t (by omega)
    rw [half_pow x (by omega), half_pow y (by omega)] at ih
    rw [show 8 - (t + 1) = 7 - t by omega]
    omega
theorem byte_lt {x y : Int} (hx : 0 ≤ x ∧ x < 256) (hy : 0 ≤ y ∧ y < 256) {t : Nat} (ht : t < 8) (h : ∀ s : Nat, s < t → (x / 2 ^ (7 - s)) % 2 = (y / 2 ^ (7 - s)) % 2) (h0 : (x / 2 ^ (7 - t)) % 2 = 0) (h1 : (y / 2 ^ (7 - t)) % 2 = 1) : x < y := by
  have ih := byte_pre hx hy t (by omega) h
  rw [half_pow x ht, half_pow y ht] at ih
  by_cases hc : x < y
  · exact hc
  · exfalso
    have h2 : y / 2 ^ (7 - t) ≤ x / 2 ^ (7 - t) := Int.ediv_le_ediv (Int.pow_pos (by decide)) (by omega)
    omega
theorem byte_same {b b2 : Nat → Int} {j : Nat} (h1 : 0 ≤ b j ∧ b j < 256) (h2 : 0 ≤ b2 j ∧ b2 j < 256) (h : ∀ i, i / 8 = j → bitF b i = bitF b2 i) : b j = b2 j :=
  byte_bits h1 h2 (fun t ht => by
    have := h (8 * j + t) (by omega)
    unfold bitF at this
    rw [show (8 * j + t) / 8 = j by omega, show (8 * j + t) % 8 = t by omega] at this
    exact this)
theorem bf_bits {r s : Rw} (hv : r.v = s.v) (hr : Byts 16 r.b) (hs : Byts 16 s.b) {i : Nat} (hi : i < 128) (h : ∀ j, j < i → bitF r.b j = bitF s.b j) (h0 : bitF r.b i = 0) (h1 : bitF s.b i = 1) : Bf r s := by
  unfold Bf beforeF
  rw [if_pos hv]
  refine lex_bits (q := i / 8) 16 0 (by omega) (by omega) (fun j _ hj => byte_same (hr j (by omega)) (hs j (by omega)) (fun k hk => h k (by omega))) ?_
  refine byte_lt (hr _ (by omega)) (hs _ (by omega)) (t := i % 8) (by omega) (fun t ht => ?_) h0 h1
  have := h (8 * (i / 8) + t) (by omega)
  unfold bitF at this
  rw [show (8 * (i / 8) + t) / 8 = i / 8 by omega, show (8 * (i / 8) + t) % 8 = t by omega] at this
  exact this
theorem bf_len {r s : Rw} (hv : r.v = s.v) (hr : Byts 16 r.b) (hs : Byts 16 s.b) (h : ∀ j, j < 128 → bitF r.b j = bitF s.b j) (hn : r.n < s.n) : Bf r s := by
  unfold Bf beforeF
  rw [if_pos hv, lex_same 16 0 (fun j _ hj => byte_same (hr j (by omega)) (hs j (by omega)) (fun k hk => h k (by omega)))]
  exact decide_eq_true hn
/-- A row whose bits begin as another one's do, which has no more bits. -/
theorem bf_pre {r s : Rw} (hv : r.v = s.v) (hr : RwW r) (hs : Byts 16 s.b) (hn : r.n < s.n) (h : ∀ j : Nat, (j : Int) < r.n → bitF r.b j = bitF s.b j) : Bf r s := by
  by_cases hall : ∀ j, j < 128 → bitF s.b j = bitF r.b j
  · exact bf_len hv hr.ok.b hs (fun j hj => (hall j hj).symm) hn
  · obtain ⟨i, hi, hne, hmin⟩ : ∃ i, i < 128 ∧ bitF s.b i ≠ bitF r.b i ∧ ∀ j, j < i → bitF s.b j = bitF r.b j := by
      have key : ∀ k, k ≤ 128 → (∀ j, j < k → bitF s.b j = bitF r.b j) ∨ ∃ i, i < 128 ∧ bitF s.b i ≠ bitF r.b i ∧ ∀ j, j < i → bitF s.b j = bitF r.b j := by
        intro k
        induction k with
        | zero => intro _; exact .inl (fun j hj => by omega)
        | succ k ih =>
          intro hk
          rcases ih (by omega) with h1 | h1
          · by_cases e : bitF s.b k = bitF r.b k
            · exact .inl (fun j hj => by
                by_cases ej : j = k
                · rw [ej]; exact e
                · exact h1 j (by omega))
            · exact .inr ⟨k, by omega, e, h1⟩
          · exact .inr h1
      rcases key 128 (by omega) with h1 | h1
      · exact absurd h1 hall
      · exact h1
    have hin : r.n ≤ (i : Int) := by
      by_cases hc : (i : Int) < r.n
      · exact absurd (h i hc).symm hne
      · omega
    have h0 := hr.z i hi hin
    have h1 := bit_b s.b i
    exact bf_bits hv hr.ok.b hs hi (fun j hj => (hmin j hj).symm) h0 (by omega)
end Go.Proofs.Ytcpnleanjclfjaa
/-
  Own text. The trie and the rows in order: All tells just the rows.
-/
namespace Go.Proofs.Ytcpnleanjclfjaa
open Go.RowKit Go.Proofs
set_option maxRecDepth 100000
/-- Bits behind the first d are zero. -/
def Zb (b : Nat → Int) (d : Nat) : Prop := ∀ i, d ≤ i → i < 128 → bitF b i = 0
theorem long_z {b : Nat → Int} {d c : Nat} (hb : Byts 16 b) (hc : c < 2) (hz : Zb b d) : Zb (longB b d c) (d + 1) := fun i h1 h2 => by
  rw [long_bit hb d c i hc h2, if_neg (by omega)]
  exact hz i (by omega) h2
theorem long_lo {b : Nat → Int} {d c : Nat} (hb : Byts 16 b) (hc : c < 2) (hd : d < 128) {i : Nat} (hi : i < d) : bitF (longB b d c) i = bitF b i := by
  rw [long_bit hb d c i hc (by omega), if_neg (by omega)]
theorem long_at {b : Nat → Int} {d c : Nat} (hb : Byts 16 b) (hc : c < 2) (hd : d < 128) (hz : Zb b d) : bitF (longB b d c) d = (c : Int) := by
  rw [long_bit hb d c d hc hd]
  by_cases e : c = 1
  · rw [if_pos ⟨rfl, e⟩, e]; rfl
  · rw [if_neg (fun h => e h.2), hz d (Nat.le_refl _) hd, show c = 0 by omega]; rfl
structure RowIn (v : Bool) (K d : Nat) (b : Nat → Int) (T : Tr) (x : Rw) : Prop where
  vv : x.v = v
  bb : Byts 16 x.b
  lo : (d : Int) ≤ x.n
  hi : x.n ≤ (K : Int)
  pre : ∀ i, i < d → bitF x.b i = bitF b i
  z : ∀ i : Nat, i < 128 → x.n ≤ (i : Int) → bitF x.b i = 0
  at_ : gt x.b (x.n.toNat - d) d T = some x.o
theorem rows_in {v : Bool} {K : Nat} (hK : K ≤ 128) : ∀ (T : Tr) (d : Nat) (b : Nat → Int), d ≤ K → Byts 16 b → Zb b d → Fit (K - d) T → ∀ x ∈ rowsT v d b T, RowIn v K d b T x := by
  intro T
  induction T with
  | nil => intro d b _ _ _ _ x hx; cases hx
  | node l r th ow ihl ihr =>
    intro d b hd hb hz hf x hx
    have child : ∀ (c : Nat) (Tc : Tr), c < 2 → (Tr.node l r th ow).br c = Tc → (Tc ≠ .nil → d < K) → (∀ (d : Nat) (b : Nat → Int), d ≤ K → Byts 16 b → Zb b d → Fit (K - d) Tc → ∀ x ∈ rowsT v d b Tc, RowIn v K d b Tc x) → (d < K → Fit (K - (d + 1)) Tc) → x ∈ rowsT v (d + 1) (longB b d c) Tc → RowIn v K d b (.node l r th ow) x := fun c Tc hc hbr hne ih hfc hxc => by
      have hTc : Tc ≠ .nil := fun e => by rw [e] at hxc; cases hxc
      have hdK := hne hTc
      have h := ih (d + 1) (longB b d c) (by omega) (long_byts hb d c hc) (long_z hb hc hz) (hfc hdK) x hxc
      have hlo := h.lo
      refine ⟨h.vv, h.bb, by omega, h.hi, fun i hi => (h.pre i (by omega)).trans (long_lo hb hc (by omega) hi), h.z, ?_⟩
      have hbit : bN x.b d = c := by
        have h1 := (h.pre d (by omega)).trans (long_at hb hc (by omega) hz)
        rw [bN_eq] at h1
        omega
      rw [show x.n.toNat - d = (x.n.toNat - (d + 1)) + 1 by omega]
      show gt x.b (x.n.toNat - (d + 1)) (d + 1) ((Tr.node l r th ow).br (bN x.b d)) = some x.o
      rw [hbit, hbr]
      exact h.at_
    have hne : ∀ Tc : Tr, (Tc = l ∨ Tc = r) → Tc ≠ .nil → d < K := fun Tc hTc hn => by
      rcases Nat.lt_or_ge d K with h | h
      · exact h
      · exfalso
        rw [show K - d = 0 by omega] at hf
        rcases hTc with rfl | rfl
        · exact hn hf.1
        · exact hn hf.2.1
    have hfc : d < K → Fit (K - (d + 1) + 1) (.node l r th ow) := fun h => by rw [show K - (d + 1) + 1 = K - d by omega]; exact hf
    rcases List.mem_append.1 hx with h | h
    · by_cases e : th = true
      · rw [if_pos e] at h
        simp at h
        subst h
        refine ⟨rfl, hb, Int.le_refl _, by show (d : Int) ≤ (K : Int); omega, fun i _ => rfl, fun i h1 h2 => hz i (by have : (d : Int) ≤ (i : Int) := h2; omega) h1, ?_⟩
        rw [show ((d : Int).toNat - d) = 0 by omega]
        show (if th = true then some ow else none) = some ow
        rw [if_pos e]
      · rw [if_neg e] at h
        cases h
    · rcases List.mem_append.1 h with h | h
      · exact child 0 l (by omega) rfl (hne l (.inl rfl)) ihl (fun h => (hfc h).1) h
      · exact child 1 r (by omega) rfl (hne r (.inr rfl)) ihr (fun h => (hfc h).2.1) h
theorem rows_of {v : Bool} {K : Nat} (hK : K ≤ 128) : ∀ (T : Tr) (d : Nat) (b b2 : Nat → Int) (k : Nat) (o : Int), d ≤ K → Byts 16 b → Zb b d → Fit (K - d) T → gt b2 k d T = some o → (∀ i, i < d → bitF b2 i = bitF b i) → ∃ x ∈ rowsT v d b T, x.n = ((d + k : Nat) : Int) ∧ (∀ i, i < d + k → bitF x.b i = bitF b2 i) ∧ x.o = o := by
  intro T
  induction T with
  | nil => intro d b b2 k o _ _ _ _ hg; rw [gt_nil] at hg; cases hg
  | node l r th ow ihl ihr =>
    intro d b b2 k o hd hb hz hf hg hp
    cases k with
    | zero =>
      have hg' : (if th = true then some ow else none) = some o := hg
      by_cases e : th = true
      · rw [if_pos e] at hg'
        obtain rfl := Option.some.inj hg'
        refine ⟨⟨v, b, (d : Int), ow⟩, ?_, rfl, fun i hi => (hp i (by omega)).symm, rfl⟩
        show _ ∈ (if th = true then _ else _) ++ _
        rw [if_pos e]
        simp
      · rw [if_neg e] at hg'
        cases hg'
    | succ k =>
      have hg' : gt b2 k (d + 1) ((Tr.node l r th ow).br (bN b2 d)) = some o := hg
      have hdK : d < K := by
        rcases Nat.lt_or_ge d K with h | h
        · exact h
        · exfalso
          rw [show K - d = 0 by omega] at hf
          have : (Tr.node l r th ow).br (bN b2 d) = .nil := by
            unfold Tr.br
            split
            · exact hf.1
            · exact hf.2.1
          rw [this, gt_nil] at hg'
          cases hg'
      have hf1 : Fit (K - (d + 1) + 1) (.node l r th ow) := by rw [show K - (d + 1) + 1 = K - d by omega]; exact hf
      have hbit := bN_lt b2 d
      have hpre : ∀ i, i < d + 1 → bitF b2 i = bitF (longB b d (bN b2 d)) i := fun i hi => by
        by_cases e : i = d
        · rw [e, long_at hb hbit (by omega) hz, bN_eq]
        · rw [long_lo hb hbit (by omega) (show i < d by omega)]
          exact hp i (by omega)
      have fin : ∀ x : Rw, x.n = ((d + 1 + k : Nat) : Int) ∧ (∀ i, i < d + 1 + k → bitF x.b i = bitF b2 i) ∧ x.o = o → x.n = ((d + (k + 1) : Nat) : Int) ∧ (∀ i, i < d + (k + 1) → bitF x.b i = bitF b2 i) ∧ x.o = o := fun x ⟨h1, h2, h3⟩ => ⟨by rw [h1]; omega, fun i hi => h2 i (by omega), h3⟩
      by_cases e : bN b2 d = 0
      · rw [e] at hg' hpre
        obtain ⟨x, hx, h1⟩ := ihl (d + 1) (longB b d 0) b2 k o (by omega) (long_byts hb d 0 (by omega)) (long_z hb (by omega) hz) hf1.1 hg' hpre
        exact ⟨x, List.mem_append.2 (.inr (List.mem_append.2 (.inl hx))), fin x h1⟩
      · have e1 : bN b2 d = 1 := by omega
        rw [e1] at hg' hpre
        obtain ⟨x, hx, h1⟩ := ihr (d + 1) (longB b d 1) b2 k o (by omega) (long_byts hb d 1 (by omega)) (long_z hb (by omega) hz) hf1.2.1 hg' hpre
        exact ⟨x, List.mem_append.2 (.inr (List.mem_append.2 (.inr hx))), fin x h1⟩
theorem row_w {v : Bool} {K d : Nat} {b : Nat → Int} {T : Tr} {x : Rw} (hK : K ≤ 128) (h : RowIn v K d b T x) : RwW x := ⟨⟨h.bb, by have := h.lo; omega, by have := h.hi; omega⟩, h.z⟩
theorem rows_sort {v : Bool} {K : Nat} (hK : K ≤ 128) : ∀ (T : Tr) (d : Nat) (b : Nat → Int), d ≤ K → Byts 16 b → Zb b d → Fit (K - d) T → List.Pairwise Bf (rowsT v d b T) := by
  intro T
  induction T with
  | nil => intro d b _ _ _ _; exact List.Pairwise.nil
  | node l r th ow ihl ihr =>
    intro d b hd hb hz hf
    by_cases hdK : d < K
    · have hf1 : Fit (K - (d + 1) + 1) (.node l r th ow) := by rw [show K - (d + 1) + 1 = K - d by omega]; exact hf
      have inl := rows_in (v := v) hK l (d + 1) (longB b d 0) (by omega) (long_byts hb d 0 (by omega)) (long_z hb (by omega) hz) hf1.1
      have inr := rows_in (v := v) hK r (d + 1) (longB b d 1) (by omega) (long_byts hb d 1 (by omega)) (long_z hb (by omega) hz) hf1.2.1
      refine List.pairwise_append.2 ⟨?_, List.pairwise_append.2 ⟨ihl (d + 1) _ (by omega) (long_byts hb d 0 (by omega)) (long_z hb (by omega) hz) hf1.1, ihr (d + 1) _ (by omega) (long_byts hb d 1 (by omega)) (long_z hb (by omega) hz) hf1.2.1, fun x hx y hy => ?_⟩, fun x hx y hy => ?_⟩
      · split
        · exact List.pairwise_singleton _ _
        · exact List.Pairwise.nil
      · have h1 := inl x hx
        have h2 := inr y hy
        refine bf_bits (h1.vv.trans h2.vv.symm) h1.bb h2.bb (i := d) (by omega) (fun j hj => ?_) ?_ ?_
        · rw [h1.pre j (by omega), h2.pre j (by omega), long_lo (c := 0) hb (by omega) (by omega) hj, long_lo (c := 1) hb (by omega) (by omega) hj]
        · rw [h1.pre d (by omega), long_at (c := 0) hb (by omega) (by omega) hz]; rfl
        · rw [h2.pre d (by omega), long_at (c := 1) hb (by omega) (by omega) hz]; rfl
      · have hx' : x = ⟨v, b, (d : Int), ow⟩ := by
          by_cases e : th = true
          · rw [if_pos e] at hx; simpa using hx
          · rw [if_neg e] at hx; cases hx
        subst hx'
        have hw : RwW ⟨v, b, (d : Int), ow⟩ := ⟨⟨hb, by show (0 : Int) ≤ (d : Int); omega, by show (d : Int) ≤ 128; omega⟩, fun i h1 h2 => hz i (by have : (d : Int) ≤ (i : Int) := h2; omega) h1⟩
        have key : ∀ (c : Nat) (Tc : Tr), c < 2 → RowIn v K (d + 1) (longB b d c) Tc y → Bf ⟨v, b, (d : Int), ow⟩ y := fun c Tc hc h => by
          have hlo := h.lo
          refine bf_pre h.vv.symm hw h.bb (by show (d : Int) < y.n; omega) (fun j hj => ?_)
          have hj' : (j : Int) < (d : Int) := hj
          rw [h.pre j (by omega), long_lo hb hc (by omega) (by omega)]
        rcases List.mem_append.1 hy with hy | hy
        · exact key 0 l (by omega) (inl y hy)
        · exact key 1 r (by omega) (inr y hy)
    · rw [show K - d = 0 by omega] at hf
      obtain ⟨rfl, rfl, _⟩ := hf
      show List.Pairwise Bf ((if th = true then _ else _) ++ ([] ++ []))
      split
      · exact List.pairwise_singleton _ _
      · exact List.Pairwise.nil
theorem z0 : Zb (fun _ => 0) 0 := fun i _ _ => by unfold bitF; simp
theorem rowA_in {T4 T6 : Tr} (hf4 : Fit 32 T4) (hf6 : Fit 128 T6) {x : Rw} (hx : x ∈ rowsA T4 T6) : ∃ K, K = wdN x.v ∧ RowIn x.v K 0 (fun _ => 0) (trV T4 T6 x.v) x := by
  rcases List.mem_append.1 hx with h | h
  · have h1 := rows_in (v := false) (K := 32) (by omega) T4 0 _ (by omega) zeroByts z0 hf4 x h
    have e : x.v = false := h1.vv
    exact ⟨32, by rw [e]; rfl, by rw [e]; exact h1⟩
  · have h1 := rows_in (v := true) (K := 128) (by omega) T6 0 _ (by omega) zeroByts z0 hf6 x h
    have e : x.v = true := h1.vv
    exact ⟨128, by rw [e]; rfl, by rw [e]; exact h1⟩
theorem wd_le (v : Bool) : wdN v ≤ 128 := by cases v <;> decide
theorem row_right {x : Rw} {T : Tr} (h : RowIn x.v (wdN x.v) 0 (fun _ => 0) T x) : rightF x.v x.b x.n = true := by
  have h1 := h.lo
  have h2 := h.hi
  rw [right_wd, Bool.and_eq_true, Bool.and_eq_true]
  refine ⟨⟨valid_iff.2 ?_, decide_eq_true (by omega)⟩, decide_eq_true h2⟩
  rcases Bool.eq_false_or_eq_true x.v with e | e
  · exact .inl e
  · refine .inr (fun i h4 h16 => ?_)
    rw [e] at h2
    have h32 : wdN false = 32 := rfl
    exact byte_bits (h.bb i h16) ⟨by omega, by omega⟩ (fun t ht => by
      have := h.z (8 * i + t) (by omega) (by omega)
      unfold bitF at this
      rw [show (8 * i + t) / 8 = i by omega, show (8 * i + t) % 8 = t by omega] at this
      rw [this]
      simp)
theorem rowsA_sort {T4 T6 : Tr} (hf4 : Fit 32 T4) (hf6 : Fit 128 T6) : List.Pairwise Bf (rowsA T4 T6) := by
  refine List.pairwise_append.2 ⟨rows_sort (v := false) (K := 32) (by omega) T4 0 _ (by omega) zeroByts z0 hf4, rows_sort (v := true) (K := 128) (by omega) T6 0 _ (by omega) zeroByts z0 hf6, fun x hx y hy => ?_⟩
  have h1 := rows_in (v := false) (K := 32) (by omega) T4 0 _ (by omega) zeroByts z0 hf4 x hx
  have h2 := rows_in (v := true) (K := 128) (by omega) T6 0 _ (by omega) zeroByts z0 hf6 y hy
  unfold Bf beforeF
  rw [h1.vv, h2.vv]
  rfl
theorem eqr_same {x r : Rw} (h : Eqr x r) {n : Int} (hn : x.n = n) (h128 : n ≤ 128) : Same r x.v x.b n := by
  obtain ⟨e1, e2, e3⟩ := eqP_iff.1 h
  exact ⟨e1.symm, e3.symm.trans hn, fun i hi => by unfold bitF; rw [e2 (i / 8) (by omega)]⟩
/-- All tells just the rows. -/
theorem rows_eq {T4 T6 : Tr} {m : Nat} {ro : Nat → Rw} (h : Rep T4 T6 m ro) (hf4 : Fit 32 T4) (hf6 : Fit 128 T6) : (rowsA T4 T6).length = m ∧ ∀ j x, (rowsA T4 T6)[j]? = some x → encR x = encR (ro j) := by
  have hin : ∀ x ∈ rowsA T4 T6, RwW x ∧ ∃ j, j < m ∧ Same (ro j) x.v x.b x.n ∧ (ro j).o = x.o := fun x hx => by
    obtain ⟨K, hK, hr⟩ := rowA_in hf4 hf6 hx
    subst hK
    have hw := row_w (wd_le _) hr
    refine ⟨hw, (h.rep x.v x.b x.n x.o hr.bb (row_right hr)).1 ?_⟩
    have := hr.at_
    rw [Nat.sub_zero] at this
    exact this
  obtain ⟨fx, hfx⟩ : ∃ fx : Nat → Rw, ∀ j x, (rowsA T4 T6)[j]? = some x → fx j = x := ⟨fun j => ((rowsA T4 T6)[j]?).getD ⟨false, fun _ => 0, 0, 0⟩, fun j x hx => by show ((rowsA T4 T6)[j]?).getD _ = x; rw [hx]; rfl⟩
  have hget : ∀ j, j < (rowsA T4 T6).length → ∃ x ∈ rowsA T4 T6, (rowsA T4 T6)[j]? = some x ∧ fx j = x := fun j hj => by
    have e := List.getElem?_eq_getElem hj
    exact ⟨_, List.getElem_mem hj, e, hfx j _ e⟩
  have hs : RSort fx (rowsA T4 T6).length := fun i j hij hj => by
    obtain ⟨x, _, ex, fxe⟩ := hget i (by omega)
    obtain ⟨y, _, ey, fye⟩ := hget j hj
    have hp := List.pairwise_iff_getElem.1 (rowsA_sort hf4 hf6) i j (by omega) hj hij
    obtain ⟨h1, e1⟩ := List.getElem?_eq_some_iff.1 ex
    obtain ⟨h2, e2⟩ := List.getElem?_eq_some_iff.1 ey
    rw [e1, e2] at hp
    rw [fxe, fye]
    exact hp
  have e1 : ∀ i, i < (rowsA T4 T6).length → ∃ j, j < m ∧ Eqr (fx i) (ro j) := fun i hi => by
    obtain ⟨x, hx, _, fe⟩ := hget i hi
    obtain ⟨hw, j, hj, hsm, _⟩ := hin x hx
    have a1 := (same_eqr 0 (h.row j hj).1).1 hsm
    have a2 := (same_eqr 0 hw).1 (show Same x x.v x.b x.n from ⟨rfl, rfl, fun _ _ => rfl⟩)
    rw [fe]
    exact ⟨j, hj, a2.trans a1.symm⟩
  have e2 : ∀ j, j < m → ∃ i, i < (rowsA T4 T6).length ∧ Eqr (fx i) (ro j) := fun j hj => by
    obtain ⟨hw, hr⟩ := h.row j hj
    have hg := (h.rep (ro j).v (ro j).b (ro j).n (ro j).o hw.ok.b hr).2 ⟨j, hj, ⟨rfl, rfl, fun _ _ => rfl⟩, rfl⟩
    have hn := right_n hr
    have hmem : ∃ x ∈ rowsA T4 T6, x.n = (ro j).n ∧ (∀ i, i < (ro j).n.toNat → bitF x.b i = bitF (ro j).b i) ∧ x.v = (ro j).v := by
      rcases Bool.eq_false_or_eq_true (ro j).v with ev | ev
      · rw [ev] at hg
        obtain ⟨x, hx, h1, h2, _⟩ := rows_of (v := true) (K := 128) (by omega) T6 0 _ (ro j).b _ _ (by omega) zeroByts z0 hf6 hg (fun i hi => by omega)
        exact ⟨x, List.mem_append.2 (.inr hx), by omega, fun i hi => h2 i (by omega), by rw [ev]; exact (rows_in (v := true) (K := 128) (by omega) T6 0 _ (by omega) zeroByts z0 hf6 x hx).vv⟩
      · rw [ev] at hg
        obtain ⟨x, hx, h1, h2, _⟩ := rows_of (v := false) (K := 32) (by omega) T4 0 _ (ro j).b _ _ (by omega) zeroByts z0 hf4 hg (fun i hi => by omega)
        exact ⟨x, List.mem_append.2 (.inl hx), by omega, fun i hi => h2 i (by omega), by rw [ev]; exact (rows_in (v := false) (K := 32) (by omega) T4 0 _ (by omega) zeroByts z0 hf4 x hx).vv⟩
    obtain ⟨x, hx, h1, h2, h3⟩ := hmem
    obtain ⟨i, hi, ei⟩ := List.getElem_of_mem hx
    have hsx : Same x (ro j).v (ro j).b (ro j).n := ⟨h3, h1, fun i hi => h2 i (by omega)⟩
    refine ⟨i, hi, ?_⟩
    rw [hfx i x (List.getElem?_eq_some_iff.2 ⟨hi, ei⟩)]
    exact ((same_eqr 0 (hin x hx).1).1 hsx).trans ((same_eqr 0 hw).1 (show Same (ro j) (ro j).v (ro j).b (ro j).n from ⟨rfl, rfl, fun _ _ => rfl⟩)).symm
  obtain ⟨hl, he⟩ := sort_same _ _ hs h.sort e1 e2
  refine ⟨hl, fun j x hx => ?_⟩
  have hj := (List.getElem?_eq_some_iff.1 hx).1
  have hE := he j hj
  rw [hfx j x hx] at hE
  obtain ⟨hw, k, hk, hsm, ho⟩ := hin x (List.mem_of_getElem? hx)
  have hkj : k = j := h.one hk (by omega) hsm (eqr_same hE rfl hw.ok.n1)
  subst hkj
  obtain ⟨a1, a2, a3⟩ := eqP_iff.1 hE
  unfold encR
  rw [ho, a1, a3]
  congr 2
  exact congrArg Value.agg (SC_same (fun i hi => pr_congr a2 i hi))
end Go.Proofs.Ytcpnleanjclfjaa
/-
  Own text. The code's table, told by rows in order, as the document's is.
-/
namespace Go.Proofs.Ytcpnleanjclfjaa
open Go.RowKit Go.Proofs
set_option maxRecDepth 100000
def TabC (w : World) (t m : Nat) (ro : Nat → Rw) : Prop := ∃ T4 T6 p4 p6, TabM w t (m : Int) T4 T6 p4 p6 ∧ Rep T4 T6 m ro
def NoNd (w : World) (k : Nat) : Prop := ∀ V, ¬ SAt w k 72 4 V
theorem TabC.blk {w : World} {t m : Nat} {ro : Nat → Rw} (h : TabC w t m ro) : ∃ V, SAt w t 58 3 V := by
  obtain ⟨_, _, _, _, h1, _⟩ := h
  exact ⟨_, h1.blk⟩
theorem TabC.lt {w : World} {t m : Nat} {ro : Nat → Rw} (h : TabC w t m ro) : t < w.heap.size := by
  obtain ⟨V, hV⟩ := h.blk
  exact hV.lt
theorem TabC.no {w : World} {t m : Nat} {ro : Nat → Rw} (h : TabC w t m ro) : NoNd w t := fun V hV => by
  obtain ⟨U, hU⟩ := h.blk
  have h1 := hU.symm.trans hV
  simp at h1
theorem TabC.le {w : World} {t m : Nat} {ro : Nat → Rw} (h : TabC w t m ro) : m ≤ 64 := by
  obtain ⟨_, _, _, _, _, h2⟩ := h
  exact h2.le
theorem TabC.sort {w : World} {t m : Nat} {ro : Nat → Rw} (h : TabC w t m ro) : RSort ro m := by
  obtain ⟨_, _, _, _, _, h2⟩ := h
  exact h2.sort
theorem TabC.row {w : World} {t m : Nat} {ro : Nat → Rw} (h : TabC w t m ro) (j : Nat) (hj : j < m) : RwW (ro j) ∧ rightF (ro j).v (ro j).b (ro j).n = true := by
  obtain ⟨_, _, _, _, _, h2⟩ := h
  exact h2.row j hj
theorem TabC.below {w w' : World} {t m : Nat} {ro : Nat → Rw} (h : TabC w t m ro) (hb : Below w.heap.size w w') : TabC w' t m ro := by
  obtain ⟨T4, T6, p4, p6, h1, h2⟩ := h
  exact ⟨T4, T6, p4, p6, h1.below hb, h2⟩
theorem TabC.tou {w w' : World} {T : Nat → Prop} {t m : Nat} {ro : Nat → Rw} (h : TabC w t m ro) (ht : Touch T w w') (hn : ∀ k, T k → k ≠ t ∧ NoNd w k) : TabC w' t m ro := by
  obtain ⟨T4, T6, p4, p6, h1, h2⟩ := h
  exact ⟨T4, T6, p4, p6, ⟨h1.blk.block (ht.block t h1.blk.lt (fun e => (hn t e).1 rfl)), h1.t4.tou ht (fun k V _ hs e => (hn k e).2 V hs), h1.t6.tou ht (fun k V _ hs e => (hn k e).2 V hs), h1.f4, h1.f6⟩, h2⟩
theorem newC (ro : Nat → Rw) (w : World) : Calls Try.prog 9 #[] w fun e w' => ∃ t, e = .returned (.pointer (some ⟨t, 0, none⟩)) ∧ w.heap.size ≤ t ∧ TabC w' t 0 ro ∧ Below w.heap.size w w' := by
  refine (new_run w).mono ?_
  rintro e w' ⟨t, rfl, h1, h2, h3⟩
  exact ⟨t, rfl, h1, ⟨.nil, .nil, none, none, h2, rep_nil ro⟩, h3⟩
theorem zeroC (ro : Nat → Rw) {w : World} {t : Nat} (h : SAt w t 58 3 (tbV none none 0)) : TabC w t 0 ro := ⟨.nil, .nil, none, none, new_tab h, rep_nil ro⟩
theorem lenC {w : World} {t m : Nat} {ro : Nat → Rw} (h : TabC w t m ro) : Calls Try.prog 17 #[.pointer (some ⟨t, 0, none⟩)] w fun e w' => e = .returned (.int .i64 (m : Int)) ∧ Below w.heap.size w w' := by
  obtain ⟨T4, T6, p4, p6, h1, h2⟩ := h
  exact len_run h1
theorem findC {w : World} {t m : Nat} {ro : Nat → Rw} (h : TabC w t m ro) (v : Bool) (b : Nat → Int) (hb : Byts 16 b) : Calls Try.prog 13 #[.pointer (some ⟨t, 0, none⟩), .agg (SC 17 (adV v b))] w fun e w' => e = .returned (findA ro v b m) ∧ Below w.heap.size w w' := by
  obtain ⟨T4, T6, p4, p6, h1, h2⟩ := h
  have := findC_run h1 v b hb
  rw [find_same h2 v b hb] at this
  exact this
theorem putC {w : World} {t m : Nat} {ro : Nat → Rw} (h : TabC w t m ro) (v : Bool) (b : Nat → Int) (n ow : Int) (hb : Byts 16 b) (hr : rightF v b n = true) : Calls Try.prog 15 #[.pointer (some ⟨t, 0, none⟩), .agg (SC 18 (prV v b n)), .int .i64 ow] w fun e w' => e = .returned (.int .i64 (putE ro m v (whB b n) n)) ∧ TabC w' t (putM ro m v (whB b n) n) (putRo ro m v (whB b n) n ow) ∧ Touch (fun k => k = t) w w' := by
  obtain ⟨T4, T6, p4, p6, h1, h2⟩ := h
  have hn := right_n hr
  by_cases hat : isAt ro m (posF ro m v (whB b n) n) v (whB b n) n = true
  · have hex := (there_iff h2).1 hat
    obtain ⟨j, hj, hs⟩ := hex
    have hg := (at_some h2 hb hr (o := (ro j).o)).2 ⟨j, hj, hs, rfl⟩
    have hE : putE ro m v (whB b n) n = 0 := by unfold putE; rw [if_pos hat]
    have hM : putM ro m v (whB b n) n = m := by unfold putM; rw [if_pos hat]
    have hR := rep_put h2 v b n ow hb hr (.inl ⟨j, hj, hs⟩)
    obtain ⟨N, rfl⟩ : ∃ N : Nat, n = (N : Int) := ⟨n.toNat, by omega⟩
    refine (put_yes h1 v b N ow hb hr (by omega) (.inr ⟨⟨_, hg⟩, rfl⟩)).mono ?_
    rintro e w' ⟨rfl, ⟨q4, q6, h3⟩, h4⟩
    rw [Int.toNat_natCast] at hR
    refine ⟨by rw [hE], ⟨_, _, q4, q6, ?_, hR⟩, h4⟩
    rw [hM]
    exact h3
  · have hno : ¬ ∃ j, j < m ∧ Same (ro j) v b n := fun e => hat ((there_iff h2).2 e)
    have hg := (at_none_iff h2 hb hr).2 hno
    by_cases hm : 64 ≤ m
    · have hE : putE ro m v (whB b n) n = 81 := by unfold putE; rw [if_neg hat, if_pos hm]
      have hM : putM ro m v (whB b n) n = m := by unfold putM; rw [if_neg hat, if_pos hm]
      have hR : putRo ro m v (whB b n) n ow = ro := by unfold putRo; rw [if_neg hat, if_pos hm]
      refine (put_full h1 v b n ow hb hr hg (by omega)).mono ?_
      rintro e w' ⟨rfl, hB⟩
      rw [hE, hM, hR]
      exact ⟨rfl, ⟨T4, T6, p4, p6, h1.below hB, h2⟩, Below.tou hB (Nat.le_refl _)⟩
    · have hE : putE ro m v (whB b n) n = 0 := by unfold putE; rw [if_neg hat, if_neg hm]
      have hM : putM ro m v (whB b n) n = m + 1 := by unfold putM; rw [if_neg hat, if_neg hm]
      have hR := rep_put h2 v b n ow hb hr (.inr (by omega))
      obtain ⟨N, rfl⟩ : ∃ N : Nat, n = (N : Int) := ⟨n.toNat, by omega⟩
      refine (put_yes (m2 := ((m + 1 : Nat) : Int)) h1 v b N ow hb hr (by omega) (.inl ⟨hg, by omega, by omega⟩)).mono ?_
      rintro e w' ⟨rfl, ⟨q4, q6, h3⟩, h4⟩
      rw [Int.toNat_natCast] at hR
      refine ⟨by rw [hE], ⟨_, _, q4, q6, ?_, hR⟩, h4⟩
      rw [hM]
      exact h3
theorem dropC_no {w : World} {t m : Nat} {ro : Nat → Rw} (h : TabC w t m ro) (v : Bool) (b : Nat → Int) (n : Int) (hb : Byts 16 b) (hr : rightF v b n = false) : Calls Try.prog 11 #[.pointer (some ⟨t, 0, none⟩), .agg (SC 18 (prV v b n))] w fun e w' => e = .returned (.tuple #[.int .i64 0, .bool false]) ∧ Below w.heap.size w w' := by
  obtain ⟨T4, T6, p4, p6, h1, h2⟩ := h
  exact drop_no h1 v b n hb (by unfold atG; rw [if_neg (by rw [hr]; simp)])
theorem dropC {w : World} {t m : Nat} {ro : Nat → Rw} (h : TabC w t m ro) (v : Bool) (b : Nat → Int) (n : Int) (hb : Byts 16 b) (hr : rightF v b n = true) : Calls Try.prog 11 #[.pointer (some ⟨t, 0, none⟩), .agg (SC 18 (prV v b n))] w fun e w' => e = .returned (dropA ro m v (whB b n) n) ∧ TabC w' t (dropM ro m v (whB b n) n) (dropRo ro m v (whB b n) n) ∧ Touch (fun k => k = t) w w' := by
  obtain ⟨T4, T6, p4, p6, h1, h2⟩ := h
  have hn := right_n hr
  have hle := h2.le
  by_cases hd : drpF ro m v (whB b n) n < m
  · have hs := (same_eqr 0 (h2.row _ hd).1).2 (drp_lt hd)
    have hg := (at_some h2 hb hr (o := (ro (drpF ro m v (whB b n) n)).o)).2 ⟨_, hd, hs, rfl⟩
    have hA : dropA ro m v (whB b n) n = .tuple #[.int .i64 (ro (drpF ro m v (whB b n) n)).o, .bool true] := by unfold dropA; rw [if_pos hd]
    have hM : dropM ro m v (whB b n) n = m - 1 := by unfold dropM; rw [if_pos hd]
    have hR := rep_drop h2 v b n hr hd
    obtain ⟨N, rfl⟩ : ∃ N : Nat, n = (N : Int) := ⟨n.toNat, by omega⟩
    refine (drop_yes h1 v b N _ hb hr (by omega) (by omega) hg).mono ?_
    rintro e w' ⟨rfl, ⟨q4, q6, h3⟩, h4⟩
    rw [Int.toNat_natCast] at hR
    refine ⟨by rw [hA], ⟨_, _, q4, q6, ?_, hR⟩, h4⟩
    rw [hM, show ((m - 1 : Nat) : Int) = (m : Int) - 1 by omega]
    exact h3
  · have hg := (at_none_iff h2 hb hr).2 (fun ⟨j, hj, hs⟩ => drp_ge hd j hj ((same_eqr 0 (h2.row j hj).1).1 hs))
    have hA : dropA ro m v (whB b n) n = .tuple #[.int .i64 0, .bool false] := by unfold dropA; rw [if_neg hd]
    have hM : dropM ro m v (whB b n) n = m := by unfold dropM; rw [if_neg hd]
    have hR : dropRo ro m v (whB b n) n = ro := by unfold dropRo; rw [if_neg hd]
    refine (drop_no h1 v b n hb hg).mono ?_
    rintro e w' ⟨rfl, hB⟩
    rw [hA, hM, hR]
    exact ⟨rfl, ⟨T4, T6, p4, p6, h1.below hB, h2⟩, Below.tou hB (Nat.le_refl _)⟩
theorem Gives.congr {α β : Type} {P : Program} {gf : Nat} {lb : Array Value} {e1 : α → Array Value} {e2 : β → Array Value} {xs : List α} {ys : List β} {A : Nat → Prop} {W : World} (h : Gives P gf lb e1 xs A W) (hl : xs.length = ys.length) (he : ∀ (j : Nat) (x : α) (y : β), xs[j]? = some x → ys[j]? = some y → e1 x = e2 y) : Gives P gf lb e2 ys A W :=
  fun l T J Jx X hX hT hJ hJx hY h0 => by
    have := h l T J Jx X hX hT hJ hJx (fun i x Z hx hj => by
      have hi := (List.getElem?_eq_some_iff.1 hx).1
      have ey : ys[i]? = some (ys[i]'(by omega)) := List.getElem?_eq_getElem (by omega)
      rw [he i x _ hx ey]
      exact hY i _ Z ey hj) h0
    rw [hl] at this
    exact this
def rowL (m : Nat) (ro : Nat → Rw) : List Rw := (List.range m).map ro
theorem allC {w : World} {t m : Nat} {ro : Nat → Rw} (h : TabC w t m ro) : Calls Try.prog 10 #[.pointer (some ⟨t, 0, none⟩)] w fun e w' => ∃ bs, e = .returned (.func (.func 25) #[] #[.pointer (some ⟨bs, 0, none⟩)]) ∧ w.heap.size ≤ bs ∧ bs < w'.heap.size ∧ Gives Try.prog 25 #[.pointer (some ⟨bs, 0, none⟩)] encR (rowL m ro) (fun k => k = bs ∨ (k < w.heap.size ∧ ¬ NoNd w k)) w' ∧ Below w.heap.size w w' := by
  obtain ⟨T4, T6, p4, p6, h1, h2⟩ := h
  refine (all_run h1.blk).mono ?_
  rintro e w' ⟨bs, rfl, h3, h4, h5⟩
  have key : ∀ {p : Option Addr} {T : Tr}, IsTr (fun _ => True) w p T → IsTr (fun k => k < w.heap.size ∧ ¬ NoNd w k) w' p T := fun ht => IsTr.kept (fun k V _ hs => ⟨⟨hs.lt, fun hn => hn V hs⟩, SAt.kept hs h5⟩) ht
  have hg := all_gives (A := fun k => k = bs ∨ (k < w.heap.size ∧ ¬ NoNd w k)) h4 (key h1.t4) (key h1.t6) h1.f4 h1.f6 (fun k hk => .inr hk) (.inl rfl)
  obtain ⟨hl, he⟩ := rows_eq h2 h1.f4 h1.f6
  refine ⟨bs, rfl, h3, h4.lt, Gives.congr hg (by simp [rowL, hl]) (fun j x y hx hy => ?_), h5⟩
  rw [he j x hx]
  unfold rowL at hy
  rw [List.getElem?_map] at hy
  obtain ⟨k, hk, rfl⟩ := Option.map_eq_some_iff.1 hy
  rw [List.getElem?_range (by have := (List.getElem?_eq_some_iff.1 hx).1; omega)] at hk
  obtain rfl := Option.some.inj hk
  rfl
theorem allC_none (w : World) : Calls Try.prog 10 #[.pointer none] w fun e w' => ∃ bs, e = .returned (.func (.func 25) #[] #[.pointer (some ⟨bs, 0, none⟩)]) ∧ w.heap.size ≤ bs ∧ bs < w'.heap.size ∧ Gives Try.prog 25 #[.pointer (some ⟨bs, 0, none⟩)] encR [] (fun k => k = bs) w' ∧ Below w.heap.size w w' := by
  refine (all_none w).mono ?_
  rintro e w' ⟨bs, rfl, h3, h4, h5⟩
  exact ⟨bs, rfl, h3, h4.lt, all_gives (S := fun _ => False) (T4 := .nil) (T6 := .nil) h4 rfl rfl trivial trivial (fun k hk => hk.elim) rfl, h5⟩
end Go.Proofs.Ytcpnleanjclfjaa
/-
  Own text. The law's awake.
-/
namespace Go.Proofs.Ytcpnleanjclfjaa
open Go.RowKit Go.Proofs
set_option maxRecDepth 100000
theorem run_fld (v : Bool) (b : Nat → Int) (n : Int) (w : World) : (Instr.field 37 (.agg (SC 18 (prV v b n))) 0).run Try.prog w = .ok (.agg (SC 17 (adV v b))) w := by kernel_rfl
theorem exec_fld {a : Act} {o : Oper} {w : World} {x : Operand} (ho : o.op = .field 37 x 0) {v : Bool} {b : Nat → Int} {n : Int} (hx : a.eval x = .agg (SC 18 (prV v b n))) : (execOp a.eval o).run Try.prog w = .ok (.value (.agg (SC 17 (adV v b)))) w := by
  unfold execOp
  simp only [ho]
  simp [hx, run_fld]
theorem four_byts {x y : Int} (hx : 0 ≤ x ∧ x < 256) (hy : 0 ≤ y ∧ y < 256) : Byts 16 (fourB x y) := fun i _ => by
  unfold fourB
  split
  · exact hx
  · split
    · exact hy
    · omega
def awR0 (_ : Nat) : Rw := ⟨false, fun _ => 0, 0, 0⟩
def awR1 : Nat → Rw := putRo awR0 0 false (whB (fourB 10 0) 8) 8 1
def awR2 : Nat → Rw := putRo awR1 1 false (whB (fourB 10 1) 16) 16 2
theorem aw_E1 : putE awR0 0 false (whB (fourB 10 0) 8) 8 = 0 := by kernel_rfl
theorem aw_M1 : putM awR0 0 false (whB (fourB 10 0) 8) 8 = 1 := by kernel_rfl
theorem aw_E2 : putE awR1 1 false (whB (fourB 10 1) 16) 16 = 0 := by kernel_rfl
theorem aw_M2 : putM awR1 1 false (whB (fourB 10 1) 16) 16 = 2 := by kernel_rfl
theorem aw_r1 : rightF false (fourB 10 0) 8 = true := by kernel_rfl
theorem aw_r2 : rightF false (fourB 10 1) 16 = true := by kernel_rfl
theorem aw_r3 : rightF false (fourB 0 0) 33 = false := by kernel_rfl
theorem aw_f1 : findF awR2 false (fourB 10 1) 2 = 1 := by kernel_rfl
theorem aw_f2 : findF awR2 false (fourB 10 2) 2 = 0 := by kernel_rfl
theorem aw_o1 : (awR2 1).o = 2 := by kernel_rfl
theorem aw_n1 : (awR2 1).n = 16 := by kernel_rfl
theorem aw_o0 : (awR2 0).o = 1 := by kernel_rfl
theorem aw_n0 : (awR2 0).n = 8 := by kernel_rfl
theorem aw_A1 : findA awR2 false (fourB 10 1) 2 = .tuple #[.int .i64 2, .agg (SC 18 (prV (awR2 1).v (awR2 1).b 16)), .bool true] := by
  unfold findA
  rw [aw_f1, if_neg (by omega), show (1 : Int).toNat = 1 from rfl, aw_o1, aw_n1]
theorem aw_A2 : findA awR2 false (fourB 10 2) 2 = .tuple #[.int .i64 1, .agg (SC 18 (prV (awR2 0).v (awR2 0).b 8)), .bool true] := by
  unfold findA
  rw [aw_f2, if_neg (by omega), show (0 : Int).toNat = 0 from rfl, aw_o0, aw_n0]
/-- A table's own block alone was touched: nothing that was there. -/
theorem new_below {w w1 w2 : World} {t : Nat} (ht : w.heap.size ≤ t) (hB : Below w.heap.size w w1) (h : Touch (fun k => k = t) w1 w2) : Below w.heap.size w w2 := hB.trans (tou_below h (fun k hk => by omega) hB.size)
set_option maxHeartbeats 32000000 in
theorem awake_run (w : World) : Calls Try.prog 8 #[] w fun e w' => e = .returned (.bool true) ∧ Below w.heap.size w w' := by
  go_enter Try.func8, Try.ntmps8
  go_wp2_with fail
  refine (newC awR0 w).mono ?_
  rintro e w1 ⟨t, rfl, ht, hT1, hB1⟩
  go_wp2_with fail
  refine (four_run 10 0 8 w1).mono ?_
  rintro e w2 ⟨rfl, hB2⟩
  have hT2 := hT1.below hB2
  have hBa := hB1.trans (hB2.mono hB1.size)
  clear hT1 hB1 hB2
  go_wp2_with fail
  refine (putC hT2 false (fourB 10 0) 8 1 (four_byts (by omega) (by omega)) aw_r1).mono ?_
  rintro e w3 ⟨rfl, hT3, hX3⟩
  rw [aw_E1]
  rw [aw_M1] at hT3
  change TabC w3 t 1 awR1 at hT3
  have hBb := new_below ht hBa hX3
  clear hT2 hX3 hBa
  go_wp2_with fail
  refine (four_run 10 1 16 w3).mono ?_
  rintro e w4 ⟨rfl, hB4⟩
  have hT4 := hT3.below hB4
  have hBc := hBb.trans (hB4.mono hBb.size)
  clear hT3 hB4 hBb
  go_wp2_with fail
  refine (putC hT4 false (fourB 10 1) 16 2 (four_byts (by omega) (by omega)) aw_r2).mono ?_
  rintro e w5 ⟨rfl, hT5, hX5⟩
  rw [aw_E2]
  rw [aw_M2] at hT5
  change TabC w5 t 2 awR2 at hT5
  have hBd := new_below ht hBc hX5
  clear hT4 hX5 hBc
  go_wp2_with fail
  refine (four_run 0 0 33 w5).mono ?_
  rintro e w6 ⟨rfl, hB6⟩
  have hT6 := hT5.below hB6
  have hBe := hBd.trans (hB6.mono hBd.size)
  clear hT5 hB6 hBd
  go_wp2_with fail
  refine (put_no false (fourB 0 0) 33 3 aw_r3).mono ?_
  rintro e w7 ⟨rfl, hB7⟩
  have hT7 := hT6.below hB7
  have hBf := hBe.trans (hB7.mono hBe.size)
  clear hT6 hB7 hBe
  go_wp2_with fail
  refine (four_run 10 1 0 w7).mono ?_
  rintro e w8 ⟨rfl, hB8⟩
  have hT8 := hT7.below hB8
  have hBg := hBf.trans (hB8.mono hBf.size)
  clear hT7 hB8 hBf
  go_wp2_with (refine wl_value rfl (exec_fld rfl (by rfl)) ?_)
  refine (findC hT8 false (fourB 10 1) (four_byts (by omega) (by omega))).mono ?_
  rintro e w9 ⟨rfl, hB9⟩
  rw [aw_A1]
  have hT9 := hT8.below hB9
  have hBh := hBg.trans (hB9.mono hBg.size)
  clear hT8 hB9 hBg
  generalize (awR2 1).v = v1
  generalize (awR2 1).b = b1
  go_wp2_with (first | (refine wl_value rfl (exec_ext rfl (by rfl) rfl) ?_) | (refine wl_alO rfl rfl zeroPfx ?_; intro g1 wA hgA qA hBA; refine Hid.out ?_))
  refine Hid.mk ?_
  go_wp2_with (refine st_stO rfl rfl isPfx (prV_one _ _ _) qA (by rfl) (by rfl) ?_; intro wB qB oB; refine Hid.out ?_)
  refine Hid.mk ?_
  have hTB := (hT9.below hBA).tou (touch_only oB) (fun k hk => by
    subst hk
    have := hT9.lt
    refine ⟨by omega, fun V hV => ?_⟩
    have h1 := qA.symm.trans hV
    simp at h1)
  have hBi := (hBh.trans (hBA.mono hBh.size)).trans (oB.below (by have := hBh.size; omega))
  clear hT9 hBA hBh oB qA
  go_wp2_with fail
  refine (four_run 10 2 0 wB).mono ?_
  rintro e wC ⟨rfl, hBC⟩
  have hTC := hTB.below hBC
  have qC := SAt.kept qB hBC
  have hBj := hBi.trans (hBC.mono hBi.size)
  clear hTB hBC hBi qB
  go_wp2_with (refine wl_value rfl (exec_fld rfl (by rfl)) ?_)
  refine (findC hTC false (fourB 10 2) (four_byts (by omega) (by omega))).mono ?_
  rintro e wD ⟨rfl, hBD⟩
  rw [aw_A2]
  have hTD := hTC.below hBD
  have qD := SAt.kept qC hBD
  have hBk := hBj.trans (hBD.mono hBj.size)
  clear hTC hBD hBj qC
  generalize (awR2 0).v = v0
  generalize (awR2 0).b = b0
  go_wp2_with (first | (refine wl_value rfl (exec_ext rfl (by rfl) rfl) ?_) | (refine wl_alO rfl rfl zeroPfx ?_; intro g2 wE hgE qE hBE; refine Hid.out ?_))
  refine Hid.mk ?_
  go_wp2_with (refine st_stO rfl rfl isPfx (prV_one _ _ _) qE (by rfl) (by rfl) ?_; intro wF qF oF; refine Hid.out ?_)
  refine Hid.mk ?_
  have hTF := (hTD.below hBE).tou (touch_only oF) (fun k hk => by
    subst hk
    have := hTD.lt
    refine ⟨by omega, fun V hV => ?_⟩
    have h1 := qE.symm.trans hV
    simp at h1)
  have q1F := (SAt.kept qD hBE).only oF (by have := SAt.lt qD; omega)
  have hBl := (hBk.trans (hBE.mono hBk.size)).trans (oF.below (by have := hBk.size; omega))
  have c1 := pr_n q1F
  have c2 := pr_n qF
  clear hTD hBE hBk oF qE qD
  go_wp2_with fail
  refine (lenC hTF).mono ?_
  rintro e wG ⟨rfl, hBG⟩
  go_wp2_with fail
  go_ret
  exact ⟨rfl, hBl.trans (hBG.mono hBl.size)⟩
end Go.Proofs.Ytcpnleanjclfjaa
