/-
  Own text. IpAgain: what was read may be, and is built anew as the very bytes that were read.
-/
import Derived.Test.YtdlepeogmjmleaaJ10
namespace Go.Proofs.Ytdlepeogmjmleaa
open Go.RowKit Go.Proofs
set_option maxRecDepth 100000
theorem exsOk_mem : ∀ {l : List Ex} {i : Nat}, exsOk l i = true → ∀ x ∈ l, x.body.size ≤ 2046
  | [], _, _, x, hx => by cases hx
  | y :: l, i, h, x, hx => by
    unfold exsOk at h
    have h' := Bool.and_eq_true _ _ ▸ h
    rcases List.mem_cons.1 hx with rfl | hx
    · exact (exOk_iff.1 h'.1).2.2.2
    · exact exsOk_mem h'.2 x hx
theorem rgt_exts {P : Pk} (h : rgtP P = true) : P.exts.length ≤ 4 ∧ ∀ x ∈ P.exts, x.body.size ≤ 140737488355328 := by
  obtain ⟨_, _, _, _, _, _, _, _, hr⟩ := rgtP_iff.1 h
  split at hr
  · obtain ⟨_, _, _, hx, _⟩ := rgt6_iff.1 hr
    refine ⟨?_, fun x hm => by have := exsOk_mem hx x hm; omega⟩
    rcases exsOk_len hx with e | e
    · rw [e]; decide
    · omega
  · obtain ⟨_, _, _, _, hx, _⟩ := rgt4_iff.1 hr
    rw [hx]
    exact ⟨by decide, fun x hm => by cases hm⟩
set_option maxHeartbeats 8000000 in
theorem again_walk (b : ByteArray) (w : World) (hb : b.size ≤ 140737488355328) : Calls Try.prog 7 #[.string b] w fun e w' => e = .returned (.bool true) ∧ Below w.heap.size w w' := by
  cases hR : rdP b with
  | err x =>
    have HPA := Hid.mk (fun ww => Parse_err hR ww (by omega))
    have hx := rd_err hR
    clear hR hb
    go_enter Try.func7, Try.ntmps7
    go_wp2_with (go_at_call 8; refine (awake_run _).mono ?_; rintro e u2 ⟨rfl, hB2⟩; refine Hid.out ?_)
    refine Hid.mk ?_
    go_wp2_with (go_at_call 18; refine (HPA.out _).mono ?_; rintro e u3 ⟨rfl, hB3⟩; refine Hid.out ?_)
    refine Hid.mk ?_
    have hBa := hB2.trans (hB3.mono hB2.size)
    clear hB2 hB3
    go_wp2_with (refine wl_alO rfl rfl zeroPk ?_; intro g4 u4 hg4 q4 hB4; refine Hid.out ?_)
    refine Hid.mk ?_
    have hg4w : w.heap.size ≤ g4 := by have := hBa.size; omega
    have hBb := hBa.trans (hB4.mono hBa.size)
    go_wp2_with (refine st_stO rfl rfl isPk (fun i => pkV_one rfl i) q4 (by rfl) (by rfl) ?_; intro u5 q5 o5; refine Hid.out ?_)
    refine Hid.mk ?_
    have hBc := hBb.trans (o5.below hg4w)
    have c13 : u5.cell? ⟨g4, 45, none⟩ = some (.string ByteArray.empty) := pk_pay q5
    have c11 := pk_exts q5
    clear hBa hBb q4 o5 hB4
    rcases hx with rfl | rfl | rfl | rfl | rfl
    all_goals
      go_wp2_with (first | (refine wl_value rfl (exec_fpkL 13 45 (by decide) rfl rfl (by rfl)) ?_) | (refine wl_value rfl (exec_fpkL 11 43 (by decide) rfl rfl (by rfl)) ?_) | (refine wl_value rfl (exec_ld rfl (by rfl) (ldPs c13)) ?_) | (refine wl_value rfl (exec_ld rfl (by rfl) (ldPx c11)) ?_) | (refine wl_value rfl (exec_eqT (s := ByteArray.empty) (t := ByteArray.empty) rfl rfl (by rfl) (by rfl)) ?_) | (refine wl_value rfl (exec_lenX rfl (by rfl)) ?_))
      go_ret
      exact ⟨rfl, hBc⟩
  | ok Q =>
    obtain ⟨hO, hr, hf, hz, he⟩ := bld_rd hR
    obtain ⟨hx4, hxb⟩ := rgt_exts hr
    have hpy : Q.pay.size ≤ 140737488355328 := by
      unfold sizeP at hz
      rw [if_pos hr] at hz
      omega
    have HPA : Hid (∀ ww, Calls Try.prog 18 #[.string b] ww fun e w' => Below ww.heap.size ww w' ∧ ∃ v, e = .returned (.tuple #[.agg (SC 46 (pkV Q v)), .int .i64 0]) ∧ v.oneCell' = true ∧ ExAt w' v Q.exts) := Hid.mk (fun ww => (Parse_ok hR ww (by omega)).mono (fun e w' ⟨h1, v, h2, h3⟩ => ⟨h1, v, h2, h3.one, h3.exAt⟩))
    have HB1 : Hid (∀ v ww, ExAt ww v Q.exts → Calls Try.prog 10 #[.agg (SC 46 (pkV Q v))] ww fun e w' => e = .returned (.tuple #[.string (bldT Q), .int .i64 0]) ∧ Below ww.heap.size ww w') := Hid.mk (fun v ww h => by
      have := Build_run Q v ww h hO (by omega) hxb hpy
      rw [bld_yes hr hf] at this
      exact this)
    have HZ1 : Hid (∀ v ww, ExAt ww v Q.exts → Calls Try.prog 15 #[.agg (SC 46 (pkV Q v))] ww fun e w' => e = .returned (.int .i64 ((sizeP Q : Nat) : Int)) ∧ Below ww.heap.size ww w') := Hid.mk (fun v ww h => Size_run Q v ww h (by omega) hxb hpy)
    have HSL : Hid (∀ ww, (Instr.sliceAt 9 (.string b) none (some (.int .i64 ((sizeP Q : Nat) : Int))) none).run Try.prog ww = .ok (.string (b.extract 0 (sizeP Q))) ww) := Hid.mk (fun ww => strH b (sizeP Q) ww hz)
    have HEQ := Hid.mk he
    have hzi : ((sizeP Q : Nat) : Int) ≤ (b.size : Int) := by omega
    clear hR hO hr hf hz he hx4 hxb hpy hb
    generalize bldT Q = BT at *
    generalize b.extract 0 (sizeP Q) = BX at *
    generalize sizeP Q = SZ at *
    go_enter Try.func7, Try.ntmps7
    go_wp2_with (go_at_call 8; refine (awake_run _).mono ?_; rintro e u2 ⟨rfl, hB2⟩; refine Hid.out ?_)
    refine Hid.mk ?_
    go_wp2_with (go_at_call 18; refine (HPA.out _).mono ?_; rintro e u3 ⟨hB3, v, rfl, hon, hx3⟩; refine Hid.out ?_)
    refine Hid.mk ?_
    have hBa := hB2.trans (hB3.mono hB2.size)
    clear hB2 hB3
    go_wp2_with (refine wl_alO rfl rfl zeroPk ?_; intro g4 u4 hg4 q4 hB4; refine Hid.out ?_)
    refine Hid.mk ?_
    go_wp2_with (refine st_stO rfl rfl isPk (fun i => pkV_one hon i) q4 (by rfl) (by rfl) ?_; intro u5 q5 o5; refine Hid.out ?_)
    refine Hid.mk ?_
    have hBn : Below u3.heap.size u3 u5 := hB4.trans (o5.below hg4)
    have HX5 := Hid.mk (hx3.kept hBn)
    have hBb := hBa.trans (hBn.mono hBa.size)
    clear hx3 hBa hBn hB4 o5 q4
    go_wp2_with (first | (refine wl_value rfl (look_st rfl isPk q5 (by rfl)) ?_) | (go_at_call 10; refine (HB1.out _ _ HX5.out).mono ?_; rintro e u6 ⟨rfl, hB6⟩; refine Hid.out ?_))
    refine Hid.mk ?_
    have q6 := q5.kept hB6
    have HX6 := Hid.mk (HX5.out.kept hB6)
    have hBc := hBb.trans (hB6.mono hBb.size)
    clear q5 HX5 hBb hB6
    go_wp2_with (first | (refine wl_value rfl (look_st rfl isPk q6 (by rfl)) ?_) | (go_at_call 15; refine (HZ1.out _ _ HX6.out).mono ?_; rintro e u7 ⟨rfl, hB7⟩; refine Hid.out ?_))
    refine Hid.mk ?_
    have hBd := hBc.trans (hB7.mono hBc.size)
    go_wp2_with (first | (refine wl_value rfl (exec_slH (u := .int .i64 ((SZ : Nat) : Int)) rfl (by rfl) (by rfl) (HSL.out _)) ?_) | (refine wl_value rfl (exec_eqT (s := BT) (t := BX) HEQ.out rfl (by rfl) (by rfl)) ?_))
    go_ret
    exact ⟨rfl, hBd⟩
end Go.Proofs.Ytdlepeogmjmleaa
