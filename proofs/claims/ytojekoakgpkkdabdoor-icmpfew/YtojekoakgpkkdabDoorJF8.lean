/-
  Own text. In no stretch of time are more error messages allowed than the tokens that there were and came.
-/
import Derived.Test.YtojekoakgpkkdabDoorJF7
namespace Go.Proofs.YtojekoakgpkkdabDoor
open Go.RowKit Go.Proofs
set_option maxRecDepth 100000
def I64 (n : Int) : Prop := -9223372036854775808 ≤ n ∧ n < 9223372036854775808
def NumsAt (w : World) (v : Value) (n : Nat) (f : Nat → Int) : Prop := ∃ a c, v = .slice a n c ∧ ∀ j, j < n → ∃ p : Addr, a = some p ∧ w.cell? (p.add j) = some (.int .i64 (f j)) ∧ p.block < w.heap.size
theorem en_awake (args : Array Value) (w : World) : (callFunc 5 args).run Tryd.prog w = .ok (.enter 5 args) w := by kernel_rfl
theorem exec_ixIp {a : Act} {o : Oper} {w : World} {x y : Operand} {p : Addr} {n c i : Nat} (ho : o.op = .indexAddr 22 x y) (hx : a.eval x = .slice (some p) n c) (hy : a.eval y = .int .i64 (i : Int)) (hi : i < n) : (execOp a.eval o).run Tryd.prog w = .ok (.value (.pointer (some (p.add i)))) w := by
  have h1 : ((i : Int)) < (n : Int) := by omega
  unfold execOp
  simp only [ho, hx, hy]
  simp [go_sem, h1]
theorem exec_lenI {a : Act} {o : Oper} {w : World} {x : Operand} {p : Option Addr} {n c : Nat} (ho : o.op = .call { callee := .builtin .len, args := #[x], argTypes := #[22] }) (hx : a.eval x = .slice p n c) : (execOp a.eval o).run Tryd.prog w = .ok (.value (.int .i64 (n : Int))) w := by
  have hr : (Builtin.len_ #[22] o.type #[.slice p n c]).run Tryd.prog w = .ok (.int .i64 (n : Int)) w := by simp [Builtin.len_, goInt]
  simp [execOp, ho, resolve, invoke, builtin, hx, hr]
/-- What is known ahead of a call: the bucket, and what was given. -/
def FewI (sp now given : Int) (k : Nat) : Prop := BuI sp now ∧ given ≤ sp + now / 100 ∧ 0 ≤ given ∧ given ≤ k ∧ (0 < k → 0 < given) ∧ (k = 0 → sp = 0)
theorem few_first {now t : Int} (h : BuI 0 now) (_ht : t < 9223372036854775808) : allowB 0 now t = true := by
  have := h.t0
  have h0 : spF 0 now t = 0 := by unfold spF; split <;> omega
  unfold allowB
  rw [h0]
  rfl
theorem few_step {sp now given t : Int} {k : Nat} (h : FewI sp now given k) (ht : t < 9223372036854775808) : FewI (allowF sp now t) (tmF now t) (if allowB sp now t = true then given + 1 else given) (k + 1) := by
  obtain ⟨hb, h1, h2, h3, h4, h5⟩ := h
  have hb' := hb.allow ht
  have hs := hb.s0; have hs1 := hb.s1; have ht0 := hb.t0
  have hsp : sp + now / 100 ≤ spF sp now t + tmF now t / 100 := by unfold spF tmF; split <;> omega
  have hsp1 := (hb.tell ht).s1
  rcases Bool.eq_false_or_eq_true (allowB sp now t) with ha | ha
  · have hne : ¬ spF sp now t = 10 := fun e => by unfold allowB at ha; rw [e] at ha; cases ha
    have haf : allowF sp now t = spF sp now t + 1 := by unfold allowF; rw [if_neg hne]
    rw [haf] at hb' ⊢
    rw [ha, if_pos rfl]
    exact ⟨hb', by omega, by omega, by omega, fun _ => by omega, fun e => by omega⟩
  · have he : spF sp now t = 10 := by
      unfold allowB at ha
      exact of_decide_eq_true (by simpa using ha)
    have haf : allowF sp now t = 10 := by unfold allowF; rw [if_pos he]
    have hk : 0 < k := by
      rcases Nat.eq_zero_or_pos k with e | e
      · have := h5 e
        subst this
        rw [few_first hb ht] at ha
        cases ha
      · exact e
    rw [haf] at hb' ⊢
    rw [ha, if_neg (by decide)]
    exact ⟨hb', by omega, by omega, by omega, fun _ => h4 hk, fun e => by omega⟩
set_option maxHeartbeats 16000000 in
theorem few_walk (ts : Value) (n : Nat) (f : Nat → Int) (w : World) (he : Env w) (hN : NumsAt w ts n f) (hI : ∀ i, i < n → I64 (f i)) (hn : n < 9223372036854775808) : Calls Tryd.prog 3 #[ts] w fun e w' => e = .returned (.bool true) ∧ Below w.heap.size w w' := by
  obtain ⟨a, c, rfl, hc⟩ := hN
  have HC := Hid.mk hc
  have HI := Hid.mk hI
  have HN := Hid.mk hn
  have HA := Hid.mk (awake_run w he)
  clear he hc hI hn
  go_enter Tryd.func3, Tryd.ntmps3
  go_wp2_with (refine wl_cal en_awake HA rfl rfl args0 ?_; intro w1 hB1; refine Hid.out ?_)
  refine Hid.mk ?_
  go_wp2_with (go_at_call 6; refine (NewBucket_run w1).mono ?_; rintro e w2 ⟨g, rfl, hg, s2, hB2⟩; refine Hid.out ?_)
  refine Hid.mk ?_
  have hnil := run_nilBu ⟨g, 0, none⟩
  have HG : Hid (w.heap.size ≤ g) := Hid.mk (Nat.le_trans hB1.size hg)
  have HS2 := Hid.mk s2
  have HB2 := Hid.mk (hB1.trans (hB2.mono hB1.size))
  clear hB1 hB2 s2 hg HA
  go_wp2_with fail
  go_loopg [5, 6, 7] n (fun gm nv gv iv z => ∃ (k : Nat) (now given sp : Int), Hid (gm + k = n) ∧ nv = .int .i64 now ∧ gv = .int .i64 given ∧ iv = .int .i64 (k : Int) ∧ Hid (SAt z g 45 2 (buV sp now)) ∧ Hid (FewI sp now given k) ∧ Hid (Below w.heap.size w z))
  case atStart => exact ⟨0, 0, 0, 0, Hid.mk rfl, rfl, rfl, rfl, HS2, Hid.mk ⟨bu_0, by decide, by decide, by decide, fun h => absurd h (by decide), fun _ => rfl⟩, HB2⟩
  case round =>
    obtain ⟨k, now, given, sp, HK, rfl, rfl, rfl, HS, HF, HBz⟩ := hrel
    by_cases hlt : k < n
    · have HLT : Hid (decide ((k : Int) < (n : Int)) = true) := Hid.mk (decide_eq_true (by omega))
      have HKL := Hid.mk hlt
      obtain ⟨p, hap, hck, hpb⟩ := HC.out k hlt
      subst hap
      have HT : Hid (I64 (f k)) := Hid.mk (HI.out k hlt)
      obtain ⟨t, ht⟩ : ∃ t, f k = t := ⟨_, rfl⟩
      rw [ht] at HT hck
      have HCK := Hid.mk hck
      have HPB := Hid.mk hpb
      clear ht hck hpb hlt
      have HST := Hid.mk (few_step HF.out HT.out.2)
      have HCZ : Hid (∀ z', Below w.heap.size w z' → z'.cell? (p.add k) = some (.int .i64 t)) := Hid.mk (fun z' hb => (hb.cell (by rw [add_blk]; exact HPB.out)).trans HCK.out)
      go_wp2_with (refine wl_value rfl (exec_lenI rfl rfl) ?_; refine Hid.out ?_)
      refine Hid.mk ?_
      go_wp2_with (refine wl_value rfl (kn_ (c := true) HLT (cmp_lt (m := (k : Int)) (n := (n : Int)) rfl rfl rfl)) ?_; refine Hid.out ?_)
      refine Hid.mk ?_
      go_wp2_with (refine wl_value rfl (exec_ixIp (i := k) rfl rfl rfl HKL.out) ?_; refine Hid.out ?_)
      refine Hid.mk ?_
      go_wp2_with (refine wl_value rfl (exec_ld rfl rfl (ldI (HCZ.out _ HBz.out))) ?_; refine Hid.out ?_)
      refine Hid.mk ?_
      rcases Bool.eq_false_or_eq_true (decide (now < t)) with hc | hc
      · have HCM := Hid.mk hc
        have HTM : Hid (tmF now t = t) := Hid.mk (by unfold tmF; have := of_decide_eq_true hc; rw [if_neg (by omega)])
        clear hc
        go_wp2_with (refine wl_value rfl (kn_ (c := true) HCM (cmp_gt (m := t) (n := now) rfl rfl rfl)) ?_; refine Hid.out ?_)
        refine Hid.mk ?_
        go_wp2_with (refine wl_value rfl (exec_ixIp (i := k) rfl rfl rfl HKL.out) ?_; refine Hid.out ?_)
        refine Hid.mk ?_
        go_wp2_with (refine wl_value rfl (exec_ld rfl rfl (ldI (HCZ.out _ HBz.out))) ?_; refine Hid.out ?_)
        refine Hid.mk ?_
        go_wp2_with (refine wl_value rfl (exec_ixIp (i := k) rfl rfl rfl HKL.out) ?_; refine Hid.out ?_)
        refine Hid.mk ?_
        go_wp2_with (refine wl_value rfl (exec_ld rfl rfl (ldI (HCZ.out _ HBz.out))) ?_; refine Hid.out ?_)
        refine Hid.mk ?_
        rcases Bool.eq_false_or_eq_true (allowB sp now t) with ha | ha
        · have HAL := Hid.mk (by have h := Allow_run HS.out HF.out.1 HT.out.2; rw [ha] at h; exact h)
          have HST2 : Hid (FewI (allowF sp now t) t (given + 1) (k + 1)) := Hid.mk (by have h := HST.out; rw [ha, HTM.out] at h; rw [if_pos rfl] at h; exact h)
          have HFN : Hid (0 ≤ given ∧ given ≤ k ∧ k < n ∧ n < 9223372036854775808) := Hid.mk ⟨HF.out.2.2.1, HF.out.2.2.2.1, HKL.out, HN.out⟩
          clear ha
          go_wp2_with (go_at_call 7; refine HAL.out.mono ?_; rintro e z2 ⟨rfl, s2, ht2⟩; refine Hid.out ?_)
          refine Hid.mk ?_
          rw [HTM.out] at s2
          have HS2 := Hid.mk s2
          have HB2 := Hid.mk (HBz.out.trans (tou_bel ht2 HG.out HBz.out.size))
          clear s2 ht2
          go_wp2_with (refine wl_value rfl (exec_add (m := given) (n := 1) rfl rfl rfl (by have := HFN.out; omega) (by have := HFN.out; omega)) ?_; refine Hid.out ?_)
          refine Hid.mk ?_
          rcases Bool.eq_false_or_eq_true (decide (10 < (given + 1))) with hx | hx
          · have HX := Hid.mk hx
            clear hx
            go_wp2_with (refine wl_value rfl (kn_ (c := true) HX (cmp_gt (m := given + 1) (n := 10) rfl rfl rfl)) ?_; refine Hid.out ?_)
            refine Hid.mk ?_
            have H2 : Hid (decide (t / 100 < (given + 1) - 10) = false) := Hid.mk (decide_eq_false (by have h1 := HST2.out.2.1; have h2 := HST2.out.1.s1; omega))
            go_wp2_with (refine wl_value rfl (exec_sbI (m := given + 1) (n := 10) rfl rfl rfl (by have := HFN.out; omega) (by have := HFN.out; omega)) ?_; refine Hid.out ?_)
            refine Hid.mk ?_
            go_wp2_with (refine wl_value rfl (exec_quI (m := t) (n := 100) rfl rfl rfl HST2.out.1.t0 (by decide) HST2.out.1.t1) ?_; refine Hid.out ?_)
            refine Hid.mk ?_
            go_wp2_with (refine wl_value rfl (kn_ (c := false) H2 (cmp_gt (m := (given + 1) - 10) (n := t / 100) rfl rfl rfl)) ?_; refine Hid.out ?_)
            refine Hid.mk ?_
            go_wp2_with (refine wl_value rfl (exec_addW (i := k) (m := 1) (q := k + 1) rfl rfl rfl rfl (by have := HFN.out; omega)) ?_; refine Hid.out ?_)
            refine Hid.mk ?_
            go_wp2_with fail
            go_roundg (n - (k + 1))
            case rel => have hk1 := HKL.out; have hn1 := HN.out; exact ⟨k + 1, t, given + 1, allowF sp now t, Hid.mk (by have := HKL.out; omega), rfl, rfl, rfl, HS2, HST2, HB2⟩
            case measure => have h1 := HK.out; have h2 := HKL.out; omega
          · have HX := Hid.mk hx
            clear hx
            go_wp2_with (refine wl_value rfl (kn_ (c := false) HX (cmp_gt (m := given + 1) (n := 10) rfl rfl rfl)) ?_; refine Hid.out ?_)
            refine Hid.mk ?_
            go_wp2_with (refine wl_value rfl (exec_addW (i := k) (m := 1) (q := k + 1) rfl rfl rfl rfl (by have := HFN.out; omega)) ?_; refine Hid.out ?_)
            refine Hid.mk ?_
            go_wp2_with fail
            go_roundg (n - (k + 1))
            case rel => have hk1 := HKL.out; have hn1 := HN.out; exact ⟨k + 1, t, given + 1, allowF sp now t, Hid.mk (by have := HKL.out; omega), rfl, rfl, rfl, HS2, HST2, HB2⟩
            case measure => have h1 := HK.out; have h2 := HKL.out; omega
        · have HAL := Hid.mk (by have h := Allow_run HS.out HF.out.1 HT.out.2; rw [ha] at h; exact h)
          have HST2 : Hid (FewI (allowF sp now t) t given (k + 1)) := Hid.mk (by have h := HST.out; rw [ha, HTM.out] at h; rw [if_neg (by decide)] at h; exact h)
          have HFN : Hid (0 ≤ given ∧ given ≤ k ∧ k < n ∧ n < 9223372036854775808) := Hid.mk ⟨HF.out.2.2.1, HF.out.2.2.2.1, HKL.out, HN.out⟩
          clear ha
          go_wp2_with (go_at_call 7; refine HAL.out.mono ?_; rintro e z2 ⟨rfl, s2, ht2⟩; refine Hid.out ?_)
          refine Hid.mk ?_
          rw [HTM.out] at s2
          have HS2 := Hid.mk s2
          have HB2 := Hid.mk (HBz.out.trans (tou_bel ht2 HG.out HBz.out.size))
          clear s2 ht2
          rcases Bool.eq_false_or_eq_true (decide (10 < given)) with hx | hx
          · have HX := Hid.mk hx
            clear hx
            go_wp2_with (refine wl_value rfl (kn_ (c := true) HX (cmp_gt (m := given) (n := 10) rfl rfl rfl)) ?_; refine Hid.out ?_)
            refine Hid.mk ?_
            have H2 : Hid (decide (t / 100 < given - 10) = false) := Hid.mk (decide_eq_false (by have h1 := HST2.out.2.1; have h2 := HST2.out.1.s1; omega))
            go_wp2_with (refine wl_value rfl (exec_sbI (m := given) (n := 10) rfl rfl rfl (by have := HFN.out; omega) (by have := HFN.out; omega)) ?_; refine Hid.out ?_)
            refine Hid.mk ?_
            go_wp2_with (refine wl_value rfl (exec_quI (m := t) (n := 100) rfl rfl rfl HST2.out.1.t0 (by decide) HST2.out.1.t1) ?_; refine Hid.out ?_)
            refine Hid.mk ?_
            go_wp2_with (refine wl_value rfl (kn_ (c := false) H2 (cmp_gt (m := given - 10) (n := t / 100) rfl rfl rfl)) ?_; refine Hid.out ?_)
            refine Hid.mk ?_
            go_wp2_with (refine wl_value rfl (exec_addW (i := k) (m := 1) (q := k + 1) rfl rfl rfl rfl (by have := HFN.out; omega)) ?_; refine Hid.out ?_)
            refine Hid.mk ?_
            go_wp2_with fail
            go_roundg (n - (k + 1))
            case rel => have hk1 := HKL.out; have hn1 := HN.out; exact ⟨k + 1, t, given, allowF sp now t, Hid.mk (by have := HKL.out; omega), rfl, rfl, rfl, HS2, HST2, HB2⟩
            case measure => have h1 := HK.out; have h2 := HKL.out; omega
          · have HX := Hid.mk hx
            clear hx
            go_wp2_with (refine wl_value rfl (kn_ (c := false) HX (cmp_gt (m := given) (n := 10) rfl rfl rfl)) ?_; refine Hid.out ?_)
            refine Hid.mk ?_
            go_wp2_with (refine wl_value rfl (exec_addW (i := k) (m := 1) (q := k + 1) rfl rfl rfl rfl (by have := HFN.out; omega)) ?_; refine Hid.out ?_)
            refine Hid.mk ?_
            go_wp2_with fail
            go_roundg (n - (k + 1))
            case rel => have hk1 := HKL.out; have hn1 := HN.out; exact ⟨k + 1, t, given, allowF sp now t, Hid.mk (by have := HKL.out; omega), rfl, rfl, rfl, HS2, HST2, HB2⟩
            case measure => have h1 := HK.out; have h2 := HKL.out; omega
      · have HCM := Hid.mk hc
        have HTM : Hid (tmF now t = now) := Hid.mk (by unfold tmF; have := of_decide_eq_false hc; rw [if_pos (by omega)])
        clear hc
        go_wp2_with (refine wl_value rfl (kn_ (c := false) HCM (cmp_gt (m := t) (n := now) rfl rfl rfl)) ?_; refine Hid.out ?_)
        refine Hid.mk ?_
        go_wp2_with (refine wl_value rfl (exec_ixIp (i := k) rfl rfl rfl HKL.out) ?_; refine Hid.out ?_)
        refine Hid.mk ?_
        go_wp2_with (refine wl_value rfl (exec_ld rfl rfl (ldI (HCZ.out _ HBz.out))) ?_; refine Hid.out ?_)
        refine Hid.mk ?_
        rcases Bool.eq_false_or_eq_true (allowB sp now t) with ha | ha
        · have HAL := Hid.mk (by have h := Allow_run HS.out HF.out.1 HT.out.2; rw [ha] at h; exact h)
          have HST2 : Hid (FewI (allowF sp now t) now (given + 1) (k + 1)) := Hid.mk (by have h := HST.out; rw [ha, HTM.out] at h; rw [if_pos rfl] at h; exact h)
          have HFN : Hid (0 ≤ given ∧ given ≤ k ∧ k < n ∧ n < 9223372036854775808) := Hid.mk ⟨HF.out.2.2.1, HF.out.2.2.2.1, HKL.out, HN.out⟩
          clear ha
          go_wp2_with (go_at_call 7; refine HAL.out.mono ?_; rintro e z2 ⟨rfl, s2, ht2⟩; refine Hid.out ?_)
          refine Hid.mk ?_
          rw [HTM.out] at s2
          have HS2 := Hid.mk s2
          have HB2 := Hid.mk (HBz.out.trans (tou_bel ht2 HG.out HBz.out.size))
          clear s2 ht2
          go_wp2_with (refine wl_value rfl (exec_add (m := given) (n := 1) rfl rfl rfl (by have := HFN.out; omega) (by have := HFN.out; omega)) ?_; refine Hid.out ?_)
          refine Hid.mk ?_
          rcases Bool.eq_false_or_eq_true (decide (10 < (given + 1))) with hx | hx
          · have HX := Hid.mk hx
            clear hx
            go_wp2_with (refine wl_value rfl (kn_ (c := true) HX (cmp_gt (m := given + 1) (n := 10) rfl rfl rfl)) ?_; refine Hid.out ?_)
            refine Hid.mk ?_
            have H2 : Hid (decide (now / 100 < (given + 1) - 10) = false) := Hid.mk (decide_eq_false (by have h1 := HST2.out.2.1; have h2 := HST2.out.1.s1; omega))
            go_wp2_with (refine wl_value rfl (exec_sbI (m := given + 1) (n := 10) rfl rfl rfl (by have := HFN.out; omega) (by have := HFN.out; omega)) ?_; refine Hid.out ?_)
            refine Hid.mk ?_
            go_wp2_with (refine wl_value rfl (exec_quI (m := now) (n := 100) rfl rfl rfl HST2.out.1.t0 (by decide) HST2.out.1.t1) ?_; refine Hid.out ?_)
            refine Hid.mk ?_
            go_wp2_with (refine wl_value rfl (kn_ (c := false) H2 (cmp_gt (m := (given + 1) - 10) (n := now / 100) rfl rfl rfl)) ?_; refine Hid.out ?_)
            refine Hid.mk ?_
            go_wp2_with (refine wl_value rfl (exec_addW (i := k) (m := 1) (q := k + 1) rfl rfl rfl rfl (by have := HFN.out; omega)) ?_; refine Hid.out ?_)
            refine Hid.mk ?_
            go_wp2_with fail
            go_roundg (n - (k + 1))
            case rel => have hk1 := HKL.out; have hn1 := HN.out; exact ⟨k + 1, now, given + 1, allowF sp now t, Hid.mk (by have := HKL.out; omega), rfl, rfl, rfl, HS2, HST2, HB2⟩
            case measure => have h1 := HK.out; have h2 := HKL.out; omega
          · have HX := Hid.mk hx
            clear hx
            go_wp2_with (refine wl_value rfl (kn_ (c := false) HX (cmp_gt (m := given + 1) (n := 10) rfl rfl rfl)) ?_; refine Hid.out ?_)
            refine Hid.mk ?_
            go_wp2_with (refine wl_value rfl (exec_addW (i := k) (m := 1) (q := k + 1) rfl rfl rfl rfl (by have := HFN.out; omega)) ?_; refine Hid.out ?_)
            refine Hid.mk ?_
            go_wp2_with fail
            go_roundg (n - (k + 1))
            case rel => have hk1 := HKL.out; have hn1 := HN.out; exact ⟨k + 1, now, given + 1, allowF sp now t, Hid.mk (by have := HKL.out; omega), rfl, rfl, rfl, HS2, HST2, HB2⟩
            case measure => have h1 := HK.out; have h2 := HKL.out; omega
        · have HAL := Hid.mk (by have h := Allow_run HS.out HF.out.1 HT.out.2; rw [ha] at h; exact h)
          have HST2 : Hid (FewI (allowF sp now t) now given (k + 1)) := Hid.mk (by have h := HST.out; rw [ha, HTM.out] at h; rw [if_neg (by decide)] at h; exact h)
          have HFN : Hid (0 ≤ given ∧ given ≤ k ∧ k < n ∧ n < 9223372036854775808) := Hid.mk ⟨HF.out.2.2.1, HF.out.2.2.2.1, HKL.out, HN.out⟩
          clear ha
          go_wp2_with (go_at_call 7; refine HAL.out.mono ?_; rintro e z2 ⟨rfl, s2, ht2⟩; refine Hid.out ?_)
          refine Hid.mk ?_
          rw [HTM.out] at s2
          have HS2 := Hid.mk s2
          have HB2 := Hid.mk (HBz.out.trans (tou_bel ht2 HG.out HBz.out.size))
          clear s2 ht2
          rcases Bool.eq_false_or_eq_true (decide (10 < given)) with hx | hx
          · have HX := Hid.mk hx
            clear hx
            go_wp2_with (refine wl_value rfl (kn_ (c := true) HX (cmp_gt (m := given) (n := 10) rfl rfl rfl)) ?_; refine Hid.out ?_)
            refine Hid.mk ?_
            have H2 : Hid (decide (now / 100 < given - 10) = false) := Hid.mk (decide_eq_false (by have h1 := HST2.out.2.1; have h2 := HST2.out.1.s1; omega))
            go_wp2_with (refine wl_value rfl (exec_sbI (m := given) (n := 10) rfl rfl rfl (by have := HFN.out; omega) (by have := HFN.out; omega)) ?_; refine Hid.out ?_)
            refine Hid.mk ?_
            go_wp2_with (refine wl_value rfl (exec_quI (m := now) (n := 100) rfl rfl rfl HST2.out.1.t0 (by decide) HST2.out.1.t1) ?_; refine Hid.out ?_)
            refine Hid.mk ?_
            go_wp2_with (refine wl_value rfl (kn_ (c := false) H2 (cmp_gt (m := given - 10) (n := now / 100) rfl rfl rfl)) ?_; refine Hid.out ?_)
            refine Hid.mk ?_
            go_wp2_with (refine wl_value rfl (exec_addW (i := k) (m := 1) (q := k + 1) rfl rfl rfl rfl (by have := HFN.out; omega)) ?_; refine Hid.out ?_)
            refine Hid.mk ?_
            go_wp2_with fail
            go_roundg (n - (k + 1))
            case rel => have hk1 := HKL.out; have hn1 := HN.out; exact ⟨k + 1, now, given, allowF sp now t, Hid.mk (by have := HKL.out; omega), rfl, rfl, rfl, HS2, HST2, HB2⟩
            case measure => have h1 := HK.out; have h2 := HKL.out; omega
          · have HX := Hid.mk hx
            clear hx
            go_wp2_with (refine wl_value rfl (kn_ (c := false) HX (cmp_gt (m := given) (n := 10) rfl rfl rfl)) ?_; refine Hid.out ?_)
            refine Hid.mk ?_
            go_wp2_with (refine wl_value rfl (exec_addW (i := k) (m := 1) (q := k + 1) rfl rfl rfl rfl (by have := HFN.out; omega)) ?_; refine Hid.out ?_)
            refine Hid.mk ?_
            go_wp2_with fail
            go_roundg (n - (k + 1))
            case rel => have hk1 := HKL.out; have hn1 := HN.out; exact ⟨k + 1, now, given, allowF sp now t, Hid.mk (by have := HKL.out; omega), rfl, rfl, rfl, HS2, HST2, HB2⟩
            case measure => have h1 := HK.out; have h2 := HKL.out; omega
    · obtain rfl : k = n := by have := HK.out; omega
      have HLT : Hid (decide ((k : Int) < (k : Int)) = false) := Hid.mk (decide_eq_false (by omega))
      go_wp2_with (refine wl_value rfl (exec_lenI rfl rfl) ?_; refine Hid.out ?_)
      refine Hid.mk ?_
      go_wp2_with (refine wl_value rfl (kn_ (c := false) HLT (cmp_lt (m := (k : Int)) (n := (k : Int)) rfl rfl rfl)) ?_; refine Hid.out ?_)
      refine Hid.mk ?_
      rcases Nat.eq_zero_or_pos k with e | e
      · have H0 : Hid (decide ((k : Int) = 0) = true) := Hid.mk (decide_eq_true (by omega))
        clear e
        go_wp2_with (refine wl_value rfl (exec_lenI rfl rfl) ?_; refine Hid.out ?_)
        refine Hid.mk ?_
        go_wp2_with (refine wl_value rfl (kn_ (c := true) H0 (cmp_eq (m := (k : Int)) (n := 0) rfl rfl rfl)) ?_; refine Hid.out ?_)
        refine Hid.mk ?_
        go_wp2_with fail
        go_ret
        exact ⟨rfl, HBz.out⟩
      · have H0 : Hid (decide ((k : Int) = 0) = false) := Hid.mk (decide_eq_false (by omega))
        have H1 : Hid (decide (0 < given) = true) := Hid.mk (decide_eq_true (HF.out.2.2.2.2.1 e))
        clear e
        go_wp2_with (refine wl_value rfl (exec_lenI rfl rfl) ?_; refine Hid.out ?_)
        refine Hid.mk ?_
        go_wp2_with (refine wl_value rfl (kn_ (c := false) H0 (cmp_eq (m := (k : Int)) (n := 0) rfl rfl rfl)) ?_; refine Hid.out ?_)
        refine Hid.mk ?_
        go_wp2_with (refine wl_value rfl (kn_ (c := true) H1 (cmp_gt (m := given) (n := 0) rfl rfl rfl)) ?_; refine Hid.out ?_)
        refine Hid.mk ?_
        go_wp2_with fail
        go_ret
        exact ⟨rfl, HBz.out⟩
end Go.Proofs.YtojekoakgpkkdabDoor

/-
  Own text. A slice of numbers as an argument.
-/
namespace Go.Proofs.YtojekoakgpkkdabDoor
open Go.ChangeShapes Go.WideShapes Go.ChangeAt Go.WideMaps Go.WideElems Go.RowKit Go.Proofs
set_option maxRecDepth 100000
section
variable {H : Type} {enc : TypeId × Value → H} {W : World} {base : Nat} {sp : Nat → Bool} {v : Value} {d : DataW H} {p : List MemPlace}
/-- An argument that is a slice of numbers. -/
theorem open_nums (hv : Value.okWide Tryd.prog W .any base 22 v) (h : DataW.Trod enc Tryd.prog W 0 sp true 22 v d p) : ∃ n f, NumsAt W v n f ∧ (∀ i, i < n → I64 (f i)) ∧ n ≤ maxLen := by
  obtain ⟨a, len, cap, rfl⟩ := okWide_slice Tryd.underlying22 hv
  obtain ⟨fuel, hf⟩ := h
  rcases open_ints Tryd.underlying22 Tryd.underlying3 cIn hf with ⟨hcs, _⟩ | ⟨ad, len', cap', zs, hcs, _, hl, hm, hz, _, hcell, hw⟩
  · simp [Value.cells] at hcs
    obtain ⟨rfl, rfl, rfl⟩ := hcs
    exact ⟨0, fun _ => 0, ⟨none, 0, rfl, fun j h => by omega⟩, fun i h => by omega, by unfold maxLen; omega⟩
  · simp [Value.cells] at hcs
    obtain ⟨rfl, rfl, rfl⟩ := hcs
    have hle : len ≤ zs.length := by rw [hz]; split <;> omega
    refine ⟨len, fun i => zs.getD i 0, ⟨some ad, cap, rfl, fun j hj => ?_⟩, fun i hi => ?_, by omega⟩
    · have h0 := hcell j (by omega)
      refine ⟨ad, rfl, h0, ?_⟩
      have := World.block_lt_of_cell? _ _ h0
      rwa [add_blk] at this
    · have hi2 : i < zs.length := by omega
      have hb := bounds_i64 (hw (zs.getD i 0) (by
        rw [List.getD_eq_getElem?_getD, List.getElem?_eq_getElem hi2]
        exact List.getElem_mem hi2))
      show I64 (zs.getD i 0)
      unfold I64
      omega
end
end Go.Proofs.YtojekoakgpkkdabDoor

