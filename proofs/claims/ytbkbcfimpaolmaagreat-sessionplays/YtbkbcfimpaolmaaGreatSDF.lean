/-
  Own text. The law SessionPlays, walked.
-/
import Derived.Test.YtbkbcfimpaolmaaGreatSDE
namespace Go.Proofs.YtbkbcfimpaolmaaGreat
open Go.RowKit Go.Proofs
set_option maxRecDepth 100000
def nowF (now after : Int) : Int := if 0 < after ∧ after < 1000000 then now + after else now
theorem run_fopA (p : Addr) (w : World) : (Instr.fieldAt 39 (.pointer (some p)) 1).run Tryz.prog w = .ok (.pointer (some (p.add 1))) w := by simp [go_sem]
theorem exec_fopA {a : Act} {o : Oper} {w : World} {x : Operand} (ho : o.op = .fieldAddr 39 x 1) {p : Addr} (hx : a.eval x = .pointer (some p)) : (execOp a.eval o).run Tryz.prog w = .ok (.value (.pointer (some (p.add 1)))) w := by
  have h := run_fopA p w
  unfold execOp
  simp only [ho, hx, Sem.run_bind, h, Result.andThen_ok, Sem.run_pure]
theorem born_low {M : Nat} {σ : Ses} (ok : SesOk M σ) (ht : σ.t ≤ 4611686018427387904) : ∀ i, i < 3 → 0 ≤ (σ.K i).born ∧ (σ.K i).born ≤ 4611686018427387904 := fun i hi => by
  by_cases he : (σ.K i).ep = 0
  · rw [ok.emp i hi he]
    exact ⟨Int.le_refl _, by decide⟩
  · have := ok.ok i hi he
    have h0 := this.b0
    have h1 := this.b1
    omega
set_option maxHeartbeats 32000000 in
theorem plays_walk (v : Value) (n : Nat) (X : Nat → Op9) (w : World) (hv : OpsAt9 w v n X) : Calls Tryz.prog 3 #[v] w fun e w' => e = .returned (.bool true) ∧ Below w.heap.size w w' := by
  obtain ⟨a0, cap0, hv0, hv1⟩ := id hv
  clear hv1
  subst hv0
  have HV := Hid.mk hv
  clear hv
  go_enter Tryz.func3, Tryz.ntmps3
  go_wp2_with fail
  refine (awake_run w).mono ?_
  rintro e v1 ⟨rfl, hA1⟩
  go_wp2_with fail
  refine (New_run9 v1).mono ?_
  rintro e v2 ⟨sb, rfl, hs2, hsb, hA2⟩
  go_wp2_with (first | (refine wl_value rfl (exec_sd0 rfl) ?_) | (refine wl_boxG isDSes (by rfl) ?_; intro rb v3 hrb g3 hB3; refine Hid.out ?_))
  refine Hid.mk ?_
  have hN := BoSt.new hA1 hs2 hsb hA2 (sesD_new g3) hrb hB3
  clear hs2 hsb hA2 hA1 g3 hrb hB3
  go_wp2_with fail
  go_loopg [6, 7] n (fun gm s6 s7 v => ∃ (i : Nat) (σ : Ses) (now : Int), gm = n - i ∧ i ≤ n ∧ i ≤ 200 ∧ s6 = .int .i64 now ∧ s7 = .int .i64 (i : Int) ∧ 0 ≤ now ∧ now ≤ 1000000 * (i : Int) ∧ Hid (BoSt w sb rb (fun _ => False) v σ σ ∧ SesOk i σ ∧ σ.t ≤ 1000000 * (i : Int)))
  case atStart => exact ⟨0, ses0, 0, rfl, by omega, by omega, rfl, rfl, by omega, by omega, Hid.mk ⟨hN, ok0, by decide⟩⟩
  case round =>
    obtain ⟨i, σ, now, hgm, hin, hi1, rfl, rfl, hn0, hn1, HS⟩ := hrel
    clear hN
    by_cases hlt : i < n
    · by_cases h200 : i < 200
      · obtain ⟨ad, cap, hva, hc, hU, hT⟩ := HV.out.at HS.out.1.bel i hlt
        obtain ⟨rfl, rfl⟩ : a0 = some ad ∧ cap0 = cap := by simpa using hva
        clear hva
        have hlti : (i : Int) < (n : Int) := by omega
        have h200i : (i : Int) < 200 := by omega
        have ca : wr.cell? ((ad.add (7 * i)).add 1) = some (.int .i64 (X i).after) := hc 1 (by omega)
        generalize X i = x at *
        have hw0 : 0 ≤ nowF now x.after := by unfold nowF; split <;> omega
        have hw1 : nowF now x.after ≤ 1000000 * ((i : Int) + 1) := by unfold nowF; split <;> omega
        go_upto_region 10 with fail
        go_cut [43] (fun s43 wx => s43 = .bool (decide (0 < x.after ∧ x.after < 1000000)) ∧ wx = wr)
        case first =>
          by_cases ha : 0 < x.after
          · have had : decide (0 < x.after) = true := decide_eq_true ha
            by_cases hb : x.after < 1000000
            · have hbd : decide (x.after < 1000000) = true := decide_eq_true hb
              go_wp2_with (first | (refine wl_value rfl (exec_ixOp rfl (by rfl) (by rfl) hlt) ?_) | (refine wl_value rfl (exec_fopA rfl (by rfl)) ?_) | (refine wl_value rfl (exec_ld (p := (ad.add (7 * i)).add 1) rfl (by rfl) (ld_int ca)) ?_))
              go_meet
              case rel => exact ⟨by rw [decide_eq_true (p := 0 < x.after ∧ x.after < 1000000) (by omega)], rfl⟩
            · have hbd : decide (x.after < 1000000) = false := decide_eq_false hb
              go_wp2_with (first | (refine wl_value rfl (exec_ixOp rfl (by rfl) (by rfl) hlt) ?_) | (refine wl_value rfl (exec_fopA rfl (by rfl)) ?_) | (refine wl_value rfl (exec_ld (p := (ad.add (7 * i)).add 1) rfl (by rfl) (ld_int ca)) ?_))
              go_meet
              case rel => exact ⟨by rw [decide_eq_false (p := 0 < x.after ∧ x.after < 1000000) (fun e => by omega)], rfl⟩
          · have had : decide (0 < x.after) = false := decide_eq_false ha
            go_wp2_with (first | (refine wl_value rfl (exec_ixOp rfl (by rfl) (by rfl) hlt) ?_) | (refine wl_value rfl (exec_fopA rfl (by rfl)) ?_) | (refine wl_value rfl (exec_ld (p := (ad.add (7 * i)).add 1) rfl (by rfl) (ld_int ca)) ?_))
            go_meet
            case rel => exact ⟨by rw [decide_eq_false (p := 0 < x.after ∧ x.after < 1000000) (fun e => by omega)], rfl⟩
        case rest =>
          obtain ⟨rfl, hwc⟩ := hcut
          subst hwc
          go_upto_if 43 with fail
          go_cut [6] (fun s6 wx => s6 = .int .i64 (nowF now x.after) ∧ wx = wc)
          case first =>
            by_cases ha : 0 < x.after ∧ x.after < 1000000
            · have hN : nowF now x.after = now + x.after := by unfold nowF; rw [if_pos ha]
              have hd : decide (0 < x.after ∧ x.after < 1000000) = true := decide_eq_true ha
              obtain ⟨ha1, ha2⟩ := ha
              have hs1 : now + x.after ≤ 9223372036854775807 := by omega
              have hs0 : 0 ≤ now + x.after := by omega
              go_wp2_with (first | (refine wl_value rfl (exec_ixOp rfl (by rfl) (by rfl) hlt) ?_) | (refine wl_value rfl (exec_fopA rfl (by rfl)) ?_) | (refine wl_value rfl (exec_ld (p := (ad.add (7 * i)).add 1) rfl (by rfl) (ld_int ca)) ?_))
              go_meet
              case rel => exact ⟨by rw [hN], rfl⟩
            · have hN : nowF now x.after = now := by unfold nowF; rw [if_neg ha]
              have hd : decide (0 < x.after ∧ x.after < 1000000) = false := decide_eq_false ha
              go_wp2_with fail
              go_meet
              case rel => exact ⟨by rw [hN], rfl⟩
          case rest =>
            obtain ⟨rfl, hwc⟩ := hcut
            subst hwc
            clear ca
            have ht := HS.out.2.2
            have HDO := Hid.mk (does_run (nowF now x.after) x HS.out.1 HS.out.2.1 (by omega) hw0 (by omega) hU hT)
            generalize nowF now x.after = nx at *
            clear HS
            go_wp2_with (first | (refine wl_value rfl (exec_ixOp rfl (by rfl) (by rfl) hlt) ?_) | (refine wl_value rfl (exec_ldOp rfl (by rfl) hc) ?_))
            refine HDO.out.mono ?_
            rintro e wA ⟨rfl, σ', hA, okA, htA⟩
            have htA2 : σ'.t ≤ 1000000 * ((i : Int) + 1) := by omega
            have HIS := Hid.mk (is_run hA okA (by omega) (born_low okA (by omega)))
            clear HDO hc
            go_wp2_with fail
            refine HIS.out.mono ?_
            rintro e wB ⟨rfl, hBB⟩
            have HF : Hid (BoSt w sb rb (fun _ => False) wB σ' σ' ∧ SesOk (i + 1) σ' ∧ σ'.t ≤ 1000000 * (((i + 1 : Nat)) : Int)) := Hid.mk ⟨hA.below hBB, okA, by omega⟩
            clear HIS hA okA htA htA2 hBB
            go_wp2_with fail
            go_roundg (n - (i + 1))
            case rel => exact ⟨i + 1, σ', nx, rfl, by omega, by omega, rfl, by go_num, hw0, by omega, HF⟩
            case measure => omega
      · have h200i : ¬ (i : Int) < 200 := by omega
        have hlti : (i : Int) < (n : Int) := by omega
        have hd1 : decide ((i : Int) < (n : Int)) = true := decide_eq_true hlti
        have hd2 : decide ((i : Int) < 200) = false := decide_eq_false h200i
        go_wp2_with fail
        go_ret
        exact ⟨rfl, HS.out.1.bel⟩
    · have hlti : ¬ (i : Int) < (n : Int) := by omega
      have hd1 : decide ((i : Int) < (n : Int)) = false := decide_eq_false hlti
      go_wp2_with fail
      go_ret
      exact ⟨rfl, HS.out.1.bel⟩
end Go.Proofs.YtbkbcfimpaolmaaGreat
