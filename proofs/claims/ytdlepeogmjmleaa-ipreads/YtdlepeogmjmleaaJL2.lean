/-
  Own text. IpReads: any bytes are read as the packet that they are, or refused by the error that the document names; what is told is the caller's own.
-/
import Derived.Test.YtdlepeogmjmleaaJ10
namespace Go.Proofs.Ytdlepeogmjmleaa
open Go.RowKit Go.Proofs
set_option maxRecDepth 100000
/-- The row that a told packet has. -/
def RowOf (B : Nat) (v : Value) (n : Nat) (w : World) : Prop := ∃ Z, w.ownsRow B 36 2 v n (rX 2 Z n)
theorem DTold.row {B : Nat} {R : Rd} {Q : Pk} {v : Value} {x : Int} {w : World} (h : DTold B R Q v x w) : RowOf B v Q.exts.length w := by
  rcases h with ⟨_, rfl, rfl⟩ | ⟨Z, _, _, h, _⟩
  · exact ⟨fun _ _ => undef, World.ownsRow_nil w _ _ _⟩
  · exact ⟨Z, h⟩
theorem RowOf.kept {B : Nat} {v : Value} {n : Nat} {w w' : World} (h : RowOf B v n w) (hb : Below w.heap.size w w') : RowOf B v n w' := by
  obtain ⟨Z, h⟩ := h
  exact ⟨Z, ownT_kept h hb⟩
theorem RowOf.only {B g : Nat} {v : Value} {n : Nat} {w w' : World} (h : RowOf B v n w) (o : Only g w w') (hg : ∀ q, v.ownBlock = some q → q ≠ g) : RowOf B v n w' := by
  obtain ⟨Z, h⟩ := h
  exact ⟨Z, ownM_block h (fun q hq => o.block q (hg q hq))⟩
/-- One of its places is written. -/
theorem wl_stE {ops : Array Oper} {rest : List Oper} {o : Oper} {a : Act} {w : World} {x y : Operand} {Q : Exit → Act → World → Prop} {B g n cap i : Nat} {e : Ex} (ho : o.op = .store 36 x y) (hw : Region.wanted o (yielded ops a.tmps) = true) (hx : a.eval x = .pointer (some ((⟨g, 0, none⟩ : Addr).add (2 * i)))) (hy : a.eval y = .agg (SC 2 (exV e))) (hi : i < n)
    (hr : RowOf B (.slice (some ⟨g, 0, none⟩) n cap) n w)
    (h : ∀ w', RowOf B (.slice (some ⟨g, 0, none⟩) n cap) n w' → Only g w w' → wpList Try.prog ops Q rest (a.put o.dst undef) w') : wpList Try.prog ops Q (o :: rest) a w := by
  refine wl_act hw ?_
  obtain ⟨Z, hr⟩ := hr
  rw [Addr.add_lit, Nat.zero_add] at hx
  rcases id hr.2 with ⟨he, _⟩ | ⟨g', cap', cur, he, hb, hg, hnc, hm, hsz, htk⟩
  · cases he
  injection he with e1 e2 e3
  injection e1 with e1
  injection e1 with e1
  subst e1 e3
  have h1 := own_set hr hi (show 0 < 2 by decide) (.int .i64 e.kind)
  have h2 := own_set h1 hi (show 1 < 2 by decide) (.string e.body)
  refine wp_store_mid 36 x y ho g (2 * i) (SC 2 (exV e)) hx hy (by rw [SC_size]; exact there_row hg (by rw [hsz]; omega)) (by rw [SC_size]; kernel_rfl) (SC_one (exV_one e)) ?_
  exact h _ ⟨_, h2⟩ (only_set.trans only_set)
set_option maxHeartbeats 8000000 in
theorem reads_walk (b : ByteArray) (w : World) (hb : b.size ≤ 140737488355328) : Calls Try.prog 4 #[.string b] w fun e w' => e = .returned (.bool true) ∧ Below w.heap.size w w' := by
  obtain ⟨R, hR⟩ : ∃ R, rdP b = R := ⟨_, rfl⟩
  have HQ : Hid (∃ Q x, rdQ R = Q ∧ rdX R = x) := Hid.mk ⟨_, _, rfl, rfl⟩
  obtain ⟨Q, x, hQ, hx⟩ := HQ.out
  have hlen : Q.exts.length ≤ 4 := by
    cases R with
    | err y => have : Q = zeroP := hQ.symm; rw [this]; decide
    | ok Q' =>
      have : Q = Q' := hQ.symm
      rw [this]
      exact (rgt_exts4 (bld_rd hR).2.1)
  have HP1 : Hid (∀ ww, Calls Try.prog 18 #[.string b] ww fun e w' => Below ww.heap.size ww w' ∧ ∃ v, e = .returned (.tuple #[.agg (SC 46 (pkV Q v)), .int .i64 x]) ∧ v.oneCell' = true ∧ ExAt w' v Q.exts ∧ RowOf ww.heap.size v Q.exts.length w') := Hid.mk (fun ww => (Parse_end b ww (by omega)).mono (fun e w' ⟨hB, Q', v, x', he, hd⟩ => by
    have hd' : DTold ww.heap.size (rdP b) Q' v x' w' := hd
    rw [hR] at hd'
    obtain ⟨e1, e2⟩ := hd'.q
    rw [hQ] at e1
    rw [hx] at e2
    subst e1 e2
    exact ⟨hB, v, he, hd'.one, hd'.exAt, hd'.row⟩))
  have HP2 : Hid (∀ ww, Calls Try.prog 17 #[.string b] ww fun e w' => Below ww.heap.size ww w' ∧ ∃ v, e = .returned (.tuple #[.agg (SC 46 (pkV Q v)), .int .i64 x]) ∧ v.oneCell' = true ∧ ExAt w' v Q.exts) := Hid.mk (fun ww => (rParse_run b ww (by omega)).mono (fun e w' ⟨hB, Q', v, x', he, hd⟩ => by
    have hd' : DTold ww.heap.size (rdP b) Q' v x' w' := hd
    rw [hR] at hd'
    obtain ⟨e1, e2⟩ := hd'.q
    rw [hQ] at e1
    rw [hx] at e2
    subst e1 e2
    exact ⟨hB, v, he, hd'.one, hd'.exAt⟩))
  have HSA : Hid (∀ v1 v2 ww, ExAt ww v1 Q.exts → ExAt ww v2 Q.exts → Calls Try.prog 12 #[.agg (SC 46 (pkV Q v1)), .agg (SC 46 (pkV Q v2))] ww fun e w' => e = .returned (.bool true) ∧ Below ww.heap.size ww w') := Hid.mk (fun v1 v2 ww h1 h2 => by
    have := rSame_run Q Q v1 v2 ww h1 h2 (by omega) (by omega)
    rw [sam_self] at this
    exact this)
  clear hR HQ hQ hx hb
  obtain ⟨n, hn⟩ : ∃ n, Q.exts.length = n := ⟨_, rfl⟩
  rw [hn] at HP1 hlen
  have HN := Hid.mk hn
  clear hn
  go_enter Try.func4, Try.ntmps4
  go_wp2_with (go_at_call 8; refine (awake_run _).mono ?_; rintro e y2 ⟨rfl, hB2⟩; refine Hid.out ?_)
  refine Hid.mk ?_
  go_wp2_with (go_at_call 17; refine (HP2.out _).mono ?_; rintro e y3 ⟨hB3, v, rfl, hon, hx3⟩; refine Hid.out ?_)
  refine Hid.mk ?_
  have hBa := hB2.trans (hB3.mono hB2.size)
  clear hB2 hB3
  go_wp2_with (refine wl_alO rfl rfl zeroPk ?_; intro g4 y4 hg4 q4 hB4; refine Hid.out ?_)
  refine Hid.mk ?_
  go_wp2_with (refine st_stO rfl rfl isPk (fun i => pkV_one hon i) q4 (by rfl) (by rfl) ?_; intro y5 q5 o5; refine Hid.out ?_)
  refine Hid.mk ?_
  have hBn : Below y3.heap.size y3 y5 := hB4.trans (o5.below hg4)
  have hx5 := hx3.kept hBn
  have hBb := hBa.trans (hBn.mono hBa.size)
  have HX5 := Hid.mk hx5
  clear hx3 hBa hBn hB4 o5 q4 HP2 hx5
  go_wp2_with fail
  go_loopg [6] 2 (fun gm s6 z => ∃ (t : Nat), Hid (gm + t = 2) ∧ s6 = .int .i64 (t : Int) ∧ SAt z g4 27 46 (pkV Q v) ∧ Hid (ExAt z v Q.exts) ∧ Below w.heap.size w z)
  case atStart => exact ⟨0, Hid.mk rfl, rfl, q5, HX5, hBb⟩
  case round =>
    obtain ⟨t, HG, rfl, qz, HXz, hBz⟩ := hrel
    generalize wr = z at *
    generalize gk = gz at *
    clear q5 HX5 hBb
    by_cases ht : t < 2
    · have hti : (t : Int) < 2 := by omega
      go_wp2_with (go_at_call 18; refine (HP1.out _).mono ?_; rintro e z1 ⟨hC1, v2, rfl, hon2, hx1, hr1⟩; refine Hid.out ?_)
      refine Hid.mk ?_
      go_wp2_with (refine wl_alO rfl rfl zeroPk ?_; intro g7 z2 hg7 q2 hC2; refine Hid.out ?_)
      refine Hid.mk ?_
      go_wp2_with (refine st_stO rfl rfl isPk (fun i => pkV_one hon2 i) q2 (by rfl) (by rfl) ?_; intro z3 q3 o3; refine Hid.out ?_)
      refine Hid.mk ?_
      have hCn : Below z1.heap.size z1 z3 := hC2.trans (o3.below hg7)
      have hx3 := Hid.mk (hx1.kept hCn)
      have hr3 := hr1.kept hCn
      have hCa := hC1.trans (hCn.mono hC1.size)
      have qa := qz.kept hCa
      have HXa := Hid.mk (HXz.out.kept hCa)
      have hg7z : z.heap.size ≤ g7 := Nat.le_trans hC1.size hg7
      have lo7 : ∀ q, v2.ownBlock = some q → q ≠ g7 := fun q hq => by
        obtain ⟨Z, hr⟩ := hr1
        have := (hr.lt q hq).2
        omega
      have HLO := Hid.mk lo7
      clear hx1 hr1 hCn hC1 hC2 o3 q2 lo7
      go_wp2_with (first | (refine wl_value rfl (look_st rfl isPk q3 (by rfl)) ?_) | (refine wl_value rfl (look_st rfl isPk qa (by rfl)) ?_) | (go_at_call 12; refine (HSA.out _ _ _ hx3.out HXa.out).mono ?_; rintro e z4 ⟨rfl, hC4⟩; refine Hid.out ?_))
      refine Hid.mk ?_
      have q4 := q3.kept hC4
      have hr4 := hr3.kept hC4
      have hCb := hCa.trans (hC4.mono hCa.size)
      have HCB := Hid.mk hCb
      obtain ⟨pp, cap, hv2⟩ : ∃ pp cap, v2 = .slice pp n cap := by
        obtain ⟨Z, hr⟩ := hr4
        obtain ⟨pp, cap, e, _⟩ := ownM_shape hr
        exact ⟨pp, cap, e⟩
      subst hv2
      have hbx : (x != x) = false := by simp
      clear q3 hr3 hCa qa HXa hC4 hx3 hCb
      go_wp2_with fail
      go_loopg [10] n (fun gm s10 zz => ∃ (i : Nat), Hid (gm + i = n) ∧ s10 = .int .i64 (i : Int) ∧ SAt zz g7 27 46 (pkV Q (.slice pp n cap)) ∧ Hid (RowOf z.heap.size (.slice pp n cap) n zz) ∧ Hid (Below z.heap.size z zz))
      case atStart => exact ⟨0, Hid.mk rfl, rfl, q4, Hid.mk hr4, HCB⟩
      case round =>
        obtain ⟨i, HI, rfl, qi, HRi, HBi⟩ := hrel
        have c11 := pk_exts qi
        by_cases hin : i < n
        · have hini : (i : Int) < (n : Int) := by omega
          obtain ⟨g, rfl⟩ : ∃ g, pp = some ⟨g, 0, none⟩ := by
            obtain ⟨Z, hr⟩ := HRi.out
            obtain ⟨p', cap', e, hp⟩ := ownM_shape hr
            injection e with e1 e2 e3
            obtain ⟨g, hg⟩ := hp (by omega)
            exact ⟨g, by rw [e1, hg]⟩
          have hgz : z.heap.size ≤ g := by
            obtain ⟨Z, hr⟩ := HRi.out
            exact ownM_base hr g rfl
          have hg7g : g7 ≠ g := fun e => HLO.out g rfl e.symm
          have HIN := Hid.mk hin
          go_wp2_with (first | (refine wl_value rfl (exec_fpkL 11 43 (by decide) rfl rfl (by rfl)) ?_) | (refine wl_value rfl (exec_ld rfl (by rfl) (ldPx c11)) ?_) | (refine wl_value rfl (exec_lenX rfl (by rfl)) ?_) | (refine wl_value rfl (exec_bd77 (k := -1) rfl (by rfl)) ?_) | (refine wl_value rfl (exec_ixE (i := i) rfl (by rfl) (by rfl) HIN.out) ?_) | (refine wl_stE (i := i) (n := n) (cap := cap) (B := z.heap.size) rfl rfl (by rfl) (by rfl) HIN.out HRi.out ?_; intro z9 hr9 o9; refine Hid.out ?_))
          refine Hid.mk ?_
          have q9 := qi.only o9 hg7g
          have HB9 := Hid.mk (HBi.out.trans (o9.below hgz))
          have HR9 := Hid.mk hr9
          clear hr9 c11
          go_wp2_with fail
          go_roundg (n - (i + 1))
          case rel => exact ⟨i + 1, Hid.mk (by omega), by go_num, q9, HR9, HB9⟩
          case measure => have := HI.out; omega
        · have hini : ¬ (i : Int) < (n : Int) := by omega
          have qn := qz.kept HBi.out
          have HXn := Hid.mk (HXz.out.kept HBi.out)
          have hBn := hBz.trans (HBi.out.mono hBz.size)
          go_wp2_with (first | (refine wl_value rfl (exec_fpkL 11 43 (by decide) rfl rfl (by rfl)) ?_) | (refine wl_value rfl (exec_ld rfl (by rfl) (ldPx c11)) ?_) | (refine wl_value rfl (exec_lenX rfl (by rfl)) ?_))
          go_roundg (2 - (t + 1))
          case rel => exact ⟨t + 1, Hid.mk (by omega), by go_num, qn, HXn, hBn⟩
          case measure => have := HG.out; omega
    · have hti : ¬ (t : Int) < 2 := by omega
      go_wp2_with fail
      go_ret
      exact ⟨rfl, hBz⟩
end Go.Proofs.Ytdlepeogmjmleaa
