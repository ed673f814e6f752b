/-
  Own text. WireBack: an address is found again from its text and from its bytes.
-/
import Derived.Test.YtklgpmpmolphaaaDoorJ5
namespace Go.Proofs.YtklgpmpmolphaaaDoor
open Go.RowKit Go.Proofs
set_option maxRecDepth 100000
theorem valid4 {b : Nat → Int} (h : validF false b = true) : ∀ j, 4 ≤ j → j < 16 → b j = 0 := by
  rcases valid_iff.1 h with e | e
  · cases e
  · exact e
theorem prL_getD (pr : Nat → Nat) {i : Nat} (hi : i < 8) : (prL pr 0 8).getD i 0 = pr i := by
  unfold prL
  rw [List.getD_eq_getElem?_getD, List.getElem?_map, List.getElem?_range' hi]
  simp
theorem prB_prF {b : Nat → Int} (hb : Byts 16 b) {j : Nat} (hj : j < 16) : prB (prL (prF b) 0 8) j = b j := by
  unfold prB
  rw [prL_getD _ (show j / 2 < 8 by omega)]
  unfold prF
  have h1 := hb (2 * (j / 2)) (by omega)
  have h2 := hb (2 * (j / 2) + 1) (by omega)
  by_cases e : j % 2 = 0
  · rw [if_pos e]
    have e2 : 2 * (j / 2) = j := by omega
    rw [e2] at h1 h2 ⊢
    omega
  · rw [if_neg e]
    have e2 : 2 * (j / 2) + 1 = j := by omega
    rw [e2] at h2 ⊢
    omega
theorem lsB_four {b : Nat → Int} (hb : Byts 16 b) (hv : validF false b = true) {j : Nat} (hj : j < 16) : lsB [(b 0).toNat, (b 1).toNat, (b 2).toNat, (b 3).toNat] j = b j := by
  have h0 := hb 0 (by decide)
  have h1 := hb 1 (by decide)
  have h2 := hb 2 (by decide)
  have h3 := hb 3 (by decide)
  unfold lsB
  match j, hj with
  | 0, _ => simp; omega
  | 1, _ => simp; omega
  | 2, _ => simp; omega
  | 3, _ => simp; omega
  | n + 4, hj =>
    rw [valid4 hv (n + 4) (by omega) hj]
    simp
/-- An address's own text is read as that address. -/
theorem back_par {v : Bool} {b : Nat → Int} (hb : Byts 16 b) (hv : validF v b = true) {e : Ending} (h : ParseQ (parV (lsT (textV v b))) e) : e = .returned (.tuple #[.agg (SC 17 (adV v b)), .int .i64 0]) := by
  cases v
  · have hp : parV (lsT (textV false b)) = some (false, [(b 0).toNat, (b 1).toNat, (b 2).toNat, (b 3).toNat]) := by
      have h0 := hb 0 (by decide)
      have h1 := hb 1 (by decide)
      have h2 := hb 2 (by decide)
      have h3 := hb 3 (by decide)
      exact par_four (p := (b 0).toNat) (q := (b 1).toNat) (r := (b 2).toNat) (s := (b 3).toNat) (by omega) (by omega) (by omega) (by omega)
    rw [hp] at h
    rcases h with ⟨l, hl, he⟩ | ⟨l, hl, he⟩ | ⟨hl, he⟩
    · injection hl with hl
      injection hl with _ hl
      rw [he, ← hl, adV_ext (fun j hj => lsB_four hb hv hj)]
    · injection hl with hl
      injection hl with hl _
      cases hl
    · cases hl
  · have hp : parV (lsT (textV true b)) = some (true, prL (prF b) 0 8) := by
      show parV (textSix (prF b)) = _
      refine par_six (fun i hi => prF_lt hb hi) ?_
      rcases rowP_ok (prF b) with e | ⟨_, e2, e3⟩
      · exact .inl e
      · exact .inr ⟨e2, e3⟩
    rw [hp] at h
    rcases h with ⟨l, hl, he⟩ | ⟨l, hl, he⟩ | ⟨hl, he⟩
    · injection hl with hl
      injection hl with hl _
      cases hl
    · injection hl with hl
      injection hl with _ hl
      rw [he, ← hl, adV_ext (fun j hj => prB_prF hb hj)]
    · cases hl
theorem back_len {v : Bool} {b : Nat → Int} (hb : Byts 16 b) : (textV v b).size ≤ 39 := by
  rw [← lsT_len]
  cases v
  · have h0 := hb 0 (by decide)
    have h1 := hb 1 (by decide)
    have h2 := hb 2 (by decide)
    have h3 := hb 3 (by decide)
    have := four_len (p := (b 0).toNat) (q := (b 1).toNat) (r := (b 2).toNat) (s := (b 3).toNat) (by omega) (by omega) (by omega) (by omega)
    show (fourT _ _ _ _).length ≤ 39
    omega
  · show (textSix (prF b)).length ≤ 39
    refine six_len (prF b) ?_
    rcases rowP_ok (prF b) with e | ⟨e1, e2, _⟩
    · exact .inl e
    · exact .inr ⟨e1, e2⟩
/-- What Parse tells may be. -/
theorem parse_may {L : List UInt8} {e : Ending} (h : ParseQ (parV L) e) : e = .returned (.tuple #[.agg (SC 17 (adV false (fun _ => 0))), .int .i64 76]) ∨ ∃ v b, Byts 16 b ∧ validF v b = true ∧ e = .returned (.tuple #[.agg (SC 17 (adV v b)), .int .i64 0]) := by
  rcases h with ⟨l, hl, he⟩ | ⟨l, hl, he⟩ | ⟨hl, he⟩
  · refine .inr ⟨false, lsB l, ?_, ?_, he⟩
    · unfold parV at hl
      cases hf : fourV L with
      | none =>
        rw [hf] at hl
        cases hs : sixV L with
        | none => rw [hs] at hl; cases hl
        | some m => rw [hs] at hl; injection hl with hl; injection hl with h1 _; cases h1
      | some m =>
        rw [hf] at hl
        injection hl with hl
        injection hl with _ hl
        rw [← hl]
        exact lsB_byts (four_lt hf).2.1
    · unfold parV at hl
      cases hf : fourV L with
      | none =>
        rw [hf] at hl
        cases hs : sixV L with
        | none => rw [hs] at hl; cases hl
        | some m => rw [hs] at hl; injection hl with hl; injection hl with h1 _; cases h1
      | some m =>
        rw [hf] at hl
        injection hl with hl
        injection hl with _ hl
        have h4 := (four_lt hf).1
        rw [hl] at h4
        refine valid_iff.2 (.inr (fun j h1 h2 => ?_))
        unfold lsB
        rw [List.getD_eq_getElem?_getD, List.getElem?_eq_none (by omega)]
        rfl
  · refine .inr ⟨true, prB l, ?_, valid_iff.2 (.inl rfl), he⟩
    unfold parV at hl
    cases hf : fourV L with
    | some m => rw [hf] at hl; injection hl with hl; injection hl with h1 _; cases h1
    | none =>
      rw [hf] at hl
      cases hs : sixV L with
      | none => rw [hs] at hl; cases hl
      | some m =>
        rw [hs] at hl
        injection hl with hl
        injection hl with _ hl
        have h8 := six_lt hs
        rw [hl] at h8
        intro j hj
        have hq : l.getD (j / 2) 0 < 65536 := by
          rw [List.getD_eq_getElem?_getD, List.getElem?_eq_getElem (by omega)]
          exact h8.2 _ (List.getElem_mem _)
        unfold prB
        split <;> omega
  · exact .inl he
theorem back_from {v : Bool} {b : Nat → Int} (hb : Byts 16 b) (hv : validF v b = true) : ((bytT v b).size = 4 ∨ (bytT v b).size = 16) ∧ SC 17 (adV (decide ((bytT v b).size = 16)) (frB (bytT v b))) = SC 17 (adV v b) := by
  have hs : bytT v b = mkS (if v = true then 16 else 4) b := by unfold bytT; rw [if_pos hv]
  rw [hs]
  cases v
  · have hz : (mkS (if false = true then 16 else 4) b).size = 4 := mkS_size _ _
    rw [hz]
    refine ⟨.inl rfl, adV_ext (fun j hj => ?_)⟩
    unfold frB
    rw [hz]
    by_cases e : j < 4
    · rw [if_pos e]
      exact txt_mkS (hb j hj) e
    · rw [if_neg e, valid4 hv j (by omega) hj]
  · have hz : (mkS (if true = true then 16 else 4) b).size = 16 := mkS_size _ _
    rw [hz]
    refine ⟨.inr rfl, adV_ext (fun j hj => ?_)⟩
    unfold frB
    rw [hz, if_pos hj]
    exact txt_mkS (hb j hj) hj
theorem eqAF_self (v : Bool) (b : Nat → Int) : eqAF v b v b = true := eqAF_iff.2 ⟨rfl, fun _ _ => rfl⟩
theorem enterW_Va (args : Array Value) (w : World) : (callFunc 20 args).run Tryd.prog w = .ok (.enter 20 args) w := by kernel_rfl
theorem Text_any (v : Bool) (b : Nat → Int) (w : World) (hb : Byts 16 b) (hE : Env w) : Calls Tryd.prog 18 #[.agg (SC 17 (adV v b))] w fun e w' => (∃ (u : ByteArray) (er : Int), e = .returned (.tuple #[.string u, .int .i64 er]) ∧ ((validF v b = true ∧ u = textV v b ∧ er = 0) ∨ (validF v b = false ∧ u = ByteArray.empty ∧ er = 1))) ∧ Below w.heap.size w w' := by
  cases hv : validF v b with
  | true => exact (Text_run v b w hb hE hv).mono (fun e w' h => ⟨⟨_, _, h.1, .inl ⟨rfl, rfl, rfl⟩⟩, h.2⟩)
  | false => exact (Text_no v b w hv).mono (fun e w' h => ⟨⟨_, _, h.1, .inr ⟨rfl, rfl, rfl⟩⟩, h.2⟩)
set_option maxHeartbeats 32000000 in
theorem back_walk (v : Bool) (b : Nat → Int) (s : ByteArray) (w : World) (hb : Byts 16 b) (hs : s.size ≤ 2000000) (hE : Env w) : Calls Tryd.prog 8 #[.agg (SC 17 (adV v b)), .string s] w fun e w' => e = .returned (.bool true) ∧ Below w.heap.size w w' := by
  go_enter Tryd.func8, Tryd.ntmps8
  go_wp2_with (refine wl_boxO rfl rfl isAddr (by rfl) ?_; intro g u1 hg g1 hB1; refine Hid.out ?_)
  refine Hid.mk ?_
  have HE1 := Hid.mk (hE.kept hB1)
  go_wp2_with (go_at_call 9; refine (awake_run _ HE1.out).mono ?_; rintro e u2 ⟨rfl, hB2⟩; refine Hid.out ?_)
  refine Hid.mk ?_
  have g2 := SAt.kept g1 hB2
  have hBa := hB1.trans (hB2.mono hB1.size)
  have HE2 := Hid.mk (hE.kept hBa)
  clear g1 hB1 hB2 HE1
  go_wp2_with (first | (refine wl_value rfl (look_st rfl isAddr g2 (by rfl)) ?_) | (go_at_call 18; refine (Text_any v b _ hb HE2.out).mono ?_; rintro e u3 ⟨⟨tx, er, rfl, hT⟩, hB3⟩; refine Hid.out ?_))
  refine Hid.mk ?_
  have g3 := SAt.kept g2 hB3
  have hBb := hBa.trans (hB3.mono hBa.size)
  have HTX := Hid.mk hT
  clear g2 hBa hB3 HE2 hT
  go_upto_if 25 with fail
  go_cut [4] (fun s4 z => Below w.heap.size w z)
  case first =>
    rcases HTX.out with ⟨hv, rfl, rfl⟩ | ⟨hv, rfl, rfl⟩
    · as_aux_lemma =>
        clear HTX
        have HEb := Hid.mk (hE.kept hBb)
        have hl39 := back_len (v := v) hb
        have HPA : Hid (∀ ww, Env ww → Calls Tryd.prog 30 #[.string (textV v b)] ww fun e w' => e = .returned (.tuple #[.agg (SC 17 (adV v b)), .int .i64 0]) ∧ Below ww.heap.size ww w') := Hid.mk (fun ww h => (Parse_run (textV v b) ww (by omega) h).mono (fun e w' hh => ⟨back_par hb hv hh.1, hh.2⟩))
        have HFR : Hid (∀ ww, Calls Tryd.prog 32 #[.string (bytT v b)] ww fun e w' => e = .returned (.tuple #[.agg (SC 17 (adV v b)), .int .i64 0]) ∧ Below ww.heap.size ww w') := Hid.mk (fun ww => by
          have h := From_run (bytT v b) ww (back_from hb hv).1
          rw [(back_from hb hv).2] at h
          exact h)
        have HEQ : Hid ((!eqAF v b v b) = false) := Hid.mk (by rw [eqAF_self]; rfl)
        generalize textV v b = tx at *
        go_wp2_with (go_at_call 30; refine (HPA.out _ HEb.out).mono ?_; rintro e u4 ⟨rfl, hB4⟩; refine Hid.out ?_)
        refine Hid.mk ?_
        have g4 := SAt.kept g3 hB4
        have hBc := hBb.trans (hB4.mono hBb.size)
        clear g3 hBb hB4 HEb
        go_wp2_with (refine wl_alO rfl rfl zeroAddr ?_; intro g8 u5 hg8 q8 hB5; refine Hid.out ?_)
        refine Hid.mk ?_
        have g5 := SAt.kept g4 hB5
        have hBd := hBc.trans (hB5.mono hBc.size)
        have h8 : g ≠ g8 := by have := SAt.lt g4; omega
        have hg8w : w.heap.size ≤ g8 := by have := hBc.size; omega
        go_wp2_with (refine st_stO rfl rfl isAddr (adV_one _ _) q8 (by rfl) (by rfl) ?_; intro u6 r8 o8; refine Hid.out ?_)
        refine Hid.mk ?_
        have g6 := g5.only o8 h8
        have hBe := hBd.trans (o8.below hg8w)
        clear g4 g5 q8 o8 hBc hBd hB5 hg8
        go_wp2_with (first | (refine wl_value rfl (look_st rfl isAddr g6 (by rfl)) ?_) | (go_at_call 22; refine (Bytes_run v b _ hb).mono ?_; rintro e u7 ⟨rfl, hB7⟩; refine Hid.out ?_))
        refine Hid.mk ?_
        have g7 := SAt.kept g6 hB7
        have r7 := SAt.kept r8 hB7
        have hBf := hBe.trans (hB7.mono hBe.size)
        go_wp2_with (go_at_call 32; refine (HFR.out _).mono ?_; rintro e u8 ⟨rfl, hB8⟩; refine Hid.out ?_)
        refine Hid.mk ?_
        have g9 := SAt.kept g7 hB8
        have r9 := SAt.kept r7 hB8
        have hBg := hBf.trans (hB8.mono hBf.size)
        clear g6 g7 r7 r8 hB7 hB8 hBe hBf
        go_wp2_with (refine wl_alO rfl rfl zeroAddr ?_; intro g10 v1 hg10 q10 hB9; refine Hid.out ?_)
        refine Hid.mk ?_
        have g11 := SAt.kept g9 hB9
        have r11 := SAt.kept r9 hB9
        have hBh := hBg.trans (hB9.mono hBg.size)
        have h10 : g ≠ g10 := by have := SAt.lt g9; omega
        have h810 : g8 ≠ g10 := by have := SAt.lt r9; omega
        have hg10w : w.heap.size ≤ g10 := by have := hBg.size; omega
        go_wp2_with (refine st_stO rfl rfl isAddr (adV_one _ _) q10 (by rfl) (by rfl) ?_; intro v2 r10 o10; refine Hid.out ?_)
        refine Hid.mk ?_
        have g12 := g11.only o10 h10
        have r12 := r11.only o10 h810
        have hBi := hBh.trans (o10.below hg10w)
        clear g9 g11 r9 r11 q10 o10 hBg hBh hB9 hg10
        go_wp2_with (first | (refine wl_value rfl (look_st rfl isAddr g12 (by rfl)) ?_) | (refine wl_value rfl (look_st rfl isAddr r12 (by rfl)) ?_) | (refine wl_value rfl (look_st rfl isAddr r10 (by rfl)) ?_) | (refine wl_value rfl (exec_neA rfl (by rfl) (by rfl)) ?_; simp only [HEQ.out]))
        go_meet
        case rel => exact hBi
    · as_aux_lemma =>
        have hv0 : v = false := by
          cases v
          · rfl
          · have : validF true b = true := valid_iff.2 (.inl rfl)
            rw [this] at hv
            cases hv
        subst hv0
        have HBY : Hid (∀ ww, Calls Tryd.prog 22 #[.agg (SC 17 (adV false b))] ww fun e w' => e = .returned (.string ⟨#[]⟩) ∧ Below ww.heap.size ww w') := Hid.mk (fun ww => by
          have h := Bytes_run false b ww hb
          have e : bytT false b = ⟨#[]⟩ := by unfold bytT; rw [if_neg (by rw [hv]; decide)]; rfl
          rw [e] at h
          exact h)
        have HVA : Hid (∀ ww, Calls Tryd.prog 20 #[.agg (SC 17 (adV false b))] ww fun e w' => e = .returned (.bool false) ∧ Below ww.heap.size ww w') := Hid.mk (fun ww => by
          have h := Valid_run false b ww
          rw [hv] at h
          exact h)
        have c0 := ad_v g3
        go_wp2_with (first | (refine wl_value rfl (exec_fadW0 rfl (by rfl)) ?_) | (refine wl_value rfl (exec_ld rfl (by rfl) (ldWb c0)) ?_) | (refine wl_value rfl (look_st rfl isAddr g3 (by rfl)) ?_) | (go_at_call 22; refine (HBY.out _).mono ?_; rintro e u4 ⟨rfl, hB4⟩; refine Hid.out ?_))
        refine Hid.mk ?_
        have g4 := SAt.kept g3 hB4
        have hBc := hBb.trans (hB4.mono hBb.size)
        go_wp2_with (first | (refine wl_value rfl (look_st rfl isAddr g4 (by rfl)) ?_) | (go_at_call 20; refine (HVA.out _).mono ?_; rintro e u5 ⟨rfl, hB5⟩; refine Hid.out ?_))
        refine Hid.mk ?_
        go_wp2_with fail
        go_meet
        case rel => exact hBc.trans (hB5.mono hBc.size)
  case rest =>
    have hBc := hcut
    clear hBb g3 HTX
    as_aux_lemma =>
      have HEc := Hid.mk (hE.kept hBc)
      go_wp2_with fail
      refine (Parse_run s _ hs HEc.out).mono ?_
      rintro e u4 ⟨hq, hB4⟩
      have hBd := hBc.trans (hB4.mono hBc.size)
      clear HEc hBc hB4
      rcases parse_may hq with rfl | ⟨v', b', hb', hv', rfl⟩
      · clear hq
        go_wp2_with (refine wl_alO rfl rfl zeroAddr ?_; intro g8 u5 hg8 q8 hB5; refine Hid.out ?_)
        refine Hid.mk ?_
        have hBe := hBd.trans (hB5.mono hBd.size)
        have hg8w : w.heap.size ≤ g8 := by have := hBd.size; omega
        go_wp2_with (refine st_stO rfl rfl isAddr (adV_one _ _) q8 (by rfl) (by rfl) ?_; intro u6 r8 o8; refine Hid.out ?_)
        refine Hid.mk ?_
        have HEQ := Hid.mk (eqAF_self false (fun _ => 0))
        go_wp2_with (first | (refine wl_value rfl (look_st rfl isAddr r8 (by rfl)) ?_) | (refine wl_value rfl (exec_adW0 rfl) ?_) | (refine wl_value rfl (exec_eqA rfl (by rfl) (by rfl)) ?_; simp only [HEQ.out]))
        go_ret
        exact ⟨rfl, hBe.trans (o8.below hg8w)⟩
      · clear hq
        have hl39 := back_len (v := v') hb'
        have HPA : Hid (∀ ww, Env ww → Calls Tryd.prog 30 #[.string (textV v' b')] ww fun e w' => e = .returned (.tuple #[.agg (SC 17 (adV v' b')), .int .i64 0]) ∧ Below ww.heap.size ww w') := Hid.mk (fun ww h => (Parse_run (textV v' b') ww (by omega) h).mono (fun e w' hh => ⟨back_par hb' hv' hh.1, hh.2⟩))
        have HTX : Hid (∀ ww, Env ww → Calls Tryd.prog 18 #[.agg (SC 17 (adV v' b'))] ww fun e w' => e = .returned (.tuple #[.string (textV v' b'), .int .i64 0]) ∧ Below ww.heap.size ww w') := Hid.mk (fun ww h => Text_run v' b' ww hb' h hv')
        have HVA : Hid (∀ ww, Calls Tryd.prog 20 #[.agg (SC 17 (adV v' b'))] ww fun e w' => e = .returned (.bool true) ∧ Below ww.heap.size ww w') := Hid.mk (fun ww => by
          have h := Valid_run v' b' ww
          rw [hv'] at h
          exact h)
        have HEQ := Hid.mk (eqAF_self v' b')
        generalize textV v' b' = tx at *
        obtain ⟨M, hM⟩ : ∃ M, tx.size = M := ⟨_, rfl⟩
        have hMi : (M : Int) ≤ 39 := by omega
        clear hl39
        go_wp2_with (refine wl_alO rfl rfl zeroAddr ?_; intro g8 u5 hg8 q8 hB5; refine Hid.out ?_)
        refine Hid.mk ?_
        have hBe := hBd.trans (hB5.mono hBd.size)
        have hg8w : w.heap.size ≤ g8 := by have := hBd.size; omega
        go_wp2_with (refine st_stO rfl rfl isAddr (adV_one _ _) q8 (by rfl) (by rfl) ?_; intro u6 r8 o8; refine Hid.out ?_)
        refine Hid.mk ?_
        have hBf := hBe.trans (o8.below hg8w)
        have HEf := Hid.mk (hE.kept hBf)
        clear hBd hBe q8 o8 hB5 hg8
        go_wp2_with (first | (refine wl_value rfl (look_st rfl isAddr r8 (by rfl)) ?_) | (go_at_call 18; refine (HTX.out _ HEf.out).mono ?_; rintro e u7 ⟨rfl, hB7⟩; refine Hid.out ?_))
        refine Hid.mk ?_
        have r9 := SAt.kept r8 hB7
        have hBg := hBf.trans (hB7.mono hBf.size)
        have HEg := Hid.mk (hE.kept hBg)
        go_wp2_with (go_at_call 30; refine (HPA.out _ HEg.out).mono ?_; rintro e u8 ⟨rfl, hB8⟩; refine Hid.out ?_)
        refine Hid.mk ?_
        have r10 := SAt.kept r9 hB8
        have hBh := hBg.trans (hB8.mono hBg.size)
        clear r8 r9 hB7 hB8 hBf hBg HEf HEg
        go_wp2_with (refine wl_alO rfl rfl zeroAddr ?_; intro g16 v1 hg16 q16 hB9; refine Hid.out ?_)
        refine Hid.mk ?_
        have r11 := SAt.kept r10 hB9
        have hBi := hBh.trans (hB9.mono hBh.size)
        have h16 : g8 ≠ g16 := by have := SAt.lt r10; omega
        have hg16w : w.heap.size ≤ g16 := by have := hBh.size; omega
        go_wp2_with (refine st_stO rfl rfl isAddr (adV_one _ _) q16 (by rfl) (by rfl) ?_; intro v2 r16 o16; refine Hid.out ?_)
        refine Hid.mk ?_
        have r12 := r11.only o16 h16
        have hBj := hBi.trans (o16.below hg16w)
        clear r10 r11 q16 o16 hBh hBi hB9 hg16
        go_wp2_with (first | (refine wl_value rfl (look_st rfl isAddr r12 (by rfl)) ?_) | (refine wl_value rfl (look_st rfl isAddr r16 (by rfl)) ?_) | (refine wl_value rfl (exec_eqA rfl (by rfl) (by rfl)) ?_; simp only [HEQ.out]) | (go_at_call 20; refine (HVA.out _).mono ?_; rintro e v3 ⟨rfl, hBk⟩; refine Hid.out ?_))
        refine Hid.mk ?_
        go_wp2_with fail
        go_ret
        exact ⟨rfl, hBj.trans (hBk.mono hBj.size)⟩
end Go.Proofs.YtklgpmpmolphaaaDoor
