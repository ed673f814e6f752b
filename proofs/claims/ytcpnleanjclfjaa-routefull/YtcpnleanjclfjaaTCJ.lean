/-
  Own text. RouteFull, walked.
-/
import Derived.Test.YtcpnleanjclfjaaJ7
namespace Go.Proofs.Ytcpnleanjclfjaa
open Go.RowKit Go.Proofs
set_option maxRecDepth 100000
/-- An address with another seventh byte. -/
def a7 (b : Nat → Int) (c : Int) (q : Nat) : Int := if q = 7 then c else b q
theorem a7_byts {b : Nat → Int} (hb : Byts 16 b) {c : Int} (h0 : 0 ≤ c) (h1 : c < 256) : Byts 16 (a7 b c) := fun q hq => by
  unfold a7
  split
  · exact ⟨h0, h1⟩
  · exact hb q hq
theorem a7_same {b : Nat → Int} {c d : Int} (hc : 0 ≤ c ∧ c < 256) (hd : 0 ≤ d ∧ d < 256) (h : SameP (a7 b c) (a7 b d) 0 64) : c = d := by
  have := byte_same (b := a7 b c) (b2 := a7 b d) (j := 7) (by unfold a7; simpa using hc) (by unfold a7; simpa using hd) (fun i hi => bN_iff.1 (h i (by omega) (by omega)))
  unfold a7 at this
  simpa using this
/-- What the table holds behind i of them. -/
def Fl (b : Nat → Int) (i : Nat) (T6 : Tr) : Prop := (∀ j : Nat, j < i → gt (a7 b (j : Int)) 64 0 T6 = some (j : Int)) ∧ ∀ (b2 : Nat → Int) (k : Nat) (o : Int), gt b2 k 0 T6 = some o → k = 64 ∧ ∃ j : Nat, j < i ∧ SameP (a7 b (j : Int)) b2 0 64
theorem fl_0 (b : Nat → Int) : Fl b 0 .nil := ⟨fun j hj => by omega, fun b2 k o h => by rw [gt_nil] at h; cases h⟩
theorem fl_none {b : Nat → Int} {i : Nat} {T6 : Tr} (h : Fl b i T6) {c : Int} (hc : 0 ≤ c ∧ c < 256) (hi : i ≤ 64) (hn : ∀ j : Nat, j < i → (j : Int) ≠ c) : gt (a7 b c) 64 0 T6 = none := by
  cases hg : gt (a7 b c) 64 0 T6 with
  | none => rfl
  | some o =>
    obtain ⟨_, j, hj, hs⟩ := h.2 _ _ _ hg
    exact absurd (a7_same ⟨by omega, by omega⟩ hc hs) (hn j hj)
theorem fl_put {b : Nat → Int} {i : Nat} {T6 : Tr} (h : Fl b i T6) (hi : i < 64) : Fl b (i + 1) (wiT (a7 b (i : Int)) (i : Int) 64 0 T6) := by
  refine ⟨fun j hj => ?_, fun b2 k o hg => ?_⟩
  · obtain ⟨h1, h2⟩ := gt_wi (a7 b (i : Int)) (i : Int) (a7 b (j : Int)) 64 64 0 T6
    by_cases e : j = i
    · subst e
      exact h1 ⟨rfl, fun _ _ _ => rfl⟩
    · rw [h2 (fun ⟨_, hs⟩ => e (by have := a7_same ⟨by omega, by omega⟩ ⟨by omega, by omega⟩ hs; omega))]
      exact h.1 j (by omega)
  · obtain ⟨h1, h2⟩ := gt_wi (a7 b (i : Int)) (i : Int) b2 64 k 0 T6
    by_cases e : k = 64 ∧ SameP (a7 b (i : Int)) b2 0 64
    · exact ⟨e.1, i, by omega, e.2⟩
    · rw [h2 e] at hg
      obtain ⟨e1, j, hj, hs⟩ := h.2 _ _ _ hg
      exact ⟨e1, j, by omega, hs⟩
theorem right_64 (b : Nat → Int) : rightF true b 64 = true := by
  rw [right_wd]
  rfl
theorem at_64 {T4 T6 : Tr} {b : Nat → Int} : atG T4 T6 true b 64 = gt b 64 0 T6 := by
  unfold atG
  rw [if_pos (right_64 b)]
  rfl
theorem at_64N {T4 T6 : Tr} {b : Nat → Int} : atG T4 T6 true b ((64 : Nat) : Int) = gt b 64 0 T6 := at_64
theorem fl_best {b : Nat → Int} {T4 T6 : Tr} {ow : Int} {i : Nat} (h : Fl b i T6) : bestG T4 (wiT (a7 b 5) ow 64 0 T6) true (a7 b 5) = some (64, ow) := by
  unfold bestG
  rw [if_pos (by rfl)]
  have h64 : gt (a7 b 5) 64 0 (wiT (a7 b 5) ow 64 0 T6) = some ow := (gt_wi (a7 b 5) ow (a7 b 5) 64 64 0 T6).1 ⟨rfl, fun _ _ _ => rfl⟩
  have hup : ∀ k, k ≠ 64 → gt (a7 b 5) k 0 (wiT (a7 b 5) ow 64 0 T6) = none := fun k hk => by
    rw [(gt_wi (a7 b 5) ow (a7 b 5) 64 k 0 T6).2 (fun e => hk e.1)]
    cases hg : gt (a7 b 5) k 0 T6 with
    | none => rfl
    | some o => exact absurd (h.2 _ _ _ hg).1 hk
  show bst (a7 b 5) (wiT (a7 b 5) ow 64 0 T6) 129 = _
  rw [bst_same (m := 65) 129 (by omega) (fun j h1 h2 => hup j (by omega))]
  show (match gt (a7 b 5) 64 0 (wiT (a7 b 5) ow 64 0 T6) with | some o => some (64, o) | none => _) = _
  rw [h64]
section
variable {a : Act} {o : Oper} {w : World} {x y : Operand}
theorem exec_ldB16 (ho : o.op = .load 33 x) {g : Nat} {v : Bool} {b : Nat → Int} (hg : SAt w g 35 17 (adV v b)) (hx : a.eval x = .pointer (some ⟨g, 1, none⟩)) : (execOp a.eval o).run Try.prog w = .ok (.value (.agg (SC 16 (fun j => .int .u8 (b j))))) w := by
  have h := run_loadAt_addr w ⟨g, 1, none⟩ 33 (SC 16 (fun j => .int .u8 (b j))).toList _ (fun j u hv => by
    have hj : j < 16 := by have := (List.getElem?_eq_some_iff.1 hv).1; rwa [Array.length_toList, SC_size] at this
    rw [Addr.add_lit, ad_b hg j hj, ← SC_get 16 (fun j => .int .u8 (b j)) j hj, ← Array.getElem?_toList, hv]) Try.underlying33 rfl (by rw [Array.length_toList, SC_size]; kernel_rfl)
  exact exec_ld ho hx h
theorem run_ad2 (u : Bool) (b : Nat → Int) (w : World) : (Instr.build 35 #[(0, .bool u), (1, .agg (SC 16 (fun j => .int .u8 (b j))))]).run Try.prog w = .ok (.agg (SC 17 (adV u b))) w := by kernel_rfl
theorem exec_ad2 (ho : o.op = .build 35 #[(0, x), (1, y)]) {u : Bool} {b : Nat → Int} (hx : a.eval x = .bool u) (hy : a.eval y = .agg (SC 16 (fun j => .int .u8 (b j)))) : (execOp a.eval o).run Try.prog w = .ok (.value (.agg (SC 17 (adV u b)))) w := by
  unfold execOp
  simp only [ho]
  simp [hx, hy, run_ad2]
theorem zeroAd (w : World) : (zeroValue 35).run Try.prog w = .ok (.agg (SC 17 (adV false (fun _ => 0)))) w := by kernel_rfl
end
theorem ad_set7 {w : World} {g : Nat} {v : Bool} {b : Nat → Int} {c d : Int} (h : SAt w g 35 17 (adV v (a7 b d))) : SAt (w.setCell ⟨g, 8, none⟩ (.int .u8 c)) g 35 17 (adV v (a7 b c)) :=
  (h.set 8 (.int .u8 c) (by omega)).congr (fun i hi => by
    unfold adV a7
    by_cases e : i = 8
    · subst e; rfl
    · rw [if_neg e]
      by_cases e1 : i < 1
      · rw [if_pos e1, if_pos e1]
      · rw [if_neg e1, if_neg e1, if_neg (by omega), if_neg (by omega)])
theorem a7_self (b : Nat → Int) : a7 b (b 7) = b := by
  funext q
  unfold a7
  split
  · rename_i e; rw [e]
  · rfl
theorem TabM.noNd {w : World} {t k : Nat} {m : Int} {T4 T6 : Tr} {p4 p6 : Option Addr} (h : TabM w t m T4 T6 p4 p6) {w' : World} (ho : Only k w w') (hk : k ≠ t) (hn : NoNd w k) : TabM w' t m T4 T6 p4 p6 :=
  ⟨h.blk.only ho (Ne.symm hk), h.t4.tou (touch_only ho) (fun q V _ hs e => by subst e; exact hn V hs), h.t6.tou (touch_only ho) (fun q V _ hs e => by subst e; exact hn V hs), h.f4, h.f6⟩
theorem ad_noNd {w : World} {g : Nat} {V : Nat → Value} (h : SAt w g 35 17 V) : NoNd w g := fun U hU => by
  have h1 := h.symm.trans hU
  simp at h1
set_option maxHeartbeats 32000000 in
theorem full_walk (u : Bool) (b : Nat → Int) (ow : Int) (w : World) (hb : Byts 16 b) : Calls Try.prog 5 #[.agg (SC 17 (adV u b)), .int .i64 ow] w fun e w' => e = .returned (.bool true) ∧ Below w.heap.size w w' := by
  go_enter Try.func5, Try.ntmps5
  go_wp2_with (refine wl_boxO rfl rfl isAddr (by rfl) ?_; intro g1 w1 hg1 q1 hB1; refine Hid.out ?_)
  refine Hid.mk ?_
  go_wp2_with fail
  refine (awake_run w1).mono ?_
  rintro e w2 ⟨rfl, hB2⟩
  have q2 := SAt.kept q1 hB2
  have hBa := hB1.trans (hB2.mono hB1.size)
  clear q1 hB1 hB2
  go_wp2_with fail
  refine (new_run w2).mono ?_
  rintro e w3 ⟨t, rfl, ht, hM3, hB3⟩
  have q3 := SAt.kept q2 hB3
  have hBb := hBa.trans (hB3.mono hBa.size)
  have htw : w.heap.size ≤ t := by have := hBa.size; omega
  clear q2 hB3 hBa ht
  go_wp2_with (first | (refine wl_value rfl (exec_fad1 rfl (by rfl)) ?_) | (refine wl_value rfl (exec_ldB16 rfl q3 (by rfl)) ?_) | (refine wl_value rfl (exec_ad2 rfl (by rfl) (by rfl)) ?_) | (refine wl_alO rfl rfl zeroAd ?_; intro g7 w4 hg7 q7 hB4; refine Hid.out ?_))
  refine Hid.mk ?_
  go_wp2_with (refine st_stO rfl rfl isAddr (adV_one _ _) q7 (by rfl) (by rfl) ?_; intro w5 q5 o5; refine Hid.out ?_)
  refine Hid.mk ?_
  have hg7w : w.heap.size ≤ g7 := by have := hBb.size; omega
  have hg7t : g7 ≠ t := by have := hM3.blk.lt; omega
  have hM5 := (hM3.below hB4).noNd o5 hg7t (ad_noNd q7)
  have hBc := (hBb.trans (hB4.mono hBb.size)).trans (o5.below hg7w)
  rw [← a7_self b] at q5
  clear hM3 hB4 hBb o5 q7 q3
  have HB7 : Hid (∀ c : Int, 0 ≤ c → c < 256 → Byts 16 (a7 b c)) := Hid.mk (fun c h0 h1 => a7_byts hb h0 h1)
  generalize b 7 = c0 at q5
  go_wp2_with fail
  go_loopg [8] (64 : Nat) (fun gm s8 z => ∃ i : Nat, gm = 64 - i ∧ i ≤ 64 ∧ s8 = .int .i64 (i : Int) ∧ Hid ((∃ T4 T6 p4 p6, TabM z t (i : Int) T4 T6 p4 p6 ∧ Fl b i T6) ∧ (∃ c, SAt z g7 35 17 (adV true (a7 b c))) ∧ Below w.heap.size w z))
  case atStart => exact ⟨0, rfl, by omega, rfl, Hid.mk ⟨⟨_, _, _, _, hM5, fl_0 b⟩, ⟨_, q5⟩, hBc⟩⟩
  case round =>
    obtain ⟨i, hgm, hi, rfl, HS⟩ := hrel
    clear hM5 q5 hBc
    obtain ⟨⟨T4, T6, p4, p6, hM, hF⟩, ⟨c, q⟩, hB⟩ := HS.out
    clear HS
    by_cases hlt : i < 64
    · have hki : (i : Int) < 64 := by omega
      obtain ⟨y, c8⟩ : ∃ y, wr.cell? ⟨g7, 8, none⟩ = some (.int .u8 y) := ⟨_, ad_b q 7 (by omega)⟩
      have f8 : wr.frozen? ⟨g7, 8, none⟩ = false := frozen_of_row wr g7 8 _ _ q
      go_upto_region 10 with (first | (refine wl_value rfl (exec_cv8 rfl (by rfl) (by omega) (by omega)) ?_) | (refine wl_value rfl (exec_fad1 rfl (by rfl)) ?_) | (refine wl_value rfl (exec_ix16 (k := 7) rfl (by rfl) (by rfl) (by omega)) ?_))
      clear c8 f8
      refine wp_gen (fun u => SAt u g7 35 17 (adV true (a7 b (i : Int))) ∧ Only g7 wr u) ⟨ad_set7 q, only_set⟩ ?_
      rintro wA ⟨qwA, owA⟩
      have hMwA := hM.noNd owA hg7t (ad_noNd q)
      have hBwA := hB.trans (owA.below hg7w)
      clear hM hB q owA
      go_wp2_with (first | (refine wl_value rfl (look_st rfl isAddr qwA (by rfl)) ?_) | (refine wl_value rfl (exec_px2 rfl (by rfl) (by rfl)) ?_))
      refine (put_yes hMwA true (a7 b (i : Int)) 64 (i : Int) (HB7.out _ (by omega) (by omega)) (right_64 _) (by omega) (m2 := (i : Int) + 1) (.inl ⟨at_64N.trans (fl_none hF ⟨by omega, by omega⟩ hi (fun j hj => by omega)), by omega, rfl⟩)).mono ?_
      rintro e wB ⟨rfl, ⟨p4', p6', hMB⟩, htB⟩
      have qB := qwA.block (htB.block _ qwA.lt (fun e => hg7t e))
      have hBB := hBwA.trans (tou_below htB (fun k hk => by rw [hk]; exact htw) hBwA.size)
      clear hMwA qwA hBwA htB
      have hFB : Fl b (i + 1) (setT true true T6 (wiT (a7 b (i : Int)) (i : Int) 64 0 (trV T4 T6 true))) := fl_put hF hlt
      have HS' : Hid ((∃ T4 T6 p4 p6, TabM wB t ((i + 1 : Nat) : Int) T4 T6 p4 p6 ∧ Fl b (i + 1) T6) ∧ (∃ c, SAt wB g7 35 17 (adV true (a7 b c))) ∧ Below w.heap.size w wB) := Hid.mk ⟨⟨_, _, _, _, by have := hMB; rwa [show (i : Int) + 1 = ((i + 1 : Nat) : Int) by omega] at this, hFB⟩, ⟨_, qB⟩, hBB⟩
      clear hMB hFB qB hBB hF
      go_wp2_with fail
      go_roundg (64 - (i + 1))
      case rel => exact ⟨i + 1, rfl, by omega, by go_num, HS'⟩
      case measure => omega
    · obtain rfl : i = 64 := by omega
      clear hlt
      obtain ⟨y, c8⟩ : ∃ y, wr.cell? ⟨g7, 8, none⟩ = some (.int .u8 y) := ⟨_, ad_b q 7 (by omega)⟩
      have f8 : wr.frozen? ⟨g7, 8, none⟩ = false := frozen_of_row wr g7 8 _ _ q
      go_upto_region 13 with (first | (refine wl_value rfl (exec_fad1 rfl (by rfl)) ?_) | (refine wl_value rfl (exec_ix16 (k := 7) rfl (by rfl) (by rfl) (by omega)) ?_))
      clear c8 f8
      refine wp_gen (fun u => SAt u g7 35 17 (adV true (a7 b 200)) ∧ Only g7 wr u) ⟨ad_set7 q, only_set⟩ ?_
      rintro wA ⟨qwA, owA⟩
      have hMwA := hM.noNd owA hg7t (ad_noNd q)
      have hBwA := hB.trans (owA.below hg7w)
      clear hM hB q owA
      go_wp2_with (first | (refine wl_value rfl (look_st rfl isAddr qwA (by rfl)) ?_) | (refine wl_value rfl (exec_px2 rfl (by rfl) (by rfl)) ?_))
      refine (put_full hMwA true (a7 b 200) 64 1 (HB7.out _ (by omega) (by omega)) (right_64 _) (at_64.trans (fl_none hF ⟨by omega, by omega⟩ (Nat.le_refl _) (fun j hj => by omega))) (by omega)).mono ?_
      rintro e wB ⟨rfl, hB2⟩
      have qB := SAt.kept qwA hB2
      have hMB := hMwA.below hB2
      have hBB := hBwA.trans (hB2.mono hBwA.size)
      clear hMwA qwA hBwA hB2
      go_upto_region 14 with fail
      obtain ⟨y, c8⟩ : ∃ y, wB.cell? ⟨g7, 8, none⟩ = some (.int .u8 y) := ⟨_, ad_b qB 7 (by omega)⟩
      have f8 : wB.frozen? ⟨g7, 8, none⟩ = false := frozen_of_row wB g7 8 _ _ qB
      go_upto_region 15 with (first | (refine wl_value rfl (exec_fad1 rfl (by rfl)) ?_) | (refine wl_value rfl (exec_ix16 (k := 7) rfl (by rfl) (by rfl) (by omega)) ?_))
      clear c8 f8
      refine wp_gen (fun u => SAt u g7 35 17 (adV true (a7 b 5)) ∧ Only g7 wB u) ⟨ad_set7 qB, only_set⟩ ?_
      rintro wC ⟨qwC, owC⟩
      have hMwC := hMB.noNd owC hg7t (ad_noNd qB)
      have hBwC := hBB.trans (owC.below hg7w)
      clear hMB hBB qB owC
      go_wp2_with (first | (refine wl_value rfl (look_st rfl isAddr qwC (by rfl)) ?_) | (refine wl_value rfl (exec_px2 rfl (by rfl) (by rfl)) ?_))
      refine (put_yes hMwC true (a7 b 5) 64 ow (HB7.out _ (by omega) (by omega)) (right_64 _) (by omega) (m2 := 64) (.inr ⟨⟨5, at_64N.trans (hF.1 5 (by omega))⟩, rfl⟩)).mono ?_
      rintro e wD ⟨rfl, ⟨p4', p6', hMD⟩, htD⟩
      have qD := qwC.block (htD.block _ qwC.lt (fun e => hg7t e))
      have hBD := hBwC.trans (tou_below htD (fun k hk => by rw [hk]; exact htw) hBwC.size)
      clear hMwC qwC hBwC htD
      go_wp2_with (refine wl_value rfl (look_st rfl isAddr qD (by rfl)) ?_)
      refine (findC_run hMD true (a7 b 5) (HB7.out _ (by omega) (by omega))).mono ?_
      rintro e wE ⟨rfl, hB3⟩
      have hbest : bestG (setT true false T4 (wiT (a7 b 5) ow 64 0 (trV T4 T6 true))) (setT true true T6 (wiT (a7 b 5) ow 64 0 (trV T4 T6 true))) true (a7 b 5) = some (64, ow) := fl_best hF
      rw [hbest]
      have hME := hMD.below hB3
      have hBE := hBD.trans (hB3.mono hBD.size)
      clear hbest hMD qD hBD hB3 hF
      unfold bestA
      go_wp2_with (first | (refine wl_value rfl (exec_ext rfl (by rfl) rfl) ?_) | (refine wl_alO rfl rfl zeroPfx ?_; intro gF wF hgF qF hBF; refine Hid.out ?_))
      refine Hid.mk ?_
      go_wp2_with (refine st_stO rfl rfl isPfx (whV_one _ _ _) qF (by rfl) (by rfl) ?_; intro wG qG oG; refine Hid.out ?_)
      refine Hid.mk ?_
      have hMG := (hME.below hBF).noNd oG (by have := hME.blk.lt; omega) (fun U hU => by
        have h1 := qF.symm.trans hU
        simp at h1)
      have hBG := (hBE.trans (hBF.mono hBE.size)).trans (oG.below (by have := hBE.size; omega))
      have c1 : wG.cell? ⟨gF, 17, none⟩ = some (.int .i64 64) := by
        have := qG
        rw [show wholeV true (a7 b 5) (64 : Int) = prV true (whB (a7 b 5) 64) 64 by unfold wholeV; rw [if_pos (right_64 _)]] at this
        exact pr_n this
      clear hME hBF hBE oG qF qG
      go_wp2_with fail
      refine (len_run hMG).mono ?_
      rintro e wH ⟨rfl, hBH⟩
      go_wp2_with fail
      go_ret
      exact ⟨by rfl, hBG.trans (hBH.mono hBG.size)⟩
end Go.Proofs.Ytcpnleanjclfjaa
