/-
  Own text. RoutePlays, walked.
-/
import Derived.Test.YtcpnleanjclfjaaTCL
namespace Go.Proofs.Ytcpnleanjclfjaa
open Go.RowKit Go.Proofs
set_option maxRecDepth 100000
theorem drop_shape (ro : Nat → Rw) (m : Nat) (v : Bool) (wb : Nat → Int) (n : Int) : ∃ (po : Int) (pt : Bool), dropA ro m v wb n = .tuple #[.int .i64 po, .bool pt] := by
  unfold dropA
  split <;> exact ⟨_, _, rfl⟩
theorem find_shape (ro : Nat → Rw) (v : Bool) (b : Nat → Int) (m : Nat) : ∃ (po : Int) (pv : Bool) (pb : Nat → Int) (pn : Int) (pt : Bool), findA ro v b m = .tuple #[.int .i64 po, .agg (SC 18 (prV pv pb pn)), .bool pt] := by
  unfold findA
  split <;> exact ⟨_, _, _, _, _, rfl⟩
theorem whole_shape (v : Bool) (b : Nat → Int) (n : Int) : ∃ pv pb pn, wholeV v b n = prV pv pb pn := by
  unfold wholeV
  split <;> exact ⟨_, _, _, rfl⟩
theorem exec_neB10 {a : Act} {o : Oper} {w : World} {x y : Operand} (ho : o.op = .binOp .neq 4 x y 4) {b : Bool} (hx : a.eval x = .bool b) (hy : a.eval y = .bool b) : (execOp a.eval o).run Try.prog w = .ok (.value (.bool false)) w := exec_bin2 ho hx hy rfl (by simp [go_sem])
theorem enter10_17 (args : Array Value) (w : World) : (callFunc 17 args).run Try.prog w = .ok (.enter 17 args) w := by kernel_rfl
theorem enter10_18 (args : Array Value) (w : World) : (callFunc 18 args).run Try.prog w = .ok (.enter 18 args) w := by kernel_rfl
theorem enter10_19 (args : Array Value) (w : World) : (callFunc 19 args).run Try.prog w = .ok (.enter 19 args) w := by kernel_rfl
theorem enter10_20 (args : Array Value) (w : World) : (callFunc 20 args).run Try.prog w = .ok (.enter 20 args) w := by kernel_rfl
theorem enter10_21 (args : Array Value) (w : World) : (callFunc 21 args).run Try.prog w = .ok (.enter 21 args) w := by kernel_rfl
set_option maxHeartbeats 64000000 in
theorem plays_walk (v : Value) (n : Nat) (X : Nat → Op10) (w : World) (hv : OpsAt10 w v n X) (hn : n ≤ maxLen) : Calls Try.prog 3 #[v] w fun e w' => e = .returned (.bool true) ∧ Below w.heap.size w w' := by
  obtain ⟨a0, cap0, hv0, hv1⟩ := id hv
  clear hv1
  subst hv0
  have HV := Hid.mk hv
  clear hv
  refine calls_of_wpM Try.func3 rfl ?_
  simp only [Try.ntmps3, List.size_toArray, List.length_cons, List.length_nil, Nat.reduceAdd, Nat.reduceSub, Array.replicate_succ, Array.replicate_zero, List.push_toArray, List.append_toArray, List.nil_append, List.cons_append]
  have n2 := heap_alloc_new w (.cells #[.bool false] 4 (0, 0))
  have b2 := (Below.refl w.heap.size w).alloc (Nat.le_refl _) (.cells #[.bool false] 4 (0, 0))
  go_upto_region 1 with fail
  refine wp_gen (fun u => u.heap[w.heap.size]? = some (.cells #[.bool false] 4 (0, 0)) ∧ Below w.heap.size w u) ⟨n2, b2⟩ ?_
  clear n2 b2
  rintro w1 ⟨n2, hB1⟩
  obtain ⟨g2, e2⟩ : ∃ g, w.heap.size = g := ⟨_, rfl⟩
  rw [e2] at n2
  have hg2 : w.heap.size ≤ g2 := by omega
  simp only [e2]
  clear e2
  go_wp2_with fail
  refine (awake_run w1).mono ?_
  rintro e w2 ⟨rfl, hB2⟩
  have n2a := bheap hB2 n2 (heap_lt n2)
  have hBa := hB1.trans (hB2.mono hB1.size)
  clear n2 hB1 hB2
  go_wp2_with fail
  refine (new_run w2).mono ?_
  rintro e w3 ⟨t, rfl, ht, hM3, hB3⟩
  have n2b := bheap hB3 n2a (heap_lt n2a)
  have hBb := hBa.trans (hB3.mono hBa.size)
  have htw : w.heap.size ≤ t := by have := hBa.size; omega
  clear n2a hB3 hBa ht
  go_wp2_with (first | (refine wl_value rfl (exec_tbD0 rfl) ?_) | (refine wl_boxO rfl rfl isTbD (by rfl) ?_; intro d w4 hd qd hB4; refine Hid.out ?_))
  refine Hid.mk ?_
  have hM4 := hM3.below hB4
  have n2c := bheap hB4 n2b (heap_lt n2b)
  have hBc := hBb.trans (hB4.mono hBb.size)
  have hdw : w.heap.size ≤ d := by have := hBb.size; omega
  clear hM3 n2b hBb hB4 hd
  go_wp2_with fail
  refine (all_run hM4.blk).mono ?_
  rintro e w5 ⟨bs, rfl, hbs, q5, hB5⟩
  have hM5 := hM4.below hB5
  have qd5 := SAt.kept qd hB5
  have n2d := bheap hB5 n2c (heap_lt n2c)
  have hBd := hBc.trans (hB5.mono hBc.size)
  have hbw : w.heap.size ≤ bs := by have := hBc.size; omega
  obtain ⟨B, hBB⟩ : ∃ B, w5.heap.size = B := ⟨_, rfl⟩
  have hN : Two w B t d bs g2 w5 (.slice none 0 0) 0 awR0 0 awR0 := ⟨⟨.nil, .nil, none, none, hM5, rep_nil awR0⟩, zeroD awR0 qd5 (by rw [← hBB]; exact qd5.lt) (by omega), q5, n2d, hBd, ⟨htw, hdw, hbw, hg2⟩, by rw [← hBB]; exact ⟨hM5.blk.lt, qd5.lt, q5.lt, heap_lt n2d⟩⟩
  clear hM4 hM5 qd qd5 n2c n2d hBc hBd q5 hB5 hbs htw hdw hbw hg2 hBB
  go_wp2_with fail
  go_loopg [7] n (fun gm s7 z => ∃ i : Nat, gm = n - i ∧ i ≤ n ∧ s7 = .int .i64 (i : Int) ∧ Hid (∃ x m ro, Two w B t d bs g2 z x m ro m ro))
  case atStart => exact ⟨0, rfl, by omega, rfl, Hid.mk ⟨_, _, _, hN⟩⟩
  case round =>
    obtain ⟨i, hgm, hin, rfl, HS⟩ := hrel
    clear hN
    by_cases hlt : i < n
    · obtain ⟨x, m, ro, hz⟩ := HS.out
      clear HS
      obtain ⟨ad, cap, hva, hc, hOb, hOn⟩ := HV.out.at hz.bel i hlt
      obtain ⟨rfl, rfl⟩ : a0 = some ad ∧ cap0 = cap := by simpa using hva
      clear hva
      have hlti : (i : Int) < (n : Int) := by omega
      have hi63 : (i : Int) + 1 ≤ 9223372036854775807 := by have h9 := hn; unfold maxLen at h9; omega
      generalize X i = O at *
      have HC := Hid.mk hc
      clear hc
      go_wp2_with (first | (refine wl_value rfl (exec_ixOp10 rfl (by rfl) (by rfl) hlt) ?_) | (refine wl_value rfl (exec_ldOp10 rfl (by rfl) HC.out) ?_) | (refine wl_alO rfl rfl zeroOp10 ?_; intro gO wA hgO qA hBA; refine Hid.out ?_))
      refine Hid.mk ?_
      go_wp2_with (refine st_stO rfl rfl isOp10 (opV10_one _) qA (by rfl) (by rfl) ?_; intro z1 q1 o1; refine Hid.out ?_)
      refine Hid.mk ?_
      go_upto_region 11 with fail
      have hB1 : Below wr.heap.size wr z1 := hBA.trans (o1.below hgO)
      have h1 := hz.below hB1
      clear hBA o1 qA hB1 HC
      have ck := op10_k q1
      go_upto_region 15 with (refine wl_value rfl (exec_fop10 rfl (by rfl) (by decide)) ?_)
      clear ck
      generalize O.kd.tmod 4 = r
      by_cases r2 : r = 2
      · subst r2
        go_wp2_with (first | (refine wl_value rfl (exec_fop10 rfl (by rfl) (by decide)) ?_) | (refine wl_value rfl (exec_ldOpP rfl q1 (by rfl)) ?_))
        by_cases hr : rightF O.v O.b O.n = true
        · refine (dropC h1.c O.v O.b O.n hOb hr).mono ?_
          rintro e y1 ⟨rfl, hC1, hX1⟩
          have h2 := h1.code hC1 hX1
          have q2 := hz.boxC hgO q1 hX1
          obtain ⟨po, pt, hdA⟩ : ∃ (po : Int) (pt : Bool), dropA ro m O.v (whB O.b O.n) O.n = .tuple #[.int .i64 po, .bool pt] := drop_shape _ _ _ _ _
          rw [hdA]
          clear hC1 hX1
          go_wp2_with (first | (refine wl_value rfl (exec_ext rfl (by rfl) rfl) ?_) | (refine wl_value rfl (exec_fop10 rfl (by rfl) (by decide)) ?_) | (refine wl_value rfl (exec_ldOpP rfl q2 (by rfl)) ?_))
          refine (rDrop_yes O.v O.b O.n rfl h2.dt hOb hz.small hr).mono ?_
          rintro e y2 ⟨rfl, x2, hD2, hX2, _⟩
          rw [hdA]
          have h3 := h2.doc hD2 hX2
          have q3 := hz.boxD hgO q2 hX2
          have HF := Hid.mk (show ∃ x m ro, Two w B t d bs g2 y2 x m ro m ro ∧ SAt y2 gO 39 20 (opV10 O) from ⟨_, _, _, h3, q3⟩)
          clear hD2 hX2 h2 q2 hdA h3 q3
          go_upto_region 27 with (refine wl_value rfl (exec_ext rfl (by rfl) rfl) ?_)
          obtain ⟨x2, m2, ro2, hZ, qO⟩ := HF.out
          clear HF
          obtain ⟨p, capx, hxe, _⟩ := ownM_shape hZ.dt.row
          subst hxe
          obtain ⟨pv, pb, pn, hwh⟩ : ∃ pv pb pn, wholeV O.v O.b O.n = prV pv pb pn := whole_shape _ _ _
          obtain ⟨rt, hrt⟩ : ∃ rt, rightF O.v O.b O.n = rt := ⟨_, rfl⟩
          have HX : Hid (∀ z, Below y2.heap.size y2 z → z.cell? ⟨d, 0, none⟩ = some (.slice p m2 capx)) := Hid.mk (fun z hh => SAt.at (SAt.kept hZ.dt.blk hh) 0 (by omega))
          have HL17 : Hid (∀ z, Below y2.heap.size y2 z → Calls Try.prog 17 #[.pointer (some ⟨t, 0, none⟩)] z fun e w' => e = .returned (.int .i64 (m2 : Int)) ∧ Below z.heap.size z w') := Hid.mk (fun z hh => lenC (hZ.c.below hh))
          have HL18 : Hid (∀ z, Below y2.heap.size y2 z → Calls Try.prog 18 #[.agg (SC 18 (prV O.v O.b O.n))] z fun e w' => e = .returned (.bool rt) ∧ Below z.heap.size z w') := Hid.mk (fun z _ => by rw [← hrt]; exact isPrefix_run _ _ _ _)
          have HL19 : Hid (∀ z, Below y2.heap.size y2 z → Calls Try.prog 19 #[.agg (SC 18 (prV O.v O.b O.n))] z fun e w' => e = .returned (.bool rt) ∧ Below z.heap.size z w') := Hid.mk (fun z _ => by rw [← hrt]; exact right_run _ _ _ _)
          have HL20 : Hid (∀ z, Below y2.heap.size y2 z → Calls Try.prog 20 #[.agg (SC 18 (prV O.v O.b O.n))] z fun e w' => e = .returned (.agg (SC 18 (prV pv pb pn))) ∧ Below z.heap.size z w') := Hid.mk (fun z _ => by rw [← hwh]; exact wholeC_run _ _ _ _ hOb)
          have HL21 : Hid (∀ z, Below y2.heap.size y2 z → Calls Try.prog 21 #[.agg (SC 18 (prV O.v O.b O.n))] z fun e w' => e = .returned (.agg (SC 18 (prV pv pb pn))) ∧ Below z.heap.size z w') := Hid.mk (fun z _ => by rw [← hwh]; exact whole_run _ _ _ _ hOb)
          clear hwh hrt
          refine wp_norm ?_
          refine (wpIn_wide (n := 0)).1 ?_
          show Code.wpIn (Wd none) 0 _ _ _ _ _
          refine regIn_cut (ro := none) 25 rfl (by kernel_rfl) (fun ⟨_, _, hq⟩ => by cases hq.1) rfl (any_steps (Below y2.heap.size y2) (fun v v' => Below v.heap.size v v') (fun iq vq v0 => match iq with | 0 => vq = .pointer (some ⟨t, 0, none⟩) | 1 => vq = .int .i64 (m2 : Int) | 2 => vq = .pointer (some ⟨d, 0, none⟩) | 3 => vq = .pointer (some ⟨d, 0, none⟩) | 4 => vq = .pointer (some ⟨d, 0, none⟩) | 5 => vq = .slice p m2 capx | 6 => vq = .int .i64 (m2 : Int) | 7 => vq = .bool false | 8 => vq = .bool false | 9 => vq = .pointer (some ⟨gO, 0 + 2, none⟩) | 10 => vq = .agg (SC 18 (prV O.v O.b O.n)) | 11 => vq = .bool rt | 12 => vq = .pointer (some ⟨gO, 0 + 2, none⟩) | 13 => vq = .agg (SC 18 (prV O.v O.b O.n)) | 14 => vq = .bool rt | 15 => vq = .bool false | 16 => vq = .bool false | 17 => vq = .bool false | 18 => vq = .pointer (some ⟨gO, 0 + 2, none⟩) | 19 => vq = .agg (SC 18 (prV O.v O.b O.n)) | 20 => vq = .agg (SC 18 (prV pv pb pn)) | 21 => vq = .pointer (some ⟨gO, 0 + 2, none⟩) | 22 => vq = .agg (SC 18 (prV O.v O.b O.n)) | 23 => vq = .agg (SC 18 (prV pv pb pn)) | 24 => vq = .bool false | _ => True)
              [119, 120, 121, 122, 123, 124, 125, 126, 127, 128, 129, 130, 131, 132, 133, 134, 135, 136, 137, 138, 139, 140, 141, 142, 143]
              [(4, .pointer (some ⟨t, 0, none⟩)), (5, .pointer (some ⟨d, 0, none⟩)), (8, .pointer (some ⟨gO, 0, none⟩))]
              [[], [0], [], [2], [3], [4], [5], [1, 6], [7], [8], [8, 9], [8, 10], [8], [8, 12], [8, 13], [8, 11, 14], [8, 15], [16], [17], [17, 18], [17, 19], [17], [17, 21], [17, 22], [17, 20, 23]]
              (by kernel_rfl) ⟨rfl, rfl, rfl, trivial⟩ (Below.drew (Below.refl _ _)) (fun v v' h hb => h.trans (hb.mono h.size)) ?_
              ⟨
                (fun Q a1 ww hS fr kn => ⟨trivial, fun K hK => wp_value (exec_move rfl fr.1) (hK _ _ rfl (Below.refl _ _))⟩),
                (fun Q a1 ww hS fr kn => ⟨trivial, fun K hK => stepc enter10_17 rfl (args1 kn.1) (HL17.out ww hS) (fun w1 hr => hK _ w1 rfl hr)⟩),
                (fun Q a1 ww hS fr kn => ⟨trivial, fun K hK => wp_value (exec_move rfl fr.2.1) (hK _ _ rfl (Below.refl _ _))⟩),
                (fun Q a1 ww hS fr kn => ⟨trivial, fun K hK => wp_value (exec_nilc rfl kn.1) (hK _ _ rfl (Below.refl _ _))⟩),
                (fun Q a1 ww hS fr kn => ⟨trivial, fun K hK => wp_value (exec_ftab rfl kn.1) (hK _ _ rfl (Below.refl _ _))⟩),
                (fun Q a1 ww hS fr kn => ⟨trivial, fun K hK => wp_value (exec_ld rfl kn.1 (ld_rows (HX.out ww hS))) (hK _ _ rfl (Below.refl _ _))⟩),
                (fun Q a1 ww hS fr kn => ⟨trivial, fun K hK => wp_value (exec_lenR rfl kn.1) (hK _ _ rfl (Below.refl _ _))⟩),
                (fun Q a1 ww hS fr kn => ⟨trivial, fun K hK => wp_value (exec_neqI rfl kn.1 kn.2.1 rfl) (hK _ _ rfl (Below.refl _ _))⟩),
                (fun Q a1 ww hS fr kn => ⟨trivial, fun K hK => wp_value (exec_move rfl kn.1) (hK _ _ rfl (Below.refl _ _))⟩),
                (fun Q a1 ww hS fr kn => ⟨kn.1, fun K hK => wp_value (exec_fop10 (k := 2) rfl fr.2.2.1 (by decide)) (hK _ _ rfl (Below.refl _ _))⟩),
                (fun Q a1 ww hS fr kn => ⟨kn.1, fun K hK => wp_value (exec_ldOpP rfl (SAt.kept qO hS) kn.2.1) (hK _ _ rfl (Below.refl _ _))⟩),
                (fun Q a1 ww hS fr kn => ⟨kn.1, fun K hK => stepc enter10_18 rfl (args1 kn.2.1) (HL18.out ww hS) (fun w1 hr => hK _ w1 rfl hr)⟩),
                (fun Q a1 ww hS fr kn => ⟨kn.1, fun K hK => wp_value (exec_fop10 (k := 2) rfl fr.2.2.1 (by decide)) (hK _ _ rfl (Below.refl _ _))⟩),
                (fun Q a1 ww hS fr kn => ⟨kn.1, fun K hK => wp_value (exec_ldOpP rfl (SAt.kept qO hS) kn.2.1) (hK _ _ rfl (Below.refl _ _))⟩),
                (fun Q a1 ww hS fr kn => ⟨kn.1, fun K hK => stepc enter10_19 rfl (args1 kn.2.1) (HL19.out ww hS) (fun w1 hr => hK _ w1 rfl hr)⟩),
                (fun Q a1 ww hS fr kn => ⟨kn.1, fun K hK => wp_value (exec_neB10 rfl kn.2.1 kn.2.2.1) (hK _ _ rfl (Below.refl _ _))⟩),
                (fun Q a1 ww hS fr kn => ⟨trivial, fun K hK => wp_value (exec_pickF (v := .bool false) rfl kn.1 kn.2.1) (hK _ _ rfl (Below.refl _ _))⟩),
                (fun Q a1 ww hS fr kn => ⟨trivial, fun K hK => wp_value (exec_move rfl kn.1) (hK _ _ rfl (Below.refl _ _))⟩),
                (fun Q a1 ww hS fr kn => ⟨kn.1, fun K hK => wp_value (exec_fop10 (k := 2) rfl fr.2.2.1 (by decide)) (hK _ _ rfl (Below.refl _ _))⟩),
                (fun Q a1 ww hS fr kn => ⟨kn.1, fun K hK => wp_value (exec_ldOpP rfl (SAt.kept qO hS) kn.2.1) (hK _ _ rfl (Below.refl _ _))⟩),
                (fun Q a1 ww hS fr kn => ⟨kn.1, fun K hK => stepc enter10_20 rfl (args1 kn.2.1) (HL20.out ww hS) (fun w1 hr => hK _ w1 rfl hr)⟩),
                (fun Q a1 ww hS fr kn => ⟨kn.1, fun K hK => wp_value (exec_fop10 (k := 2) rfl fr.2.2.1 (by decide)) (hK _ _ rfl (Below.refl _ _))⟩),
                (fun Q a1 ww hS fr kn => ⟨kn.1, fun K hK => wp_value (exec_ldOpP rfl (SAt.kept qO hS) kn.2.1) (hK _ _ rfl (Below.refl _ _))⟩),
                (fun Q a1 ww hS fr kn => ⟨kn.1, fun K hK => stepc enter10_21 rfl (args1 kn.2.1) (HL21.out ww hS) (fun w1 hr => hK _ w1 rfl hr)⟩),
                (fun Q a1 ww hS fr kn => ⟨kn.1, fun K hK => wp_value (exec_neP rfl kn.2.1 kn.2.2.1 (eqP_not _ _ _)) (hK _ _ rfl (Below.refl _ _))⟩),
                trivial⟩ ?_)
          · intro iq vq u' u'' hh hb
            match iq with
            | 0 | 1 | 2 | 3 | 4 | 5 | 6 | 7 | 8 | 9 | 10 | 11 | 12 | 13 | 14 | 15 | 16 | 17 | 18 | 19 | 20 | 21 | 22 | 23 | 24 => exact hh

            | n + 25 => trivial
          intro vs Y3 hSY hk3
          have e136 : vs 136 = .bool false := hk3 17 (by decide)
          have e143 : vs 143 = .bool false := hk3 24 (by decide)
          clear hk3
          have HS' : Hid (∃ x m ro, Two w B t d bs g2 Y3 x m ro m ro) := Hid.mk ⟨_, _, _, hZ.below hSY⟩
          clear hZ qO hSY HX HL17 HL18 HL19 HL20 HL21
          refine spl_mk ?_
          simp only [putAll, Act.put, List.setIfInBounds_toArray, List.set_cons_zero, List.set_cons_succ, List.drop_succ_cons, List.drop_zero, e136, e143]
          clear e136 e143
          refine all_in (fun ⟨_, _, hq⟩ => by cases hq.1) _ _ _ rfl ?_
          go_wp2_with fail
          go_roundg (n - (i + 1))
          case rel => exact ⟨i + 1, rfl, by omega, by go_num, HS'⟩
          case measure => omega
        · have hrf : rightF O.v O.b O.n = false := Bool.eq_false_iff.2 hr
          refine (dropC_no h1.c O.v O.b O.n hOb hrf).mono ?_
          rintro e y1 ⟨rfl, hX1⟩
          have h2 := h1.below hX1
          have q2 := SAt.kept q1 hX1
          clear hX1
          go_wp2_with (first | (refine wl_value rfl (exec_ext rfl (by rfl) rfl) ?_) | (refine wl_value rfl (exec_fop10 rfl (by rfl) (by decide)) ?_) | (refine wl_value rfl (exec_ldOpP rfl q2 (by rfl)) ?_))
          refine (rDrop_no O.v O.b O.n h2.dt hz.small hrf).mono ?_
          rintro e y2 ⟨rfl, hX2⟩
          have HF := Hid.mk (show ∃ x m ro, Two w B t d bs g2 y2 x m ro m ro ∧ SAt y2 gO 39 20 (opV10 O) from ⟨_, _, _, h2.below hX2, SAt.kept q2 hX2⟩)
          clear h2 q2 hX2
          go_upto_region 27 with (refine wl_value rfl (exec_ext rfl (by rfl) rfl) ?_)
          obtain ⟨x2, m2, ro2, hZ, qO⟩ := HF.out
          clear HF
          obtain ⟨p, capx, hxe, _⟩ := ownM_shape hZ.dt.row
          subst hxe
          obtain ⟨pv, pb, pn, hwh⟩ : ∃ pv pb pn, wholeV O.v O.b O.n = prV pv pb pn := whole_shape _ _ _
          obtain ⟨rt, hrt⟩ : ∃ rt, rightF O.v O.b O.n = rt := ⟨_, rfl⟩
          have HX : Hid (∀ z, Below y2.heap.size y2 z → z.cell? ⟨d, 0, none⟩ = some (.slice p m2 capx)) := Hid.mk (fun z hh => SAt.at (SAt.kept hZ.dt.blk hh) 0 (by omega))
          have HL17 : Hid (∀ z, Below y2.heap.size y2 z → Calls Try.prog 17 #[.pointer (some ⟨t, 0, none⟩)] z fun e w' => e = .returned (.int .i64 (m2 : Int)) ∧ Below z.heap.size z w') := Hid.mk (fun z hh => lenC (hZ.c.below hh))
          have HL18 : Hid (∀ z, Below y2.heap.size y2 z → Calls Try.prog 18 #[.agg (SC 18 (prV O.v O.b O.n))] z fun e w' => e = .returned (.bool rt) ∧ Below z.heap.size z w') := Hid.mk (fun z _ => by rw [← hrt]; exact isPrefix_run _ _ _ _)
          have HL19 : Hid (∀ z, Below y2.heap.size y2 z → Calls Try.prog 19 #[.agg (SC 18 (prV O.v O.b O.n))] z fun e w' => e = .returned (.bool rt) ∧ Below z.heap.size z w') := Hid.mk (fun z _ => by rw [← hrt]; exact right_run _ _ _ _)
          have HL20 : Hid (∀ z, Below y2.heap.size y2 z → Calls Try.prog 20 #[.agg (SC 18 (prV O.v O.b O.n))] z fun e w' => e = .returned (.agg (SC 18 (prV pv pb pn))) ∧ Below z.heap.size z w') := Hid.mk (fun z _ => by rw [← hwh]; exact wholeC_run _ _ _ _ hOb)
          have HL21 : Hid (∀ z, Below y2.heap.size y2 z → Calls Try.prog 21 #[.agg (SC 18 (prV O.v O.b O.n))] z fun e w' => e = .returned (.agg (SC 18 (prV pv pb pn))) ∧ Below z.heap.size z w') := Hid.mk (fun z _ => by rw [← hwh]; exact whole_run _ _ _ _ hOb)
          clear hwh hrt
          refine wp_norm ?_
          refine (wpIn_wide (n := 0)).1 ?_
          show Code.wpIn (Wd none) 0 _ _ _ _ _
          refine regIn_cut (ro := none) 25 rfl (by kernel_rfl) (fun ⟨_, _, hq⟩ => by cases hq.1) rfl (any_steps (Below y2.heap.size y2) (fun v v' => Below v.heap.size v v') (fun iq vq v0 => match iq with | 0 => vq = .pointer (some ⟨t, 0, none⟩) | 1 => vq = .int .i64 (m2 : Int) | 2 => vq = .pointer (some ⟨d, 0, none⟩) | 3 => vq = .pointer (some ⟨d, 0, none⟩) | 4 => vq = .pointer (some ⟨d, 0, none⟩) | 5 => vq = .slice p m2 capx | 6 => vq = .int .i64 (m2 : Int) | 7 => vq = .bool false | 8 => vq = .bool false | 9 => vq = .pointer (some ⟨gO, 0 + 2, none⟩) | 10 => vq = .agg (SC 18 (prV O.v O.b O.n)) | 11 => vq = .bool rt | 12 => vq = .pointer (some ⟨gO, 0 + 2, none⟩) | 13 => vq = .agg (SC 18 (prV O.v O.b O.n)) | 14 => vq = .bool rt | 15 => vq = .bool false | 16 => vq = .bool false | 17 => vq = .bool false | 18 => vq = .pointer (some ⟨gO, 0 + 2, none⟩) | 19 => vq = .agg (SC 18 (prV O.v O.b O.n)) | 20 => vq = .agg (SC 18 (prV pv pb pn)) | 21 => vq = .pointer (some ⟨gO, 0 + 2, none⟩) | 22 => vq = .agg (SC 18 (prV O.v O.b O.n)) | 23 => vq = .agg (SC 18 (prV pv pb pn)) | 24 => vq = .bool false | _ => True)
              [119, 120, 121, 122, 123, 124, 125, 126, 127, 128, 129, 130, 131, 132, 133, 134, 135, 136, 137, 138, 139, 140, 141, 142, 143]
              [(4, .pointer (some ⟨t, 0, none⟩)), (5, .pointer (some ⟨d, 0, none⟩)), (8, .pointer (some ⟨gO, 0, none⟩))]
              [[], [0], [], [2], [3], [4], [5], [1, 6], [7], [8], [8, 9], [8, 10], [8], [8, 12], [8, 13], [8, 11, 14], [8, 15], [16], [17], [17, 18], [17, 19], [17], [17, 21], [17, 22], [17, 20, 23]]
              (by kernel_rfl) ⟨rfl, rfl, rfl, trivial⟩ (Below.drew (Below.refl _ _)) (fun v v' h hb => h.trans (hb.mono h.size)) ?_
              ⟨
                (fun Q a1 ww hS fr kn => ⟨trivial, fun K hK => wp_value (exec_move rfl fr.1) (hK _ _ rfl (Below.refl _ _))⟩),
                (fun Q a1 ww hS fr kn => ⟨trivial, fun K hK => stepc enter10_17 rfl (args1 kn.1) (HL17.out ww hS) (fun w1 hr => hK _ w1 rfl hr)⟩),
                (fun Q a1 ww hS fr kn => ⟨trivial, fun K hK => wp_value (exec_move rfl fr.2.1) (hK _ _ rfl (Below.refl _ _))⟩),
                (fun Q a1 ww hS fr kn => ⟨trivial, fun K hK => wp_value (exec_nilc rfl kn.1) (hK _ _ rfl (Below.refl _ _))⟩),
                (fun Q a1 ww hS fr kn => ⟨trivial, fun K hK => wp_value (exec_ftab rfl kn.1) (hK _ _ rfl (Below.refl _ _))⟩),
                (fun Q a1 ww hS fr kn => ⟨trivial, fun K hK => wp_value (exec_ld rfl kn.1 (ld_rows (HX.out ww hS))) (hK _ _ rfl (Below.refl _ _))⟩),
                (fun Q a1 ww hS fr kn => ⟨trivial, fun K hK => wp_value (exec_lenR rfl kn.1) (hK _ _ rfl (Below.refl _ _))⟩),
                (fun Q a1 ww hS fr kn => ⟨trivial, fun K hK => wp_value (exec_neqI rfl kn.1 kn.2.1 rfl) (hK _ _ rfl (Below.refl _ _))⟩),
                (fun Q a1 ww hS fr kn => ⟨trivial, fun K hK => wp_value (exec_move rfl kn.1) (hK _ _ rfl (Below.refl _ _))⟩),
                (fun Q a1 ww hS fr kn => ⟨kn.1, fun K hK => wp_value (exec_fop10 (k := 2) rfl fr.2.2.1 (by decide)) (hK _ _ rfl (Below.refl _ _))⟩),
                (fun Q a1 ww hS fr kn => ⟨kn.1, fun K hK => wp_value (exec_ldOpP rfl (SAt.kept qO hS) kn.2.1) (hK _ _ rfl (Below.refl _ _))⟩),
                (fun Q a1 ww hS fr kn => ⟨kn.1, fun K hK => stepc enter10_18 rfl (args1 kn.2.1) (HL18.out ww hS) (fun w1 hr => hK _ w1 rfl hr)⟩),
                (fun Q a1 ww hS fr kn => ⟨kn.1, fun K hK => wp_value (exec_fop10 (k := 2) rfl fr.2.2.1 (by decide)) (hK _ _ rfl (Below.refl _ _))⟩),
                (fun Q a1 ww hS fr kn => ⟨kn.1, fun K hK => wp_value (exec_ldOpP rfl (SAt.kept qO hS) kn.2.1) (hK _ _ rfl (Below.refl _ _))⟩),
                (fun Q a1 ww hS fr kn => ⟨kn.1, fun K hK => stepc enter10_19 rfl (args1 kn.2.1) (HL19.out ww hS) (fun w1 hr => hK _ w1 rfl hr)⟩),
                (fun Q a1 ww hS fr kn => ⟨kn.1, fun K hK => wp_value (exec_neB10 rfl kn.2.1 kn.2.2.1) (hK _ _ rfl (Below.refl _ _))⟩),
                (fun Q a1 ww hS fr kn => ⟨trivial, fun K hK => wp_value (exec_pickF (v := .bool false) rfl kn.1 kn.2.1) (hK _ _ rfl (Below.refl _ _))⟩),
                (fun Q a1 ww hS fr kn => ⟨trivial, fun K hK => wp_value (exec_move rfl kn.1) (hK _ _ rfl (Below.refl _ _))⟩),
                (fun Q a1 ww hS fr kn => ⟨kn.1, fun K hK => wp_value (exec_fop10 (k := 2) rfl fr.2.2.1 (by decide)) (hK _ _ rfl (Below.refl _ _))⟩),
                (fun Q a1 ww hS fr kn => ⟨kn.1, fun K hK => wp_value (exec_ldOpP rfl (SAt.kept qO hS) kn.2.1) (hK _ _ rfl (Below.refl _ _))⟩),
                (fun Q a1 ww hS fr kn => ⟨kn.1, fun K hK => stepc enter10_20 rfl (args1 kn.2.1) (HL20.out ww hS) (fun w1 hr => hK _ w1 rfl hr)⟩),
                (fun Q a1 ww hS fr kn => ⟨kn.1, fun K hK => wp_value (exec_fop10 (k := 2) rfl fr.2.2.1 (by decide)) (hK _ _ rfl (Below.refl _ _))⟩),
                (fun Q a1 ww hS fr kn => ⟨kn.1, fun K hK => wp_value (exec_ldOpP rfl (SAt.kept qO hS) kn.2.1) (hK _ _ rfl (Below.refl _ _))⟩),
                (fun Q a1 ww hS fr kn => ⟨kn.1, fun K hK => stepc enter10_21 rfl (args1 kn.2.1) (HL21.out ww hS) (fun w1 hr => hK _ w1 rfl hr)⟩),
                (fun Q a1 ww hS fr kn => ⟨kn.1, fun K hK => wp_value (exec_neP rfl kn.2.1 kn.2.2.1 (eqP_not _ _ _)) (hK _ _ rfl (Below.refl _ _))⟩),
                trivial⟩ ?_)
          · intro iq vq u' u'' hh hb
            match iq with
            | 0 | 1 | 2 | 3 | 4 | 5 | 6 | 7 | 8 | 9 | 10 | 11 | 12 | 13 | 14 | 15 | 16 | 17 | 18 | 19 | 20 | 21 | 22 | 23 | 24 => exact hh

            | n + 25 => trivial
          intro vs Y3 hSY hk3
          have e136 : vs 136 = .bool false := hk3 17 (by decide)
          have e143 : vs 143 = .bool false := hk3 24 (by decide)
          clear hk3
          have HS' : Hid (∃ x m ro, Two w B t d bs g2 Y3 x m ro m ro) := Hid.mk ⟨_, _, _, hZ.below hSY⟩
          clear hZ qO hSY HX HL17 HL18 HL19 HL20 HL21
          refine spl_mk ?_
          simp only [putAll, Act.put, List.setIfInBounds_toArray, List.set_cons_zero, List.set_cons_succ, List.drop_succ_cons, List.drop_zero, e136, e143]
          clear e136 e143
          refine all_in (fun ⟨_, _, hq⟩ => by cases hq.1) _ _ _ rfl ?_
          go_wp2_with fail
          go_roundg (n - (i + 1))
          case rel => exact ⟨i + 1, rfl, by omega, by go_num, HS'⟩
          case measure => omega
      · have b2 : (r == 2) = false := beq_eq_false_iff_ne.2 r2
        by_cases r2' : r = -2
        · subst r2'
          go_wp2_with (first | (refine wl_value rfl (exec_fop10 rfl (by rfl) (by decide)) ?_) | (refine wl_value rfl (exec_ldOpP rfl q1 (by rfl)) ?_))
          by_cases hr : rightF O.v O.b O.n = true
          · refine (dropC h1.c O.v O.b O.n hOb hr).mono ?_
            rintro e y1 ⟨rfl, hC1, hX1⟩
            have h2 := h1.code hC1 hX1
            have q2 := hz.boxC hgO q1 hX1
            obtain ⟨po, pt, hdA⟩ : ∃ (po : Int) (pt : Bool), dropA ro m O.v (whB O.b O.n) O.n = .tuple #[.int .i64 po, .bool pt] := drop_shape _ _ _ _ _
            rw [hdA]
            clear hC1 hX1
            go_wp2_with (first | (refine wl_value rfl (exec_ext rfl (by rfl) rfl) ?_) | (refine wl_value rfl (exec_fop10 rfl (by rfl) (by decide)) ?_) | (refine wl_value rfl (exec_ldOpP rfl q2 (by rfl)) ?_))
            refine (rDrop_yes O.v O.b O.n rfl h2.dt hOb hz.small hr).mono ?_
            rintro e y2 ⟨rfl, x2, hD2, hX2, _⟩
            rw [hdA]
            have h3 := h2.doc hD2 hX2
            have q3 := hz.boxD hgO q2 hX2
            have HF := Hid.mk (show ∃ x m ro, Two w B t d bs g2 y2 x m ro m ro ∧ SAt y2 gO 39 20 (opV10 O) from ⟨_, _, _, h3, q3⟩)
            clear hD2 hX2 h2 q2 hdA h3 q3
            go_upto_region 27 with (refine wl_value rfl (exec_ext rfl (by rfl) rfl) ?_)
            obtain ⟨x2, m2, ro2, hZ, qO⟩ := HF.out
            clear HF
            obtain ⟨p, capx, hxe, _⟩ := ownM_shape hZ.dt.row
            subst hxe
            obtain ⟨pv, pb, pn, hwh⟩ : ∃ pv pb pn, wholeV O.v O.b O.n = prV pv pb pn := whole_shape _ _ _
            obtain ⟨rt, hrt⟩ : ∃ rt, rightF O.v O.b O.n = rt := ⟨_, rfl⟩
            have HX : Hid (∀ z, Below y2.heap.size y2 z → z.cell? ⟨d, 0, none⟩ = some (.slice p m2 capx)) := Hid.mk (fun z hh => SAt.at (SAt.kept hZ.dt.blk hh) 0 (by omega))
            have HL17 : Hid (∀ z, Below y2.heap.size y2 z → Calls Try.prog 17 #[.pointer (some ⟨t, 0, none⟩)] z fun e w' => e = .returned (.int .i64 (m2 : Int)) ∧ Below z.heap.size z w') := Hid.mk (fun z hh => lenC (hZ.c.below hh))
            have HL18 : Hid (∀ z, Below y2.heap.size y2 z → Calls Try.prog 18 #[.agg (SC 18 (prV O.v O.b O.n))] z fun e w' => e = .returned (.bool rt) ∧ Below z.heap.size z w') := Hid.mk (fun z _ => by rw [← hrt]; exact isPrefix_run _ _ _ _)
            have HL19 : Hid (∀ z, Below y2.heap.size y2 z → Calls Try.prog 19 #[.agg (SC 18 (prV O.v O.b O.n))] z fun e w' => e = .returned (.bool rt) ∧ Below z.heap.size z w') := Hid.mk (fun z _ => by rw [← hrt]; exact right_run _ _ _ _)
            have HL20 : Hid (∀ z, Below y2.heap.size y2 z → Calls Try.prog 20 #[.agg (SC 18 (prV O.v O.b O.n))] z fun e w' => e = .returned (.agg (SC 18 (prV pv pb pn))) ∧ Below z.heap.size z w') := Hid.mk (fun z _ => by rw [← hwh]; exact wholeC_run _ _ _ _ hOb)
            have HL21 : Hid (∀ z, Below y2.heap.size y2 z → Calls Try.prog 21 #[.agg (SC 18 (prV O.v O.b O.n))] z fun e w' => e = .returned (.agg (SC 18 (prV pv pb pn))) ∧ Below z.heap.size z w') := Hid.mk (fun z _ => by rw [← hwh]; exact whole_run _ _ _ _ hOb)
            clear hwh hrt
            refine wp_norm ?_
            refine (wpIn_wide (n := 0)).1 ?_
            show Code.wpIn (Wd none) 0 _ _ _ _ _
            refine regIn_cut (ro := none) 25 rfl (by kernel_rfl) (fun ⟨_, _, hq⟩ => by cases hq.1) rfl (any_steps (Below y2.heap.size y2) (fun v v' => Below v.heap.size v v') (fun iq vq v0 => match iq with | 0 => vq = .pointer (some ⟨t, 0, none⟩) | 1 => vq = .int .i64 (m2 : Int) | 2 => vq = .pointer (some ⟨d, 0, none⟩) | 3 => vq = .pointer (some ⟨d, 0, none⟩) | 4 => vq = .pointer (some ⟨d, 0, none⟩) | 5 => vq = .slice p m2 capx | 6 => vq = .int .i64 (m2 : Int) | 7 => vq = .bool false | 8 => vq = .bool false | 9 => vq = .pointer (some ⟨gO, 0 + 2, none⟩) | 10 => vq = .agg (SC 18 (prV O.v O.b O.n)) | 11 => vq = .bool rt | 12 => vq = .pointer (some ⟨gO, 0 + 2, none⟩) | 13 => vq = .agg (SC 18 (prV O.v O.b O.n)) | 14 => vq = .bool rt | 15 => vq = .bool false | 16 => vq = .bool false | 17 => vq = .bool false | 18 => vq = .pointer (some ⟨gO, 0 + 2, none⟩) | 19 => vq = .agg (SC 18 (prV O.v O.b O.n)) | 20 => vq = .agg (SC 18 (prV pv pb pn)) | 21 => vq = .pointer (some ⟨gO, 0 + 2, none⟩) | 22 => vq = .agg (SC 18 (prV O.v O.b O.n)) | 23 => vq = .agg (SC 18 (prV pv pb pn)) | 24 => vq = .bool false | _ => True)
                [119, 120, 121, 122, 123, 124, 125, 126, 127, 128, 129, 130, 131, 132, 133, 134, 135, 136, 137, 138, 139, 140, 141, 142, 143]
                [(4, .pointer (some ⟨t, 0, none⟩)), (5, .pointer (some ⟨d, 0, none⟩)), (8, .pointer (some ⟨gO, 0, none⟩))]
                [[], [0], [], [2], [3], [4], [5], [1, 6], [7], [8], [8, 9], [8, 10], [8], [8, 12], [8, 13], [8, 11, 14], [8, 15], [16], [17], [17, 18], [17, 19], [17], [17, 21], [17, 22], [17, 20, 23]]
                (by kernel_rfl) ⟨rfl, rfl, rfl, trivial⟩ (Below.drew (Below.refl _ _)) (fun v v' h hb => h.trans (hb.mono h.size)) ?_
                ⟨
                  (fun Q a1 ww hS fr kn => ⟨trivial, fun K hK => wp_value (exec_move rfl fr.1) (hK _ _ rfl (Below.refl _ _))⟩),
                  (fun Q a1 ww hS fr kn => ⟨trivial, fun K hK => stepc enter10_17 rfl (args1 kn.1) (HL17.out ww hS) (fun w1 hr => hK _ w1 rfl hr)⟩),
                  (fun Q a1 ww hS fr kn => ⟨trivial, fun K hK => wp_value (exec_move rfl fr.2.1) (hK _ _ rfl (Below.refl _ _))⟩),
                  (fun Q a1 ww hS fr kn => ⟨trivial, fun K hK => wp_value (exec_nilc rfl kn.1) (hK _ _ rfl (Below.refl _ _))⟩),
                  (fun Q a1 ww hS fr kn => ⟨trivial, fun K hK => wp_value (exec_ftab rfl kn.1) (hK _ _ rfl (Below.refl _ _))⟩),
                  (fun Q a1 ww hS fr kn => ⟨trivial, fun K hK => wp_value (exec_ld rfl kn.1 (ld_rows (HX.out ww hS))) (hK _ _ rfl (Below.refl _ _))⟩),
                  (fun Q a1 ww hS fr kn => ⟨trivial, fun K hK => wp_value (exec_lenR rfl kn.1) (hK _ _ rfl (Below.refl _ _))⟩),
                  (fun Q a1 ww hS fr kn => ⟨trivial, fun K hK => wp_value (exec_neqI rfl kn.1 kn.2.1 rfl) (hK _ _ rfl (Below.refl _ _))⟩),
                  (fun Q a1 ww hS fr kn => ⟨trivial, fun K hK => wp_value (exec_move rfl kn.1) (hK _ _ rfl (Below.refl _ _))⟩),
                  (fun Q a1 ww hS fr kn => ⟨kn.1, fun K hK => wp_value (exec_fop10 (k := 2) rfl fr.2.2.1 (by decide)) (hK _ _ rfl (Below.refl _ _))⟩),
                  (fun Q a1 ww hS fr kn => ⟨kn.1, fun K hK => wp_value (exec_ldOpP rfl (SAt.kept qO hS) kn.2.1) (hK _ _ rfl (Below.refl _ _))⟩),
                  (fun Q a1 ww hS fr kn => ⟨kn.1, fun K hK => stepc enter10_18 rfl (args1 kn.2.1) (HL18.out ww hS) (fun w1 hr => hK _ w1 rfl hr)⟩),
                  (fun Q a1 ww hS fr kn => ⟨kn.1, fun K hK => wp_value (exec_fop10 (k := 2) rfl fr.2.2.1 (by decide)) (hK _ _ rfl (Below.refl _ _))⟩),
                  (fun Q a1 ww hS fr kn => ⟨kn.1, fun K hK => wp_value (exec_ldOpP rfl (SAt.kept qO hS) kn.2.1) (hK _ _ rfl (Below.refl _ _))⟩),
                  (fun Q a1 ww hS fr kn => ⟨kn.1, fun K hK => stepc enter10_19 rfl (args1 kn.2.1) (HL19.out ww hS) (fun w1 hr => hK _ w1 rfl hr)⟩),
                  (fun Q a1 ww hS fr kn => ⟨kn.1, fun K hK => wp_value (exec_neB10 rfl kn.2.1 kn.2.2.1) (hK _ _ rfl (Below.refl _ _))⟩),
                  (fun Q a1 ww hS fr kn => ⟨trivial, fun K hK => wp_value (exec_pickF (v := .bool false) rfl kn.1 kn.2.1) (hK _ _ rfl (Below.refl _ _))⟩),
                  (fun Q a1 ww hS fr kn => ⟨trivial, fun K hK => wp_value (exec_move rfl kn.1) (hK _ _ rfl (Below.refl _ _))⟩),
                  (fun Q a1 ww hS fr kn => ⟨kn.1, fun K hK => wp_value (exec_fop10 (k := 2) rfl fr.2.2.1 (by decide)) (hK _ _ rfl (Below.refl _ _))⟩),
                  (fun Q a1 ww hS fr kn => ⟨kn.1, fun K hK => wp_value (exec_ldOpP rfl (SAt.kept qO hS) kn.2.1) (hK _ _ rfl (Below.refl _ _))⟩),
                  (fun Q a1 ww hS fr kn => ⟨kn.1, fun K hK => stepc enter10_20 rfl (args1 kn.2.1) (HL20.out ww hS) (fun w1 hr => hK _ w1 rfl hr)⟩),
                  (fun Q a1 ww hS fr kn => ⟨kn.1, fun K hK => wp_value (exec_fop10 (k := 2) rfl fr.2.2.1 (by decide)) (hK _ _ rfl (Below.refl _ _))⟩),
                  (fun Q a1 ww hS fr kn => ⟨kn.1, fun K hK => wp_value (exec_ldOpP rfl (SAt.kept qO hS) kn.2.1) (hK _ _ rfl (Below.refl _ _))⟩),
                  (fun Q a1 ww hS fr kn => ⟨kn.1, fun K hK => stepc enter10_21 rfl (args1 kn.2.1) (HL21.out ww hS) (fun w1 hr => hK _ w1 rfl hr)⟩),
                  (fun Q a1 ww hS fr kn => ⟨kn.1, fun K hK => wp_value (exec_neP rfl kn.2.1 kn.2.2.1 (eqP_not _ _ _)) (hK _ _ rfl (Below.refl _ _))⟩),
                  trivial⟩ ?_)
            · intro iq vq u' u'' hh hb
              match iq with
              | 0 | 1 | 2 | 3 | 4 | 5 | 6 | 7 | 8 | 9 | 10 | 11 | 12 | 13 | 14 | 15 | 16 | 17 | 18 | 19 | 20 | 21 | 22 | 23 | 24 => exact hh

              | n + 25 => trivial
            intro vs Y3 hSY hk3
            have e136 : vs 136 = .bool false := hk3 17 (by decide)
            have e143 : vs 143 = .bool false := hk3 24 (by decide)
            clear hk3
            have HS' : Hid (∃ x m ro, Two w B t d bs g2 Y3 x m ro m ro) := Hid.mk ⟨_, _, _, hZ.below hSY⟩
            clear hZ qO hSY HX HL17 HL18 HL19 HL20 HL21
            refine spl_mk ?_
            simp only [putAll, Act.put, List.setIfInBounds_toArray, List.set_cons_zero, List.set_cons_succ, List.drop_succ_cons, List.drop_zero, e136, e143]
            clear e136 e143
            refine all_in (fun ⟨_, _, hq⟩ => by cases hq.1) _ _ _ rfl ?_
            go_wp2_with fail
            go_roundg (n - (i + 1))
            case rel => exact ⟨i + 1, rfl, by omega, by go_num, HS'⟩
            case measure => omega
          · have hrf : rightF O.v O.b O.n = false := Bool.eq_false_iff.2 hr
            refine (dropC_no h1.c O.v O.b O.n hOb hrf).mono ?_
            rintro e y1 ⟨rfl, hX1⟩
            have h2 := h1.below hX1
            have q2 := SAt.kept q1 hX1
            clear hX1
            go_wp2_with (first | (refine wl_value rfl (exec_ext rfl (by rfl) rfl) ?_) | (refine wl_value rfl (exec_fop10 rfl (by rfl) (by decide)) ?_) | (refine wl_value rfl (exec_ldOpP rfl q2 (by rfl)) ?_))
            refine (rDrop_no O.v O.b O.n h2.dt hz.small hrf).mono ?_
            rintro e y2 ⟨rfl, hX2⟩
            have HF := Hid.mk (show ∃ x m ro, Two w B t d bs g2 y2 x m ro m ro ∧ SAt y2 gO 39 20 (opV10 O) from ⟨_, _, _, h2.below hX2, SAt.kept q2 hX2⟩)
            clear h2 q2 hX2
            go_upto_region 27 with (refine wl_value rfl (exec_ext rfl (by rfl) rfl) ?_)
            obtain ⟨x2, m2, ro2, hZ, qO⟩ := HF.out
            clear HF
            obtain ⟨p, capx, hxe, _⟩ := ownM_shape hZ.dt.row
            subst hxe
            obtain ⟨pv, pb, pn, hwh⟩ : ∃ pv pb pn, wholeV O.v O.b O.n = prV pv pb pn := whole_shape _ _ _
            obtain ⟨rt, hrt⟩ : ∃ rt, rightF O.v O.b O.n = rt := ⟨_, rfl⟩
            have HX : Hid (∀ z, Below y2.heap.size y2 z → z.cell? ⟨d, 0, none⟩ = some (.slice p m2 capx)) := Hid.mk (fun z hh => SAt.at (SAt.kept hZ.dt.blk hh) 0 (by omega))
            have HL17 : Hid (∀ z, Below y2.heap.size y2 z → Calls Try.prog 17 #[.pointer (some ⟨t, 0, none⟩)] z fun e w' => e = .returned (.int .i64 (m2 : Int)) ∧ Below z.heap.size z w') := Hid.mk (fun z hh => lenC (hZ.c.below hh))
            have HL18 : Hid (∀ z, Below y2.heap.size y2 z → Calls Try.prog 18 #[.agg (SC 18 (prV O.v O.b O.n))] z fun e w' => e = .returned (.bool rt) ∧ Below z.heap.size z w') := Hid.mk (fun z _ => by rw [← hrt]; exact isPrefix_run _ _ _ _)
            have HL19 : Hid (∀ z, Below y2.heap.size y2 z → Calls Try.prog 19 #[.agg (SC 18 (prV O.v O.b O.n))] z fun e w' => e = .returned (.bool rt) ∧ Below z.heap.size z w') := Hid.mk (fun z _ => by rw [← hrt]; exact right_run _ _ _ _)
            have HL20 : Hid (∀ z, Below y2.heap.size y2 z → Calls Try.prog 20 #[.agg (SC 18 (prV O.v O.b O.n))] z fun e w' => e = .returned (.agg (SC 18 (prV pv pb pn))) ∧ Below z.heap.size z w') := Hid.mk (fun z _ => by rw [← hwh]; exact wholeC_run _ _ _ _ hOb)
            have HL21 : Hid (∀ z, Below y2.heap.size y2 z → Calls Try.prog 21 #[.agg (SC 18 (prV O.v O.b O.n))] z fun e w' => e = .returned (.agg (SC 18 (prV pv pb pn))) ∧ Below z.heap.size z w') := Hid.mk (fun z _ => by rw [← hwh]; exact whole_run _ _ _ _ hOb)
            clear hwh hrt
            refine wp_norm ?_
            refine (wpIn_wide (n := 0)).1 ?_
            show Code.wpIn (Wd none) 0 _ _ _ _ _
            refine regIn_cut (ro := none) 25 rfl (by kernel_rfl) (fun ⟨_, _, hq⟩ => by cases hq.1) rfl (any_steps (Below y2.heap.size y2) (fun v v' => Below v.heap.size v v') (fun iq vq v0 => match iq with | 0 => vq = .pointer (some ⟨t, 0, none⟩) | 1 => vq = .int .i64 (m2 : Int) | 2 => vq = .pointer (some ⟨d, 0, none⟩) | 3 => vq = .pointer (some ⟨d, 0, none⟩) | 4 => vq = .pointer (some ⟨d, 0, none⟩) | 5 => vq = .slice p m2 capx | 6 => vq = .int .i64 (m2 : Int) | 7 => vq = .bool false | 8 => vq = .bool false | 9 => vq = .pointer (some ⟨gO, 0 + 2, none⟩) | 10 => vq = .agg (SC 18 (prV O.v O.b O.n)) | 11 => vq = .bool rt | 12 => vq = .pointer (some ⟨gO, 0 + 2, none⟩) | 13 => vq = .agg (SC 18 (prV O.v O.b O.n)) | 14 => vq = .bool rt | 15 => vq = .bool false | 16 => vq = .bool false | 17 => vq = .bool false | 18 => vq = .pointer (some ⟨gO, 0 + 2, none⟩) | 19 => vq = .agg (SC 18 (prV O.v O.b O.n)) | 20 => vq = .agg (SC 18 (prV pv pb pn)) | 21 => vq = .pointer (some ⟨gO, 0 + 2, none⟩) | 22 => vq = .agg (SC 18 (prV O.v O.b O.n)) | 23 => vq = .agg (SC 18 (prV pv pb pn)) | 24 => vq = .bool false | _ => True)
                [119, 120, 121, 122, 123, 124, 125, 126, 127, 128, 129, 130, 131, 132, 133, 134, 135, 136, 137, 138, 139, 140, 141, 142, 143]
                [(4, .pointer (some ⟨t, 0, none⟩)), (5, .pointer (some ⟨d, 0, none⟩)), (8, .pointer (some ⟨gO, 0, none⟩))]
                [[], [0], [], [2], [3], [4], [5], [1, 6], [7], [8], [8, 9], [8, 10], [8], [8, 12], [8, 13], [8, 11, 14], [8, 15], [16], [17], [17, 18], [17, 19], [17], [17, 21], [17, 22], [17, 20, 23]]
                (by kernel_rfl) ⟨rfl, rfl, rfl, trivial⟩ (Below.drew (Below.refl _ _)) (fun v v' h hb => h.trans (hb.mono h.size)) ?_
                ⟨
                  (fun Q a1 ww hS fr kn => ⟨trivial, fun K hK => wp_value (exec_move rfl fr.1) (hK _ _ rfl (Below.refl _ _))⟩),
                  (fun Q a1 ww hS fr kn => ⟨trivial, fun K hK => stepc enter10_17 rfl (args1 kn.1) (HL17.out ww hS) (fun w1 hr => hK _ w1 rfl hr)⟩),
                  (fun Q a1 ww hS fr kn => ⟨trivial, fun K hK => wp_value (exec_move rfl fr.2.1) (hK _ _ rfl (Below.refl _ _))⟩),
                  (fun Q a1 ww hS fr kn => ⟨trivial, fun K hK => wp_value (exec_nilc rfl kn.1) (hK _ _ rfl (Below.refl _ _))⟩),
                  (fun Q a1 ww hS fr kn => ⟨trivial, fun K hK => wp_value (exec_ftab rfl kn.1) (hK _ _ rfl (Below.refl _ _))⟩),
                  (fun Q a1 ww hS fr kn => ⟨trivial, fun K hK => wp_value (exec_ld rfl kn.1 (ld_rows (HX.out ww hS))) (hK _ _ rfl (Below.refl _ _))⟩),
                  (fun Q a1 ww hS fr kn => ⟨trivial, fun K hK => wp_value (exec_lenR rfl kn.1) (hK _ _ rfl (Below.refl _ _))⟩),
                  (fun Q a1 ww hS fr kn => ⟨trivial, fun K hK => wp_value (exec_neqI rfl kn.1 kn.2.1 rfl) (hK _ _ rfl (Below.refl _ _))⟩),
                  (fun Q a1 ww hS fr kn => ⟨trivial, fun K hK => wp_value (exec_move rfl kn.1) (hK _ _ rfl (Below.refl _ _))⟩),
                  (fun Q a1 ww hS fr kn => ⟨kn.1, fun K hK => wp_value (exec_fop10 (k := 2) rfl fr.2.2.1 (by decide)) (hK _ _ rfl (Below.refl _ _))⟩),
                  (fun Q a1 ww hS fr kn => ⟨kn.1, fun K hK => wp_value (exec_ldOpP rfl (SAt.kept qO hS) kn.2.1) (hK _ _ rfl (Below.refl _ _))⟩),
                  (fun Q a1 ww hS fr kn => ⟨kn.1, fun K hK => stepc enter10_18 rfl (args1 kn.2.1) (HL18.out ww hS) (fun w1 hr => hK _ w1 rfl hr)⟩),
                  (fun Q a1 ww hS fr kn => ⟨kn.1, fun K hK => wp_value (exec_fop10 (k := 2) rfl fr.2.2.1 (by decide)) (hK _ _ rfl (Below.refl _ _))⟩),
                  (fun Q a1 ww hS fr kn => ⟨kn.1, fun K hK => wp_value (exec_ldOpP rfl (SAt.kept qO hS) kn.2.1) (hK _ _ rfl (Below.refl _ _))⟩),
                  (fun Q a1 ww hS fr kn => ⟨kn.1, fun K hK => stepc enter10_19 rfl (args1 kn.2.1) (HL19.out ww hS) (fun w1 hr => hK _ w1 rfl hr)⟩),
                  (fun Q a1 ww hS fr kn => ⟨kn.1, fun K hK => wp_value (exec_neB10 rfl kn.2.1 kn.2.2.1) (hK _ _ rfl (Below.refl _ _))⟩),
                  (fun Q a1 ww hS fr kn => ⟨trivial, fun K hK => wp_value (exec_pickF (v := .bool false) rfl kn.1 kn.2.1) (hK _ _ rfl (Below.refl _ _))⟩),
                  (fun Q a1 ww hS fr kn => ⟨trivial, fun K hK => wp_value (exec_move rfl kn.1) (hK _ _ rfl (Below.refl _ _))⟩),
                  (fun Q a1 ww hS fr kn => ⟨kn.1, fun K hK => wp_value (exec_fop10 (k := 2) rfl fr.2.2.1 (by decide)) (hK _ _ rfl (Below.refl _ _))⟩),
                  (fun Q a1 ww hS fr kn => ⟨kn.1, fun K hK => wp_value (exec_ldOpP rfl (SAt.kept qO hS) kn.2.1) (hK _ _ rfl (Below.refl _ _))⟩),
                  (fun Q a1 ww hS fr kn => ⟨kn.1, fun K hK => stepc enter10_20 rfl (args1 kn.2.1) (HL20.out ww hS) (fun w1 hr => hK _ w1 rfl hr)⟩),
                  (fun Q a1 ww hS fr kn => ⟨kn.1, fun K hK => wp_value (exec_fop10 (k := 2) rfl fr.2.2.1 (by decide)) (hK _ _ rfl (Below.refl _ _))⟩),
                  (fun Q a1 ww hS fr kn => ⟨kn.1, fun K hK => wp_value (exec_ldOpP rfl (SAt.kept qO hS) kn.2.1) (hK _ _ rfl (Below.refl _ _))⟩),
                  (fun Q a1 ww hS fr kn => ⟨kn.1, fun K hK => stepc enter10_21 rfl (args1 kn.2.1) (HL21.out ww hS) (fun w1 hr => hK _ w1 rfl hr)⟩),
                  (fun Q a1 ww hS fr kn => ⟨kn.1, fun K hK => wp_value (exec_neP rfl kn.2.1 kn.2.2.1 (eqP_not _ _ _)) (hK _ _ rfl (Below.refl _ _))⟩),
                  trivial⟩ ?_)
            · intro iq vq u' u'' hh hb
              match iq with
              | 0 | 1 | 2 | 3 | 4 | 5 | 6 | 7 | 8 | 9 | 10 | 11 | 12 | 13 | 14 | 15 | 16 | 17 | 18 | 19 | 20 | 21 | 22 | 23 | 24 => exact hh

              | n + 25 => trivial
            intro vs Y3 hSY hk3
            have e136 : vs 136 = .bool false := hk3 17 (by decide)
            have e143 : vs 143 = .bool false := hk3 24 (by decide)
            clear hk3
            have HS' : Hid (∃ x m ro, Two w B t d bs g2 Y3 x m ro m ro) := Hid.mk ⟨_, _, _, hZ.below hSY⟩
            clear hZ qO hSY HX HL17 HL18 HL19 HL20 HL21
            refine spl_mk ?_
            simp only [putAll, Act.put, List.setIfInBounds_toArray, List.set_cons_zero, List.set_cons_succ, List.drop_succ_cons, List.drop_zero, e136, e143]
            clear e136 e143
            refine all_in (fun ⟨_, _, hq⟩ => by cases hq.1) _ _ _ rfl ?_
            go_wp2_with fail
            go_roundg (n - (i + 1))
            case rel => exact ⟨i + 1, rfl, by omega, by go_num, HS'⟩
            case measure => omega
        · have b2' : (r == -2) = false := beq_eq_false_iff_ne.2 r2'
          by_cases r3 : r = 3
          · subst r3
            go_wp2_with (first | (refine wl_value rfl (exec_fop10 rfl (by rfl) (by decide)) ?_) | (refine wl_value rfl (exec_fpx rfl (by rfl)) ?_) | (refine wl_value rfl (exec_ldOpA rfl q1 (by rfl)) ?_))
            refine (findC h1.c O.v O.b hOb).mono ?_
            rintro e y1 ⟨rfl, hX1⟩
            have h2 := h1.below hX1
            have q2 := SAt.kept q1 hX1
            obtain ⟨po, pv, pb, pn, pt, hfA⟩ : ∃ (po : Int) (pv : Bool) (pb : Nat → Int) (pn : Int) (pt : Bool), findA ro O.v O.b m = .tuple #[.int .i64 po, .agg (SC 18 (prV pv pb pn)), .bool pt] := find_shape _ _ _ _
            rw [hfA]
            clear hX1
            go_wp2_with (first | (refine wl_value rfl (exec_ext rfl (by rfl) rfl) ?_) | (refine wl_alO rfl rfl zeroPfx ?_; intro gA wA hgA qA hBA; refine Hid.out ?_))
            refine Hid.mk ?_
            go_wp2_with (refine st_stO rfl rfl isPfx (prV_one _ _ _) qA (by rfl) (by rfl) ?_; intro y3 q5 o5; refine Hid.out ?_)
            refine Hid.mk ?_
            have hB3 : Below y1.heap.size y1 y3 := hBA.trans (o5.below hgA)
            have h3 := h2.below hB3
            have q3 := SAt.kept q2 hB3
            clear h2 q2 hB3 hBA qA o5
            go_wp2_with (first | (refine wl_value rfl (exec_fop10 rfl (by rfl) (by decide)) ?_) | (refine wl_value rfl (exec_fpx rfl (by rfl)) ?_) | (refine wl_value rfl (exec_ldOpA rfl q3 (by rfl)) ?_))
            refine (rFind_run O.v O.b h3.dt (fun j hj => h3.ok j hj) hOb hz.small).mono ?_
            rintro e y4 ⟨rfl, hX4⟩
            rw [hfA]
            have h4 := h3.below hX4
            have q4 := SAt.kept q3 hX4
            have q6 := SAt.kept q5 hX4
            clear h3 q3 hX4 hfA q5
            go_wp2_with (first | (refine wl_value rfl (exec_ext rfl (by rfl) rfl) ?_) | (refine wl_alO rfl rfl zeroPfx ?_; intro gC wC hgC qC hBC; refine Hid.out ?_))
            refine Hid.mk ?_
            go_wp2_with (refine st_stO rfl rfl isPfx (prV_one _ _ _) qC (by rfl) (by rfl) ?_; intro y5 q7 o7; refine Hid.out ?_)
            refine Hid.mk ?_
            have hB5 : Below y4.heap.size y4 y5 := hBC.trans (o7.below hgC)
            have q8 := SAt.kept q6 hB5
            have HF := Hid.mk (show ∃ x m ro, Two w B t d bs g2 y5 x m ro m ro ∧ SAt y5 gO 39 20 (opV10 O) from ⟨_, _, _, h4.below hB5, SAt.kept q4 hB5⟩)
            clear h4 q4 hB5 hBC qC o7 q6
            go_upto_region 27 with (first | (refine wl_value rfl (look_st rfl isPfx q8 (by rfl)) ?_) | (refine wl_value rfl (look_st rfl isPfx q7 (by rfl)) ?_) | (refine wl_value rfl (exec_neP rfl (by rfl) (by rfl) (eqP_not _ _ _)) ?_))
            obtain ⟨x2, m2, ro2, hZ, qO⟩ := HF.out
            clear HF
            obtain ⟨p, capx, hxe, _⟩ := ownM_shape hZ.dt.row
            subst hxe
            obtain ⟨pv, pb, pn, hwh⟩ : ∃ pv pb pn, wholeV O.v O.b O.n = prV pv pb pn := whole_shape _ _ _
            obtain ⟨rt, hrt⟩ : ∃ rt, rightF O.v O.b O.n = rt := ⟨_, rfl⟩
            have HX : Hid (∀ z, Below y5.heap.size y5 z → z.cell? ⟨d, 0, none⟩ = some (.slice p m2 capx)) := Hid.mk (fun z hh => SAt.at (SAt.kept hZ.dt.blk hh) 0 (by omega))
            have HL17 : Hid (∀ z, Below y5.heap.size y5 z → Calls Try.prog 17 #[.pointer (some ⟨t, 0, none⟩)] z fun e w' => e = .returned (.int .i64 (m2 : Int)) ∧ Below z.heap.size z w') := Hid.mk (fun z hh => lenC (hZ.c.below hh))
            have HL18 : Hid (∀ z, Below y5.heap.size y5 z → Calls Try.prog 18 #[.agg (SC 18 (prV O.v O.b O.n))] z fun e w' => e = .returned (.bool rt) ∧ Below z.heap.size z w') := Hid.mk (fun z _ => by rw [← hrt]; exact isPrefix_run _ _ _ _)
            have HL19 : Hid (∀ z, Below y5.heap.size y5 z → Calls Try.prog 19 #[.agg (SC 18 (prV O.v O.b O.n))] z fun e w' => e = .returned (.bool rt) ∧ Below z.heap.size z w') := Hid.mk (fun z _ => by rw [← hrt]; exact right_run _ _ _ _)
            have HL20 : Hid (∀ z, Below y5.heap.size y5 z → Calls Try.prog 20 #[.agg (SC 18 (prV O.v O.b O.n))] z fun e w' => e = .returned (.agg (SC 18 (prV pv pb pn))) ∧ Below z.heap.size z w') := Hid.mk (fun z _ => by rw [← hwh]; exact wholeC_run _ _ _ _ hOb)
            have HL21 : Hid (∀ z, Below y5.heap.size y5 z → Calls Try.prog 21 #[.agg (SC 18 (prV O.v O.b O.n))] z fun e w' => e = .returned (.agg (SC 18 (prV pv pb pn))) ∧ Below z.heap.size z w') := Hid.mk (fun z _ => by rw [← hwh]; exact whole_run _ _ _ _ hOb)
            clear hwh hrt
            refine wp_norm ?_
            refine (wpIn_wide (n := 0)).1 ?_
            show Code.wpIn (Wd none) 0 _ _ _ _ _
            refine regIn_cut (ro := none) 25 rfl (by kernel_rfl) (fun ⟨_, _, hq⟩ => by cases hq.1) rfl (any_steps (Below y5.heap.size y5) (fun v v' => Below v.heap.size v v') (fun iq vq v0 => match iq with | 0 => vq = .pointer (some ⟨t, 0, none⟩) | 1 => vq = .int .i64 (m2 : Int) | 2 => vq = .pointer (some ⟨d, 0, none⟩) | 3 => vq = .pointer (some ⟨d, 0, none⟩) | 4 => vq = .pointer (some ⟨d, 0, none⟩) | 5 => vq = .slice p m2 capx | 6 => vq = .int .i64 (m2 : Int) | 7 => vq = .bool false | 8 => vq = .bool false | 9 => vq = .pointer (some ⟨gO, 0 + 2, none⟩) | 10 => vq = .agg (SC 18 (prV O.v O.b O.n)) | 11 => vq = .bool rt | 12 => vq = .pointer (some ⟨gO, 0 + 2, none⟩) | 13 => vq = .agg (SC 18 (prV O.v O.b O.n)) | 14 => vq = .bool rt | 15 => vq = .bool false | 16 => vq = .bool false | 17 => vq = .bool false | 18 => vq = .pointer (some ⟨gO, 0 + 2, none⟩) | 19 => vq = .agg (SC 18 (prV O.v O.b O.n)) | 20 => vq = .agg (SC 18 (prV pv pb pn)) | 21 => vq = .pointer (some ⟨gO, 0 + 2, none⟩) | 22 => vq = .agg (SC 18 (prV O.v O.b O.n)) | 23 => vq = .agg (SC 18 (prV pv pb pn)) | 24 => vq = .bool false | _ => True)
                [119, 120, 121, 122, 123, 124, 125, 126, 127, 128, 129, 130, 131, 132, 133, 134, 135, 136, 137, 138, 139, 140, 141, 142, 143]
                [(4, .pointer (some ⟨t, 0, none⟩)), (5, .pointer (some ⟨d, 0, none⟩)), (8, .pointer (some ⟨gO, 0, none⟩))]
                [[], [0], [], [2], [3], [4], [5], [1, 6], [7], [8], [8, 9], [8, 10], [8], [8, 12], [8, 13], [8, 11, 14], [8, 15], [16], [17], [17, 18], [17, 19], [17], [17, 21], [17, 22], [17, 20, 23]]
                (by kernel_rfl) ⟨rfl, rfl, rfl, trivial⟩ (Below.drew (Below.refl _ _)) (fun v v' h hb => h.trans (hb.mono h.size)) ?_
                ⟨
                  (fun Q a1 ww hS fr kn => ⟨trivial, fun K hK => wp_value (exec_move rfl fr.1) (hK _ _ rfl (Below.refl _ _))⟩),
                  (fun Q a1 ww hS fr kn => ⟨trivial, fun K hK => stepc enter10_17 rfl (args1 kn.1) (HL17.out ww hS) (fun w1 hr => hK _ w1 rfl hr)⟩),
                  (fun Q a1 ww hS fr kn => ⟨trivial, fun K hK => wp_value (exec_move rfl fr.2.1) (hK _ _ rfl (Below.refl _ _))⟩),
                  (fun Q a1 ww hS fr kn => ⟨trivial, fun K hK => wp_value (exec_nilc rfl kn.1) (hK _ _ rfl (Below.refl _ _))⟩),
                  (fun Q a1 ww hS fr kn => ⟨trivial, fun K hK => wp_value (exec_ftab rfl kn.1) (hK _ _ rfl (Below.refl _ _))⟩),
                  (fun Q a1 ww hS fr kn => ⟨trivial, fun K hK => wp_value (exec_ld rfl kn.1 (ld_rows (HX.out ww hS))) (hK _ _ rfl (Below.refl _ _))⟩),
                  (fun Q a1 ww hS fr kn => ⟨trivial, fun K hK => wp_value (exec_lenR rfl kn.1) (hK _ _ rfl (Below.refl _ _))⟩),
                  (fun Q a1 ww hS fr kn => ⟨trivial, fun K hK => wp_value (exec_neqI rfl kn.1 kn.2.1 rfl) (hK _ _ rfl (Below.refl _ _))⟩),
                  (fun Q a1 ww hS fr kn => ⟨trivial, fun K hK => wp_value (exec_move rfl kn.1) (hK _ _ rfl (Below.refl _ _))⟩),
                  (fun Q a1 ww hS fr kn => ⟨kn.1, fun K hK => wp_value (exec_fop10 (k := 2) rfl fr.2.2.1 (by decide)) (hK _ _ rfl (Below.refl _ _))⟩),
                  (fun Q a1 ww hS fr kn => ⟨kn.1, fun K hK => wp_value (exec_ldOpP rfl (SAt.kept qO hS) kn.2.1) (hK _ _ rfl (Below.refl _ _))⟩),
                  (fun Q a1 ww hS fr kn => ⟨kn.1, fun K hK => stepc enter10_18 rfl (args1 kn.2.1) (HL18.out ww hS) (fun w1 hr => hK _ w1 rfl hr)⟩),
                  (fun Q a1 ww hS fr kn => ⟨kn.1, fun K hK => wp_value (exec_fop10 (k := 2) rfl fr.2.2.1 (by decide)) (hK _ _ rfl (Below.refl _ _))⟩),
                  (fun Q a1 ww hS fr kn => ⟨kn.1, fun K hK => wp_value (exec_ldOpP rfl (SAt.kept qO hS) kn.2.1) (hK _ _ rfl (Below.refl _ _))⟩),
                  (fun Q a1 ww hS fr kn => ⟨kn.1, fun K hK => stepc enter10_19 rfl (args1 kn.2.1) (HL19.out ww hS) (fun w1 hr => hK _ w1 rfl hr)⟩),
                  (fun Q a1 ww hS fr kn => ⟨kn.1, fun K hK => wp_value (exec_neB10 rfl kn.2.1 kn.2.2.1) (hK _ _ rfl (Below.refl _ _))⟩),
                  (fun Q a1 ww hS fr kn => ⟨trivial, fun K hK => wp_value (exec_pickF (v := .bool false) rfl kn.1 kn.2.1) (hK _ _ rfl (Below.refl _ _))⟩),
                  (fun Q a1 ww hS fr kn => ⟨trivial, fun K hK => wp_value (exec_move rfl kn.1) (hK _ _ rfl (Below.refl _ _))⟩),
                  (fun Q a1 ww hS fr kn => ⟨kn.1, fun K hK => wp_value (exec_fop10 (k := 2) rfl fr.2.2.1 (by decide)) (hK _ _ rfl (Below.refl _ _))⟩),
                  (fun Q a1 ww hS fr kn => ⟨kn.1, fun K hK => wp_value (exec_ldOpP rfl (SAt.kept qO hS) kn.2.1) (hK _ _ rfl (Below.refl _ _))⟩),
                  (fun Q a1 ww hS fr kn => ⟨kn.1, fun K hK => stepc enter10_20 rfl (args1 kn.2.1) (HL20.out ww hS) (fun w1 hr => hK _ w1 rfl hr)⟩),
                  (fun Q a1 ww hS fr kn => ⟨kn.1, fun K hK => wp_value (exec_fop10 (k := 2) rfl fr.2.2.1 (by decide)) (hK _ _ rfl (Below.refl _ _))⟩),
                  (fun Q a1 ww hS fr kn => ⟨kn.1, fun K hK => wp_value (exec_ldOpP rfl (SAt.kept qO hS) kn.2.1) (hK _ _ rfl (Below.refl _ _))⟩),
                  (fun Q a1 ww hS fr kn => ⟨kn.1, fun K hK => stepc enter10_21 rfl (args1 kn.2.1) (HL21.out ww hS) (fun w1 hr => hK _ w1 rfl hr)⟩),
                  (fun Q a1 ww hS fr kn => ⟨kn.1, fun K hK => wp_value (exec_neP rfl kn.2.1 kn.2.2.1 (eqP_not _ _ _)) (hK _ _ rfl (Below.refl _ _))⟩),
                  trivial⟩ ?_)
            · intro iq vq u' u'' hh hb
              match iq with
              | 0 | 1 | 2 | 3 | 4 | 5 | 6 | 7 | 8 | 9 | 10 | 11 | 12 | 13 | 14 | 15 | 16 | 17 | 18 | 19 | 20 | 21 | 22 | 23 | 24 => exact hh

              | n + 25 => trivial
            intro vs Y3 hSY hk3
            have e136 : vs 136 = .bool false := hk3 17 (by decide)
            have e143 : vs 143 = .bool false := hk3 24 (by decide)
            clear hk3
            have HS' : Hid (∃ x m ro, Two w B t d bs g2 Y3 x m ro m ro) := Hid.mk ⟨_, _, _, hZ.below hSY⟩
            clear hZ qO hSY HX HL17 HL18 HL19 HL20 HL21
            refine spl_mk ?_
            simp only [putAll, Act.put, List.setIfInBounds_toArray, List.set_cons_zero, List.set_cons_succ, List.drop_succ_cons, List.drop_zero, e136, e143]
            clear e136 e143
            refine all_in (fun ⟨_, _, hq⟩ => by cases hq.1) _ _ _ rfl ?_
            go_wp2_with fail
            go_roundg (n - (i + 1))
            case rel => exact ⟨i + 1, rfl, by omega, by go_num, HS'⟩
            case measure => omega
          · have b3 : (r == 3) = false := beq_eq_false_iff_ne.2 r3
            by_cases r3' : r = -3
            · subst r3'
              go_wp2_with (first | (refine wl_value rfl (exec_fop10 rfl (by rfl) (by decide)) ?_) | (refine wl_value rfl (exec_fpx rfl (by rfl)) ?_) | (refine wl_value rfl (exec_ldOpA rfl q1 (by rfl)) ?_))
              refine (findC h1.c O.v O.b hOb).mono ?_
              rintro e y1 ⟨rfl, hX1⟩
              have h2 := h1.below hX1
              have q2 := SAt.kept q1 hX1
              obtain ⟨po, pv, pb, pn, pt, hfA⟩ : ∃ (po : Int) (pv : Bool) (pb : Nat → Int) (pn : Int) (pt : Bool), findA ro O.v O.b m = .tuple #[.int .i64 po, .agg (SC 18 (prV pv pb pn)), .bool pt] := find_shape _ _ _ _
              rw [hfA]
              clear hX1
              go_wp2_with (first | (refine wl_value rfl (exec_ext rfl (by rfl) rfl) ?_) | (refine wl_alO rfl rfl zeroPfx ?_; intro gA wA hgA qA hBA; refine Hid.out ?_))
              refine Hid.mk ?_
              go_wp2_with (refine st_stO rfl rfl isPfx (prV_one _ _ _) qA (by rfl) (by rfl) ?_; intro y3 q5 o5; refine Hid.out ?_)
              refine Hid.mk ?_
              have hB3 : Below y1.heap.size y1 y3 := hBA.trans (o5.below hgA)
              have h3 := h2.below hB3
              have q3 := SAt.kept q2 hB3
              clear h2 q2 hB3 hBA qA o5
              go_wp2_with (first | (refine wl_value rfl (exec_fop10 rfl (by rfl) (by decide)) ?_) | (refine wl_value rfl (exec_fpx rfl (by rfl)) ?_) | (refine wl_value rfl (exec_ldOpA rfl q3 (by rfl)) ?_))
              refine (rFind_run O.v O.b h3.dt (fun j hj => h3.ok j hj) hOb hz.small).mono ?_
              rintro e y4 ⟨rfl, hX4⟩
              rw [hfA]
              have h4 := h3.below hX4
              have q4 := SAt.kept q3 hX4
              have q6 := SAt.kept q5 hX4
              clear h3 q3 hX4 hfA q5
              go_wp2_with (first | (refine wl_value rfl (exec_ext rfl (by rfl) rfl) ?_) | (refine wl_alO rfl rfl zeroPfx ?_; intro gC wC hgC qC hBC; refine Hid.out ?_))
              refine Hid.mk ?_
              go_wp2_with (refine st_stO rfl rfl isPfx (prV_one _ _ _) qC (by rfl) (by rfl) ?_; intro y5 q7 o7; refine Hid.out ?_)
              refine Hid.mk ?_
              have hB5 : Below y4.heap.size y4 y5 := hBC.trans (o7.below hgC)
              have q8 := SAt.kept q6 hB5
              have HF := Hid.mk (show ∃ x m ro, Two w B t d bs g2 y5 x m ro m ro ∧ SAt y5 gO 39 20 (opV10 O) from ⟨_, _, _, h4.below hB5, SAt.kept q4 hB5⟩)
              clear h4 q4 hB5 hBC qC o7 q6
              go_upto_region 27 with (first | (refine wl_value rfl (look_st rfl isPfx q8 (by rfl)) ?_) | (refine wl_value rfl (look_st rfl isPfx q7 (by rfl)) ?_) | (refine wl_value rfl (exec_neP rfl (by rfl) (by rfl) (eqP_not _ _ _)) ?_))
              obtain ⟨x2, m2, ro2, hZ, qO⟩ := HF.out
              clear HF
              obtain ⟨p, capx, hxe, _⟩ := ownM_shape hZ.dt.row
              subst hxe
              obtain ⟨pv, pb, pn, hwh⟩ : ∃ pv pb pn, wholeV O.v O.b O.n = prV pv pb pn := whole_shape _ _ _
              obtain ⟨rt, hrt⟩ : ∃ rt, rightF O.v O.b O.n = rt := ⟨_, rfl⟩
              have HX : Hid (∀ z, Below y5.heap.size y5 z → z.cell? ⟨d, 0, none⟩ = some (.slice p m2 capx)) := Hid.mk (fun z hh => SAt.at (SAt.kept hZ.dt.blk hh) 0 (by omega))
              have HL17 : Hid (∀ z, Below y5.heap.size y5 z → Calls Try.prog 17 #[.pointer (some ⟨t, 0, none⟩)] z fun e w' => e = .returned (.int .i64 (m2 : Int)) ∧ Below z.heap.size z w') := Hid.mk (fun z hh => lenC (hZ.c.below hh))
              have HL18 : Hid (∀ z, Below y5.heap.size y5 z → Calls Try.prog 18 #[.agg (SC 18 (prV O.v O.b O.n))] z fun e w' => e = .returned (.bool rt) ∧ Below z.heap.size z w') := Hid.mk (fun z _ => by rw [← hrt]; exact isPrefix_run _ _ _ _)
              have HL19 : Hid (∀ z, Below y5.heap.size y5 z → Calls Try.prog 19 #[.agg (SC 18 (prV O.v O.b O.n))] z fun e w' => e = .returned (.bool rt) ∧ Below z.heap.size z w') := Hid.mk (fun z _ => by rw [← hrt]; exact right_run _ _ _ _)
              have HL20 : Hid (∀ z, Below y5.heap.size y5 z → Calls Try.prog 20 #[.agg (SC 18 (prV O.v O.b O.n))] z fun e w' => e = .returned (.agg (SC 18 (prV pv pb pn))) ∧ Below z.heap.size z w') := Hid.mk (fun z _ => by rw [← hwh]; exact wholeC_run _ _ _ _ hOb)
              have HL21 : Hid (∀ z, Below y5.heap.size y5 z → Calls Try.prog 21 #[.agg (SC 18 (prV O.v O.b O.n))] z fun e w' => e = .returned (.agg (SC 18 (prV pv pb pn))) ∧ Below z.heap.size z w') := Hid.mk (fun z _ => by rw [← hwh]; exact whole_run _ _ _ _ hOb)
              clear hwh hrt
              refine wp_norm ?_
              refine (wpIn_wide (n := 0)).1 ?_
              show Code.wpIn (Wd none) 0 _ _ _ _ _
              refine regIn_cut (ro := none) 25 rfl (by kernel_rfl) (fun ⟨_, _, hq⟩ => by cases hq.1) rfl (any_steps (Below y5.heap.size y5) (fun v v' => Below v.heap.size v v') (fun iq vq v0 => match iq with | 0 => vq = .pointer (some ⟨t, 0, none⟩) | 1 => vq = .int .i64 (m2 : Int) | 2 => vq = .pointer (some ⟨d, 0, none⟩) | 3 => vq = .pointer (some ⟨d, 0, none⟩) | 4 => vq = .pointer (some ⟨d, 0, none⟩) | 5 => vq = .slice p m2 capx | 6 => vq = .int .i64 (m2 : Int) | 7 => vq = .bool false | 8 => vq = .bool false | 9 => vq = .pointer (some ⟨gO, 0 + 2, none⟩) | 10 => vq = .agg (SC 18 (prV O.v O.b O.n)) | 11 => vq = .bool rt | 12 => vq = .pointer (some ⟨gO, 0 + 2, none⟩) | 13 => vq = .agg (SC 18 (prV O.v O.b O.n)) | 14 => vq = .bool rt | 15 => vq = .bool false | 16 => vq = .bool false | 17 => vq = .bool false | 18 => vq = .pointer (some ⟨gO, 0 + 2, none⟩) | 19 => vq = .agg (SC 18 (prV O.v O.b O.n)) | 20 => vq = .agg (SC 18 (prV pv pb pn)) | 21 => vq = .pointer (some ⟨gO, 0 + 2, none⟩) | 22 => vq = .agg (SC 18 (prV O.v O.b O.n)) | 23 => vq = .agg (SC 18 (prV pv pb pn)) | 24 => vq = .bool false | _ => True)
                  [119, 120, 121, 122, 123, 124, 125, 126, 127, 128, 129, 130, 131, 132, 133, 134, 135, 136, 137, 138, 139, 140, 141, 142, 143]
                  [(4, .pointer (some ⟨t, 0, none⟩)), (5, .pointer (some ⟨d, 0, none⟩)), (8, .pointer (some ⟨gO, 0, none⟩))]
                  [[], [0], [], [2], [3], [4], [5], [1, 6], [7], [8], [8, 9], [8, 10], [8], [8, 12], [8, 13], [8, 11, 14], [8, 15], [16], [17], [17, 18], [17, 19], [17], [17, 21], [17, 22], [17, 20, 23]]
                  (by kernel_rfl) ⟨rfl, rfl, rfl, trivial⟩ (Below.drew (Below.refl _ _)) (fun v v' h hb => h.trans (hb.mono h.size)) ?_
                  ⟨
                    (fun Q a1 ww hS fr kn => ⟨trivial, fun K hK => wp_value (exec_move rfl fr.1) (hK _ _ rfl (Below.refl _ _))⟩),
                    (fun Q a1 ww hS fr kn => ⟨trivial, fun K hK => stepc enter10_17 rfl (args1 kn.1) (HL17.out ww hS) (fun w1 hr => hK _ w1 rfl hr)⟩),
                    (fun Q a1 ww hS fr kn => ⟨trivial, fun K hK => wp_value (exec_move rfl fr.2.1) (hK _ _ rfl (Below.refl _ _))⟩),
                    (fun Q a1 ww hS fr kn => ⟨trivial, fun K hK => wp_value (exec_nilc rfl kn.1) (hK _ _ rfl (Below.refl _ _))⟩),
                    (fun Q a1 ww hS fr kn => ⟨trivial, fun K hK => wp_value (exec_ftab rfl kn.1) (hK _ _ rfl (Below.refl _ _))⟩),
                    (fun Q a1 ww hS fr kn => ⟨trivial, fun K hK => wp_value (exec_ld rfl kn.1 (ld_rows (HX.out ww hS))) (hK _ _ rfl (Below.refl _ _))⟩),
                    (fun Q a1 ww hS fr kn => ⟨trivial, fun K hK => wp_value (exec_lenR rfl kn.1) (hK _ _ rfl (Below.refl _ _))⟩),
                    (fun Q a1 ww hS fr kn => ⟨trivial, fun K hK => wp_value (exec_neqI rfl kn.1 kn.2.1 rfl) (hK _ _ rfl (Below.refl _ _))⟩),
                    (fun Q a1 ww hS fr kn => ⟨trivial, fun K hK => wp_value (exec_move rfl kn.1) (hK _ _ rfl (Below.refl _ _))⟩),
                    (fun Q a1 ww hS fr kn => ⟨kn.1, fun K hK => wp_value (exec_fop10 (k := 2) rfl fr.2.2.1 (by decide)) (hK _ _ rfl (Below.refl _ _))⟩),
                    (fun Q a1 ww hS fr kn => ⟨kn.1, fun K hK => wp_value (exec_ldOpP rfl (SAt.kept qO hS) kn.2.1) (hK _ _ rfl (Below.refl _ _))⟩),
                    (fun Q a1 ww hS fr kn => ⟨kn.1, fun K hK => stepc enter10_18 rfl (args1 kn.2.1) (HL18.out ww hS) (fun w1 hr => hK _ w1 rfl hr)⟩),
                    (fun Q a1 ww hS fr kn => ⟨kn.1, fun K hK => wp_value (exec_fop10 (k := 2) rfl fr.2.2.1 (by decide)) (hK _ _ rfl (Below.refl _ _))⟩),
                    (fun Q a1 ww hS fr kn => ⟨kn.1, fun K hK => wp_value (exec_ldOpP rfl (SAt.kept qO hS) kn.2.1) (hK _ _ rfl (Below.refl _ _))⟩),
                    (fun Q a1 ww hS fr kn => ⟨kn.1, fun K hK => stepc enter10_19 rfl (args1 kn.2.1) (HL19.out ww hS) (fun w1 hr => hK _ w1 rfl hr)⟩),
                    (fun Q a1 ww hS fr kn => ⟨kn.1, fun K hK => wp_value (exec_neB10 rfl kn.2.1 kn.2.2.1) (hK _ _ rfl (Below.refl _ _))⟩),
                    (fun Q a1 ww hS fr kn => ⟨trivial, fun K hK => wp_value (exec_pickF (v := .bool false) rfl kn.1 kn.2.1) (hK _ _ rfl (Below.refl _ _))⟩),
                    (fun Q a1 ww hS fr kn => ⟨trivial, fun K hK => wp_value (exec_move rfl kn.1) (hK _ _ rfl (Below.refl _ _))⟩),
                    (fun Q a1 ww hS fr kn => ⟨kn.1, fun K hK => wp_value (exec_fop10 (k := 2) rfl fr.2.2.1 (by decide)) (hK _ _ rfl (Below.refl _ _))⟩),
                    (fun Q a1 ww hS fr kn => ⟨kn.1, fun K hK => wp_value (exec_ldOpP rfl (SAt.kept qO hS) kn.2.1) (hK _ _ rfl (Below.refl _ _))⟩),
                    (fun Q a1 ww hS fr kn => ⟨kn.1, fun K hK => stepc enter10_20 rfl (args1 kn.2.1) (HL20.out ww hS) (fun w1 hr => hK _ w1 rfl hr)⟩),
                    (fun Q a1 ww hS fr kn => ⟨kn.1, fun K hK => wp_value (exec_fop10 (k := 2) rfl fr.2.2.1 (by decide)) (hK _ _ rfl (Below.refl _ _))⟩),
                    (fun Q a1 ww hS fr kn => ⟨kn.1, fun K hK => wp_value (exec_ldOpP rfl (SAt.kept qO hS) kn.2.1) (hK _ _ rfl (Below.refl _ _))⟩),
                    (fun Q a1 ww hS fr kn => ⟨kn.1, fun K hK => stepc enter10_21 rfl (args1 kn.2.1) (HL21.out ww hS) (fun w1 hr => hK _ w1 rfl hr)⟩),
                    (fun Q a1 ww hS fr kn => ⟨kn.1, fun K hK => wp_value (exec_neP rfl kn.2.1 kn.2.2.1 (eqP_not _ _ _)) (hK _ _ rfl (Below.refl _ _))⟩),
                    trivial⟩ ?_)
              · intro iq vq u' u'' hh hb
                match iq with
                | 0 | 1 | 2 | 3 | 4 | 5 | 6 | 7 | 8 | 9 | 10 | 11 | 12 | 13 | 14 | 15 | 16 | 17 | 18 | 19 | 20 | 21 | 22 | 23 | 24 => exact hh

                | n + 25 => trivial
              intro vs Y3 hSY hk3
              have e136 : vs 136 = .bool false := hk3 17 (by decide)
              have e143 : vs 143 = .bool false := hk3 24 (by decide)
              clear hk3
              have HS' : Hid (∃ x m ro, Two w B t d bs g2 Y3 x m ro m ro) := Hid.mk ⟨_, _, _, hZ.below hSY⟩
              clear hZ qO hSY HX HL17 HL18 HL19 HL20 HL21
              refine spl_mk ?_
              simp only [putAll, Act.put, List.setIfInBounds_toArray, List.set_cons_zero, List.set_cons_succ, List.drop_succ_cons, List.drop_zero, e136, e143]
              clear e136 e143
              refine all_in (fun ⟨_, _, hq⟩ => by cases hq.1) _ _ _ rfl ?_
              go_wp2_with fail
              go_roundg (n - (i + 1))
              case rel => exact ⟨i + 1, rfl, by omega, by go_num, HS'⟩
              case measure => omega
            · have b3' : (r == -3) = false := beq_eq_false_iff_ne.2 r3'
              have cow := op10_o q1
              go_wp2_with (first | (refine wl_value rfl (exec_fop10 rfl (by rfl) (by decide)) ?_) | (refine wl_value rfl (exec_ldOpP rfl q1 (by rfl)) ?_))
              by_cases hr : rightF O.v O.b O.n = true
              · refine (putC h1.c O.v O.b O.n O.ow hOb hr).mono ?_
                rintro e y1 ⟨rfl, hC1, hX1⟩
                have h2 := h1.code hC1 hX1
                have q2 := hz.boxC hgO q1 hX1
                clear hC1 hX1 cow
                have cow := op10_o q2
                go_wp2_with (first | (refine wl_value rfl (exec_fop10 rfl (by rfl) (by decide)) ?_) | (refine wl_value rfl (exec_ldOpP rfl q2 (by rfl)) ?_))
                refine (rPut_yes O.v O.b O.n O.ow rfl h2.dt hOb hz.small hr).mono ?_
                rintro e y2 ⟨rfl, x2, hD2, hX2, _⟩
                have HF := Hid.mk (show ∃ x m ro, Two w B t d bs g2 y2 x m ro m ro ∧ SAt y2 gO 39 20 (opV10 O) from ⟨_, _, _, h2.doc hD2 hX2, hz.boxD hgO q2 hX2⟩)
                clear hD2 hX2 h2 q2 cow
                generalize putE ro m O.v (whB O.b O.n) O.n = pe
                go_upto_region 27 with fail
                obtain ⟨x2, m2, ro2, hZ, qO⟩ := HF.out
                clear HF
                obtain ⟨p, capx, hxe, _⟩ := ownM_shape hZ.dt.row
                subst hxe
                obtain ⟨pv, pb, pn, hwh⟩ : ∃ pv pb pn, wholeV O.v O.b O.n = prV pv pb pn := whole_shape _ _ _
                obtain ⟨rt, hrt⟩ : ∃ rt, rightF O.v O.b O.n = rt := ⟨_, rfl⟩
                have HX : Hid (∀ z, Below y2.heap.size y2 z → z.cell? ⟨d, 0, none⟩ = some (.slice p m2 capx)) := Hid.mk (fun z hh => SAt.at (SAt.kept hZ.dt.blk hh) 0 (by omega))
                have HL17 : Hid (∀ z, Below y2.heap.size y2 z → Calls Try.prog 17 #[.pointer (some ⟨t, 0, none⟩)] z fun e w' => e = .returned (.int .i64 (m2 : Int)) ∧ Below z.heap.size z w') := Hid.mk (fun z hh => lenC (hZ.c.below hh))
                have HL18 : Hid (∀ z, Below y2.heap.size y2 z → Calls Try.prog 18 #[.agg (SC 18 (prV O.v O.b O.n))] z fun e w' => e = .returned (.bool rt) ∧ Below z.heap.size z w') := Hid.mk (fun z _ => by rw [← hrt]; exact isPrefix_run _ _ _ _)
                have HL19 : Hid (∀ z, Below y2.heap.size y2 z → Calls Try.prog 19 #[.agg (SC 18 (prV O.v O.b O.n))] z fun e w' => e = .returned (.bool rt) ∧ Below z.heap.size z w') := Hid.mk (fun z _ => by rw [← hrt]; exact right_run _ _ _ _)
                have HL20 : Hid (∀ z, Below y2.heap.size y2 z → Calls Try.prog 20 #[.agg (SC 18 (prV O.v O.b O.n))] z fun e w' => e = .returned (.agg (SC 18 (prV pv pb pn))) ∧ Below z.heap.size z w') := Hid.mk (fun z _ => by rw [← hwh]; exact wholeC_run _ _ _ _ hOb)
                have HL21 : Hid (∀ z, Below y2.heap.size y2 z → Calls Try.prog 21 #[.agg (SC 18 (prV O.v O.b O.n))] z fun e w' => e = .returned (.agg (SC 18 (prV pv pb pn))) ∧ Below z.heap.size z w') := Hid.mk (fun z _ => by rw [← hwh]; exact whole_run _ _ _ _ hOb)
                clear hwh hrt
                refine wp_norm ?_
                refine (wpIn_wide (n := 0)).1 ?_
                show Code.wpIn (Wd none) 0 _ _ _ _ _
                refine regIn_cut (ro := none) 25 rfl (by kernel_rfl) (fun ⟨_, _, hq⟩ => by cases hq.1) rfl (any_steps (Below y2.heap.size y2) (fun v v' => Below v.heap.size v v') (fun iq vq v0 => match iq with | 0 => vq = .pointer (some ⟨t, 0, none⟩) | 1 => vq = .int .i64 (m2 : Int) | 2 => vq = .pointer (some ⟨d, 0, none⟩) | 3 => vq = .pointer (some ⟨d, 0, none⟩) | 4 => vq = .pointer (some ⟨d, 0, none⟩) | 5 => vq = .slice p m2 capx | 6 => vq = .int .i64 (m2 : Int) | 7 => vq = .bool false | 8 => vq = .bool false | 9 => vq = .pointer (some ⟨gO, 0 + 2, none⟩) | 10 => vq = .agg (SC 18 (prV O.v O.b O.n)) | 11 => vq = .bool rt | 12 => vq = .pointer (some ⟨gO, 0 + 2, none⟩) | 13 => vq = .agg (SC 18 (prV O.v O.b O.n)) | 14 => vq = .bool rt | 15 => vq = .bool false | 16 => vq = .bool false | 17 => vq = .bool false | 18 => vq = .pointer (some ⟨gO, 0 + 2, none⟩) | 19 => vq = .agg (SC 18 (prV O.v O.b O.n)) | 20 => vq = .agg (SC 18 (prV pv pb pn)) | 21 => vq = .pointer (some ⟨gO, 0 + 2, none⟩) | 22 => vq = .agg (SC 18 (prV O.v O.b O.n)) | 23 => vq = .agg (SC 18 (prV pv pb pn)) | 24 => vq = .bool false | _ => True)
                    [119, 120, 121, 122, 123, 124, 125, 126, 127, 128, 129, 130, 131, 132, 133, 134, 135, 136, 137, 138, 139, 140, 141, 142, 143]
                    [(4, .pointer (some ⟨t, 0, none⟩)), (5, .pointer (some ⟨d, 0, none⟩)), (8, .pointer (some ⟨gO, 0, none⟩))]
                    [[], [0], [], [2], [3], [4], [5], [1, 6], [7], [8], [8, 9], [8, 10], [8], [8, 12], [8, 13], [8, 11, 14], [8, 15], [16], [17], [17, 18], [17, 19], [17], [17, 21], [17, 22], [17, 20, 23]]
                    (by kernel_rfl) ⟨rfl, rfl, rfl, trivial⟩ (Below.drew (Below.refl _ _)) (fun v v' h hb => h.trans (hb.mono h.size)) ?_
                    ⟨
                      (fun Q a1 ww hS fr kn => ⟨trivial, fun K hK => wp_value (exec_move rfl fr.1) (hK _ _ rfl (Below.refl _ _))⟩),
                      (fun Q a1 ww hS fr kn => ⟨trivial, fun K hK => stepc enter10_17 rfl (args1 kn.1) (HL17.out ww hS) (fun w1 hr => hK _ w1 rfl hr)⟩),
                      (fun Q a1 ww hS fr kn => ⟨trivial, fun K hK => wp_value (exec_move rfl fr.2.1) (hK _ _ rfl (Below.refl _ _))⟩),
                      (fun Q a1 ww hS fr kn => ⟨trivial, fun K hK => wp_value (exec_nilc rfl kn.1) (hK _ _ rfl (Below.refl _ _))⟩),
                      (fun Q a1 ww hS fr kn => ⟨trivial, fun K hK => wp_value (exec_ftab rfl kn.1) (hK _ _ rfl (Below.refl _ _))⟩),
                      (fun Q a1 ww hS fr kn => ⟨trivial, fun K hK => wp_value (exec_ld rfl kn.1 (ld_rows (HX.out ww hS))) (hK _ _ rfl (Below.refl _ _))⟩),
                      (fun Q a1 ww hS fr kn => ⟨trivial, fun K hK => wp_value (exec_lenR rfl kn.1) (hK _ _ rfl (Below.refl _ _))⟩),
                      (fun Q a1 ww hS fr kn => ⟨trivial, fun K hK => wp_value (exec_neqI rfl kn.1 kn.2.1 rfl) (hK _ _ rfl (Below.refl _ _))⟩),
                      (fun Q a1 ww hS fr kn => ⟨trivial, fun K hK => wp_value (exec_move rfl kn.1) (hK _ _ rfl (Below.refl _ _))⟩),
                      (fun Q a1 ww hS fr kn => ⟨kn.1, fun K hK => wp_value (exec_fop10 (k := 2) rfl fr.2.2.1 (by decide)) (hK _ _ rfl (Below.refl _ _))⟩),
                      (fun Q a1 ww hS fr kn => ⟨kn.1, fun K hK => wp_value (exec_ldOpP rfl (SAt.kept qO hS) kn.2.1) (hK _ _ rfl (Below.refl _ _))⟩),
                      (fun Q a1 ww hS fr kn => ⟨kn.1, fun K hK => stepc enter10_18 rfl (args1 kn.2.1) (HL18.out ww hS) (fun w1 hr => hK _ w1 rfl hr)⟩),
                      (fun Q a1 ww hS fr kn => ⟨kn.1, fun K hK => wp_value (exec_fop10 (k := 2) rfl fr.2.2.1 (by decide)) (hK _ _ rfl (Below.refl _ _))⟩),
                      (fun Q a1 ww hS fr kn => ⟨kn.1, fun K hK => wp_value (exec_ldOpP rfl (SAt.kept qO hS) kn.2.1) (hK _ _ rfl (Below.refl _ _))⟩),
                      (fun Q a1 ww hS fr kn => ⟨kn.1, fun K hK => stepc enter10_19 rfl (args1 kn.2.1) (HL19.out ww hS) (fun w1 hr => hK _ w1 rfl hr)⟩),
                      (fun Q a1 ww hS fr kn => ⟨kn.1, fun K hK => wp_value (exec_neB10 rfl kn.2.1 kn.2.2.1) (hK _ _ rfl (Below.refl _ _))⟩),
                      (fun Q a1 ww hS fr kn => ⟨trivial, fun K hK => wp_value (exec_pickF (v := .bool false) rfl kn.1 kn.2.1) (hK _ _ rfl (Below.refl _ _))⟩),
                      (fun Q a1 ww hS fr kn => ⟨trivial, fun K hK => wp_value (exec_move rfl kn.1) (hK _ _ rfl (Below.refl _ _))⟩),
                      (fun Q a1 ww hS fr kn => ⟨kn.1, fun K hK => wp_value (exec_fop10 (k := 2) rfl fr.2.2.1 (by decide)) (hK _ _ rfl (Below.refl _ _))⟩),
                      (fun Q a1 ww hS fr kn => ⟨kn.1, fun K hK => wp_value (exec_ldOpP rfl (SAt.kept qO hS) kn.2.1) (hK _ _ rfl (Below.refl _ _))⟩),
                      (fun Q a1 ww hS fr kn => ⟨kn.1, fun K hK => stepc enter10_20 rfl (args1 kn.2.1) (HL20.out ww hS) (fun w1 hr => hK _ w1 rfl hr)⟩),
                      (fun Q a1 ww hS fr kn => ⟨kn.1, fun K hK => wp_value (exec_fop10 (k := 2) rfl fr.2.2.1 (by decide)) (hK _ _ rfl (Below.refl _ _))⟩),
                      (fun Q a1 ww hS fr kn => ⟨kn.1, fun K hK => wp_value (exec_ldOpP rfl (SAt.kept qO hS) kn.2.1) (hK _ _ rfl (Below.refl _ _))⟩),
                      (fun Q a1 ww hS fr kn => ⟨kn.1, fun K hK => stepc enter10_21 rfl (args1 kn.2.1) (HL21.out ww hS) (fun w1 hr => hK _ w1 rfl hr)⟩),
                      (fun Q a1 ww hS fr kn => ⟨kn.1, fun K hK => wp_value (exec_neP rfl kn.2.1 kn.2.2.1 (eqP_not _ _ _)) (hK _ _ rfl (Below.refl _ _))⟩),
                      trivial⟩ ?_)
                · intro iq vq u' u'' hh hb
                  match iq with
                  | 0 | 1 | 2 | 3 | 4 | 5 | 6 | 7 | 8 | 9 | 10 | 11 | 12 | 13 | 14 | 15 | 16 | 17 | 18 | 19 | 20 | 21 | 22 | 23 | 24 => exact hh

                  | n + 25 => trivial
                intro vs Y3 hSY hk3
                have e136 : vs 136 = .bool false := hk3 17 (by decide)
                have e143 : vs 143 = .bool false := hk3 24 (by decide)
                clear hk3
                have HS' : Hid (∃ x m ro, Two w B t d bs g2 Y3 x m ro m ro) := Hid.mk ⟨_, _, _, hZ.below hSY⟩
                clear hZ qO hSY HX HL17 HL18 HL19 HL20 HL21
                refine spl_mk ?_
                simp only [putAll, Act.put, List.setIfInBounds_toArray, List.set_cons_zero, List.set_cons_succ, List.drop_succ_cons, List.drop_zero, e136, e143]
                clear e136 e143
                refine all_in (fun ⟨_, _, hq⟩ => by cases hq.1) _ _ _ rfl ?_
                go_wp2_with fail
                go_roundg (n - (i + 1))
                case rel => exact ⟨i + 1, rfl, by omega, by go_num, HS'⟩
                case measure => omega
              · have hrf : rightF O.v O.b O.n = false := Bool.eq_false_iff.2 hr
                refine (put_no O.v O.b O.n O.ow hrf).mono ?_
                rintro e y1 ⟨rfl, hX1⟩
                have h2 := h1.below hX1
                have q2 := SAt.kept q1 hX1
                clear hX1 cow
                have cow := op10_o q2
                go_wp2_with (first | (refine wl_value rfl (exec_fop10 rfl (by rfl) (by decide)) ?_) | (refine wl_value rfl (exec_ldOpP rfl q2 (by rfl)) ?_))
                refine (rPut_no O.v O.b O.n O.ow hrf).mono ?_
                rintro e y2 ⟨rfl, hX2⟩
                have HF := Hid.mk (show ∃ x m ro, Two w B t d bs g2 y2 x m ro m ro ∧ SAt y2 gO 39 20 (opV10 O) from ⟨_, _, _, h2.below hX2, SAt.kept q2 hX2⟩)
                clear h2 q2 hX2 cow
                go_upto_region 27 with fail
                obtain ⟨x2, m2, ro2, hZ, qO⟩ := HF.out
                clear HF
                obtain ⟨p, capx, hxe, _⟩ := ownM_shape hZ.dt.row
                subst hxe
                obtain ⟨pv, pb, pn, hwh⟩ : ∃ pv pb pn, wholeV O.v O.b O.n = prV pv pb pn := whole_shape _ _ _
                obtain ⟨rt, hrt⟩ : ∃ rt, rightF O.v O.b O.n = rt := ⟨_, rfl⟩
                have HX : Hid (∀ z, Below y2.heap.size y2 z → z.cell? ⟨d, 0, none⟩ = some (.slice p m2 capx)) := Hid.mk (fun z hh => SAt.at (SAt.kept hZ.dt.blk hh) 0 (by omega))
                have HL17 : Hid (∀ z, Below y2.heap.size y2 z → Calls Try.prog 17 #[.pointer (some ⟨t, 0, none⟩)] z fun e w' => e = .returned (.int .i64 (m2 : Int)) ∧ Below z.heap.size z w') := Hid.mk (fun z hh => lenC (hZ.c.below hh))
                have HL18 : Hid (∀ z, Below y2.heap.size y2 z → Calls Try.prog 18 #[.agg (SC 18 (prV O.v O.b O.n))] z fun e w' => e = .returned (.bool rt) ∧ Below z.heap.size z w') := Hid.mk (fun z _ => by rw [← hrt]; exact isPrefix_run _ _ _ _)
                have HL19 : Hid (∀ z, Below y2.heap.size y2 z → Calls Try.prog 19 #[.agg (SC 18 (prV O.v O.b O.n))] z fun e w' => e = .returned (.bool rt) ∧ Below z.heap.size z w') := Hid.mk (fun z _ => by rw [← hrt]; exact right_run _ _ _ _)
                have HL20 : Hid (∀ z, Below y2.heap.size y2 z → Calls Try.prog 20 #[.agg (SC 18 (prV O.v O.b O.n))] z fun e w' => e = .returned (.agg (SC 18 (prV pv pb pn))) ∧ Below z.heap.size z w') := Hid.mk (fun z _ => by rw [← hwh]; exact wholeC_run _ _ _ _ hOb)
                have HL21 : Hid (∀ z, Below y2.heap.size y2 z → Calls Try.prog 21 #[.agg (SC 18 (prV O.v O.b O.n))] z fun e w' => e = .returned (.agg (SC 18 (prV pv pb pn))) ∧ Below z.heap.size z w') := Hid.mk (fun z _ => by rw [← hwh]; exact whole_run _ _ _ _ hOb)
                clear hwh hrt
                refine wp_norm ?_
                refine (wpIn_wide (n := 0)).1 ?_
                show Code.wpIn (Wd none) 0 _ _ _ _ _
                refine regIn_cut (ro := none) 25 rfl (by kernel_rfl) (fun ⟨_, _, hq⟩ => by cases hq.1) rfl (any_steps (Below y2.heap.size y2) (fun v v' => Below v.heap.size v v') (fun iq vq v0 => match iq with | 0 => vq = .pointer (some ⟨t, 0, none⟩) | 1 => vq = .int .i64 (m2 : Int) | 2 => vq = .pointer (some ⟨d, 0, none⟩) | 3 => vq = .pointer (some ⟨d, 0, none⟩) | 4 => vq = .pointer (some ⟨d, 0, none⟩) | 5 => vq = .slice p m2 capx | 6 => vq = .int .i64 (m2 : Int) | 7 => vq = .bool false | 8 => vq = .bool false | 9 => vq = .pointer (some ⟨gO, 0 + 2, none⟩) | 10 => vq = .agg (SC 18 (prV O.v O.b O.n)) | 11 => vq = .bool rt | 12 => vq = .pointer (some ⟨gO, 0 + 2, none⟩) | 13 => vq = .agg (SC 18 (prV O.v O.b O.n)) | 14 => vq = .bool rt | 15 => vq = .bool false | 16 => vq = .bool false | 17 => vq = .bool false | 18 => vq = .pointer (some ⟨gO, 0 + 2, none⟩) | 19 => vq = .agg (SC 18 (prV O.v O.b O.n)) | 20 => vq = .agg (SC 18 (prV pv pb pn)) | 21 => vq = .pointer (some ⟨gO, 0 + 2, none⟩) | 22 => vq = .agg (SC 18 (prV O.v O.b O.n)) | 23 => vq = .agg (SC 18 (prV pv pb pn)) | 24 => vq = .bool false | _ => True)
                    [119, 120, 121, 122, 123, 124, 125, 126, 127, 128, 129, 130, 131, 132, 133, 134, 135, 136, 137, 138, 139, 140, 141, 142, 143]
                    [(4, .pointer (some ⟨t, 0, none⟩)), (5, .pointer (some ⟨d, 0, none⟩)), (8, .pointer (some ⟨gO, 0, none⟩))]
                    [[], [0], [], [2], [3], [4], [5], [1, 6], [7], [8], [8, 9], [8, 10], [8], [8, 12], [8, 13], [8, 11, 14], [8, 15], [16], [17], [17, 18], [17, 19], [17], [17, 21], [17, 22], [17, 20, 23]]
                    (by kernel_rfl) ⟨rfl, rfl, rfl, trivial⟩ (Below.drew (Below.refl _ _)) (fun v v' h hb => h.trans (hb.mono h.size)) ?_
                    ⟨
                      (fun Q a1 ww hS fr kn => ⟨trivial, fun K hK => wp_value (exec_move rfl fr.1) (hK _ _ rfl (Below.refl _ _))⟩),
                      (fun Q a1 ww hS fr kn => ⟨trivial, fun K hK => stepc enter10_17 rfl (args1 kn.1) (HL17.out ww hS) (fun w1 hr => hK _ w1 rfl hr)⟩),
                      (fun Q a1 ww hS fr kn => ⟨trivial, fun K hK => wp_value (exec_move rfl fr.2.1) (hK _ _ rfl (Below.refl _ _))⟩),
                      (fun Q a1 ww hS fr kn => ⟨trivial, fun K hK => wp_value (exec_nilc rfl kn.1) (hK _ _ rfl (Below.refl _ _))⟩),
                      (fun Q a1 ww hS fr kn => ⟨trivial, fun K hK => wp_value (exec_ftab rfl kn.1) (hK _ _ rfl (Below.refl _ _))⟩),
                      (fun Q a1 ww hS fr kn => ⟨trivial, fun K hK => wp_value (exec_ld rfl kn.1 (ld_rows (HX.out ww hS))) (hK _ _ rfl (Below.refl _ _))⟩),
                      (fun Q a1 ww hS fr kn => ⟨trivial, fun K hK => wp_value (exec_lenR rfl kn.1) (hK _ _ rfl (Below.refl _ _))⟩),
                      (fun Q a1 ww hS fr kn => ⟨trivial, fun K hK => wp_value (exec_neqI rfl kn.1 kn.2.1 rfl) (hK _ _ rfl (Below.refl _ _))⟩),
                      (fun Q a1 ww hS fr kn => ⟨trivial, fun K hK => wp_value (exec_move rfl kn.1) (hK _ _ rfl (Below.refl _ _))⟩),
                      (fun Q a1 ww hS fr kn => ⟨kn.1, fun K hK => wp_value (exec_fop10 (k := 2) rfl fr.2.2.1 (by decide)) (hK _ _ rfl (Below.refl _ _))⟩),
                      (fun Q a1 ww hS fr kn => ⟨kn.1, fun K hK => wp_value (exec_ldOpP rfl (SAt.kept qO hS) kn.2.1) (hK _ _ rfl (Below.refl _ _))⟩),
                      (fun Q a1 ww hS fr kn => ⟨kn.1, fun K hK => stepc enter10_18 rfl (args1 kn.2.1) (HL18.out ww hS) (fun w1 hr => hK _ w1 rfl hr)⟩),
                      (fun Q a1 ww hS fr kn => ⟨kn.1, fun K hK => wp_value (exec_fop10 (k := 2) rfl fr.2.2.1 (by decide)) (hK _ _ rfl (Below.refl _ _))⟩),
                      (fun Q a1 ww hS fr kn => ⟨kn.1, fun K hK => wp_value (exec_ldOpP rfl (SAt.kept qO hS) kn.2.1) (hK _ _ rfl (Below.refl _ _))⟩),
                      (fun Q a1 ww hS fr kn => ⟨kn.1, fun K hK => stepc enter10_19 rfl (args1 kn.2.1) (HL19.out ww hS) (fun w1 hr => hK _ w1 rfl hr)⟩),
                      (fun Q a1 ww hS fr kn => ⟨kn.1, fun K hK => wp_value (exec_neB10 rfl kn.2.1 kn.2.2.1) (hK _ _ rfl (Below.refl _ _))⟩),
                      (fun Q a1 ww hS fr kn => ⟨trivial, fun K hK => wp_value (exec_pickF (v := .bool false) rfl kn.1 kn.2.1) (hK _ _ rfl (Below.refl _ _))⟩),
                      (fun Q a1 ww hS fr kn => ⟨trivial, fun K hK => wp_value (exec_move rfl kn.1) (hK _ _ rfl (Below.refl _ _))⟩),
                      (fun Q a1 ww hS fr kn => ⟨kn.1, fun K hK => wp_value (exec_fop10 (k := 2) rfl fr.2.2.1 (by decide)) (hK _ _ rfl (Below.refl _ _))⟩),
                      (fun Q a1 ww hS fr kn => ⟨kn.1, fun K hK => wp_value (exec_ldOpP rfl (SAt.kept qO hS) kn.2.1) (hK _ _ rfl (Below.refl _ _))⟩),
                      (fun Q a1 ww hS fr kn => ⟨kn.1, fun K hK => stepc enter10_20 rfl (args1 kn.2.1) (HL20.out ww hS) (fun w1 hr => hK _ w1 rfl hr)⟩),
                      (fun Q a1 ww hS fr kn => ⟨kn.1, fun K hK => wp_value (exec_fop10 (k := 2) rfl fr.2.2.1 (by decide)) (hK _ _ rfl (Below.refl _ _))⟩),
                      (fun Q a1 ww hS fr kn => ⟨kn.1, fun K hK => wp_value (exec_ldOpP rfl (SAt.kept qO hS) kn.2.1) (hK _ _ rfl (Below.refl _ _))⟩),
                      (fun Q a1 ww hS fr kn => ⟨kn.1, fun K hK => stepc enter10_21 rfl (args1 kn.2.1) (HL21.out ww hS) (fun w1 hr => hK _ w1 rfl hr)⟩),
                      (fun Q a1 ww hS fr kn => ⟨kn.1, fun K hK => wp_value (exec_neP rfl kn.2.1 kn.2.2.1 (eqP_not _ _ _)) (hK _ _ rfl (Below.refl _ _))⟩),
                      trivial⟩ ?_)
                · intro iq vq u' u'' hh hb
                  match iq with
                  | 0 | 1 | 2 | 3 | 4 | 5 | 6 | 7 | 8 | 9 | 10 | 11 | 12 | 13 | 14 | 15 | 16 | 17 | 18 | 19 | 20 | 21 | 22 | 23 | 24 => exact hh

                  | n + 25 => trivial
                intro vs Y3 hSY hk3
                have e136 : vs 136 = .bool false := hk3 17 (by decide)
                have e143 : vs 143 = .bool false := hk3 24 (by decide)
                clear hk3
                have HS' : Hid (∃ x m ro, Two w B t d bs g2 Y3 x m ro m ro) := Hid.mk ⟨_, _, _, hZ.below hSY⟩
                clear hZ qO hSY HX HL17 HL18 HL19 HL20 HL21
                refine spl_mk ?_
                simp only [putAll, Act.put, List.setIfInBounds_toArray, List.set_cons_zero, List.set_cons_succ, List.drop_succ_cons, List.drop_zero, e136, e143]
                clear e136 e143
                refine all_in (fun ⟨_, _, hq⟩ => by cases hq.1) _ _ _ rfl ?_
                go_wp2_with fail
                go_roundg (n - (i + 1))
                case rel => exact ⟨i + 1, rfl, by omega, by go_num, HS'⟩
                case measure => omega
    · obtain rfl : i = n := by omega
      obtain ⟨x, m, ro, hz⟩ := HS.out
      clear HS
      have hG : Gives Try.prog 25 #[.pointer (some ⟨bs, 0, none⟩)] encR ([] : List Rw) (fun k => k = bs) wr := all_gives (S := fun _ => False) (T4 := .nil) (T6 := .nil) hz.bx rfl rfl trivial trivial (fun k hk => hk.elim) rfl
      have hbl := hz.bx.lt
      go_wp2_with (refine wl_value rfl (exec_fne rfl (by rfl) (by rfl)) ?_)
      refine wp_rangeT (by rfl) enterAll1 hG (Below.refl _ _) (fun x => rfl) (fun k hk => by rw [hk]; exact hbl) (fun _ => False) (fun k hk => hk.elim) (fun _ _ => True) (fun _ _ => False) (fun _ _ _ _ _ => trivial) (fun _ _ _ h _ => h) trivial ?round2 ?done2 (fun _ _ _ _ h => h.elim)
      case round2 =>
        intro l j x X hl hlX hx
        simp at hx
      case done2 =>
        rintro D Y hD _ hty hKD
        have hBY : Below wr.heap.size wr Y := tou_below hty (fun k hk => hk.elim) (Nat.le_refl _)
        have hY := hz.below hBY
        have hDw : w.heap.size ≤ D := by have := hz.bel.size; omega
        have hDg : g2 < D := by have := heap_lt hz.res; omega
        clear hG hz hty hBY
        obtain ⟨p, capx, hxe, _⟩ := ownM_shape hY.dt.row
        subst hxe
        have cd : Y.cell? ⟨d, 0, none⟩ = some (.slice p m capx) := SAt.at hY.dt.blk 0 (by omega)
        go_wp2_with (first | (refine wl_value rfl (exec_nilc rfl (by rfl)) ?_) | (refine wl_value rfl (exec_ftab rfl (by rfl)) ?_))
        clear cd
        refine (lawAll hY.c hY.dt.row).mono ?_
        rintro e Y2 ⟨rfl, hB2⟩
        have hY2 := hY.below hB2
        have nd := bheap hB2 hKD (heap_lt hKD)
        have ny := hY2.res
        have c6 := (one_cell ny).1
        have f6 := (one_cell ny).2
        have o7 : Only g2 Y2 (Y2.setCell ⟨g2, 0, none⟩ (.bool true)) := only_set
        have HZ : Hid ((Y2.setCell ⟨g2, 0, none⟩ (.bool true)).heap[g2]? = some (.cells #[.bool true] 4 (0, 0)) ∧ (Y2.setCell ⟨g2, 0, none⟩ (.bool true)).heap[D]? = some (.deferred (some [])) ∧ Below w.heap.size w (Y2.setCell ⟨g2, 0, none⟩ (.bool true))) := Hid.mk ⟨one_set ny, (o7.block D (by omega)).trans nd, hY2.bel.trans (o7.below hY2.lo.2.2.2)⟩
        clear o7 hY2 hB2 hY
        go_wp2_with fail
        refine postM_ret [D] rfl (fun E hE => by simp at hE; rw [hE]; exact HZ.out.2.1) (by simp) (fun w' ht' hs' => ?_)
        obtain ⟨z1, z2, z3⟩ := HZ.out
        exact ⟨_, res_cb rfl (by rfl) ((ht'.block g2 (heap_lt z1) (fun e => by simp at e; omega)).trans z1), rfl, z3.trans (tou_below ht' (fun k hk => by simp at hk; omega) z3.size)⟩
end Go.Proofs.Ytcpnleanjclfjaa
