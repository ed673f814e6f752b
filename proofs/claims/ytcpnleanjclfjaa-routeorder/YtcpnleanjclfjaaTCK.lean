/-
  Own text. The law's own all: the rows that All gives are those told.
-/
import Derived.Test.YtcpnleanjclfjaaTL2
namespace Go.Proofs.Ytcpnleanjclfjaa
open Go.RowKit Go.Proofs
set_option maxRecDepth 100000
section
variable {a : Act} {o : Oper} {w : World} {x y : Operand} {m n : Int}
theorem exec_eqlI (ho : o.op = .binOp .eql 3 x y 3) (hx : a.eval x = .int .i64 m) (hy : a.eval y = .int .i64 n) {b : Bool} (h : (m == n) = b) : (execOp a.eval o).run Try.prog w = .ok (.value (.bool b)) w := by subst h; exact exec_bin2 ho hx hy rfl (by simp [go_sem])
end
theorem wp_norm {c : Code} {Q : Exit → Act → World → Prop} {a : Act} {w : World} (h : c.wp Try.prog (fun e a' w' => e = Exit.normal ∧ Q e a' w') a w) : c.wp Try.prog Q a w := wp_mono h (fun _ _ _ hh => hh.2)
theorem enterLenC (args : Array Value) (w : World) : (callFunc 17 args).run Try.prog w = .ok (.enter 17 args) w := by kernel_rfl
theorem eqB_self (b : Nat → Int) : eqB b b = true := by unfold eqB; simp
theorem eqP_not (v : Bool) (b : Nat → Int) (n : Int) : (!eqPF v b n v b n) = false := by unfold eqPF; rw [eqB_self]; cases v <;> simp
theorem row_at {m : Nat} {ro : Nat → Rw} {j : Nat} {x : Rw} (h : (rowL m ro)[j]? = some x) : j < m ∧ x = ro j := by
  unfold rowL at h
  rw [List.getElem?_map] at h
  rcases Nat.lt_or_ge j m with hj | hj
  · rw [List.getElem?_range hj] at h
    exact ⟨hj, (Option.some.inj h).symm⟩
  · rw [List.getElem?_eq_none (by simp; omega)] at h
    cases h
set_option maxHeartbeats 32000000 in
theorem lawAll {w : World} {B t m : Nat} {x : Value} {ro : Nat → Rw} (h : TabC w t m ro) (hR : w.ownsRow B 67 19 x m (rX 19 (fun j => roV (ro j)) m)) : Calls Try.prog 22 #[.pointer (some ⟨t, 0, none⟩), x] w fun e w' => e = .returned (.bool true) ∧ Below w.heap.size w w' := by
  have hm64 := h.le
  obtain ⟨p, cap, hxe, hpos⟩ := ownM_shape hR
  subst hxe
  have HRR : Hid (∀ g, p = some ⟨g, 0, none⟩ → ∀ z, Below w.heap.size w z → ∀ k, k < m → ∀ f, f < 19 → z.cell? ⟨g, 19 * k + f, none⟩ = some (roV (ro k) f)) := Hid.mk (fun g e z hz k hk f hf => by
    have hr := ownT_kept hR hz
    rw [e] at hr
    exact own_at hr hk f hf)
  have HPO := Hid.mk hpos
  clear hR hpos
  refine calls_of_wpM Try.func22 rfl ?_
  simp only [Try.ntmps22, List.size_toArray, List.length_cons, List.length_nil, Nat.reduceAdd, Nat.reduceSub, Array.replicate_succ, Array.replicate_zero, List.push_toArray, List.append_toArray, List.nil_append, List.cons_append]
  have n1 := heap_alloc_new w (.cells #[.slice p m cap] 27 (0, 0))
  have b1 := (Below.refl w.heap.size w).alloc (Nat.le_refl _) (.cells #[.slice p m cap] 27 (0, 0))
  have n2 := heap_alloc_new (w.alloc (.cells #[.slice p m cap] 27 (0, 0))) (.cells #[.bool false] 4 (0, 0))
  have b2 := (Below.refl (w.alloc (.cells #[.slice p m cap] 27 (0, 0))).heap.size _).alloc (Nat.le_refl _) (.cells #[.bool false] 4 (0, 0))
  have n1' := bheap b2 n1 (heap_lt n1)
  have b3 := b1.trans (b2.mono b1.size)
  simp only [World.size_alloc] at n2
  clear b1 b2 n1
  go_upto_region 1 with fail
  refine wp_gen (fun u => u.heap[w.heap.size]? = some (.cells #[.slice p m cap] 27 (0, 0)) ∧ u.heap[w.heap.size + 1]? = some (.cells #[.bool false] 4 (0, 0)) ∧ Below w.heap.size w u) ⟨n1', n2, b3⟩ ?_
  clear n1' n2 b3
  rintro w1 ⟨n3, n4, hB1⟩
  obtain ⟨g3, e3⟩ : ∃ g, w.heap.size = g := ⟨_, rfl⟩
  obtain ⟨g4, e4⟩ : ∃ g, g3 + 1 = g := ⟨_, rfl⟩
  have HT0 := Hid.mk h
  clear h
  rw [e3] at n3 n4
  rw [e4] at n4
  simp only [e3, e4]
  go_wp2_with fail
  refine (allC (HT0.out.below hB1)).mono ?_
  rintro e w2 ⟨bs, rfl, hbs, hbl, hG, hB2⟩
  have hBa := hB1.trans (hB2.mono hB1.size)
  have n3a := bheap hB2 n3 (heap_lt n3)
  have n4a := bheap hB2 n4 (heap_lt n4)
  have l4 := heap_lt n4
  clear hB1 n3 n4
  have n6 := heap_alloc_new w2 (.cells #[.int .i64 0] 3 (0, 0))
  have b6 := (Below.refl w2.heap.size w2).alloc (Nat.le_refl _) (.cells #[.int .i64 0] 3 (0, 0))
  have c6 := (one_cell n6).1
  have f6 := (one_cell n6).2
  go_upto_region 5 with (refine wl_value rfl (exec_fne rfl (by rfl) (by rfl)) ?_)
  clear c6 f6
  refine wp_gen (fun u => u.heap[w2.heap.size]? = some (.cells #[.int .i64 0] 3 (0, 0)) ∧ Below w2.heap.size w2 u) ⟨n6, b6⟩ ?_
  clear n6 b6
  rintro w3 ⟨n6, hB3⟩
  obtain ⟨g6, e6⟩ : ∃ g, w2.heap.size = g := ⟨_, rfl⟩
  have l6 := heap_lt n6
  have hG3 := hG.later hB3
  have n3b := bheap hB3 n3a (heap_lt n3a)
  have n4b := bheap hB3 n4a (heap_lt n4a)
  have hBb := hBa.trans (hB3.mono hBa.size)
  have hs2 := hB2.size
  rw [e6] at n6 l6
  simp only [e6]
  have h46 : g4 < g6 := by omega
  have hw6 : w.heap.size ≤ g6 := by omega
  have hA6 : ∀ k, (k = bs ∨ k < w1.heap.size ∧ ¬NoNd w1 k) → k < g6 := by
    rintro k (rfl | ⟨hk, _⟩) <;> omega
  have hsz3 := hB3.size
  clear n3a n4a hBa
  go_wp2_with fail
  refine wp_rangeT (by rfl) enterAll1 hG3 (Below.refl _ _) (fun x => rfl) (fun k hk => by have := hA6 k hk; omega) (fun k => k = g6) (fun k hk => ⟨by omega, fun hA => by have := hA6 k hA; omega⟩) (fun i X => X.heap[g6]? = some (.cells #[.int .i64 (i : Int)] 3 (0, 0))) (fun _ _ => False) (fun i X Y hX hb => bheap hb hX (by omega)) (fun _ _ _ h _ => h) n6 ?rnd ?done (fun _ _ _ _ h => h.elim)
  case rnd =>
    intro lq j x X hlq hlX hx htX hjX
    obtain ⟨hjm, rfl⟩ := row_at hx
    clear hx
    simp only [setPs, encR, List.zip_toArray, List.zip_cons_cons, List.zip_nil_left]
    refine wpIn_seq (regIn (fun ⟨_, _, hq⟩ => hq) rfl ?_)
    go_wp2_with (refine wl_alO rfl rfl zeroPfx ?_; intro gf X1 hgf qf hBf; refine Hid.out ?_)
    refine Hid.mk ?_
    go_wp2_with (refine st_stO rfl rfl isPfx (prV_one _ _ _) qf (by rfl) (by rfl) ?_; intro X3 qf3 of3; refine Hid.out ?_)
    refine Hid.mk ?_
    go_wp2_with fail
    refine regIn (fun ⟨_, _, hq⟩ => hq) rfl ?_
    go_wp2_with fail
    refine ⟨hBf.trans (of3.below hgf), fun X2 hX2 htX2 hjX2 => ?_⟩
    have q2 : SAt X2 gf 37 18 (prV (ro j).v (ro j).b (ro j).n) := qf3.tou hX2 (by omega)
    have hBX : Below w.heap.size w X2 := hBb.trans (tou_below htX2 (fun k hk => by rw [hk]; exact hw6) hBb.size)
    obtain ⟨g, rfl⟩ := HPO.out (by omega)
    have n3X := (htX2.block g3 (heap_lt n3b) (fun e => by omega)).trans n3b
    have HRW : Hid (∀ z, Below X2.heap.size X2 z → ∀ k, k < m → ∀ f, f < 19 → z.cell? ⟨g, 19 * k + f, none⟩ = some (roV (ro k) f)) := Hid.mk (fun z hz => HRR.out g rfl z (hBX.trans (hz.mono hBX.size)))
    have H3 : Hid (∀ z, Below X2.heap.size X2 z → z.cell? ⟨g3, 0, none⟩ = some (.slice (some ⟨g, 0, none⟩) m cap)) := Hid.mk (fun z hz => (one_cell (bheap hz n3X (heap_lt n3X))).1)
    have H6 : Hid (∀ z, Below X2.heap.size X2 z → z.cell? ⟨g6, 0, none⟩ = some (.int .i64 (j : Int))) := Hid.mk (fun z hz => (one_cell (bheap hz hjX2 (heap_lt hjX2))).1)
    have hge : decide ((m : Int) ≤ (j : Int)) = false := decide_eq_false (by omega)
    have l2 := q2.lt
    refine wpIn_block (wpIn_seq (wpIn_seq ?_))
    refine regIn_cut (ro := some lq) 21 rfl (by kernel_rfl) (fun ⟨_, _, hq⟩ => hq) rfl (any_steps (Below X2.heap.size X2) (fun v v' => Below v.heap.size v v') (fun iq vq v0 => match iq with | 0 => vq = .int .i64 (j : Int) | 1 => vq = .slice (some ⟨g, 0, none⟩) m cap | 2 => vq = .int .i64 (m : Int) | 3 => vq = .bool false | 4 => vq = .bool false | 5 => vq = .slice (some ⟨g, 0, none⟩) m cap | 6 => vq = .int .i64 (j : Int) | 7 => vq = .pointer (some ⟨g, 19 * j, none⟩) | 8 => vq = .pointer (some ⟨g, 19 * j + 0, none⟩) | 9 => vq = .agg (SC 18 (prV (ro j).v (ro j).b (ro j).n)) | 10 => vq = .agg (SC 18 (prV (ro j).v (ro j).b (ro j).n)) | 11 => vq = .bool false | 12 => vq = .bool false | 13 => vq = .bool false | 14 => vq = .slice (some ⟨g, 0, none⟩) m cap | 15 => vq = .int .i64 (j : Int) | 16 => vq = .pointer (some ⟨g, 19 * j, none⟩) | 17 => vq = .pointer (some ⟨g, 19 * j + 18, none⟩) | 18 => vq = .int .i64 (ro j).o | 19 => vq = .int .i64 (ro j).o | 20 => vq = .bool false | _ => True)
        [17, 18, 19, 20, 21, 22, 23, 24, 25, 26, 27, 28, 29, 30, 31, 32, 33, 34, 35, 36, 37]
        [(3, .pointer (some ⟨g3, 0, none⟩)), (6, .pointer (some ⟨g6, 0, none⟩)), (7, .pointer (some ⟨gf, 0, none⟩)), (8, .int .i64 (ro j).o)]
        [[], [], [1], [0, 2], [3], [4], [4], [4, 5, 6], [4, 7], [4, 8], [4], [4, 9, 10], [4, 11], [12], [13], [13], [13, 14, 15], [13, 16], [13, 17], [13], [13, 18, 19]]
        (by kernel_rfl) ⟨rfl, rfl, rfl, rfl, trivial⟩ (Below.drew (Below.refl _ _)) (fun v v' h hb => h.trans (hb.mono h.size)) ?_
        ⟨
          (fun Q a1 ww hS fr kn => ⟨trivial, fun K hK => wp_value (exec_ld rfl fr.2.1 (ld_int (H6.out ww hS))) (hK _ _ rfl (Below.refl _ _))⟩),
          (fun Q a1 ww hS fr kn => ⟨trivial, fun K hK => wp_value (exec_ld rfl fr.1 (ld_rows (H3.out ww hS))) (hK _ _ rfl (Below.refl _ _))⟩),
          (fun Q a1 ww hS fr kn => ⟨trivial, fun K hK => wp_value (exec_lenR rfl kn.1) (hK _ _ rfl (Below.refl _ _))⟩),
          (fun Q a1 ww hS fr kn => ⟨trivial, fun K hK => wp_value (exec_geqI rfl kn.1 kn.2.1 hge) (hK _ _ rfl (Below.refl _ _))⟩),
          (fun Q a1 ww hS fr kn => ⟨trivial, fun K hK => wp_value (exec_move rfl kn.1) (hK _ _ rfl (Below.refl _ _))⟩),
          (fun Q a1 ww hS fr kn => ⟨kn.1, fun K hK => wp_value (exec_ld rfl fr.1 (ld_rows (H3.out ww hS))) (hK _ _ rfl (Below.refl _ _))⟩),
          (fun Q a1 ww hS fr kn => ⟨kn.1, fun K hK => wp_value (exec_ld rfl fr.2.1 (ld_int (H6.out ww hS))) (hK _ _ rfl (Below.refl _ _))⟩),
          (fun Q a1 ww hS fr kn => ⟨kn.1, fun K hK => wp_value (exec_ixR (i := j) rfl kn.2.1 kn.2.2.1 hjm) (hK _ _ rfl (Below.refl _ _))⟩),
          (fun Q a1 ww hS fr kn => ⟨kn.1, fun K hK => wp_value (exec_fro (k := 0) rfl kn.2.1 (by decide)) (hK _ _ rfl (Below.refl _ _))⟩),
          (fun Q a1 ww hS fr kn => ⟨kn.1, fun K hK => wp_value (exec_ldP (j := j) rfl kn.2.1 (HRW.out ww hS j hjm)) (hK _ _ rfl (Below.refl _ _))⟩),
          (fun Q a1 ww hS fr kn => ⟨kn.1, fun K hK => wp_value (look_st rfl isPfx (SAt.kept q2 hS) fr.2.2.1) (hK _ _ rfl (Below.refl _ _))⟩),
          (fun Q a1 ww hS fr kn => ⟨kn.1, fun K hK => wp_value (exec_neP rfl kn.2.1 kn.2.2.1 (eqP_not _ _ _)) (hK _ _ rfl (Below.refl _ _))⟩),
          (fun Q a1 ww hS fr kn => ⟨trivial, fun K hK => wp_value (exec_pickF (v := .bool false) rfl kn.1 kn.2.1) (hK _ _ rfl (Below.refl _ _))⟩),
          (fun Q a1 ww hS fr kn => ⟨trivial, fun K hK => wp_value (exec_move rfl kn.1) (hK _ _ rfl (Below.refl _ _))⟩),
          (fun Q a1 ww hS fr kn => ⟨kn.1, fun K hK => wp_value (exec_ld rfl fr.1 (ld_rows (H3.out ww hS))) (hK _ _ rfl (Below.refl _ _))⟩),
          (fun Q a1 ww hS fr kn => ⟨kn.1, fun K hK => wp_value (exec_ld rfl fr.2.1 (ld_int (H6.out ww hS))) (hK _ _ rfl (Below.refl _ _))⟩),
          (fun Q a1 ww hS fr kn => ⟨kn.1, fun K hK => wp_value (exec_ixR (i := j) rfl kn.2.1 kn.2.2.1 hjm) (hK _ _ rfl (Below.refl _ _))⟩),
          (fun Q a1 ww hS fr kn => ⟨kn.1, fun K hK => wp_value (exec_fro (k := 1) rfl kn.2.1 (by decide)) (hK _ _ rfl (Below.refl _ _))⟩),
          (fun Q a1 ww hS fr kn => ⟨kn.1, fun K hK => wp_value (exec_ld rfl kn.2.1 (ld_int (ro_o (HRW.out ww hS j hjm)))) (hK _ _ rfl (Below.refl _ _))⟩),
          (fun Q a1 ww hS fr kn => ⟨kn.1, fun K hK => wp_value (exec_move rfl fr.2.2.2.1) (hK _ _ rfl (Below.refl _ _))⟩),
          (fun Q a1 ww hS fr kn => ⟨kn.1, fun K hK => wp_value (exec_neqI rfl kn.2.1 kn.2.2.1 (by simp)) (hK _ _ rfl (Below.refl _ _))⟩),
          trivial⟩ ?_)
    · intro iq vq u' u'' hh hb
      match iq with
      | 0 | 1 | 2 | 3 | 4 | 5 | 6 | 7 | 8 | 9 | 10 | 11 | 12 | 13 | 14 | 15 | 16 | 17 | 18 | 19 | 20 => exact hh

      | n + 21 => trivial
    intro vs Y hSY hk3
    have e30 : vs 30 = .bool false := hk3 13 (by decide)
    have e37 : vs 37 = .bool false := hk3 20 (by decide)
    clear hk3
    refine spl_mk ?_
    simp only [putAll, Act.put, List.setIfInBounds_toArray, List.set_cons_zero, List.set_cons_succ, List.drop_succ_cons, List.drop_zero, e30, e37]
    clear e30 e37
    refine all_in (fun ⟨_, _, hq⟩ => hq) _ _ _ rfl ?_
    go_wp2_with fail
    refine wpIn_cond_false (by rfl) (wpIn_skip ?_)
    have nY := bheap hSY hjX2 (heap_lt hjX2)
    have c6 := (one_cell nY).1
    have f6 := (one_cell nY).2
    have HZ : Hid (∀ v, v = Value.int .i64 ((j + 1 : Nat) : Int) → (Y.setCell ⟨g6, 0, none⟩ v).heap[g6]? = some (.cells #[.int .i64 ((j + 1 : Nat) : Int)] 3 (0, 0)) ∧ Touch (fun k => k = g6) X2 (Y.setCell ⟨g6, 0, none⟩ v)) := Hid.mk (fun v e => by
      subst e
      exact ⟨one_set nY, (Below.tou hSY (Nat.le_refl _)).tr (touch_only only_set)⟩)
    refine regIn (fun ⟨_, _, hq⟩ => hq) rfl ?_
    go_wp2_with fail
    exact HZ.out _ (by go_num)
  case done =>
    intro D Y hD hjY htY hKD
    have hl : (rowL m ro).length = m := by simp [rowL]
    rw [hl] at hjY
    have hBY : Below w.heap.size w Y := hBb.trans (tou_below htY (fun k hk => by rw [hk]; exact hw6) hBb.size)
    have n3Y := (htY.block g3 (heap_lt n3b) (fun e => by omega)).trans n3b
    have n4Y := (htY.block g4 (heap_lt n4b) (fun e => by omega)).trans n4b
    have hBwY : Below w2.heap.size w2 Y := hB3.trans (tou_below htY (fun k hk => by omega) hB3.size)
    have hYs := htY.size
    have hDg : g6 < D := by omega
    clear n3b n4b hBb htY n6 hG3 hB3
    go_wp2_with fail
    refine wp_rangeT (by rfl) enterAll1 hG hBwY (fun x => rfl) (fun k hk => by have := hA6 k hk; omega) (fun _ => False) (fun k hk => hk.elim) (fun i _ => i = 0) (fun c _ => c = .exit 2) (fun i X Y hX hb => hX) (fun _ _ _ h _ => h) rfl ?rnd2 ?done2 ?stop2
    case rnd2 =>
      intro lq j x X hlq hlX hx htX hjX
      obtain rfl : j = 0 := hjX
      obtain ⟨hm1, rfl⟩ := row_at hx
      clear hx
      simp only [setPs, encR, List.zip_toArray, List.zip_cons_cons, List.zip_nil_left]
      refine regIn (fun ⟨_, _, hq⟩ => hq) rfl ?_
      go_wp2_with (refine wl_alO rfl rfl zeroPfx ?_; intro gf X1 hgf qf hBf; refine Hid.out ?_)
      refine Hid.mk ?_
      go_wp2_with (refine st_stO rfl rfl isPfx (prV_one _ _ _) qf (by rfl) (by rfl) ?_; intro X3 qf3 of3; refine Hid.out ?_)
      refine Hid.mk ?_
      go_wp2_with fail
      refine ⟨hBf.trans (of3.below hgf), fun X2 hX2 htX2 => ?_⟩
      have q2 : SAt X2 gf 37 18 (prV (ro 0).v (ro 0).b (ro 0).n) := qf3.tou hX2 (by omega)
      have hBX : Below w.heap.size w X2 := hBY.trans (tou_below htX2 (fun k hk => hk.elim) hBY.size)
      obtain ⟨g, rfl⟩ := HPO.out (by omega)
      have n3X := (htX2.block g3 (heap_lt n3Y) (fun e => e)).trans n3Y
      have HRW : Hid (∀ z, Below X2.heap.size X2 z → ∀ k, k < m → ∀ f, f < 19 → z.cell? ⟨g, 19 * k + f, none⟩ = some (roV (ro k) f)) := Hid.mk (fun z hz => HRR.out g rfl z (hBX.trans (hz.mono hBX.size)))
      have H3 : Hid (∀ z, Below X2.heap.size X2 z → z.cell? ⟨g3, 0, none⟩ = some (.slice (some ⟨g, 0, none⟩) m cap)) := Hid.mk (fun z hz => (one_cell (bheap hz n3X (heap_lt n3X))).1)
      have hm0 : ((m : Int) == 0) = false := beq_eq_false_iff_ne.2 (by omega)
      refine wpIn_block (wpIn_seq (wpIn_seq ?_))
      refine regIn_cut (ro := some lq) 10 rfl (by kernel_rfl) (fun ⟨_, _, hq⟩ => hq) rfl (any_steps (Below X2.heap.size X2) (fun v v' => Below v.heap.size v v') (fun iq vq v0 => match iq with | 0 => vq = .slice (some ⟨g, 0, none⟩) m cap | 1 => vq = .int .i64 (m : Int) | 2 => vq = .bool false | 3 => vq = .bool false | 4 => vq = .slice (some ⟨g, 0, none⟩) m cap | 5 => vq = .pointer (some ⟨g, 19 * 0, none⟩) | 6 => vq = .pointer (some ⟨g, 19 * 0 + 0, none⟩) | 7 => vq = .agg (SC 18 (prV (ro 0).v (ro 0).b (ro 0).n)) | 8 => vq = .agg (SC 18 (prV (ro 0).v (ro 0).b (ro 0).n)) | 9 => vq = .bool false | _ => True)
          [44, 45, 46, 47, 48, 49, 50, 51, 52, 53]
          [(3, .pointer (some ⟨g3, 0, none⟩)), (9, .pointer (some ⟨gf, 0, none⟩))]
          [[], [0], [1], [2], [3], [3, 4], [3, 5], [3, 6], [3], [3, 7, 8]]
          (by kernel_rfl) ⟨rfl, rfl, trivial⟩ (Below.drew (Below.refl _ _)) (fun v v' h hb => h.trans (hb.mono h.size)) ?_
          ⟨
            (fun Q a1 ww hS fr kn => ⟨trivial, fun K hK => wp_value (exec_ld rfl fr.1 (ld_rows (H3.out ww hS))) (hK _ _ rfl (Below.refl _ _))⟩),
            (fun Q a1 ww hS fr kn => ⟨trivial, fun K hK => wp_value (exec_lenR rfl kn.1) (hK _ _ rfl (Below.refl _ _))⟩),
            (fun Q a1 ww hS fr kn => ⟨trivial, fun K hK => wp_value (exec_eqlI rfl kn.1 rfl hm0) (hK _ _ rfl (Below.refl _ _))⟩),
            (fun Q a1 ww hS fr kn => ⟨trivial, fun K hK => wp_value (exec_move rfl kn.1) (hK _ _ rfl (Below.refl _ _))⟩),
            (fun Q a1 ww hS fr kn => ⟨kn.1, fun K hK => wp_value (exec_ld rfl fr.1 (ld_rows (H3.out ww hS))) (hK _ _ rfl (Below.refl _ _))⟩),
            (fun Q a1 ww hS fr kn => ⟨kn.1, fun K hK => wp_value (exec_ixR (i := 0) rfl kn.2.1 rfl hm1) (hK _ _ rfl (Below.refl _ _))⟩),
            (fun Q a1 ww hS fr kn => ⟨kn.1, fun K hK => wp_value (exec_fro (k := 0) rfl kn.2.1 (by decide)) (hK _ _ rfl (Below.refl _ _))⟩),
            (fun Q a1 ww hS fr kn => ⟨kn.1, fun K hK => wp_value (exec_ldP (j := 0) rfl kn.2.1 (HRW.out ww hS 0 hm1)) (hK _ _ rfl (Below.refl _ _))⟩),
            (fun Q a1 ww hS fr kn => ⟨kn.1, fun K hK => wp_value (look_st rfl isPfx (SAt.kept q2 hS) fr.2.1) (hK _ _ rfl (Below.refl _ _))⟩),
            (fun Q a1 ww hS fr kn => ⟨kn.1, fun K hK => wp_value (exec_neP rfl kn.2.1 kn.2.2.1 (eqP_not _ _ _)) (hK _ _ rfl (Below.refl _ _))⟩),
            trivial⟩ ?_)
      · intro iq vq u' u'' hh hb
        match iq with
        | 0 | 1 | 2 | 3 | 4 | 5 | 6 | 7 | 8 | 9 => exact hh

        | n + 10 => trivial
      intro vs Y3 hSY hk3
      have e47 : vs 47 = .bool false := hk3 3 (by decide)
      have e53 : vs 53 = .bool false := hk3 9 (by decide)
      clear hk3
      refine spl_mk ?_
      simp only [putAll, Act.put, List.setIfInBounds_toArray, List.set_cons_zero, List.set_cons_succ, List.drop_succ_cons, List.drop_zero, e47, e53]
      clear e47 e53
      refine all_in (fun ⟨_, _, hq⟩ => hq) _ _ _ rfl ?_
      go_wp2_with fail
      refine wpIn_cond_false (by rfl) (wpIn_skip ?_)
      refine wpIn_exit ?_
      exact ⟨rfl, Below.tou hSY (Nat.le_refl _)⟩
    case done2 =>
      intro E2 Z hE2 _ htZ hKE
      have hBZ : Below w.heap.size w Z := hBY.trans (tou_below htZ (fun k hk => hk.elim) hBY.size)
      have n3Z := (htZ.block g3 (heap_lt n3Y) (fun e => e)).trans n3Y
      have n4Z := (htZ.block g4 (heap_lt n4Y) (fun e => e)).trans n4Y
      have n6Z := (htZ.block g6 (heap_lt hjY) (fun e => e)).trans hjY
      have nDZ := (htZ.block D (heap_lt hKD) (fun e => e)).trans hKD
      have H3 : Hid (∀ z, Below Z.heap.size Z z → z.cell? ⟨g3, 0, none⟩ = some (.slice p m cap)) := Hid.mk (fun z hz => (one_cell (bheap hz n3Z (heap_lt n3Z))).1)
      have H6 : Hid (∀ z, Below Z.heap.size Z z → z.cell? ⟨g6, 0, none⟩ = some (.int .i64 (m : Int))) := Hid.mk (fun z hz => (one_cell (bheap hz n6Z (heap_lt n6Z))).1)
      have HL : Hid (∀ z, Below Z.heap.size Z z → Calls Try.prog 17 #[.pointer (some ⟨t, 0, none⟩)] z fun e w' => e = .returned (.int .i64 (m : Int)) ∧ Below z.heap.size z w') := Hid.mk (fun z hz => lenC (HT0.out.below (hBZ.trans (hz.mono hBZ.size))))
      go_upto_region 15 with fail
      refine wp_norm ?_
      refine (wpIn_wide (n := 0)).1 ?_
      show Code.wpIn (Wd none) 0 _ _ _ _ _
      refine regIn_cut (ro := none) 10 rfl (by kernel_rfl) (fun ⟨_, _, hq⟩ => by cases hq.1) rfl (any_steps (Below Z.heap.size Z) (fun v v' => Below v.heap.size v v') (fun iq vq v0 => match iq with | 0 => vq = .int .i64 (m : Int) | 1 => vq = .slice p m cap | 2 => vq = .int .i64 (m : Int) | 3 => vq = .bool true | 4 => vq = .bool true | 5 => vq = .pointer (some ⟨t, 0, none⟩) | 6 => vq = .int .i64 (m : Int) | 7 => vq = .int .i64 (m : Int) | 8 => vq = .bool true | 9 => vq = .bool true | _ => True)
          [55, 56, 57, 58, 59, 60, 61, 62, 63, 64]
          [(0, .pointer (some ⟨t, 0, none⟩)), (3, .pointer (some ⟨g3, 0, none⟩)), (6, .pointer (some ⟨g6, 0, none⟩))]
          [[], [], [1], [0, 2], [3], [4], [4, 5], [4], [4, 6, 7], [4, 8]]
          (by kernel_rfl) ⟨rfl, rfl, rfl, trivial⟩ (Below.drew (Below.refl _ _)) (fun v v' h hb => h.trans (hb.mono h.size)) ?_
          ⟨
            (fun Q a1 ww hS fr kn => ⟨trivial, fun K hK => wp_value (exec_ld rfl fr.2.2.1 (ld_int (H6.out ww hS))) (hK _ _ rfl (Below.refl _ _))⟩),
            (fun Q a1 ww hS fr kn => ⟨trivial, fun K hK => wp_value (exec_ld rfl fr.2.1 (ld_rows (H3.out ww hS))) (hK _ _ rfl (Below.refl _ _))⟩),
            (fun Q a1 ww hS fr kn => ⟨trivial, fun K hK => wp_value (exec_lenR rfl kn.1) (hK _ _ rfl (Below.refl _ _))⟩),
            (fun Q a1 ww hS fr kn => ⟨trivial, fun K hK => wp_value (exec_eqlI rfl kn.1 kn.2.1 (by simp)) (hK _ _ rfl (Below.refl _ _))⟩),
            (fun Q a1 ww hS fr kn => ⟨trivial, fun K hK => wp_value (exec_move rfl kn.1) (hK _ _ rfl (Below.refl _ _))⟩),
            (fun Q a1 ww hS fr kn => ⟨kn.1, fun K hK => wp_value (exec_move rfl fr.1) (hK _ _ rfl (Below.refl _ _))⟩),
            (fun Q a1 ww hS fr kn => ⟨kn.1, fun K hK => stepc enterLenC rfl (args1 kn.2.1) (HL.out ww hS) (fun w1 hr => hK _ w1 rfl hr)⟩),
            (fun Q a1 ww hS fr kn => ⟨kn.1, fun K hK => wp_value (exec_ld rfl fr.2.2.1 (ld_int (H6.out ww hS))) (hK _ _ rfl (Below.refl _ _))⟩),
            (fun Q a1 ww hS fr kn => ⟨kn.1, fun K hK => wp_value (exec_eqlI rfl kn.2.1 kn.2.2.1 (by simp)) (hK _ _ rfl (Below.refl _ _))⟩),
            (fun Q a1 ww hS fr kn => ⟨trivial, fun K hK => wp_value (exec_pick (v := .bool true) rfl kn.1 kn.2.1) (hK _ _ rfl (Below.refl _ _))⟩),
            trivial⟩ ?_)
      · intro iq vq u' u'' hh hb
        match iq with
        | 0 | 1 | 2 | 3 | 4 | 5 | 6 | 7 | 8 | 9 => exact hh
      
        | n + 10 => trivial
      intro vs Y3 hS3 hk3
      have e64 : vs 64 = .bool true := hk3 9 (by decide)
      clear hk3
      refine spl_mk ?_
      simp only [putAll, Act.put, List.setIfInBounds_toArray, List.set_cons_zero, List.set_cons_succ, List.drop_succ_cons, List.drop_zero, e64]
      clear e64
      refine all_in (fun ⟨_, _, hq⟩ => by cases hq.1) _ _ _ rfl ?_
      have n4W := bheap hS3 n4Z (heap_lt n4Z)
      have nDW := bheap hS3 nDZ (heap_lt nDZ)
      have nEW := bheap hS3 hKE (heap_lt hKE)
      have c4 := (one_cell n4W).1
      have f4 := (one_cell n4W).2
      have hDE : D < E2 := by have := heap_lt hKD; omega
      have o7 : Only g4 Y3 (Y3.setCell ⟨g4, 0, none⟩ (.bool true)) := only_set
      have HZ : Hid ((Y3.setCell ⟨g4, 0, none⟩ (.bool true)).heap[g4]? = some (.cells #[.bool true] 4 (0, 0)) ∧ (Y3.setCell ⟨g4, 0, none⟩ (.bool true)).heap[D]? = some (.deferred (some [])) ∧ (Y3.setCell ⟨g4, 0, none⟩ (.bool true)).heap[E2]? = some (.deferred (some [])) ∧ Below w.heap.size w (Y3.setCell ⟨g4, 0, none⟩ (.bool true))) := Hid.mk ⟨one_set n4W, (o7.block D (by omega)).trans nDW, (o7.block E2 (by omega)).trans nEW, (hBZ.trans (hS3.mono hBZ.size)).trans (o7.below (by omega))⟩
      clear o7
      go_wp2_with fail
      refine postM_ret [E2, D] rfl (fun F hF => by simp at hF; rcases hF with rfl | rfl; exact HZ.out.2.2.1; exact HZ.out.2.1) (by simp; omega) (fun w' ht' hs' => ?_)
      obtain ⟨z1, z2, z4, z3⟩ := HZ.out
      exact ⟨_, res_cb rfl (by rfl) ((ht'.block g4 (heap_lt z1) (fun e => by simp at e; omega)).trans z1), rfl, z3.trans (tou_below ht' (fun k hk => by simp at hk; omega) z3.size)⟩

    case stop2 =>
      rintro E2 c Z hE2 rfl htZ hKE
      have hBZ : Below w.heap.size w Z := hBY.trans (tou_below htZ (fun k hk => hk.elim) hBY.size)
      have n3Z := (htZ.block g3 (heap_lt n3Y) (fun e => e)).trans n3Y
      have n4Z := (htZ.block g4 (heap_lt n4Y) (fun e => e)).trans n4Y
      have n6Z := (htZ.block g6 (heap_lt hjY) (fun e => e)).trans hjY
      have nDZ := (htZ.block D (heap_lt hKD) (fun e => e)).trans hKD
      have H3 : Hid (∀ z, Below Z.heap.size Z z → z.cell? ⟨g3, 0, none⟩ = some (.slice p m cap)) := Hid.mk (fun z hz => (one_cell (bheap hz n3Z (heap_lt n3Z))).1)
      have H6 : Hid (∀ z, Below Z.heap.size Z z → z.cell? ⟨g6, 0, none⟩ = some (.int .i64 (m : Int))) := Hid.mk (fun z hz => (one_cell (bheap hz n6Z (heap_lt n6Z))).1)
      have HL : Hid (∀ z, Below Z.heap.size Z z → Calls Try.prog 17 #[.pointer (some ⟨t, 0, none⟩)] z fun e w' => e = .returned (.int .i64 (m : Int)) ∧ Below z.heap.size z w') := Hid.mk (fun z hz => lenC (HT0.out.below (hBZ.trans (hz.mono hBZ.size))))
      go_upto_region 15 with fail
      refine wp_norm ?_
      refine (wpIn_wide (n := 0)).1 ?_
      show Code.wpIn (Wd none) 0 _ _ _ _ _
      refine regIn_cut (ro := none) 10 rfl (by kernel_rfl) (fun ⟨_, _, hq⟩ => by cases hq.1) rfl (any_steps (Below Z.heap.size Z) (fun v v' => Below v.heap.size v v') (fun iq vq v0 => match iq with | 0 => vq = .int .i64 (m : Int) | 1 => vq = .slice p m cap | 2 => vq = .int .i64 (m : Int) | 3 => vq = .bool true | 4 => vq = .bool true | 5 => vq = .pointer (some ⟨t, 0, none⟩) | 6 => vq = .int .i64 (m : Int) | 7 => vq = .int .i64 (m : Int) | 8 => vq = .bool true | 9 => vq = .bool true | _ => True)
          [55, 56, 57, 58, 59, 60, 61, 62, 63, 64]
          [(0, .pointer (some ⟨t, 0, none⟩)), (3, .pointer (some ⟨g3, 0, none⟩)), (6, .pointer (some ⟨g6, 0, none⟩))]
          [[], [], [1], [0, 2], [3], [4], [4, 5], [4], [4, 6, 7], [4, 8]]
          (by kernel_rfl) ⟨rfl, rfl, rfl, trivial⟩ (Below.drew (Below.refl _ _)) (fun v v' h hb => h.trans (hb.mono h.size)) ?_
          ⟨
            (fun Q a1 ww hS fr kn => ⟨trivial, fun K hK => wp_value (exec_ld rfl fr.2.2.1 (ld_int (H6.out ww hS))) (hK _ _ rfl (Below.refl _ _))⟩),
            (fun Q a1 ww hS fr kn => ⟨trivial, fun K hK => wp_value (exec_ld rfl fr.2.1 (ld_rows (H3.out ww hS))) (hK _ _ rfl (Below.refl _ _))⟩),
            (fun Q a1 ww hS fr kn => ⟨trivial, fun K hK => wp_value (exec_lenR rfl kn.1) (hK _ _ rfl (Below.refl _ _))⟩),
            (fun Q a1 ww hS fr kn => ⟨trivial, fun K hK => wp_value (exec_eqlI rfl kn.1 kn.2.1 (by simp)) (hK _ _ rfl (Below.refl _ _))⟩),
            (fun Q a1 ww hS fr kn => ⟨trivial, fun K hK => wp_value (exec_move rfl kn.1) (hK _ _ rfl (Below.refl _ _))⟩),
            (fun Q a1 ww hS fr kn => ⟨kn.1, fun K hK => wp_value (exec_move rfl fr.1) (hK _ _ rfl (Below.refl _ _))⟩),
            (fun Q a1 ww hS fr kn => ⟨kn.1, fun K hK => stepc enterLenC rfl (args1 kn.2.1) (HL.out ww hS) (fun w1 hr => hK _ w1 rfl hr)⟩),
            (fun Q a1 ww hS fr kn => ⟨kn.1, fun K hK => wp_value (exec_ld rfl fr.2.2.1 (ld_int (H6.out ww hS))) (hK _ _ rfl (Below.refl _ _))⟩),
            (fun Q a1 ww hS fr kn => ⟨kn.1, fun K hK => wp_value (exec_eqlI rfl kn.2.1 kn.2.2.1 (by simp)) (hK _ _ rfl (Below.refl _ _))⟩),
            (fun Q a1 ww hS fr kn => ⟨trivial, fun K hK => wp_value (exec_pick (v := .bool true) rfl kn.1 kn.2.1) (hK _ _ rfl (Below.refl _ _))⟩),
            trivial⟩ ?_)
      · intro iq vq u' u'' hh hb
        match iq with
        | 0 | 1 | 2 | 3 | 4 | 5 | 6 | 7 | 8 | 9 => exact hh
      
        | n + 10 => trivial
      intro vs Y3 hS3 hk3
      have e64 : vs 64 = .bool true := hk3 9 (by decide)
      clear hk3
      refine spl_mk ?_
      simp only [putAll, Act.put, List.setIfInBounds_toArray, List.set_cons_zero, List.set_cons_succ, List.drop_succ_cons, List.drop_zero, e64]
      clear e64
      refine all_in (fun ⟨_, _, hq⟩ => by cases hq.1) _ _ _ rfl ?_
      have n4W := bheap hS3 n4Z (heap_lt n4Z)
      have nDW := bheap hS3 nDZ (heap_lt nDZ)
      have nEW := bheap hS3 hKE (heap_lt hKE)
      have c4 := (one_cell n4W).1
      have f4 := (one_cell n4W).2
      have hDE : D < E2 := by have := heap_lt hKD; omega
      have o7 : Only g4 Y3 (Y3.setCell ⟨g4, 0, none⟩ (.bool true)) := only_set
      have HZ : Hid ((Y3.setCell ⟨g4, 0, none⟩ (.bool true)).heap[g4]? = some (.cells #[.bool true] 4 (0, 0)) ∧ (Y3.setCell ⟨g4, 0, none⟩ (.bool true)).heap[D]? = some (.deferred (some [])) ∧ (Y3.setCell ⟨g4, 0, none⟩ (.bool true)).heap[E2]? = some (.deferred (some [])) ∧ Below w.heap.size w (Y3.setCell ⟨g4, 0, none⟩ (.bool true))) := Hid.mk ⟨one_set n4W, (o7.block D (by omega)).trans nDW, (o7.block E2 (by omega)).trans nEW, (hBZ.trans (hS3.mono hBZ.size)).trans (o7.below (by omega))⟩
      clear o7
      go_wp2_with fail
      refine postM_ret [E2, D] rfl (fun F hF => by simp at hF; rcases hF with rfl | rfl; exact HZ.out.2.2.1; exact HZ.out.2.1) (by simp; omega) (fun w' ht' hs' => ?_)
      obtain ⟨z1, z2, z4, z3⟩ := HZ.out
      exact ⟨_, res_cb rfl (by rfl) ((ht'.block g4 (heap_lt z1) (fun e => by simp at e; omega)).trans z1), rfl, z3.trans (tou_below ht' (fun k hk => by simp at hk; omega) z3.size)⟩
end Go.Proofs.Ytcpnleanjclfjaa
