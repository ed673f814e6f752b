/-
  Own text. RouteNil, walked.
-/
import Derived.Test.YtcpnleanjclfjaaJ6
import Derived.Test.YtcpnleanjclfjaaRows
import Derived.ChangeSlices
import Derived.Deep.Slices
import Derived.ChangeSame
import Derived.OpenShut
import Derived.ProofKit
import Derived.Stop.Joined
namespace Go.Proofs.Ytcpnleanjclfjaa
open Go.RowKit Go.Proofs
set_option maxRecDepth 100000
theorem res_cb {fn : Func} {p : Tmp} (h : fn.results = #[.cell p 4]) {tmps : Array Value} {w : World} {g : Nat} {y : Bool} (hp : tmps.getD p undef = .pointer (some ⟨g, 0, none⟩)) (hg : w.heap[g]? = some (.cells #[.bool y] 4 (0, 0))) : (results fn tmps).run Try.prog w = .ok (.bool y) w := by
  have hp' : tmps[p]?.getD undef = .pointer (some ⟨g, 0, none⟩) := by simpa using hp
  simp [results, h, hp', asAddr, go_sem, (one_cell hg).1]
theorem run_fne (bs : Nat) (w : World) : (binOp .eql 31 (.func (.func 25) #[] #[.pointer (some ⟨bs, 0, none⟩)]) .nilFunc).run Try.prog w = .ok (.bool false) w := by kernel_rfl
theorem exec_fne {a : Act} {o : Oper} {w : World} {x y : Operand} (ho : o.op = .binOp .eql 31 x y 31) {bs : Nat} (hx : a.eval x = .func (.func 25) #[] #[.pointer (some ⟨bs, 0, none⟩)]) (hy : a.eval y = .nilFunc) : (execOp a.eval o).run Try.prog w = .ok (.value (.bool false)) w := by
  refine exec_bin ho (by simp [go_sem]) hx hy (run_fne bs w)
theorem tab_box {w w1 w2 : World} {t m g : Nat} {ro : Nat → Rw} {ty : TypeId} {n : Nat} {V : Nat → Value} (h : TabC w t m ro) (hB : Below w.heap.size w w1) (q : SAt w1 g ty n V) (hg : w.heap.size ≤ g) (hty : ty ≠ 72) (o : Only g w1 w2) : TabC w2 t m ro :=
  (h.below hB).tou (touch_only o) (fun k hk => by
    subst hk
    have := h.lt
    refine ⟨by omega, fun U hU => ?_⟩
    have h1 := q.symm.trans hU
    simp at h1
    exact hty h1.2)
theorem tab_one {w w2 : World} {t m g : Nat} {ro : Nat → Rw} {ty : TypeId} {v : Value} (h : TabC w t m ro) (q : w.heap[g]? = some (.cells #[v] ty (0, 0))) (hty : ty ≠ 58) (hty2 : ty ≠ 72) (o : Only g w w2) : TabC w2 t m ro :=
  h.tou (touch_only o) (fun k hk => by
    subst hk
    refine ⟨fun e => ?_, fun U hU => ?_⟩
    · subst e
      obtain ⟨U, hU⟩ := h.blk
      have h1 := q.symm.trans hU
      simp at h1
      exact hty h1.2
    · have h1 := q.symm.trans hU
      simp at h1
      exact hty2 h1.2)
theorem nl_r : rightF false (fourB 1 1) 8 = true := by kernel_rfl
theorem nl_E : putE awR0 0 false (whB (fourB 1 1) 8) 8 = 0 := by kernel_rfl
theorem nl_M : putM awR0 0 false (whB (fourB 1 1) 8) 8 = 1 := by kernel_rfl
theorem find_empty (ro : Nat → Rw) (v : Bool) (b : Nat → Int) : findA ro v b 0 = .tuple #[.int .i64 0, .agg (SC 18 (prV false (fun _ => 0) 0)), .bool false] := by
  unfold findA findF
  rfl
set_option maxHeartbeats 32000000 in
theorem nil_walk (v : Bool) (b : Nat → Int) (n : Int) (w : World) (hb : Byts 16 b) : Calls Try.prog 6 #[.agg (SC 18 (prV v b n))] w fun e w' => e = .returned (.bool true) ∧ Below w.heap.size w w' := by
  refine calls_of_wpM Try.func6 rfl ?_
  simp only [Try.ntmps6, List.size_toArray, List.length_cons, List.length_nil, Nat.reduceAdd, Nat.reduceSub, Array.replicate_succ, Array.replicate_zero, List.push_toArray, List.append_toArray, List.nil_append, List.cons_append]
  go_wp2_with (refine wl_boxO rfl rfl isPfx (by rfl) ?_; intro gp w1 hgp q1 hB1; refine Hid.out ?_)
  refine Hid.mk ?_
  have n2 := heap_alloc_new w1 (.cells #[.bool false] 4 (0, 0))
  have b2 := (Below.refl w1.heap.size w1).alloc (Nat.le_refl _) (.cells #[.bool false] 4 (0, 0))
  go_upto_region 1 with fail
  refine wp_gen (fun u => u.heap[w1.heap.size]? = some (.cells #[.bool false] 4 (0, 0)) ∧ Below w1.heap.size w1 u ∧ w1.heap.size < u.heap.size) ⟨n2, b2, by simp⟩ ?_
  clear n2 b2
  rintro w2 ⟨n2, hB2, hs2⟩
  obtain ⟨g2, e2⟩ : ∃ g, w1.heap.size = g := ⟨_, rfl⟩
  have hp2 : gp < g2 := by rw [← e2]; exact SAt.lt q1
  have hg2 : w.heap.size ≤ g2 := by rw [← e2]; exact hB1.size
  have q2 := SAt.kept q1 hB2
  have hBa := hB1.trans (hB2.mono hB1.size)
  rw [e2] at n2 hs2
  simp only [e2]
  clear q1 hB1 hB2 e2
  go_wp2_with (first | (refine wl_value rfl (exec_tb0 rfl) ?_) | (refine wl_boxO rfl rfl isTb (by rfl) ?_; intro t w3 ht qt hB3; refine Hid.out ?_))
  refine Hid.mk ?_
  have hT3 := zeroC awR0 qt
  have q3 := SAt.kept q2 hB3
  have n3 := bheap hB3 n2 hs2
  have hBb := hBa.trans (hB3.mono hBa.size)
  have htw : w.heap.size ≤ t := by have := hBa.size; omega
  clear q2 n2 hB3 hBa qt hs2
  go_wp2_with (refine wl_value rfl (look_st rfl isPfx q3 (by rfl)) ?_)
  refine (drop_none v b n w3).mono ?_
  rintro e w4 ⟨rfl, hB4⟩
  have hT4 := hT3.below hB4
  have q4 := SAt.kept q3 hB4
  have n4 := bheap hB4 n3 (heap_lt n3)
  have hBc := hBb.trans (hB4.mono hBb.size)
  clear hT3 q3 n3 hB4 hBb
  go_wp2_with (first | (refine wl_value rfl (exec_ext rfl (by rfl) rfl) ?_) | (refine wl_value rfl (exec_fpx rfl (by rfl)) ?_) | (refine wl_value rfl (exec_ldA rfl q4 (by rfl)) ?_))
  refine (find_none v b w4).mono ?_
  rintro e w5 ⟨rfl, hB5⟩
  have hT5 := hT4.below hB5
  have q5 := SAt.kept q4 hB5
  have n5 := bheap hB5 n4 (heap_lt n4)
  have hBd := hBc.trans (hB5.mono hBc.size)
  clear hT4 q4 n4 hB5 hBc
  go_wp2_with (first | (refine wl_value rfl (exec_ext rfl (by rfl) rfl) ?_) | (refine wl_alO rfl rfl zeroPfx ?_; intro g8 wA hgA qA hBA; refine Hid.out ?_))
  refine Hid.mk ?_
  go_wp2_with (refine st_stO rfl rfl isPfx (prV_one _ _ _) qA (by rfl) (by rfl) ?_; intro wB qB oB; refine Hid.out ?_)
  refine Hid.mk ?_
  have hTB := tab_box hT5 hBA qA hgA (by decide) oB
  have q6 := (SAt.kept q5 hBA).only oB (by have := SAt.lt q5; omega)
  have n6 := (oB.block g2 (by have := heap_lt n5; omega)).trans (bheap hBA n5 (heap_lt n5))
  have hBe := (hBd.trans (hBA.mono hBd.size)).trans (oB.below (by have := hBd.size; omega))
  clear hT5 q5 n5 hBA qA oB hBd qB hgA
  go_wp2_with fail
  refine (allC_none wB).mono ?_
  rintro e w7 ⟨bs, rfl, hbs, hbl, hG, hB7⟩
  have hT7 := hTB.below hB7
  have q7 := SAt.kept q6 hB7
  have n7 := bheap hB7 n6 (heap_lt n6)
  have hBf := hBe.trans (hB7.mono hBe.size)
  have hbw : w.heap.size ≤ bs := by have := hBe.size; omega
  have hb2 : g2 < bs := by have := heap_lt n6; omega
  clear hTB q6 n6 hB7 hBe hbs
  go_wp2_with (first | (refine wl_value rfl (exec_fpx rfl (by rfl)) ?_) | (refine wl_value rfl (exec_ldA rfl q7 (by rfl)) ?_))
  refine (findC hT7 v b hb).mono ?_
  rintro e w8 ⟨rfl, hB8⟩
  rw [find_empty]
  have hT8 := hT7.below hB8
  have q8 := SAt.kept q7 hB8
  have n8 := bheap hB8 n7 (heap_lt n7)
  have hBg := hBf.trans (hB8.mono hBf.size)
  have hG8 := hG.later (hB8.mono (Nat.le_refl _))
  have hbl8 : bs < w8.heap.size := by have := hB8.size; omega
  clear hT7 q7 n7 hB8 hBf hG hbl
  go_wp2_with (first | (refine wl_value rfl (exec_ext rfl (by rfl) rfl) ?_) | (refine wl_alO rfl rfl zeroPfx ?_; intro gC wC hgC qC hBC; refine Hid.out ?_))
  refine Hid.mk ?_
  go_wp2_with (refine st_stO rfl rfl isPfx (prV_one _ _ _) qC (by rfl) (by rfl) ?_; intro wD qD oD; refine Hid.out ?_)
  refine Hid.mk ?_
  have hTD := tab_box hT8 hBC qC hgC (by decide) oD
  have q9 := (SAt.kept q8 hBC).only oD (by have := SAt.lt q8; omega)
  have n9 := (oD.block g2 (by have := heap_lt n8; omega)).trans (bheap hBC n8 (heap_lt n8))
  have hBd8 : Below w8.heap.size w8 wD := hBC.trans (oD.below hgC)
  have hBh := hBg.trans (hBd8.mono hBg.size)
  have hG9 := hG8.later hBd8
  have hbl9 : bs < wD.heap.size := by have := hBd8.size; omega
  clear hT8 q8 n8 hBC qC oD hBg qD hgC hG8 hBd8 hbl8
  go_wp2_with (refine wl_value rfl (exec_fne rfl (by rfl) (by rfl)) ?_)
  refine wp_rangeT (by rfl) enterAll1 hG9 (Below.refl _ _) (fun x => rfl) (fun k hk => by rw [hk]; exact hbl9) (fun _ => False) (fun k hk => hk.elim) (fun _ _ => True) (fun _ _ => False) (fun _ _ _ _ _ => trivial) (fun _ _ _ h _ => h) trivial ?round ?done (fun _ _ _ _ h => h.elim)
  case round =>
    intro l i x X hl hlX hx
    simp at hx
  case done =>
    rintro D Y hD _ hty hKD
    have hTY : TabC Y t 0 awR0 := hTD.tou hty (fun k hk => hk.elim)
    have qY : SAt Y gp 37 18 (prV v b n) := q9.block (hty.block _ q9.lt (fun h => h))
    have nY := (hty.block g2 (heap_lt n9) (fun h => h)).trans n9
    have hBi : Below w.heap.size w Y := hBh.trans (tou_below hty (fun k hk => hk.elim) hBh.size)
    have hDg : g2 < D := by have := heap_lt n9; omega
    have hDw : w.heap.size ≤ D := by have := hBh.size; omega
    clear hTD q9 n9 hBh hty
    go_wp2_with fail
    refine (awake_run Y).mono ?_
    rintro e y1 ⟨rfl, hC1⟩
    have hT1 := hTY.below hC1
    have qy1 := SAt.kept qY hC1
    have ny1 := bheap hC1 nY (heap_lt nY)
    have nd1 := bheap hC1 hKD (heap_lt hKD)
    have hBj := hBi.trans (hC1.mono hBi.size)
    clear hTY qY nY hKD hBi hC1
    go_wp2_with (refine wl_value rfl (look_st rfl isPfx qy1 (by rfl)) ?_)
    refine (put_none v b n 1 y1).mono ?_
    rintro e y2 ⟨rfl, hC2⟩
    have hT2 := hT1.below hC2
    have ny2 := bheap hC2 ny1 (heap_lt ny1)
    have nd2 := bheap hC2 nd1 (heap_lt nd1)
    have hBk := hBj.trans (hC2.mono hBj.size)
    clear hT1 qy1 ny1 nd1 hBj hC2
    go_wp2_with fail
    refine (len_none y2).mono ?_
    rintro e y3 ⟨rfl, hC3⟩
    have hT3 := hT2.below hC3
    have ny3 := bheap hC3 ny2 (heap_lt ny2)
    have nd3 := bheap hC3 nd2 (heap_lt nd2)
    have hBl := hBk.trans (hC3.mono hBk.size)
    clear hT2 ny2 nd2 hBk hC3
    go_wp2_with fail
    refine (four_run 1 1 8 y3).mono ?_
    rintro e y4 ⟨rfl, hC4⟩
    have hT4 := hT3.below hC4
    have ny4 := bheap hC4 ny3 (heap_lt ny3)
    have nd4 := bheap hC4 nd3 (heap_lt nd3)
    have hBm := hBl.trans (hC4.mono hBl.size)
    clear hT3 ny3 nd3 hBl hC4
    go_wp2_with fail
    refine (putC hT4 false (fourB 1 1) 8 1 (four_byts (by omega) (by omega)) nl_r).mono ?_
    rintro e y5 ⟨rfl, hT5, hX5⟩
    rw [nl_E]
    rw [nl_M] at hT5
    have hne : ∀ {k : Nat} {o : Obj}, y4.heap[k]? = some o → k ≠ t → y5.heap[k]? = some o := fun {k o} h1 h2 => (hX5.block k (heap_lt h1) h2).trans h1
    have htl : t ≠ g2 := fun e => by
      obtain ⟨U, hU⟩ := hT4.blk
      rw [e] at hU
      have h1 := ny4.symm.trans hU
      simp at h1
    have htd : t ≠ D := fun e => by
      obtain ⟨U, hU⟩ := hT4.blk
      rw [e] at hU
      have h1 := nd4.symm.trans hU
      simp at h1
    have ny5 := hne ny4 (Ne.symm htl)
    have nd5 := hne nd4 (Ne.symm htd)
    have hBn := new_below htw hBm hX5
    clear hT4 ny4 nd4 hBm hX5 hne
    go_wp2_with fail
    refine (lenC hT5).mono ?_
    rintro e y6 ⟨rfl, hC6⟩
    have ny6 := bheap hC6 ny5 (heap_lt ny5)
    have nd6 := bheap hC6 nd5 (heap_lt nd5)
    have hBo := hBn.trans (hC6.mono hBn.size)
    clear hT5 ny5 nd5 hBn hC6
    have c6 := (one_cell ny6).1
    have f6 := (one_cell ny6).2
    have o7 : Only g2 y6 (y6.setCell ⟨g2, 0, none⟩ (.bool true)) := only_set
    have HZ : Hid ((y6.setCell ⟨g2, 0, none⟩ (.bool true)).heap[g2]? = some (.cells #[.bool true] 4 (0, 0)) ∧ (y6.setCell ⟨g2, 0, none⟩ (.bool true)).heap[D]? = some (.deferred (some [])) ∧ Below w.heap.size w (y6.setCell ⟨g2, 0, none⟩ (.bool true))) := Hid.mk ⟨one_set ny6, (o7.block D (by omega)).trans nd6, hBo.trans (o7.below hg2)⟩
    clear o7 hBo
    go_wp2_with fail
    refine postM_ret [D] rfl (fun E hE => by simp at hE; rw [hE]; exact HZ.out.2.1) (by simp) (fun w' ht' hs' => ?_)
    obtain ⟨z1, z2, z3⟩ := HZ.out
    exact ⟨_, res_cb rfl (by rfl) ((ht'.block g2 (heap_lt z1) (fun e => by simp at e; omega)).trans z1), rfl, z3.trans (tou_below ht' (fun k hk => by simp at hk; omega) z3.size)⟩
end Go.Proofs.Ytcpnleanjclfjaa
/-
  Own text. Addresses, prefixes and calls as arguments.
-/
namespace Go.Proofs.Ytcpnleanjclfjaa
open Go.ChangeShapes Go.WideShapes Go.ChangeAt Go.WideMaps Go.WideElems Go.RowKit Go.Proofs
set_option maxRecDepth 100000
theorem laid10 : laidOutB Try.prog = true := by kernel_rfl
theorem tk1 {cs : List Value} {o : Nat} {x : Value} (h : (cs.drop o).take 1 = [x]) : cs[o]? = some x := by
  have h1 : ((cs.drop o).take 1)[0]? = some x := by rw [h]; rfl
  rw [List.getElem?_take, if_pos (by omega), List.getElem?_drop] at h1
  simpa using h1
theorem tkN {cs : List Value} {o n i : Nat} (hi : i < n) : ((cs.drop o).take n)[i]? = cs[o + i]? := by
  rw [List.getElem?_take, if_pos hi, List.getElem?_drop]
theorem sc_list {cs : List Value} {n : Nat} {V : Nat → Value} (hl : cs.length = n) (h : ∀ i, i < n → cs[i]? = some (V i)) : cs = (SC n V).toList := by
  apply List.ext_getElem?
  intro i
  by_cases hi : i < n
  · rw [h i hi, Array.getElem?_toList, SC_get n V i hi]
  · rw [List.getElem?_eq_none (by omega), List.getElem?_eq_none (by rw [Array.length_toList, SC_size]; omega)]
section
variable {H : Type} {enc : TypeId × Value → H} {w : World} {base : Nat} {sp : Nat → Bool} {held : Bool} {fuel : Nat} {cs : List Value} {x : DataW H × List MemPlace}
theorem trod_16 (h : DataW.trod enc Try.prog w base sp held fuel 33 cs = some x) : ∃ b, Byts 16 b ∧ (∀ i, i < 16 → cs[i]? = some (.int .u8 (b i))) ∧ x.2 = [] := by
  obtain ⟨xs, m, _, hx, _, hl, hel⟩ := DataW.trod_array Try.underlying33 h
  have key : ∀ i, i < 16 → ∃ k : Int, cs[i]? = some (.int .u8 k) ∧ (0 ≤ k ∧ k < 256) ∧ ∃ dd, xs[i]? = some (dd, []) := fun i hi => by
    have hi' := hel i hi
    rw [cells8, Nat.mul_one] at hi'
    have hxs : i < xs.length := by omega
    rw [List.getElem?_eq_getElem hxs] at hi'
    obtain ⟨k, e1, e2, wk⟩ := DataW.trod_int Try.underlying5 hi'
    have := bounds_u8 wk
    exact ⟨k, tk1 e1, by omega, ⟨_, by rw [List.getElem?_eq_getElem hxs, e2]⟩⟩
  refine ⟨fun i => match cs[i]? with | some (.int .u8 k) => k | _ => 0, fun i hi => ?_, fun i hi => ?_, ?_⟩
  · obtain ⟨k, e, hk, _⟩ := key i hi
    simp only [e]
    exact hk
  · obtain ⟨k, e, hk, _⟩ := key i hi
    simp only [e]
  · rw [hx]
    show xs.flatMap (·.2) = []
    apply List.flatMap_eq_nil_iff.2
    intro y hy
    obtain ⟨i, hi, rfl⟩ := List.getElem_of_mem hy
    obtain ⟨_, _, _, dd, e⟩ := key i (by omega)
    rw [List.getElem?_eq_getElem hi] at e
    rw [Option.some.inj e]
theorem adF : ∃ f0 f1 : Field, Try.prog.underlying 35 = some (.struct #[f0, f1]) ∧ f0.type = 4 ∧ f1.type = 33 ∧ f0.offset = 0 ∧ f1.offset = 1 := ⟨_, _, Try.underlying35, rfl, rfl, rfl, rfl⟩
theorem pxF : ∃ f0 f1 : Field, Try.prog.underlying 37 = some (.struct #[f0, f1]) ∧ f0.type = 35 ∧ f1.type = 3 ∧ f0.offset = 0 ∧ f1.offset = 17 := ⟨_, _, Try.underlying37, rfl, rfl, rfl, rfl⟩
theorem opF : ∃ f0 f1 f2 : Field, Try.prog.underlying 39 = some (.struct #[f0, f1, f2]) ∧ f0.type = 3 ∧ f1.type = 3 ∧ f2.type = 37 ∧ f0.offset = 0 ∧ f1.offset = 1 ∧ f2.offset = 2 := ⟨_, _, _, Try.underlying39, rfl, rfl, rfl, rfl, rfl, rfl⟩
theorem cAd : Try.prog.cellsOf 35 = 17 := by kernel_rfl
theorem cPx : Try.prog.cellsOf 37 = 18 := by kernel_rfl
theorem cOp : Try.prog.cellsOf 39 = 20 := by kernel_rfl
theorem cBo : Try.prog.cellsOf 4 = 1 := by kernel_rfl
theorem cIn : Try.prog.cellsOf 3 = 1 := by kernel_rfl
theorem c16 : Try.prog.cellsOf 33 = 16 := by kernel_rfl
theorem trod_ad (h : DataW.trod enc Try.prog w base sp held fuel 35 cs = some x) : ∃ v b, Byts 16 b ∧ cs.length = 17 ∧ (∀ i, i < 17 → cs[i]? = some (adV v b i)) ∧ x.2 = [] := by
  obtain ⟨f0, f1, hu, e0, e1, o0, o1⟩ := adF
  obtain ⟨y0, y1, n, hx, hl, h0, h1⟩ := trod_struct2 hu h
  rw [e0, o0, cBo] at h0
  rw [e1, o1, c16] at h1
  obtain ⟨v, hv, hv2⟩ := DataW.trod_bool Try.underlying4 h0
  obtain ⟨b, hb, hbs, hb2⟩ := trod_16 h1
  rw [cAd] at hl
  refine ⟨v, b, hb, hl, fun i hi => ?_, by rw [hx, hv2, hb2]; rfl⟩
  by_cases e : i < 1
  · obtain rfl : i = 0 := by omega
    exact tk1 hv
  · have := hbs (i - 1) (by omega)
    rw [tkN (by omega), show 1 + (i - 1) = i by omega] at this
    rw [this]
    unfold adV
    rw [if_neg e]
theorem trod_px (h : DataW.trod enc Try.prog w base sp held fuel 37 cs = some x) : ∃ v b n, Byts 16 b ∧ (Lit.int .i64 n).wf = true ∧ cs.length = 18 ∧ (∀ i, i < 18 → cs[i]? = some (prV v b n i)) ∧ x.2 = [] := by
  obtain ⟨f0, f1, hu, e0, e1, o0, o1⟩ := pxF
  obtain ⟨y0, y1, m, hx, hl, h0, h1⟩ := trod_struct2 hu h
  rw [e0, o0, cAd] at h0
  rw [e1, o1, cIn] at h1
  obtain ⟨v, b, hb, _, hbs, hb2⟩ := trod_ad h0
  obtain ⟨n, hn, hn2, hw⟩ := DataW.trod_int Try.underlying3 h1
  rw [cPx] at hl
  refine ⟨v, b, n, hb, hw, hl, fun i hi => ?_, by rw [hx, hb2, hn2]; rfl⟩
  unfold prV
  by_cases e : i < 17
  · have := hbs i e
    rw [tkN e, Nat.zero_add] at this
    rw [this, if_pos e]
  · obtain rfl : i = 17 := by omega
    rw [if_neg e]
    exact tk1 hn
end
section
variable {H : Type} {enc : TypeId × Value → H} {W : World} {base : Nat} {sp : Nat → Bool} {v : Value} {d : DataW H} {p : List MemPlace}
/-- An argument that is a prefix, an address. -/
theorem open_px (hv : Value.okWide Try.prog W .any base 37 v) (h : DataW.Trod enc Try.prog W 0 sp true 37 v d p) : ∃ u b n, Byts 16 b ∧ (Lit.int .i64 n).wf = true ∧ v = .agg (SC 18 (prV u b n)) ∧ p = [] := by
  obtain ⟨cs, rfl, hsz, _⟩ : ∃ cs, v = .agg cs ∧ cs.size = Try.prog.cellsOf 37 ∧ Row.okWide Try.prog W .any base 37 cs := by
    simpa [Value.okWide, Try.underlying37] using hv
  obtain ⟨fuel, hf⟩ := h
  obtain ⟨u, b, n, hb, hw, hl, hc, hp⟩ := trod_px hf
  have e := sc_list hl hc
  refine ⟨u, b, n, hb, hw, ?_, hp⟩
  have e2 : cs.toList = (SC 18 (prV u b n)).toList := e
  exact congrArg Value.agg (Array.toList_inj.1 e2)
theorem open_ad (hv : Value.okWide Try.prog W .any base 35 v) (h : DataW.Trod enc Try.prog W 0 sp true 35 v d p) : ∃ u b, Byts 16 b ∧ v = .agg (SC 17 (adV u b)) ∧ p = [] := by
  obtain ⟨cs, rfl, hsz, _⟩ : ∃ cs, v = .agg cs ∧ cs.size = Try.prog.cellsOf 35 ∧ Row.okWide Try.prog W .any base 35 cs := by
    simpa [Value.okWide, Try.underlying35] using hv
  obtain ⟨fuel, hf⟩ := h
  obtain ⟨u, b, hb, hl, hc, hp⟩ := trod_ad hf
  have e2 : cs.toList = (SC 17 (adV u b)).toList := sc_list hl hc
  exact ⟨u, b, hb, congrArg Value.agg (Array.toList_inj.1 e2), hp⟩
end
end Go.Proofs.Ytcpnleanjclfjaa
