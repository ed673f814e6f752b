/-
  Own text. A piece laid where no heap is: one begins.
-/
import Derived.Test.YthnlfjkpiohooaaJ7
import Derived.Test.YthnlfjkpiohooaaJ6
namespace Go.Proofs.Ythnlfjkpiohooaa
open Go.RowKit Go.Proofs
set_option maxRecDepth 100000
theorem run_look0 (V : Nat → Value) {F : Fam} (hk : KeyIs (.agg (SC 38 V)) F) (w : World) : (Instr.lookup 61 (.map none) (.agg (SC 38 V)) true).run Try.prog w = .ok (.tuple #[.pointer none, .bool false]) w := by
  unfold Instr.lookup
  simp only [Sem.run_bind, run_underlying Try.underlying61 w, Result.andThen_ok]
  simp [chk_key hk]
  rfl
theorem exec_lookA {a : Act} {o : Oper} {w : World} {x y : Operand} {mv : Value} {cs : List Ch} {V : Nat → Value} {F : Fam} (ho : o.op = .lookup 61 x y true) (hx : a.eval x = mv) (hy : a.eval y = .agg (SC 38 V)) (hk : KeyIs (.agg (SC 38 V)) F) (hm : MvAt w mv cs) : (execOp a.eval o).run Try.prog w = .ok (.value (.tuple #[lookV (prs cs) F, .bool (hasK (prs cs) F).isSome])) w := by
  rcases hm with ⟨rfl, rfl⟩ | ⟨m, rfl, hm⟩
  · have hr := run_look0 V hk w
    unfold execOp
    simp only [ho, hx, hy, Sem.run_bind, hr, Result.andThen_ok, Sem.run_pure]
    rfl
  · have hm : MapAt w m (prs cs) := hm
    have hr := run_lookF hm hk true
    unfold execOp
    simp only [ho, hx, hy, Sem.run_bind, hr, Result.andThen_ok, Sem.run_pure]
    rfl
theorem has_no {cs : List Ch} {F : Fam} (h : ∀ c ∈ cs, c.h.fam ≠ F) : hasK (prs cs) F = none := hasK_no (fun d hd => by
  obtain ⟨c, hc, rfl⟩ := pr_of hd
  exact h c hc)
theorem has_yes {cs : List Ch} {c0 : Ch} (hn : ((prs cs).map (·.1)).Nodup) (hc : c0 ∈ cs) : hasK (prs cs) c0.h.fam = some (c0.h.fam, c0.blk) := by
  unfold hasK
  have hm : (c0.h.fam, c0.blk) ∈ prs cs := List.mem_map_of_mem (f := fun c : Ch => (c.h.fam, c.blk)) hc
  cases hf : (prs cs).find? (fun c => decide (c.1 = c0.h.fam)) with
  | none =>
    have := List.find?_eq_none.1 hf _ hm
    simp at this
  | some d =>
    have h1 := List.mem_of_find?_eq_some hf
    have h2 : d.1 = c0.h.fam := by simpa using List.find?_some hf
    rw [nodup_fst hn h1 hm h2]
theorem BoxAt.more {w : World} {B : Nat} {N N' : Nat → Prop} {g : Nat} {mv : Value} {b : Bx} {begun : Int} {cs : List Ch} (h : BoxAt w B N g mv b begun cs) (hN : ∀ k, N' k → N k ∨ w.heap.size ≤ k) : BoxAt w B N' g mv b begun cs :=
  { h with
    far := fun c hc k hk => ⟨(h.far c hc k hk).1, (h.far c hc k hk).2.1, fun hn => (hN k hn).elim (h.far c hc k hk).2.2 (fun e => by have := (h.all c hc).lt hk; omega)⟩
    gN := fun hn => (hN g hn).elim h.gN (fun e => by have := h.at_.lt; omega)
    mN := fun k hk hn => (hN k hn).elim (h.mN k hk) (fun e => by
      rcases h.map with ⟨e2, _⟩ | ⟨m, e2, hm⟩
      · rw [e2] at hk; cases hk
      · rw [e2] at hk; cases hk; have := hm.lt; omega) }
theorem BoxAt.awayN {T : Nat → Prop} {w w' : World} {B : Nat} {N : Nat → Prop} {g : Nat} {mv : Value} {b : Bx} {begun : Int} {cs : List Ch} (h : BoxAt w B N g mv b begun cs) (ht : Touch T w w') (hT : ∀ k, T k → N k) : BoxAt w' B N g mv b begun cs := by
  refine { h with at_ := h.at_.block (ht.block g h.at_.lt (fun e => h.gN (hT g e))), map := ?_, all := fun c hc => (h.all c hc).block (fun k hk => ht.block k ((h.all c hc).lt hk) (fun e => (h.far c hc k hk).2.2 (hT k e))) }
  rcases h.map with h3 | ⟨m, e, hm⟩
  · exact .inl h3
  · exact .inr ⟨m, e, hm.block (ht.block m hm.lt (fun e2 => h.mN m (by rw [e]; rfl) (hT m e2)))⟩
theorem touch_far {T : Nat → Prop} {q : Nat} {u v w : World} (h : Touch T u v) (k : Touch (fun x => x = q) v w) (hq : u.heap.size ≤ q) : Touch T u w :=
  ⟨k.os.trans h.os, k.tape.trans h.tape, k.output.trans h.output, Nat.le_trans h.size k.size, fun x hx hn => (k.block x (Nat.lt_of_lt_of_le hx h.size) (fun (e : x = q) => by omega)).trans (h.block x hx hn)⟩
/-- What a call that may tell hands back, and what it leaves. -/
def LayPost (w : World) (B : Nat) (N : Nat → Prop) (g : Nat) (begun : Int) (r : Option Pk × Bx) (e : Ending) (w' : World) : Prop :=
  ∃ v' mv' begun' cs', e = .returned (tellV r.1 v') ∧ (∀ Q, r.1 = some Q → ExAt w' v' Q.exts ∧ ∀ k, exK v' = some k → ¬ N k) ∧ BoxAt w' B N g mv' r.2 begun' cs' ∧ begun' ≤ begun + 1 ∧ Spares N w w'
theorem MvAt.look {w w' : World} {mv : Value} {cs : List Ch} (h : MvAt w mv cs) (hb : Below w.heap.size w w') : MvAt w' mv cs := h.kept hb
theorem exAt_touch {T : Nat → Prop} {w w' : World} {v : Value} {l : List Ex} (h : ExAt w v l) (ht : Touch T w w') (hl : ∀ k, exK v = some k → k < w.heap.size ∧ ¬ T k) : ExAt w' v l := h.blk (fun k hk => ht.block k (hl k hk).1 (hl k hk).2)
theorem touch_refl_below {T : Nat → Prop} {w w' : World} (h : Below w.heap.size w w') : Touch T w w' := (touch_below h).mono (fun _ _ h => h.elim)
set_option maxHeartbeats 16000000 in
theorem layNew_run {w : World} {B : Nat} {N : Nat → Prop} {g : Nat} {mv : Value} {b : Bx} {begun : Int} {cs : List Ch} {V : Nat → Value} {F : Fam} {P : Pk} {v : Value} (h : BoxAt w B N g mv b begun cs) (hk : KeyIs (.agg (SC 38 V)) F) (hx : ExAt w v P.exts) (hvN : ∀ k, exK v = some k → N k) (hN : ∀ k, N k → k < w.heap.size) (hr : rgtP P = true) (hm : mayL P = true) (hw : wholeQ P = false) (hbg : begun + 1 < 4611686018427387904) (hno : ∀ c ∈ cs, c.h.fam ≠ F) : Calls Try.prog 38 #[.pointer (some ⟨g, 0, none⟩), .agg (SC 38 V), .agg (SC 46 (pkV P v))] w (LayPost w B N g begun (none, ⟨b.time, roomF b.hs ++ [⟨F, b.time, [P]⟩]⟩)) := by
  have hfind : findF b.hs F = none := by
    unfold findF
    rw [List.find?_eq_none]
    intro x hx2
    rw [← h.hs] at hx2
    obtain ⟨c, hc, rfl⟩ := List.mem_map.1 hx2
    simpa using hno c hc
  have HI := Hid.mk (h.inv.begin hfind hr hm)
  have HB := Hid.mk h
  have HK := Hid.mk hk
  have HX := Hid.mk hx
  have HVN := Hid.mk hvN
  have HN := Hid.mk hN
  have HR := Hid.mk hr
  have HPC := Hid.mk (PcOk_of hr hm)
  have HWQ := Hid.mk hw
  have HNO := Hid.mk hno
  have HBG := Hid.mk hbg
  have hv1 := hx.one
  have c0 := bx_map h.at_
  have hgl := h.at_.lt
  clear hfind h hk hx hvN hN hr hm hw hno hbg
  go_enter Try.func38, Try.ntmps38
  go_wp2_with (refine wl_boxO (V := V) rfl rfl isFm rfl ?_; intro g4 w1 hg4 s4 hB1; refine Hid.out ?_)
  refine Hid.mk ?_
  go_wp2_with (refine wl_boxO (V := pkV P v) rfl rfl isPk rfl ?_; intro g5 w2 hg5 s5 hB2; refine Hid.out ?_)
  refine Hid.mk ?_
  have s4 := s4.kept hB2
  go_wp2_with (refine wl_alO rfl rfl zeroPk ?_; intro g6 w3 hg6 s6 hB3; refine Hid.out ?_)
  refine Hid.mk ?_
  have s4 := s4.kept hB3
  have s5 := s5.kept hB3
  have hg456 : w.heap.size ≤ g4 ∧ w.heap.size ≤ g5 ∧ w.heap.size ≤ g6 := by have := hB1.size; have := hB2.size; omega
  have HB3 := Hid.mk (hB1.trans ((hB2.trans (hB3.mono hB2.size)).mono hB1.size))
  have hl4 := s4.lt
  have hl5 := s5.lt
  have hl6 := s6.lt
  clear hB1 hB2 hB3 hg4 hg5 hg6
  have HBX := Hid.mk (HB.out.kept HB3.out)
  have hms := HBX.out.map
  have c0 := bx_map HBX.out.at_
  have HHAS := Hid.mk (has_no HNO.out)
  have HLV : Hid (lookV (prs cs) F = .pointer none) := Hid.mk (by unfold lookV; rw [HHAS.out])
  go_upto_region 1 with fail
  refine wp_region3 (Below w3.heap.size w3) (w3.heap.size)
      ([] : List (Nat × Cont))
      [kv (.pointer (some ⟨g, 0, none⟩)), kv (.pointer (some ⟨g, 0, none⟩)), kv (.pointer (some ⟨g, 0, none⟩)), kv (mv), kv (.agg (SC 38 V)), kv (.tuple #[lookV (prs cs) F, .bool (hasK (prs cs) F).isSome]), kv (.tuple #[lookV (prs cs) F, .bool (hasK (prs cs) F).isSome]), kv (lookV (prs cs) F), kv (.bool (hasK (prs cs) F).isSome), kv (lookV (prs cs) F), kv (.bool (hasK (prs cs) F).isSome)]
      [.none, .none, .none, .none, .none, .none, .none, .none, .none, .none, .none]
      [some 11, some 12, some 13, some 14, some 15, some 16, some 10, some 17, some 18, some 8, some 9]
      [(0, .pointer (some ⟨g, 0, none⟩)), (4, .pointer (some ⟨g4, 0, none⟩))]
      [[], [.slot 0], [.slot 1], [.slot 2], [], [.slot 3, .slot 4], [.slot 5], [.slot 6], [.slot 6], [.slot 7], [.slot 8]]
      [.slot 9, .slot 10] [11, 12, 13, 14, 15, 16, 10, 17, 18, 8, 9]
      rfl (by kernel_rfl) ⟨rfl, rfl, trivial⟩ ((Below.refl _ w3).drew) (Nat.le_refl _) trivial trivial (below_GcW (Nat.le_refl _))
      ⟨
      (fun QQ aa ww own hS hBg fr kn => .inl ⟨trivial, fun K hK => wp_value (exec_move rfl fr.1) (hK _ _ ⟨Touch.refl _ _, rfl⟩)⟩),
      (fun QQ aa ww own hS hBg fr kn => .inl ⟨trivial, fun K hK => wp_value (exec_nilc rfl kn.1) (hK _ _ ⟨Touch.refl _ _, rfl⟩)⟩),
      (fun QQ aa ww own hS hBg fr kn => .inl ⟨trivial, fun K hK => wp_value (exec_fbx 0 (by decide) rfl kn.1) (hK _ _ ⟨Touch.refl _ _, rfl⟩)⟩),
      (fun QQ aa ww own hS hBg fr kn => .inl ⟨trivial, fun K hK => wp_value (exec_ld rfl kn.1 (ldM ((hS.cell (p := ⟨g, 0, none⟩) HBX.out.at_.lt).trans c0))) (hK _ _ ⟨Touch.refl _ _, rfl⟩)⟩),
      (fun QQ aa ww own hS hBg fr kn => .inl ⟨trivial, fun K hK => wp_value (look_st rfl isFm (s4.kept hS) fr.2.1) (hK _ _ ⟨Touch.refl _ _, rfl⟩)⟩),
      (fun QQ aa ww own hS hBg fr kn => .inl ⟨trivial, fun K hK => wp_value (exec_lookA rfl kn.1 kn.2.1 HK.out (hms.kept hS)) (hK _ _ ⟨Touch.refl _ _, rfl⟩)⟩),
      (fun QQ aa ww own hS hBg fr kn => .inl ⟨trivial, fun K hK => wp_value (exec_move rfl kn.1) (hK _ _ ⟨Touch.refl _ _, rfl⟩)⟩),
      (fun QQ aa ww own hS hBg fr kn => .inl ⟨trivial, fun K hK => wp_value (exec_ext rfl kn.1 rfl) (hK _ _ ⟨Touch.refl _ _, rfl⟩)⟩),
      (fun QQ aa ww own hS hBg fr kn => .inl ⟨trivial, fun K hK => wp_value (exec_ext rfl kn.1 rfl) (hK _ _ ⟨Touch.refl _ _, rfl⟩)⟩),
      (fun QQ aa ww own hS hBg fr kn => .inl ⟨trivial, fun K hK => wp_value (exec_assign rfl kn.1) (hK _ _ ⟨Touch.refl _ _, rfl⟩)⟩),
      (fun QQ aa ww own hS hBg fr kn => .inl ⟨trivial, fun K hK => wp_value (exec_assign rfl kn.1) (hK _ _ ⟨Touch.refl _ _, rfl⟩)⟩),
      trivial⟩ ?_
  intro vs own w4 hS hsz kn inj
  have e8 : vs 8 = .pointer none := kn.1.trans HLV.out
  have e9 : vs 9 = .bool false := kn.2.1.trans (by rw [HHAS.out]; rfl)
  clear kn inj hsz
  simp only [putAll, Act.put, List.setIfInBounds_toArray, List.set_cons_zero, List.set_cons_succ, e8, e9]
  clear e8 e9 hms c0
  have s4 := s4.kept hS
  have s5 := s5.kept hS
  have s6 := s6.kept hS
  have HB4 := Hid.mk (HB3.out.trans (hS.mono HB3.out.size))
  have HBX := Hid.mk (HBX.out.kept hS)
  have hsz4 := hS.size
  clear hS
  go_wp2_with (refine wl_value rfl (look_st rfl isFm s4 rfl) ?_; refine Hid.out ?_)
  refine Hid.mk ?_
  have HBR := Hid.mk (begin_run HBX.out HK.out HNO.out)
  go_wp2_with (go_at_call 57; refine HBR.out.mono ?_; rintro e w5 ⟨q, m, rfl, hqw, sg, hmm, sq, hmv, hT⟩; refine Hid.out ?_)
  refine Hid.mk ?_
  have hgN := HBX.out.gN
  have hown : ∀ k, bxOwn g mv k → k < w.heap.size := fun k hk => by
    rcases hk with rfl | hk
    · exact hgl
    · rcases HB.out.map with ⟨e, _⟩ | ⟨m', e, hm'⟩
      · rw [e] at hk; cases hk
      · rw [e] at hk; cases hk; exact hm'.lt
  have s5 := s5.block (hT.block g5 (Nat.lt_of_lt_of_le hl5 hsz4) (fun hk => by have := hown g5 hk; omega))
  have s6 := s6.block (hT.block g6 (Nat.lt_of_lt_of_le hl6 hsz4) (fun hk => by have := hown g6 hk; omega))
  have hqm : q ≠ m := hmm.ne sq
  have hgq : g ≠ q := by have := HB4.out.size; omega
  have HX5 := Hid.mk (exAt_touch (HX.out.kept HB4.out) hT (fun k hk => ⟨Nat.lt_of_lt_of_le (HN.out k (HVN.out k hk)) HB4.out.size, fun ho => by
    have hNk := HVN.out k hk
    rcases ho with rfl | ho
    · exact hgN hNk
    · exact HBX.out.mN k ho hNk⟩))
  have HT5 := Hid.mk hT
  have hBs : B ≤ w5.heap.size := by have := HB.out.gB; have := HB4.out.size; have := hT.size; omega
  have HADD := Hid.mk (add_run (B := B) (S := []) P v w5 sq (show PRow w5 B (.slice none 0 0) [] from World.ownsRow_nil w5 _ _ _) (by decide) HX5.out (rgt_len HR.out).2 hBs (by simp [Value.ownBlock]) (fun k hk => (by cases hk)))
  go_wp2_with (refine wl_value rfl (look_st rfl isPk s5 rfl) ?_; refine Hid.out ?_)
  refine Hid.mk ?_
  go_wp2_with (go_at_call 60; refine HADD.out.mono ?_; rintro e w6 ⟨rfl, S', hd', hv', ps', sq', hrow, hperm, _, hT6, hnb, hhd, hoff⟩; refine Hid.out ?_)
  refine Hid.mk ?_
  have hS1 : S' = [P] := List.perm_singleton.1 hperm.symm
  subst hS1
  have hT6 : Touch (fun k => k = q) w5 w6 := hT6.mono (fun k _ hk => hk.resolve_right (by simp [Value.ownBlock]))
  have s6 := s6.tou hT6 (by omega)
  have sg := sg.tou hT6 hgq
  have hml := hmm.lt
  have hmm := hmm.block (hT6.block m hml hqm.symm)
  have HN' : Hid (∀ k, (N k ∨ k = g6) → k < w4.heap.size) := Hid.mk (fun k hk => hk.elim (fun h => Nat.lt_of_lt_of_le (HN.out k h) HB4.out.size) (fun e => by omega))
  have HBN : Hid (BoxAt w4 B (fun k => N k ∨ k = g6) g mv b begun cs) := Hid.mk (((HB.out.more (N' := fun k => N k ∨ k = g6) (fun k hk => hk.imp_right (fun e => by omega)))).kept HB4.out)
  have h45 : w4.heap.size ≤ w5.heap.size := HT5.out.size
  have hone : hv'.oneCell' = true := by
    rcases hhd with ⟨_, _, h⟩ | ⟨_, _, h⟩
    · exact h.2.1
    · rw [h]; rfl
  have hexn : ∀ k, exK hv' = some k → w5.heap.size ≤ k ∧ k < w6.heap.size := fun k hk => by
    rcases hhd with ⟨_, _, h⟩ | ⟨_, _, h⟩
    · exact h.2.2.1 k hk
    · rw [h] at hk; cases hk
  have HCA : Hid (ChAt w6 B ⟨⟨F, b.time, [P]⟩, q, begun, [P], hd', hv', ps'⟩) := Hid.mk ⟨sq', hrow, List.Perm.refl _, List.pairwise_singleton _ _, hone, fun k hk => (hexn k hk).2, fun X hX h0 => by
    have hX : X = P := by simpa using hX
    subst hX
    rcases hhd with ⟨_, h1, h2⟩ | ⟨h1, _⟩
    · exact ⟨h1, h2.1⟩
    · exact absurd h0 h1, hoff⟩
  have HB6 : Hid (BoxAt w6 B (fun k => N k ∨ k = g6) g (.map (some m)) ⟨b.time, roomF b.hs ++ [⟨F, b.time, [P]⟩]⟩ (begun + 1) (roomC cs ++ [⟨⟨F, b.time, [P]⟩, q, begun, [P], hd', hv', ps'⟩])) := Hid.mk (HBN.out.fresh HI.out rfl rfl sg hmm hmv (touch_far HT5.out hT6 hqw) HCA.out (fun k hk => by
    rcases hk with hk | hk | hk
    · have hk : k = q := hk
      subst hk
      exact ⟨hqw, hqm⟩
    · rcases hnb k hk with h | h
      · cases h
      · omega
    · have := (hexn k hk).1
      omega) rfl HBG.out HN'.out)
  have HSP : Hid (Spares N w w6) := Hid.mk (((spares_below HB4.out).trans (HT5.out.mono (fun k _ ho => by
    rcases ho with rfl | ho
    · exact hgN
    · exact HBX.out.mN k ho))).trans (hT6.mono (fun k _ (e : k = q) => by subst e; exact fun hn => by have := HN.out k hn; have := HB4.out.size; omega)))
  obtain ⟨p, cap, hps, hpp⟩ := row_shape hrow
  obtain ⟨p', hp'⟩ := hpp (by show 0 < 1; decide)
  subst hp'
  have hps : ps' = .slice (some ⟨p', 0, none⟩) (0 + 1) cap := hps
  subst hps
  have HFU := Hid.mk (full_run (m := 0) w6 sq' hrow rfl (by decide) (fun Q hQ => (show Q = P by simpa using hQ) ▸ HPC.out))
  have hfv : (fullS [P] 0 && !moreS [P]) = false := by
    have h := HWQ.out
    unfold wholeQ at h
    show (decide (P.off = 0) && true && !P.more) = false
    rw [Bool.and_true]
    exact h
  rw [hfv] at HFU
  clear hfv hrow sq' sq hexn hone hhd hnb hperm hT hT6 HADD
  go_wp2_with (go_at_call 61; refine HFU.out.mono ?_; rintro e w7 ⟨rfl, hB7⟩; refine Hid.out ?_)
  refine Hid.mk ?_
  have s6 := s6.kept hB7
  have HB7 := Hid.mk (HB6.out.kept hB7)
  have HSP := Hid.mk (HSP.out.trans (spares_below hB7))
  clear hB7
  go_wp2_with (refine wl_value rfl (exec_pk0 rfl) ?_; refine Hid.out ?_)
  refine Hid.mk ?_
  go_wp2_with (refine st_stO (V := pkV zeroP (.slice none 0 0)) (g := g6) rfl rfl isPk (pkV_one rfl) s6 rfl rfl ?_; intro w8 s8 ho8; refine Hid.out ?_)
  refine Hid.mk ?_
  have hg6N : ¬ N g6 := fun hn => by have := HN.out g6 hn; omega
  go_wp2_with fail
  exact bodyPost_ret (results_cellt rfl _ _ g6 rfl rfl (SC 46 (pkV zeroP (.slice none 0 0))) s8 (by rw [SC_size]; kernel_rfl) Try.underlying27 rfl) rfl ⟨.slice none 0 0, _, _, _, rfl, fun Q hQ => (by cases hQ), (HB7.out.awayN (touch_only ho8) (fun k e => .inr e)).more (fun k hk => .inl (.inl hk)), Int.le_refl _, HSP.out.trans (spares_only ho8 hg6N)⟩
theorem en_lay (args : Array Value) (w : World) : (callFunc 38 args).run Try.prog w = .ok (.enter 38 args) w := by kernel_rfl
end Go.Proofs.Ythnlfjkpiohooaa
/-
  Own text. A piece laid where a heap is.
-/
namespace Go.Proofs.Ythnlfjkpiohooaa
open Go.RowKit Go.Proofs
set_option maxRecDepth 100000
section
variable {w : World} {B : Nat} {N : Nat → Prop} {g m : Nat} {mv : Value} {b : Bx} {begun : Int} {cs : List Ch}
theorem BoxAt.finds (h : BoxAt w B N g mv b begun cs) {c0 : Ch} (hc : c0 ∈ cs) : findF b.hs c0.h.fam = some c0.h := by
  have hm : c0.h ∈ b.hs := by rw [← h.hs]; exact List.mem_map_of_mem hc
  unfold findF
  cases hf : b.hs.find? (fun x => decide (x.fam = c0.h.fam)) with
  | none =>
    have := List.find?_eq_none.1 hf _ hm
    simp at this
  | some x =>
    have h1 := List.mem_of_find?_eq_some hf
    have h2 : x.fam = c0.h.fam := by simpa using List.find?_some hf
    rw [← h.hs] at h1
    obtain ⟨d, hd, rfl⟩ := List.mem_map.1 h1
    rw [h.one hd hc h2]
theorem BoxAt.some_map (h : BoxAt w B N g mv b begun cs) {c0 : Ch} (hc : c0 ∈ cs) : ∃ m, mv = .map (some m) := by
  rcases h.map with ⟨_, e⟩ | ⟨m, e, _⟩
  · rw [e] at hc; cases hc
  · exact ⟨m, e⟩
end
theorem same_perm {l m : List Pk} (h : l.Perm m) (P : Pk) : hasSame l P = hasSame m P := by
  unfold hasSame
  rw [Bool.eq_iff_iff, List.any_eq_true, List.any_eq_true]
  exact ⟨fun ⟨x, hx, hp⟩ => ⟨x, h.mem_iff.1 hx, hp⟩, fun ⟨x, hx, hp⟩ => ⟨x, h.mem_iff.2 hx, hp⟩⟩
theorem sor_of {S : List Pk} (h : OkL S) (hs : S.Pairwise (fun P Q => P.off ≤ Q.off)) : Sor S := (List.pairwise_and_iff.2 ⟨hs, h.off_ne⟩).imp (fun {P Q} hh => by omega)
theorem full_isSome {l S : List Pk} (h : OkL l) (hp : l.Perm S) (hs : Sor S) (hne : S ≠ []) : (wholeM l).isSome = (fullS S 0 && !moreS S) := by
  rw [whole_sorted h hp hs hne]
  cases fullS S 0 <;> cases moreS S <;> rfl
/-- What a box does with a piece, where a heap is. -/
theorem putB_same {b : Bx} {F : Fam} {P : Pk} {x : Hp} (hf : findF b.hs F = some x) (h1 : hasSame x.ps P = true) : putB b F P = (none, b) := by
  unfold putB
  rw [hf]
  show (if hasSame x.ps P = true then ((none : Option Pk), b) else _) = _
  rw [if_pos h1]
theorem putB_clash {b : Bx} {F : Fam} {P : Pk} {x : Hp} (hf : findF b.hs F = some x) (h1 : hasSame x.ps P = false) (h2 : clash x.ps P = true) : putB b F P = (none, ⟨b.time, dropF b.hs F⟩) := by
  unfold putB
  rw [hf]
  show (if hasSame x.ps P = true then ((none : Option Pk), b) else if clash x.ps P = true then (none, _) else _) = _
  rw [if_neg (by rw [h1]; decide), if_pos h2]
theorem putB_full {b : Bx} {F : Fam} {P : Pk} {x : Hp} (hf : findF b.hs F = some x) (h1 : hasSame x.ps P = false) (h2 : clash x.ps P = false) (h3 : (wholeM (x.ps ++ [P])).isSome = true) : putB b F P = (tellF (x.ps ++ [P]), ⟨b.time, dropF b.hs F⟩) := by
  unfold putB
  rw [hf]
  show (if hasSame x.ps P = true then ((none : Option Pk), b) else if clash x.ps P = true then (none, _) else if (wholeM (x.ps ++ [P])).isSome = true then _ else _) = _
  rw [if_neg (by rw [h1]; decide), if_neg (by rw [h2]; decide), if_pos h3]
theorem putB_keep {b : Bx} {F : Fam} {P : Pk} {x : Hp} (hf : findF b.hs F = some x) (h1 : hasSame x.ps P = false) (h2 : clash x.ps P = false) (h3 : (wholeM (x.ps ++ [P])).isSome = false) : putB b F P = (none, ⟨b.time, setF b.hs F (x.ps ++ [P])⟩) := by
  unfold putB
  rw [hf]
  show (if hasSame x.ps P = true then ((none : Option Pk), b) else if clash x.ps P = true then (none, _) else if (wholeM (x.ps ++ [P])).isSome = true then _ else _) = _
  rw [if_neg (by rw [h1]; decide), if_neg (by rw [h2]; decide), if_neg (by rw [h3]; decide)]
/-- The heap with the piece added. -/
theorem ch_added {w w6 : World} {B : Nat} {c0 : Ch} {P : Pk} {t : Int} {S' : List Pk} {hd' : Pk} {hv' ps' : Value} (h : ChAt w B c0) (ho : HpOk t c0.h) (hP : PcOk P) (hcl : clash c0.h.ps P = false) (sq : SAt w6 c0.blk 89 49 (hpV c0.h.born c0.num hd' hv' ps')) (hrow : PRow w6 B ps' S') (hperm : (c0.S ++ [P]).Perm S') (hsr : S'.Pairwise (fun P Q => P.off ≤ Q.off)) (hT : Touch (fun k => k = c0.blk ∨ c0.ps.ownBlock = some k) w w6) (hhd : (P.off = 0 ∧ hd' = bareP P ∧ NewEx w.heap.size w6 hv' P.exts) ∨ (P.off ≠ 0 ∧ hd' = c0.hd ∧ hv' = c0.hv)) (hoff : ∀ k, exK hv' = some k → ps'.ownBlock ≠ some k ∧ k ≠ c0.blk) : ChAt w6 B ⟨⟨c0.h.fam, c0.h.born, c0.h.ps ++ [P]⟩, c0.blk, c0.num, S', hd', hv', ps'⟩ := by
  have hpp : (c0.h.ps ++ [P]).Perm S' := (h.perm.append_right [P]).trans hperm
  have hok := ho.2.2.2.2.1.snoc hP hcl
  have hokS := hok.perm hpp
  have hw : ∀ k, k < w.heap.size → k < w6.heap.size := fun k hk => Nat.lt_of_lt_of_le hk hT.size
  refine ⟨sq, hrow, hpp, sor_of hokS hsr, ?_, fun k hk => ?_, fun X hX h0 => ?_, hoff⟩
  · rcases hhd with ⟨_, _, h2⟩ | ⟨_, _, h2⟩
    · exact h2.2.1
    · show hv'.oneCell' = true; rw [h2]; exact h.one
  · rcases hhd with ⟨_, _, h2⟩ | ⟨_, _, h2⟩
    · exact (h2.2.2.1 k hk).2
    · have hk : exK hv' = some k := hk
      rw [h2] at hk; exact hw k (h.exl k hk)
  · have hX2 : X ∈ c0.S ++ [P] := hperm.mem_iff.2 hX
    rcases List.mem_append.1 hX2 with hXS | hXP
    · have hne : P.off ≠ 0 := by
        intro e
        have h1 := (hok.perm (h.perm.append_right [P])).off_ne
        rw [List.pairwise_append] at h1
        exact h1.2.2 X hXS P (by simp) (by rw [h0, e])
      rcases hhd with ⟨e, _⟩ | ⟨_, h1, h2⟩
      · exact absurd e hne
      · have h3 := h.hd0 X hXS h0
        refine ⟨by show hd' = _; rw [h1]; exact h3.1, ?_⟩
        show ExAt w6 hv' X.exts
        rw [h2]
        exact h3.2.blk (fun k hk => hT.block k (h.exl k hk) (fun e => e.elim (fun e => (h.off_ k hk).2 e) (fun e => (h.off_ k hk).1 e)))
    · have hXP : X = P := by simpa using hXP
      subst hXP
      rcases hhd with ⟨_, h1, h2⟩ | ⟨e, _⟩
      · exact ⟨h1, h2.1⟩
      · exact absurd h0 e
theorem fp_added {w : World} {c0 : Ch} {S' : List Pk} {hh : Hp} {hd' : Pk} {hv' ps' : Value} {P : Pk} {w6 : World} (hnb : ∀ q, ps'.ownBlock = some q → c0.ps.ownBlock = some q ∨ w.heap.size ≤ q) (hhd : (P.off = 0 ∧ hd' = bareP P ∧ NewEx w.heap.size w6 hv' P.exts) ∨ (P.off ≠ 0 ∧ hd' = c0.hd ∧ hv' = c0.hv)) : ∀ k, fp ⟨hh, c0.blk, c0.num, S', hd', hv', ps'⟩ k → fp c0 k ∨ w.heap.size ≤ k := fun k hk => by
  rcases hk with hk | hk | hk
  · exact .inl (.inl hk)
  · exact (hnb k hk).imp_left (fun h => .inr (.inl h))
  · rcases hhd with ⟨_, _, h2⟩ | ⟨_, _, h2⟩
    · exact .inr (h2.2.2.1 k hk).1
    · have hk : exK hv' = some k := hk
      rw [h2] at hk
      exact .inl (.inr (.inr hk))
/-- A heap that is full tells its packet: its head, with all its pieces' payloads. -/
theorem ch_told {w : World} {B : Nat} {c : Ch} {t : Int} (h : ChAt w B c) (ho : HpOk t c.h) (hf : (wholeM c.h.ps).isSome = true) : wholeM c.h.ps = some (withPay c.hd (joinS c.S)) ∧ ExAt w c.hv (withPay c.hd (joinS c.S)).exts ∧ rgtP (withPay c.hd (joinS c.S)) = true ∧ (joinS c.S).size ≤ 65535 := by
  have hne : c.S ≠ [] := fun e => ho.2.2.1 (List.eq_nil_of_length_eq_zero (by rw [h.perm.length_eq, e]; rfl))
  have hwh := whole_sorted ho.2.2.2.2.1 h.perm h.sor hne
  have hfs := full_isSome ho.2.2.2.2.1 h.perm h.sor hne
  rw [hf] at hfs
  have hfs : fullS c.S 0 = true ∧ moreS c.S = false := by
    cases h1 : fullS c.S 0 <;> cases h2 : moreS c.S <;> rw [h1, h2] at hfs <;> simp at hfs ⊢
  rw [if_pos hfs] at hwh
  obtain ⟨x, S, hS⟩ : ∃ x S, c.S = x :: S := by cases hx : c.S with
    | nil => exact absurd hx hne
    | cons x S => exact ⟨x, S, rfl⟩
  have hx0 : x.off = 0 := by
    have h1 := hfs.1
    rw [hS] at h1
    have h1 : (decide (x.off = 0) && fullS S (enP x)) = true := h1
    simp at h1
    exact h1.1
  have hxm : x ∈ c.S := by rw [hS]; simp
  have hhd := h.hd0 x hxm hx0
  have hb : withPay c.hd (joinS c.S) = bareP (withPay x (joinS c.S)) := by rw [hhd.1]; rfl
  have hdx : c.S.headD zeroP = x := by rw [hS]; rfl
  rw [hdx, ← hb] at hwh
  refine ⟨hwh, ?_, ?_, ?_⟩
  · rw [hb]; exact hhd.2
  · rw [hb]; exact rgt_bare (ho.2.2.2.2.2 x (h.perm.mem_iff.2 hxm)) _
  · rw [joinS_size]
    exact held_le (ho.2.2.2.2.1.perm h.perm)
end Go.Proofs.Ythnlfjkpiohooaa
/-
  Own text. A piece laid where a heap is: the walk.
-/
namespace Go.Proofs.Ythnlfjkpiohooaa
open Go.RowKit Go.Proofs
set_option maxRecDepth 100000
theorem lookV_yes {cs : List Ch} {c0 : Ch} (h : hasK (prs cs) c0.h.fam = some (c0.h.fam, c0.blk)) : lookV (prs cs) c0.h.fam = .pointer (some ⟨c0.blk, 0, none⟩) := by
  unfold lookV
  rw [h]
  rfl
theorem drop_set (hs : List Hp) (F : Fam) (l : List Pk) : dropF (setF hs F l) F = dropF hs F := by
  unfold dropF setF
  induction hs with
  | nil => rfl
  | cons x hs ih =>
    rw [List.map_cons]
    by_cases h : x.fam = F
    · rw [if_pos h, List.filter_cons_of_neg (by simp [h]), List.filter_cons_of_neg (by simp [h]), ih]
    · rw [if_neg h, List.filter_cons_of_pos (by simpa using h), List.filter_cons_of_pos (by simpa using h), ih]
set_option maxHeartbeats 32000000 in
theorem layOld_run {w : World} {B : Nat} {N : Nat → Prop} {g : Nat} {mv : Value} {b : Bx} {begun : Int} {cs : List Ch} {V : Nat → Value} {c0 : Ch} {P : Pk} {v : Value} (h : BoxAt w B N g mv b begun cs) (hk : KeyIs (.agg (SC 38 V)) c0.h.fam) (hx : ExAt w v P.exts) (hvN : ∀ k, exK v = some k → N k) (hN : ∀ k, N k → k < w.heap.size) (hr : rgtP P = true) (hm : mayL P = true) (hc0 : c0 ∈ cs) : Calls Try.prog 38 #[.pointer (some ⟨g, 0, none⟩), .agg (SC 38 V), .agg (SC 46 (pkV P v))] w (LayPost w B N g begun (putB b c0.h.fam P)) := by
  have HF := Hid.mk (h.finds hc0)
  obtain ⟨m, rfl⟩ := h.some_map hc0
  have hok := h.ok hc0
  have HOK := Hid.mk hok
  have HB := Hid.mk h
  have HC0 := Hid.mk hc0
  have HK := Hid.mk hk
  have HX := Hid.mk hx
  have HVN := Hid.mk hvN
  have HN := Hid.mk hN
  have HR := Hid.mk hr
  have HPC := Hid.mk (PcOk_of hr hm)
  have HPUT := Hid.mk (h.inv.put (f := c0.h.fam) hr hm)
  have hv1 := hx.one
  have hgl := h.at_.lt
  obtain ⟨p', cap, k, hps, hlen, hk64, holS, hneS⟩ := (h.all c0 hc0).shape hok
  have HPS := Hid.mk hps
  have HLEN := Hid.mk hlen
  have HOLS := Hid.mk holS
  have HHAS := Hid.mk (has_yes h.nodup hc0)
  have HLV := Hid.mk (lookV_yes HHAS.out)
  have HSM := Hid.mk (same_perm (h.all c0 hc0).perm P)
  have HCL := Hid.mk (ref_clash (P := P) hok.2.2.2.2.1 (h.all c0 hc0).perm (h.all c0 hc0).sor hneS)
  clear h hk hx hvN hN hr hm hc0 hok hps hlen holS hneS
  go_enter Try.func38, Try.ntmps38
  go_wp2_with (refine wl_boxO (V := V) rfl rfl isFm rfl ?_; intro g4 w1 hg4 s4 hB1; refine Hid.out ?_)
  refine Hid.mk ?_
  go_wp2_with (refine wl_boxO (V := pkV P v) rfl rfl isPk rfl ?_; intro g5 w2 hg5 s5 hB2; refine Hid.out ?_)
  refine Hid.mk ?_
  have s4 := s4.kept hB2
  go_wp2_with (refine wl_alO rfl rfl zeroPk ?_; intro g6 w3 hg6 s6 hB3; refine Hid.out ?_)
  refine Hid.mk ?_
  have s4 := s4.kept hB3
  have s5 := s5.kept hB3
  have hg456 : w.heap.size ≤ g4 ∧ w.heap.size ≤ g5 ∧ w.heap.size ≤ g6 := by have := hB1.size; have := hB2.size; omega
  have HB3 := Hid.mk (hB1.trans ((hB2.trans (hB3.mono hB2.size)).mono hB1.size))
  have hl4 := s4.lt
  have hl5 := s5.lt
  have hl6 := s6.lt
  clear hB1 hB2 hB3 hg4 hg5 hg6
  have HBX := Hid.mk (((HB.out.more (N' := fun k => N k ∨ k = g4 ∨ k = g5 ∨ k = g6) (fun k hk => hk.imp_right (fun e => by omega)))).kept HB3.out)
  have hms := HBX.out.map
  have c00 := bx_map HBX.out.at_
  go_upto_region 1 with fail
  refine wp_region3 (Below w3.heap.size w3) (w3.heap.size)
      ([] : List (Nat × Cont))
      [kv (.pointer (some ⟨g, 0, none⟩)), kv (.pointer (some ⟨g, 0, none⟩)), kv (.pointer (some ⟨g, 0, none⟩)), kv (.map (some m)), kv (.agg (SC 38 V)), kv (.tuple #[lookV (prs cs) c0.h.fam, .bool (hasK (prs cs) c0.h.fam).isSome]), kv (.tuple #[lookV (prs cs) c0.h.fam, .bool (hasK (prs cs) c0.h.fam).isSome]), kv (lookV (prs cs) c0.h.fam), kv (.bool (hasK (prs cs) c0.h.fam).isSome), kv (lookV (prs cs) c0.h.fam), kv (.bool (hasK (prs cs) c0.h.fam).isSome)]
      [.none, .none, .none, .none, .none, .none, .none, .none, .none, .none, .none]
      [some 11, some 12, some 13, some 14, some 15, some 16, some 10, some 17, some 18, some 8, some 9]
      [(0, .pointer (some ⟨g, 0, none⟩)), (4, .pointer (some ⟨g4, 0, none⟩))]
      [[], [.slot 0], [.slot 1], [.slot 2], [], [.slot 3, .slot 4], [.slot 5], [.slot 6], [.slot 6], [.slot 7], [.slot 8]]
      [.slot 9, .slot 10] [11, 12, 13, 14, 15, 16, 10, 17, 18, 8, 9]
      rfl (by kernel_rfl) ⟨rfl, rfl, trivial⟩ ((Below.refl _ w3).drew) (Nat.le_refl _) trivial trivial (below_GcW (Nat.le_refl _))
      ⟨
      (fun QQ aa ww own hS hBg fr kn => .inl ⟨trivial, fun K hK => wp_value (exec_move rfl fr.1) (hK _ _ ⟨Touch.refl _ _, rfl⟩)⟩),
      (fun QQ aa ww own hS hBg fr kn => .inl ⟨trivial, fun K hK => wp_value (exec_nilc rfl kn.1) (hK _ _ ⟨Touch.refl _ _, rfl⟩)⟩),
      (fun QQ aa ww own hS hBg fr kn => .inl ⟨trivial, fun K hK => wp_value (exec_fbx 0 (by decide) rfl kn.1) (hK _ _ ⟨Touch.refl _ _, rfl⟩)⟩),
      (fun QQ aa ww own hS hBg fr kn => .inl ⟨trivial, fun K hK => wp_value (exec_ld rfl kn.1 (ldM ((hS.cell (p := ⟨g, 0, none⟩) HBX.out.at_.lt).trans c00))) (hK _ _ ⟨Touch.refl _ _, rfl⟩)⟩),
      (fun QQ aa ww own hS hBg fr kn => .inl ⟨trivial, fun K hK => wp_value (look_st rfl isFm (s4.kept hS) fr.2.1) (hK _ _ ⟨Touch.refl _ _, rfl⟩)⟩),
      (fun QQ aa ww own hS hBg fr kn => .inl ⟨trivial, fun K hK => wp_value (exec_lookA rfl kn.1 kn.2.1 HK.out (hms.kept hS)) (hK _ _ ⟨Touch.refl _ _, rfl⟩)⟩),
      (fun QQ aa ww own hS hBg fr kn => .inl ⟨trivial, fun K hK => wp_value (exec_move rfl kn.1) (hK _ _ ⟨Touch.refl _ _, rfl⟩)⟩),
      (fun QQ aa ww own hS hBg fr kn => .inl ⟨trivial, fun K hK => wp_value (exec_ext rfl kn.1 rfl) (hK _ _ ⟨Touch.refl _ _, rfl⟩)⟩),
      (fun QQ aa ww own hS hBg fr kn => .inl ⟨trivial, fun K hK => wp_value (exec_ext rfl kn.1 rfl) (hK _ _ ⟨Touch.refl _ _, rfl⟩)⟩),
      (fun QQ aa ww own hS hBg fr kn => .inl ⟨trivial, fun K hK => wp_value (exec_assign rfl kn.1) (hK _ _ ⟨Touch.refl _ _, rfl⟩)⟩),
      (fun QQ aa ww own hS hBg fr kn => .inl ⟨trivial, fun K hK => wp_value (exec_assign rfl kn.1) (hK _ _ ⟨Touch.refl _ _, rfl⟩)⟩),
      trivial⟩ ?_
  intro vs own w4 hS hsz kn inj
  have e8 : vs 8 = .pointer (some ⟨c0.blk, 0, none⟩) := kn.1.trans HLV.out
  have e9 : vs 9 = .bool true := kn.2.1.trans (by rw [HHAS.out]; rfl)
  clear kn inj hsz
  simp only [putAll, Act.put, List.setIfInBounds_toArray, List.set_cons_zero, List.set_cons_succ, e8, e9]
  clear e8 e9 hms c00
  have s4 := s4.kept hS
  have s5 := s5.kept hS
  have s6 := s6.kept hS
  have HB4 := Hid.mk (HB3.out.trans (hS.mono HB3.out.size))
  have HBX := Hid.mk (HBX.out.kept hS)
  have hsz4 := hS.size
  clear hS
  have hca := HBX.out.all c0 HC0.out
  have hat := hca.at_
  have hrow := hca.row
  rw [HPS.out] at hat hrow
  have HCT : Hid (∀ u, Below w4.heap.size w4 u → Calls Try.prog 58 #[.slice (some ⟨p', 0, none⟩) (k + 1) cap, .agg (SC 3 (pcV P))] u fun e w' => e = .returned (.bool (hasSame c0.h.ps P)) ∧ Below u.heap.size u w') := Hid.mk (fun u hu => by
    have h1 := prow_kept hrow hu
    rw [← HLEN.out] at h1 ⊢
    rw [HSM.out]
    exact Contains_run P u h1 (by rw [HLEN.out]; omega))
  have hg6N : ¬ N g6 := fun hn => by have := HN.out g6 hn; omega
  go_upto_region 4 with fail
  refine wp_region3 (Below w4.heap.size w4) (w4.heap.size)
      ([] : List (Nat × Cont))
      [kv (.pointer (some ⟨c0.blk, 0, none⟩)), kv (.pointer (some ⟨c0.blk, 0, none⟩)), kv (.pointer (some ⟨c0.blk, 48, none⟩)), kv (.slice (some ⟨p', 0, none⟩) (k + 1) cap), kv (.agg (SC 46 (pkV P v))), kv (.agg (SC 3 (pcV P))), kv (.bool (hasSame c0.h.ps P))]
      [.none, .none, .none, .none, .none, .none, .none]
      [some 24, some 25, some 26, some 27, some 28, some 29, some 30]
      [(8, .pointer (some ⟨c0.blk, 0, none⟩)), (5, .pointer (some ⟨g5, 0, none⟩))]
      [[], [.slot 0], [.slot 1], [.slot 2], [], [.slot 4], [.slot 3, .slot 5]]
      [.slot 6] [24, 25, 26, 27, 28, 29, 30]
      rfl (by kernel_rfl) ⟨rfl, rfl, trivial⟩ ((Below.refl _ w4).drew) (Nat.le_refl _) trivial trivial (below_GcW (Nat.le_refl _))
      ⟨
      (fun QQ aa ww own hS hBg fr kn => .inl ⟨trivial, fun K hK => wp_value (exec_move rfl fr.1) (hK _ _ ⟨Touch.refl _ _, rfl⟩)⟩),
      (fun QQ aa ww own hS hBg fr kn => .inl ⟨trivial, fun K hK => wp_value (exec_nilc rfl kn.1) (hK _ _ ⟨Touch.refl _ _, rfl⟩)⟩),
      (fun QQ aa ww own hS hBg fr kn => .inl ⟨trivial, fun K hK => wp_value (exec_fhp 3 (by decide) rfl kn.1) (hK _ _ ⟨Touch.refl _ _, rfl⟩)⟩),
      (fun QQ aa ww own hS hBg fr kn => .inl ⟨trivial, fun K hK => wp_value (exec_ld rfl kn.1 (ldQ (hp_ps (hat.kept hS)))) (hK _ _ ⟨Touch.refl _ _, rfl⟩)⟩),
      (fun QQ aa ww own hS hBg fr kn => .inl ⟨trivial, fun K hK => wp_value (look_st rfl isPk (s5.kept hS) fr.2.1) (hK _ _ ⟨Touch.refl _ _, rfl⟩)⟩),
      (fun QQ aa ww own hS hBg fr kn => .inl ⟨trivial, fun K hK => stepc en_pieceOf rfl (args1 kn.1) (pieceOf_run P v ww) (fun w' hb => hK _ _ ⟨touch_below hb, rfl⟩)⟩),
      (fun QQ aa ww own hS hBg fr kn => .inl ⟨trivial, fun K hK => stepc en_Contains rfl (args2 kn.1 kn.2.1) (HCT.out ww hS) (fun w' hb => hK _ _ ⟨touch_below hb, rfl⟩)⟩),
      trivial⟩ ?_
  intro vs own w5 hS hsz kn inj
  have e30 : vs 30 = .bool (hasSame c0.h.ps P) := kn.1
  clear kn inj hsz HCT
  simp only [putAll, Act.put, List.setIfInBounds_toArray, List.set_cons_zero, List.set_cons_succ, e30]
  clear e30
  have s4 := s4.kept hS
  have s5 := s5.kept hS
  have s6 := s6.kept hS
  have hsz5 := hS.size
  have HB5 := Hid.mk (HB4.out.trans (hS.mono HB4.out.size))
  have HBX := Hid.mk (HBX.out.kept hS)
  have hat := hat.kept hS
  have hrow := prow_kept hrow hS
  clear hS hca
  have NONE : ∀ (z z' : World) (mv' : Value) (bg' : Int) (cs' : List Ch) (b' : Bx), BoxAt z B (fun k => N k ∨ k = g4 ∨ k = g5 ∨ k = g6) g mv' b' bg' cs' → bg' ≤ begun + 1 → Spares N w z → Only g6 z z' → putB b c0.h.fam P = (none, b') → LayPost w B N g begun (putB b c0.h.fam P) (.returned (.tuple #[.agg (SC 46 (pkV zeroP (.slice none 0 0))), .bool false])) z' := fun z z' mv' bg' cs' b' hb hbg hsp ho hp => by
    rw [hp]
    exact ⟨.slice none 0 0, _, _, _, rfl, fun Q hQ => (by cases hQ), (hb.awayN (touch_only ho) (fun k e => .inr (.inr (.inr e)))).more (fun k hk => .inl (.inl hk)), hbg, hsp.trans (spares_only ho hg6N)⟩
  have NONE := Hid.mk NONE
  have HSP := Hid.mk (spares_below (N := N) HB5.out)
  cases hsm : hasSame c0.h.ps P with
  | true =>
    have HP := Hid.mk (putB_same HF.out hsm)
    go_wp2_with (refine wl_value rfl (exec_pk0 rfl) ?_; refine Hid.out ?_)
    refine Hid.mk ?_
    go_wp2_with (refine st_stO (V := pkV zeroP (.slice none 0 0)) (g := g6) rfl rfl isPk (pkV_one rfl) s6 rfl rfl ?_; intro w8 s8 ho8; refine Hid.out ?_)
    refine Hid.mk ?_
    go_wp2_with fail
    refine bodyPost_ret (results_cellt rfl _ _ g6 rfl rfl (SC 46 (pkV zeroP (.slice none 0 0))) s8 (by rw [SC_size]; kernel_rfl) Try.underlying27 rfl) rfl ?_
    exact NONE.out w5 w8 _ _ _ _ HBX.out (by omega) HSP.out ho8 HP.out
  | false =>
    have hrow' := hrow
    rw [← HLEN.out] at hrow'
    have HRF := Hid.mk (fun u (hu : Below w5.heap.size w5 u) => refuses_run P u (hat.kept hu) (prow_kept hrow' hu) HLEN.out hk64 HPC.out HOLS.out.1)
    rw [HCL.out] at HRF
    go_wp2_with (refine wl_value rfl (look_st rfl isPk s5 rfl) ?_; refine Hid.out ?_)
    refine Hid.mk ?_
    go_wp2_with (go_at_call 55; refine (pieceOf_run P v _).mono ?_; rintro e w6 ⟨rfl, hB6⟩; refine Hid.out ?_)
    refine Hid.mk ?_
    go_wp2_with (go_at_call 59; refine (HRF.out _ hB6).mono ?_; rintro e w7 ⟨rfl, hB7⟩; refine Hid.out ?_)
    refine Hid.mk ?_
    have hB67 := hB6.trans (hB7.mono hB6.size)
    have s4 := s4.kept hB67
    have s5 := s5.kept hB67
    have s6 := s6.kept hB67
    have hsz7 := hB67.size
    have HB7 := Hid.mk (HB5.out.trans (hB67.mono HB5.out.size))
    have HSP := Hid.mk (HSP.out.trans (spares_below hB67))
    have HBX := Hid.mk (HBX.out.kept hB67)
    have hat := hat.kept hB67
    have hrow := prow_kept hrow hB67
    clear hB6 hB7 hB67 HRF hrow'
    cases hcl : clash c0.h.ps P with
    | true =>
      have HP := Hid.mk (putB_clash HF.out hsm hcl)
      clear hat hrow
      go_upto_region 7 with fail
      refine wp_region_cut 5 rfl (by kernel_rfl) (any_region3 (Below w7.heap.size w7) (w7.heap.size)
          ([] : List (Nat × Cont))
          [kv (.pointer (some ⟨g, 0, none⟩)), kv (.pointer (some ⟨g, 0, none⟩)), kv (.pointer (some ⟨g, 0, none⟩)), kv (.map (some m)), kv (.agg (SC 38 V))]
          [.none, .none, .none, .none, .none]
          [some 36, some 37, some 38, some 39, some 40]
          [(0, .pointer (some ⟨g, 0, none⟩)), (4, .pointer (some ⟨g4, 0, none⟩))]
          [[], [.slot 0], [.slot 1], [.slot 2], []]
          [.slot 3, .slot 4] [36, 37, 38, 39, 40]
          (by kernel_rfl) ⟨rfl, rfl, trivial⟩ ((Below.refl _ w7).drew) (Nat.le_refl _) trivial trivial (below_GcW (Nat.le_refl _))
          ⟨
          (fun QQ aa ww own hS hBg fr kn => .inl ⟨trivial, fun K hK => wp_value (exec_move rfl fr.1) (hK _ _ ⟨Touch.refl _ _, rfl⟩)⟩),
          (fun QQ aa ww own hS hBg fr kn => .inl ⟨trivial, fun K hK => wp_value (exec_nilc rfl kn.1) (hK _ _ ⟨Touch.refl _ _, rfl⟩)⟩),
          (fun QQ aa ww own hS hBg fr kn => .inl ⟨trivial, fun K hK => wp_value (exec_fbx 0 (by decide) rfl kn.1) (hK _ _ ⟨Touch.refl _ _, rfl⟩)⟩),
          (fun QQ aa ww own hS hBg fr kn => .inl ⟨trivial, fun K hK => wp_value (exec_ld rfl kn.1 (ldM (bx_map (HBX.out.at_.kept hS)))) (hK _ _ ⟨Touch.refl _ _, rfl⟩)⟩),
          (fun QQ aa ww own hS hBg fr kn => .inl ⟨trivial, fun K hK => wp_value (look_st rfl isFm (s4.kept hS) fr.2.1) (hK _ _ ⟨Touch.refl _ _, rfl⟩)⟩),
          trivial⟩ ?_)
      intro vs own w9 hS hsz kn inj
      have e1 : vs 39 = .map (some m) := kn.1
      have e2 : vs 40 = .agg (SC 38 V) := kn.2.1
      clear kn inj hsz
      show wpList Try.prog _ _ (_ :: []) _ _
      simp only [putAll, Act.put, List.setIfInBounds_toArray, List.set_cons_zero, List.set_cons_succ, e1, e2]
      clear e1 e2
      have s4 := s4.kept hS
      have s5 := s5.kept hS
      have s6 := s6.kept hS
      have HSP := Hid.mk (HSP.out.trans (spares_below hS))
      have HBX := Hid.mk (HBX.out.kept hS)
      have hgm := HBX.out.mapS.ne HBX.out.at_
      have hmN : ¬ N m := HB.out.mN m rfl
      have hmX := HBX.out.mN m rfl
      clear hS
      go_wp2_with (refine wl_del rfl rfl rfl rfl HBX.out.mapS HBX.out.nodup HK.out ?_; intro w10 hm10 ho10; refine Hid.out ?_)
      refine Hid.mk ?_
      have s6 := s6.only ho10 (fun e => hmX (.inr (.inr (.inr e.symm))))
      have HBX := Hid.mk (HBX.out.rid c0.h.fam hm10 (touch_only ho10))
      have HSP := Hid.mk (HSP.out.trans (spares_only ho10 hmN))
      clear ho10 hm10
      go_wp2_with (refine wl_value rfl (exec_pk0 rfl) ?_; refine Hid.out ?_)
      refine Hid.mk ?_
      go_wp2_with (refine st_stO (V := pkV zeroP (.slice none 0 0)) (g := g6) rfl rfl isPk (pkV_one rfl) s6 rfl rfl ?_; intro w8 s8 ho8; refine Hid.out ?_)
      refine Hid.mk ?_
      go_wp2_with fail
      refine bodyPost_ret (results_cellt rfl _ _ g6 rfl rfl (SC 46 (pkV zeroP (.slice none 0 0))) s8 (by rw [SC_size]; kernel_rfl) Try.underlying27 rfl) rfl ?_
      exact NONE.out w10 w8 _ _ _ _ HBX.out (by omega) HSP.out ho8 HP.out
    | false =>
      have hlt : k < 63 := by
        have h1 := hcl
        unfold clash at h1
        simp at h1
        have h2 := (HB.out.all c0 HC0.out).perm.length_eq
        have h3 := HLEN.out
        omega
      have HX7 := Hid.mk (HX.out.kept HB7.out)
      have hBs : B ≤ w7.heap.size := by have := HB.out.gB; have := HB7.out.size; omega
      have hca7 := HBX.out.all c0 HC0.out
      have hap : c0.ps.ownBlock ≠ some c0.blk := by
        intro e
        rcases hca7.row.2 with ⟨e2, _⟩ | ⟨q, cap', cur, e2, _, hq, _⟩
        · rw [e2] at e; cases e
        · rw [e2] at e
          have e : q = c0.blk := by injection e
          subst e
          have h1 : w7.heap[c0.blk]? = some (.cells (SC 49 (hpV c0.h.born c0.num c0.hd c0.hv c0.ps)) 89 (0, 0)) := hca7.at_
          rw [hq] at h1
          injection h1 with h1
          injection h1 with _ h1
          exact absurd h1 (by decide)
      have HADD := Hid.mk (add_run (B := B) P v w7 hca7.at_ hca7.row (by rw [HLEN.out]; omega) HX7.out (rgt_len HR.out).2 hBs hap (fun j hj => ⟨hca7.exl j hj, hca7.off_ j hj⟩))
      have hfar0 := HBX.out.far c0 HC0.out
      clear hat hrow
      go_wp2_with (refine wl_value rfl (look_st rfl isPk s5 rfl) ?_; refine Hid.out ?_)
      refine Hid.mk ?_
      go_wp2_with (go_at_call 60; refine HADD.out.mono ?_; rintro e w8 ⟨rfl, S', hd', hv', ps', sq, hrow, hperm, hsr, hT8, hnb, hhd, hoff⟩; refine Hid.out ?_)
      refine Hid.mk ?_
      have hT8' : Touch (fp c0) w7 w8 := hT8.mono (fun j _ hj => hj.elim .inl (fun e => .inr (.inl e)))
      have own7 : ∀ j, fp c0 j → ¬ (N j ∨ j = g4 ∨ j = g5 ∨ j = g6) := fun j hj => (hfar0 j hj).2.2
      have s4 := s4.block (hT8'.block g4 (by omega) (fun e => own7 g4 e (.inr (.inl rfl))))
      have s6 := s6.block (hT8'.block g6 (by omega) (fun e => own7 g6 e (.inr (.inr (.inr rfl)))))
      have HCA := Hid.mk (ch_added hca7 HOK.out HPC.out hcl sq hrow hperm hsr hT8 hhd hoff)
      have hl2 : (c0.h.ps ++ [P]).length = k + 1 + 1 := by
        rw [List.length_append, List.length_singleton, (HB.out.all c0 HC0.out).perm.length_eq, HLEN.out]
      have hok2 := HOK.out.2.2.2.2.1.snoc HPC.out hcl
      have hrg2 : ∀ Q ∈ c0.h.ps ++ [P], rgtP Q = true := fun Q hQ => by
        rcases List.mem_append.1 hQ with h1 | h1
        · exact HOK.out.2.2.2.2.2 Q h1
        · simp at h1; rw [h1]; exact HR.out
      have hIs : InvB ⟨b.time, setF b.hs c0.h.fam (c0.h.ps ++ [P])⟩ := HB.out.inv.set c0.h.fam (by simp) (by omega) hok2 hrg2
      have HOK2 : Hid (HpOk b.time ⟨c0.h.fam, c0.h.born, c0.h.ps ++ [P]⟩) := Hid.mk ⟨HOK.out.1, HOK.out.2.1, by simp, by show (c0.h.ps ++ [P]).length ≤ 64; omega, hok2, hrg2⟩
      have HSP := Hid.mk (HSP.out.trans (hT8'.mono (fun j _ hj => fun hn => own7 j hj (.inl hn))))
      have HBX := Hid.mk (HBX.out.swap (b' := ⟨b.time, setF b.hs c0.h.fam (c0.h.ps ++ [P])⟩) HC0.out hIs rfl (set_hs HBX.out HC0.out rfl) HCA.out rfl rfl rfl hT8' (fp_added hnb hhd) (fun j hj => by have := HB7.out.size; rcases hj with hj | hj | hj | hj <;> first | omega | (have := HN.out j hj; omega)))
      have HFP : Hid (∀ j, fp (⟨⟨c0.h.fam, c0.h.born, c0.h.ps ++ [P]⟩, c0.blk, c0.num, S', hd', hv', ps'⟩ : Ch) j → j ≠ m ∧ j ≠ g6 ∧ ¬ N j) := Hid.mk (fun j hj => by
        rcases fp_added hnb hhd j hj with h1 | h1
        · exact ⟨fun e => (hfar0 j h1).2.1 (by rw [e]; rfl), fun e => own7 j h1 (.inr (.inr (.inr e))), fun e => own7 j h1 (.inl e)⟩
        · have hml := (HB.out.mapS).lt
          have := HB7.out.size
          exact ⟨by omega, by omega, fun e => by have := HN.out j e; omega⟩)
      obtain ⟨p2, cap2, hps2, hpp2⟩ := row_shape hrow
      have hS2 : S'.length = k + 1 + 1 := by rw [← hperm.length_eq, List.length_append, List.length_singleton, HLEN.out]
      obtain ⟨q2, rfl⟩ := hpp2 (by omega)
      rw [hS2] at hps2
      subst hps2
      have hne2 : S' ≠ [] := by intro e; rw [e] at hS2; cases hS2
      have hfull := full_isSome hok2 HCA.out.perm HCA.out.sor hne2
      have hFU := full_run (m := k + 1) w8 sq (by rw [hS2]; exact hrow) hS2 (by omega) (fun Q hQ => (hok2.perm HCA.out.perm).1 Q hQ)
      rw [← hfull] at hFU
      have HFU := Hid.mk hFU
      have HHL : Hid (heldL S' ≤ 65535 ∧ heldL S' ≠ 0) := Hid.mk ⟨held_le (hok2.perm HCA.out.perm), by have hge : S'.length ≤ heldL S' := held_ge (hok2.perm HCA.out.perm); omega⟩
      have HS2 := Hid.mk hS2
      clear hFU hfull hrow sq hperm hsr hhd hnb hoff hT8 hT8' hIs HADD hca7 hap own7 hS2
      cases hwh : (wholeM (c0.h.ps ++ [P])).isSome with
      | false =>
        rw [hwh] at HFU
        have HP := Hid.mk (putB_keep HF.out hsm hcl hwh)
        clear hwh
        go_wp2_with (go_at_call 61; refine HFU.out.mono ?_; rintro e w9 ⟨rfl, hB9⟩; refine Hid.out ?_)
        refine Hid.mk ?_
        have s6 := s6.kept hB9
        have HBX := Hid.mk (HBX.out.kept hB9)
        have HSP := Hid.mk (HSP.out.trans (spares_below hB9))
        go_wp2_with (refine wl_value rfl (exec_pk0 rfl) ?_; refine Hid.out ?_)
        refine Hid.mk ?_
        go_wp2_with (refine st_stO (V := pkV zeroP (.slice none 0 0)) (g := g6) rfl rfl isPk (pkV_one rfl) s6 rfl rfl ?_; intro w8 s8 ho8; refine Hid.out ?_)
        refine Hid.mk ?_
        go_wp2_with fail
        refine bodyPost_ret (results_cellt rfl _ _ g6 rfl rfl (SC 46 (pkV zeroP (.slice none 0 0))) s8 (by rw [SC_size]; kernel_rfl) Try.underlying27 rfl) rfl ?_
        exact NONE.out w9 w8 _ _ _ _ HBX.out (by omega) HSP.out ho8 HP.out
      | true =>
        rw [hwh] at HFU
        have HP := Hid.mk (putB_full HF.out hsm hcl hwh)
        have HWH := Hid.mk hwh
        clear hwh
        go_wp2_with (go_at_call 61; refine HFU.out.mono ?_; rintro e w9 ⟨rfl, hB9⟩; refine Hid.out ?_)
        refine Hid.mk ?_
        have s4 := s4.kept hB9
        have s6 := s6.kept hB9
        have HBX := Hid.mk (HBX.out.kept hB9)
        have HCA := Hid.mk (HCA.out.kept hB9)
        have HSP := Hid.mk (HSP.out.trans (spares_below hB9))
        clear hB9
        go_upto_region 12 with fail
        refine wp_region_cut 5 rfl (by kernel_rfl) (any_region3 (Below w9.heap.size w9) (w9.heap.size)
            ([] : List (Nat × Cont))
            [kv (.pointer (some ⟨g, 0, none⟩)), kv (.pointer (some ⟨g, 0, none⟩)), kv (.pointer (some ⟨g, 0, none⟩)), kv (.map (some m)), kv (.agg (SC 38 V))]
            [.none, .none, .none, .none, .none]
            [some 49, some 50, some 51, some 52, some 53]
            [(0, .pointer (some ⟨g, 0, none⟩)), (4, .pointer (some ⟨g4, 0, none⟩))]
            [[], [.slot 0], [.slot 1], [.slot 2], []]
            [.slot 3, .slot 4] [49, 50, 51, 52, 53]
            (by kernel_rfl) ⟨rfl, rfl, trivial⟩ ((Below.refl _ w9).drew) (Nat.le_refl _) trivial trivial (below_GcW (Nat.le_refl _))
            ⟨
            (fun QQ aa ww own hS hBg fr kn => .inl ⟨trivial, fun K hK => wp_value (exec_move rfl fr.1) (hK _ _ ⟨Touch.refl _ _, rfl⟩)⟩),
            (fun QQ aa ww own hS hBg fr kn => .inl ⟨trivial, fun K hK => wp_value (exec_nilc rfl kn.1) (hK _ _ ⟨Touch.refl _ _, rfl⟩)⟩),
            (fun QQ aa ww own hS hBg fr kn => .inl ⟨trivial, fun K hK => wp_value (exec_fbx 0 (by decide) rfl kn.1) (hK _ _ ⟨Touch.refl _ _, rfl⟩)⟩),
            (fun QQ aa ww own hS hBg fr kn => .inl ⟨trivial, fun K hK => wp_value (exec_ld rfl kn.1 (ldM (bx_map (HBX.out.at_.kept hS)))) (hK _ _ ⟨Touch.refl _ _, rfl⟩)⟩),
            (fun QQ aa ww own hS hBg fr kn => .inl ⟨trivial, fun K hK => wp_value (look_st rfl isFm (s4.kept hS) fr.2.1) (hK _ _ ⟨Touch.refl _ _, rfl⟩)⟩),
            trivial⟩ ?_)
        intro vs own w10 hS hsz kn inj
        have e1 : vs 52 = .map (some m) := kn.1
        have e2 : vs 53 = .agg (SC 38 V) := kn.2.1
        clear kn inj hsz
        show wpList Try.prog _ _ (_ :: []) _ _
        simp only [putAll, Act.put, List.setIfInBounds_toArray, List.set_cons_zero, List.set_cons_succ, e1, e2]
        clear e1 e2
        have s6 := s6.kept hS
        have HSP := Hid.mk (HSP.out.trans (spares_below hS))
        have HBX := Hid.mk (HBX.out.kept hS)
        have HCA := Hid.mk (HCA.out.kept hS)
        have hmN : ¬ N m := HB.out.mN m rfl
        have hmX := HBX.out.mN m rfl
        clear hS
        have hpr : prs (setC cs ⟨⟨c0.h.fam, c0.h.born, c0.h.ps ++ [P]⟩, c0.blk, c0.num, S', hd', hv', .slice (some ⟨q2, 0, none⟩) (k + 1 + 1) cap2⟩) = prs (setC cs ⟨⟨c0.h.fam, c0.h.born, c0.h.ps ++ [P]⟩, c0.blk, c0.num, S', hd', hv', .slice (some ⟨q2, 0, none⟩) (k + 1 + 1) cap2⟩) := rfl
        go_wp2_with (refine wl_del rfl rfl rfl rfl HBX.out.mapS HBX.out.nodup HK.out ?_; intro w11 hm11 ho11; refine Hid.out ?_)
        refine Hid.mk ?_
        have s6 := s6.only ho11 (fun e => hmX (.inr (.inr (.inr e.symm))))
        have hrid := HBX.out.rid c0.h.fam hm11 (touch_only ho11)
        dsimp only at hrid
        rw [drop_set] at hrid
        have HBX := Hid.mk hrid
        clear hrid
        have HSP := Hid.mk (HSP.out.trans (spares_only ho11 hmN))
        have HCA := Hid.mk (HCA.out.block (fun j hj => ho11.block j (HFP.out j hj).1))
        clear ho11 hm11 hpr
        have HTO := Hid.mk (ch_told HCA.out HOK2.out HWH.out)
        have HPK := Hid.mk (packet_run (m := k + 1) w11 HCA.out.at_ (show PRow w11 B (.slice (some ⟨q2, 0, none⟩) S'.length cap2) S' from by have h := HCA.out.row; rw [HS2.out]; exact h) HS2.out (by omega) HHL.out.1 HHL.out.2 HCA.out.one)
        have HTD := Hid.mk (fun u (hu : ExAt u hv' (withPay hd' (joinS S')).exts) => told_run (withPay hd' (joinS S')) hv' u HTO.out.2.2.1 hu (Nat.le_trans HTO.out.2.2.2 (by decide)))
        have HXE : Hid (ExAt w11 hv' (withPay hd' (joinS S')).exts) := Hid.mk HTO.out.2.1
        have HTF : Hid (tellF (c0.h.ps ++ [P]) = if fitP (withPay hd' (joinS S')) = true then some (withPay hd' (joinS S')) else none) := Hid.mk (by
          have h1 : wholeM (c0.h.ps ++ [P]) = some (withPay hd' (joinS S')) := HTO.out.1
          unfold tellF
          rw [h1])
        have hvo : hv'.oneCell' = true := HCA.out.one
        have HXB : Hid (∀ j, exK hv' = some j → j ≠ g6 ∧ ¬ N j) := Hid.mk (fun j hj => (HFP.out j (.inr (.inr hj))).2)
        generalize withPay hd' (joinS S') = Q1 at *
        go_wp2_with (go_at_call 63; refine HPK.out.mono ?_; rintro e w12 ⟨rfl, hB12⟩; refine Hid.out ?_)
        refine Hid.mk ?_
        have s6 := s6.kept hB12
        have HXE := Hid.mk (HXE.out.kept hB12)
        have HBX := Hid.mk (HBX.out.kept hB12)
        have HSP := Hid.mk (HSP.out.trans (spares_below hB12))
        clear hB12
        cases hft : fitP Q1 with
        | true =>
          have HTF : Hid (tellF (c0.h.ps ++ [P]) = some Q1) := Hid.mk (by rw [HTF.out, hft]; rfl)
          have HTD2 : Hid (Calls Try.prog 62 #[.agg (SC 46 (pkV Q1 hv'))] w12 fun e w' => e = .returned (.tuple #[.agg (SC 46 (pkV Q1 hv')), .bool true]) ∧ Below w12.heap.size w12 w') := Hid.mk (by
            have h1 := HTD.out w12 HXE.out
            rw [hft] at h1
            exact h1)
          go_wp2_with (go_at_call 62; refine HTD2.out.mono ?_; rintro e w13 ⟨rfl, hB13⟩; refine Hid.out ?_)
          refine Hid.mk ?_
          have s6 := s6.kept hB13
          have HXE := Hid.mk (HXE.out.kept hB13)
          have HBX := Hid.mk (HBX.out.kept hB13)
          have HSP := Hid.mk (HSP.out.trans (spares_below hB13))
          clear hB13
          go_wp2_with (refine st_stO (V := pkV Q1 hv') (g := g6) rfl rfl isPk (pkV_one hvo) s6 rfl rfl ?_; intro w8 s8 ho8; refine Hid.out ?_)
          refine Hid.mk ?_
          go_wp2_with fail
          refine bodyPost_ret (results_cellt rfl _ _ g6 rfl rfl (SC 46 (pkV Q1 hv')) s8 (by rw [SC_size]; kernel_rfl) Try.underlying27 rfl) rfl ?_
          rw [HP.out, HTF.out]
          exact ⟨hv', _, _, _, rfl, fun Q hQ => by injection hQ with hQ; rw [← hQ]; exact ⟨HXE.out.blk (fun j hj => ho8.block j (HXB.out j hj).1), fun j hj => (HXB.out j hj).2⟩, (HBX.out.awayN (touch_only ho8) (fun k e => .inr (.inr (.inr e)))).more (fun k hk => .inl (.inl hk)), (show begun ≤ begun + 1 by omega), HSP.out.trans (spares_only ho8 hg6N)⟩
        | false =>
          have HTF : Hid (tellF (c0.h.ps ++ [P]) = none) := Hid.mk (by rw [HTF.out, hft]; rfl)
          have HTD2 : Hid (Calls Try.prog 62 #[.agg (SC 46 (pkV Q1 hv'))] w12 fun e w' => e = .returned (.tuple #[.agg (SC 46 (pkV zeroP (.slice none 0 0))), .bool false]) ∧ Below w12.heap.size w12 w') := Hid.mk (by
            have h1 := HTD.out w12 HXE.out
            rw [hft] at h1
            exact h1)
          go_wp2_with (go_at_call 62; refine HTD2.out.mono ?_; rintro e w13 ⟨rfl, hB13⟩; refine Hid.out ?_)
          refine Hid.mk ?_
          have s6 := s6.kept hB13
          have HXE := Hid.mk (HXE.out.kept hB13)
          have HBX := Hid.mk (HBX.out.kept hB13)
          have HSP := Hid.mk (HSP.out.trans (spares_below hB13))
          clear hB13
          go_wp2_with (refine st_stO (V := pkV zeroP (.slice none 0 0)) (g := g6) rfl rfl isPk (pkV_one rfl) s6 rfl rfl ?_; intro w8 s8 ho8; refine Hid.out ?_)
          refine Hid.mk ?_
          go_wp2_with fail
          refine bodyPost_ret (results_cellt rfl _ _ g6 rfl rfl (SC 46 (pkV zeroP (.slice none 0 0))) s8 (by rw [SC_size]; kernel_rfl) Try.underlying27 rfl) rfl ?_
          rw [HP.out, HTF.out]
          exact ⟨.slice none 0 0, _, _, _, rfl, fun Q hQ => (by cases hQ), (HBX.out.awayN (touch_only ho8) (fun k e => .inr (.inr (.inr e)))).more (fun k hk => .inl (.inl hk)), (show begun ≤ begun + 1 by omega), HSP.out.trans (spares_only ho8 hg6N)⟩
end Go.Proofs.Ythnlfjkpiohooaa
/-
  Own text. A piece laid; the region in which Take lays it, whatever its order.
-/
namespace Go.Proofs.Ythnlfjkpiohooaa
open Go.RowKit Go.Proofs
set_option maxRecDepth 100000
theorem lay_run {w : World} {B : Nat} {N : Nat → Prop} {g : Nat} {mv : Value} {b : Bx} {begun : Int} {cs : List Ch} {V : Nat → Value} {F : Fam} {P : Pk} {v : Value} (h : BoxAt w B N g mv b begun cs) (hk : KeyIs (.agg (SC 38 V)) F) (hx : ExAt w v P.exts) (hvN : ∀ k, exK v = some k → N k) (hN : ∀ k, N k → k < w.heap.size) (hr : rgtP P = true) (hm : mayL P = true) (hw : wholeQ P = false) (hbg : begun + 1 < 4611686018427387904) : Calls Try.prog 38 #[.pointer (some ⟨g, 0, none⟩), .agg (SC 38 V), .agg (SC 46 (pkV P v))] w (LayPost w B N g begun (putB b F P)) := by
  by_cases hc : ∃ c ∈ cs, c.h.fam = F
  · obtain ⟨c, hc, rfl⟩ := hc
    exact layOld_run h hk hx hvN hN hr hm hc
  · have hno : ∀ c ∈ cs, c.h.fam ≠ F := fun c hc1 e => hc ⟨c, hc1, e⟩
    have hfind : findF b.hs F = none := by
      unfold findF
      rw [List.find?_eq_none]
      intro x hx2
      rw [← h.hs] at hx2
      obtain ⟨c, hc, rfl⟩ := List.mem_map.1 hx2
      simpa using hno c hc
    have e : putB b F P = (none, ⟨b.time, roomF b.hs ++ [⟨F, b.time, [P]⟩]⟩) := by
      unfold putB
      rw [hfind]
    rw [e]
    exact layNew_run h hk hx hvN hN hr hm hw hbg hno
def fstV (o : Option Pk) (v : Value) : Value := match o with
  | some Q => .agg (SC 46 (pkV Q v))
  | none => .agg (SC 46 (pkV zeroP (.slice none 0 0)))
theorem tell_parts (o : Option Pk) (v : Value) : tellV o v = .tuple #[fstV o v, .bool o.isSome] := by cases o <;> rfl
def ToldX (N : Nat → Prop) (o : Option Pk) (v : Value) (w : World) : Prop := ∀ Q, o = some Q → ExAt w v Q.exts ∧ ∀ k, exK v = some k → ¬ N k
/-- What holds before the piece is laid, and behind. -/
def tkA (u w : World) : Prop := Below u.heap.size u w
def tkB (B : Nat) (N : Nat → Prop) (g : Nat) (begun : Int) (r : Option Pk × Bx) (u w : World) : Prop := ∃ mv' begun' cs', BoxAt w B N g mv' r.2 begun' cs' ∧ begun' ≤ begun + 1 ∧ Spares N u w
def tkF (N : Nat → Prop) (g : Nat) (t e : Int) (P : Pk) (v : Value) (r : Option Pk × Bx) (i : Nat) (val : Value) (w : World) : Prop :=
  match i with
  | 0 => val = .pointer (some ⟨g, 0, none⟩)
  | 1 => val = .agg (SC 2 (tgV t e))
  | 2 => val = .agg (SC 46 (pkV P v))
  | 3 => val = fmP t e P
  | 4 => val = .agg (SC 46 (pkV P v))
  | 5 => ∃ v', val = tellV r.1 v' ∧ ToldX N r.1 v' w
  | 6 => ∃ v', val = fstV r.1 v' ∧ ToldX N r.1 v' w
  | 7 => val = .bool r.1.isSome
  | _ => True
section
variable {B : Nat} {N : Nat → Prop} {g : Nat} {begun t e : Int} {P : Pk} {v : Value} {r : Option Pk × Bx} {u w w' : World} {L : Nat → Bool}
theorem tkF_grow {i : Nat} {val : Value} (h : tkF N g t e P v r i val w) (hb : Below w.heap.size w w') : tkF N g t e P v r i val w' := by
  match i, h with
  | 0, h => exact h
  | 1, h => exact h
  | 2, h => exact h
  | 3, h => exact h
  | 4, h => exact h
  | 5, ⟨v', e, h⟩ => exact ⟨v', e, fun Q hQ => ⟨(h Q hQ).1.kept hb, (h Q hQ).2⟩⟩
  | 6, ⟨v', e, h⟩ => exact ⟨v', e, fun Q hQ => ⟨(h Q hQ).1.kept hb, (h Q hQ).2⟩⟩
  | 7, h => exact h
  | _ + 8, _ => trivial
theorem tkF_pure {i : Nat} {val : Value} (hi : i < 5) (h : tkF N g t e P v r i val w) : tkF N g t e P v r i val w' := by
  match i, hi, h with
  | 0, _, h => exact h
  | 1, _, h => exact h
  | 2, _, h => exact h
  | 3, _, h => exact h
  | 4, _, h => exact h
  | _ + 5, hi, _ => omega
abbrev tkS (B : Nat) (N : Nat → Prop) (g : Nat) (begun : Int) (r : Option Pk × Bx) (u : World) : (Nat → Bool) → World → Prop := SL (tkA u) (tkB B N g begun r u) 5
def tkK (B : Nat) (N : Nat → Prop) (g : Nat) (begun t e : Int) (P : Pk) (v : Value) (r : Option Pk × Bx) (u : World) (L : Nat → Bool) (i : Nat) (o : Oper) (a : Act) (w : World) (a' : Act) (w' : World) : Prop :=
  ∃ val, a' = a.put o.dst val ∧ tkS B N g begun r u (fun j => if j = i then true else L j) w' ∧ tkF N g t e P v r i val w' ∧ ∀ j z, j ≠ i → L j = true → tkF N g t e P v r j z w → tkF N g t e P v r j z w'
def tkT (B : Nat) (N : Nat → Prop) (g : Nat) (begun t e : Int) (P : Pk) (v : Value) (r : Option Pk × Bx) (u : World) (b0 : List (Nat × Value)) (ops : Array Oper) (i : Nat) (o : Oper) : Prop :=
  ∀ (Q : Exit → Act → World → Prop) (L : Nat → Bool) (a : Act) (w : World), tkS B N g begun r u L w → L i = false → (∀ k, predOf o k = true → L k = true) → (L 6 = true → L 5 = true) → (L 7 = true → L 5 = true) → (L 5 = true → L 0 = true ∧ L 3 = true ∧ L 4 = true) → (L 3 = true → L 1 = true ∧ L 2 = true) → Holds a b0 →
    (∀ (j : Nat) (oj : Oper) (d : Nat), ops[j]? = some oj → oj.dst = some d → L j = true → tkF N g t e P v r j (a.eval (.tmp d)) w) →
    wpOp Try.prog ops Q i (tkK B N g begun t e P v r u L i o a w) a w
theorem tk_value {ops : Array Oper} {i : Nat} {o : Oper} (hi : ops[i]? = some o) (hgd : o.guard = none) (h5 : 5 ≠ i) {Q : Exit → Act → World → Prop} {a : Act} (hS : tkS B N g begun r u L w) {val : Value} (he : (execOp a.eval o).run Try.prog w = .ok (.value val) w) (hF : tkF N g t e P v r i val w) :
    wpOp Try.prog ops Q i (tkK B N g begun t e P v r u L i o a w) a w := by
  refine wpOp_of hi hgd (wp_value he ⟨val, rfl, sl_same h5 hS, hF, fun j z _ _ h => h⟩)
theorem tk_all {ops : Array Oper} {a0 : Act} {Q : Exit → Act → World → Prop} {b0 : List (Nat × Value)} (hst : StW (tkT B N g begun t e P v r u b0 ops) ops.toList 0) (hbd : (b0.map (·.1)).all (fun q => (dsts ops).all (fun d => decide (d ≠ q))) = true) (hb0 : Holds a0 b0)
    (hc : ∃ o3 o5 o6 o7, ops[3]? = some o3 ∧ ops[5]? = some o5 ∧ ops[6]? = some o6 ∧ ops[7]? = some o7 ∧ predOf o6 5 = true ∧ predOf o7 5 = true ∧ predOf o5 0 = true ∧ predOf o5 3 = true ∧ predOf o5 4 = true ∧ predOf o3 1 = true ∧ predOf o3 2 = true) :
    ∀ (i : Nat) (o : Oper), ops[i]? = some o → ∀ (L : Nat → Bool) (a : Act) (w : World), tkS B N g begun r u L w → L i = false →
      (∀ (j : Nat) (oj : Oper), ops[j]? = some oj → L j = true → ∀ k, predOf oj k = true → L k = true) → (∀ k, predOf o k = true → L k = true) →
      (∀ t : Nat, (∀ (j : Nat) (oj : Oper), ops[j]? = some oj → oj.dst ≠ some t) → a.tmps[t]? = a0.tmps[t]?) →
      (∀ (j : Nat) (oj : Oper) (d : Nat), ops[j]? = some oj → oj.dst = some d → L j = true → tkF N g t e P v r j (a.tmps.getD d undef) w) →
      wpOp Try.prog ops Q i (fun a' w' => ∃ v', a' = a.put o.dst v' ∧ tkS B N g begun r u (fun j => if j = i then true else L j) w' ∧ tkF N g t e P v r i v' w' ∧ ∀ j z, j ≠ i → L j = true → tkF N g t e P v r j z w → tkF N g t e P v r j z w') a w := by
  intro i o hi L a w hS hL hcl hpr hfr hkn
  have h := stW_at hst i o (by rw [← hi]; simp)
  rw [Nat.zero_add] at h
  obtain ⟨o3, o5, o6, o7, h3, h5, h6, h7, p1, p2, p3, p4, p5, p6, p7⟩ := hc
  refine h _ L a w hS hL hpr (fun e => hcl 6 o6 h6 e 5 p1) (fun e => hcl 7 o7 h7 e 5 p2) (fun e => ⟨hcl 5 o5 h5 e 0 p3, hcl 5 o5 h5 e 3 p4, hcl 5 o5 h5 e 4 p5⟩) (fun e => ⟨hcl 3 o3 h3 e 1 p6, hcl 3 o3 h3 e 2 p7⟩) ?_ hkn
  have key : ∀ (l : List (Nat × Value)), (l.map (·.1)).all (fun q => (dsts ops).all (fun d => decide (d ≠ q))) = true → Holds a0 l → Holds a l := by
    intro l
    induction l with
    | nil => intro _ _; trivial
    | cons x l ih =>
      intro h1 h2
      rw [List.map_cons, List.all_cons, Bool.and_eq_true] at h1
      refine ⟨?_, ih h1.2 h2.2⟩
      have h3 : a.tmps[x.1]? = a0.tmps[x.1]? := hfr x.1 (notDst h1.1)
      have h4 : a0.eval (.tmp x.1) = x.2 := h2.1
      show a.eval (.tmp x.1) = x.2
      rw [← h4]
      show a.tmps.getD x.1 undef = a0.tmps.getD x.1 undef
      rw [Array.getD_eq_getD_getElem?, Array.getD_eq_getD_getElem?, h3]
  exact key b0 hbd hb0
theorem tk_below {ops : Array Oper} {i : Nat} {o : Oper} (hi : ops[i]? = some o) (hgd : o.guard = none) (h5 : i < 5) {Q : Exit → Act → World → Prop} {a : Act} (hS : tkS B N g begun r u L w) (hL5 : L 5 = false) {f : FuncId} (hc : ∀ args w, (callFunc f args).run Try.prog w = .ok (.enter f args) w) {xs : Array Operand} {ts : Array TypeId} {vs : Array Value} {val : Value} (ho : o.op = .call { callee := .value (.func f), args := xs, argTypes := ts }) (hx : xs.map a.eval = vs) (hC : Calls Try.prog f vs w fun e w' => e = .returned val ∧ Below w.heap.size w w') (hF : ∀ w', tkF N g t e P v r i val w') :
    wpOp Try.prog ops Q i (tkK B N g begun t e P v r u L i o a w) a w := by
  have hA : Below u.heap.size u w := sl_a hS hL5
  refine wpOp_of hi hgd (stepc hc ho hx hC (fun w' hb => ⟨val, rfl, sl_ahead (by omega) hL5 (hA.trans (hb.mono hA.size)), hF w', fun j z _ _ h => tkF_grow h hb⟩))
theorem tk_lay {ops : Array Oper} {o : Oper} (hi : ops[5]? = some o) (hgd : o.guard = none) {Q : Exit → Act → World → Prop} {a : Act} (hS : tkS B N g begun r u L w) (hL5 : L 5 = false) (h6 : L 6 = true → L 5 = true) (h7 : L 7 = true → L 5 = true) {xs : Array Operand} {ts : Array TypeId} {vs : Array Value} (ho : o.op = .call { callee := .value (.func 38), args := xs, argTypes := ts }) (hx : xs.map a.eval = vs) (hC : Calls Try.prog 38 vs w (LayPost w B N g begun r)) :
    wpOp Try.prog ops Q 5 (tkK B N g begun t e P v r u L 5 o a w) a w := by
  have hA : Below u.heap.size u w := sl_a hS hL5
  refine wpOp_of hi hgd (stepp en_lay ho hx (R := fun val w' => (∃ v', val = tellV r.1 v' ∧ ToldX N r.1 v' w') ∧ tkB B N g begun r u w') (hC.mono (fun e w' ⟨v', mv', bg', cs', he, h1, h2, h3, h4⟩ => ⟨_, he, ⟨v', rfl, h1⟩, mv', bg', cs', h2, h3, (spares_below hA).trans h4⟩)) (fun val w' ⟨hv, hB⟩ => ⟨val, rfl, sl_done hB, hv, fun j z hj hLj h => ?_⟩))
  by_cases h : j < 5
  · exact tkF_pure h ‹_›
  · by_cases h67 : j = 6 ∨ j = 7
    · rcases h67 with rfl | rfl
      · rw [h6 hLj] at hL5; cases hL5
      · rw [h7 hLj] at hL5; cases hL5
    · match j, hj, h67, h with
      | 0, _, _, h | 1, _, _, h | 2, _, _, h | 3, _, _, h | 4, _, _, h => omega
      | 5, hj, _, _ => exact absurd rfl hj
      | 6, _, h67, _ => exact absurd (.inl rfl) h67
      | 7, _, h67, _ => exact absurd (.inr rfl) h67
      | _ + 8, _, _, _ => trivial
end
end Go.Proofs.Ythnlfjkpiohooaa
/-
  Own text. A packet taken.
-/
namespace Go.Proofs.Ythnlfjkpiohooaa
open Go.RowKit Go.Proofs
set_option maxRecDepth 100000
theorem fst_form {N : Nat → Prop} {o : Option Pk} {v : Value} {w : World} (h : ToldX N o v w) : ∃ Q2 v2, fstV o v = .agg (SC 46 (pkV Q2 v2)) ∧ v2.oneCell' = true := by
  cases o with
  | none => exact ⟨_, _, rfl, rfl⟩
  | some Q => exact ⟨_, _, rfl, (h Q rfl).1.one⟩
theorem off_small {P : Pk} (hr : rgtP P = true) (hp : P.pay.size ≤ 140737488355328) : IntKind.i64.wrap (enP P) = enP P := by
  unfold rgtP upB at hr
  simp only [Bool.and_eq_true, decide_eq_true_eq] at hr
  refine wrap_id ?_ ?_
  · unfold enP; omega
  · unfold enP; omega
set_option maxHeartbeats 32000000 in
theorem Take_run {w : World} {B : Nat} {N : Nat → Prop} {g : Nat} {mv : Value} {b : Bx} {begun now t e0 : Int} {cs : List Ch} {P : Pk} {v : Value} (h : BoxAt w B N g mv b begun cs) (hx : ExAt w v P.exts) (hvN : ∀ k, exK v = some k → N k) (hN : ∀ k, N k → k < w.heap.size) (hn : P.exts.length < 4611686018427387904) (hbd : ∀ x ∈ P.exts, x.body.size ≤ 140737488355328) (hp : P.pay.size ≤ 140737488355328) (hbg : begun + 1 < 4611686018427387904) : Calls Try.prog 17 #[.pointer (some ⟨g, 0, none⟩), .int .i64 now, .agg (SC 2 (tgV t e0)), .agg (SC 46 (pkV P v))] w (LayPost w B N g begun (takeF b now (famOf t e0 P) P)) := by
  have hnil := run_nilB ⟨g, 0, none⟩
  have HB := Hid.mk h
  have HX := Hid.mk hx
  have HVN := Hid.mk hvN
  have HN := Hid.mk hN
  have HNX := Hid.mk (And.intro hn hbd)
  have HP := Hid.mk hp
  have HBG := Hid.mk hbg
  have hv1 := hx.one
  clear h hx hvN hN hn hbd hp hbg
  go_enter Try.func17, Try.ntmps17
  go_wp2_with (refine wl_boxO (V := tgV t e0) rfl rfl isTg rfl ?_; intro g6 w1 hg6 s6 hB1; refine Hid.out ?_)
  refine Hid.mk ?_
  go_wp2_with (refine wl_boxO (V := pkV P v) rfl rfl isPk rfl ?_; intro g7 w2 hg7 s7 hB2; refine Hid.out ?_)
  refine Hid.mk ?_
  have s6 := s6.kept hB2
  go_wp2_with (refine wl_alO rfl rfl zeroPk ?_; intro g8 w3 hg8 s8 hB3; refine Hid.out ?_)
  refine Hid.mk ?_
  have s6 := s6.kept hB3
  have s7 := s7.kept hB3
  have hgs : w.heap.size ≤ g6 ∧ w.heap.size ≤ g7 ∧ w.heap.size ≤ g8 := by have := hB1.size; have := hB2.size; omega
  have HB3 := Hid.mk (hB1.trans ((hB2.trans (hB3.mono hB2.size)).mono hB1.size))
  have hl6 := s6.lt
  have hl7 := s7.lt
  have hl8 := s8.lt
  clear hB1 hB2 hB3 hg6 hg7 hg8
  have hg8N : ¬ N g8 := fun hn => by have := HN.out g8 hn; omega
  obtain ⟨N', hN'⟩ : ∃ N' : Nat → Prop, N' = fun k => N k ∨ k = g6 ∨ k = g7 ∨ k = g8 := ⟨_, rfl⟩
  have HN6 : Hid (N' g6 ∧ N' g7 ∧ N' g8 ∧ (∀ k, N k → N' k)) := Hid.mk (by subst hN'; exact ⟨.inr (.inl rfl), .inr (.inr (.inl rfl)), .inr (.inr (.inr rfl)), fun k hk => .inl hk⟩)
  have HNL : Hid (∀ k, N' k → k < w3.heap.size) := Hid.mk (by
    subst hN'
    intro k hk
    have := HB3.out.size
    rcases hk with hk | hk | hk | hk
    · have := HN.out k hk; omega
    · omega
    · omega
    · omega)
  have HBX : Hid (BoxAt w3 B N' g mv b begun cs) := Hid.mk ((HB.out.more (N' := N') (fun k hk => by subst hN'; exact hk.imp_right (fun e => by omega))).kept HB3.out)
  clear hN'
  go_wp2_with (go_at_call 34; refine (Tick_run (now := now) HBX.out).mono ?_; rintro e w4 ⟨rfl, hb4, hs4⟩; refine Hid.out ?_)
  refine Hid.mk ?_
  have s6 := s6.block (hs4.block g6 hl6 (fun hn => hn HN6.out.1))
  have s7 := s7.block (hs4.block g7 hl7 (fun hn => hn HN6.out.2.1))
  have s8 := s8.block (hs4.block g8 hl8 (fun hn => hn HN6.out.2.2.1))
  have hz4 := hs4.size
  have HBX := Hid.mk hb4
  have HX4 : Hid (ExAt w4 v P.exts) := Hid.mk ((HX.out.kept HB3.out).blk (fun k hk => hs4.block k (HNL.out k (HN6.out.2.2.2 k (HVN.out k hk))) (fun hn => hn (HN6.out.2.2.2 k (HVN.out k hk)))))
  have HSP : Hid (Spares N w w4) := Hid.mk ((spares_below HB3.out).trans (hs4.mono (fun k _ hn => fun hk => hn (HN6.out.2.2.2 k hk))))
  clear hb4 hs4
  generalize lateC (timeF b.time now) cs = cs4 at *
  have NONE : ∀ (z z' : World) (mv' : Value) (bg' : Int) (cs' : List Ch) (b' : Bx), BoxAt z B N' g mv' b' bg' cs' → bg' ≤ begun + 1 → Spares N w z → Only g8 z z' → takeF b now (famOf t e0 P) P = (none, b') → LayPost w B N g begun (takeF b now (famOf t e0 P) P) (.returned (.tuple #[.agg (SC 46 (pkV zeroP (.slice none 0 0))), .bool false])) z' := fun z z' mv' bg' cs' b' hb hbg hsp ho hp => by
    rw [hp]
    exact ⟨.slice none 0 0, _, _, _, rfl, fun Q hQ => (by cases hQ), (hb.awayN (touch_only ho) (fun k e => e ▸ HN6.out.2.2.1)).more (fun k hk => .inl (HN6.out.2.2.2 k hk)), hbg, hsp.trans (spares_only ho hg8N)⟩
  have NONE := Hid.mk NONE
  go_wp2_with (refine wl_value rfl (look_st rfl isPk s7 rfl) ?_; refine Hid.out ?_)
  refine Hid.mk ?_
  go_wp2_with (go_at_call 15; refine (Right_run P v _ HX4.out HNX.out.1 HNX.out.2).mono ?_; rintro e w5 ⟨rfl, hB5⟩; refine Hid.out ?_)
  refine Hid.mk ?_
  have s6 := s6.kept hB5
  have s7 := s7.kept hB5
  have s8 := s8.kept hB5
  have HBX := Hid.mk (HBX.out.kept hB5)
  have HX5 := Hid.mk (HX4.out.kept hB5)
  have HSP := Hid.mk (HSP.out.trans (spares_below hB5))
  have hz5 := hB5.size
  clear hB5
  cases hr : rgtP P with
  | false =>
    have htk : takeF b now (famOf t e0 P) P = (none, lateF b now) := by unfold takeF; rw [if_pos hr]
    go_wp2_with (refine wl_value rfl (exec_pk0 rfl) ?_; refine Hid.out ?_)
    refine Hid.mk ?_
    go_wp2_with (refine st_stO (V := pkV zeroP (.slice none 0 0)) (g := g8) rfl rfl isPk (pkV_one rfl) s8 rfl rfl ?_; intro w9 s9 ho9; refine Hid.out ?_)
    refine Hid.mk ?_
    go_wp2_with fail
    refine bodyPost_ret (results_cellt rfl _ _ g8 rfl rfl (SC 46 (pkV zeroP (.slice none 0 0))) s9 (by rw [SC_size]; kernel_rfl) Try.underlying27 rfl) rfl ?_
    exact NONE.out w5 w9 _ _ _ _ HBX.out (by omega) HSP.out ho9 htk
  | true =>
    have HR := Hid.mk hr
    go_wp2_with (refine wl_value rfl (look_st rfl isPk s7 rfl) ?_; refine Hid.out ?_)
    refine Hid.mk ?_
    go_wp2_with (go_at_call 35; refine (isWhole_run P v _).mono ?_; rintro e w6 ⟨rfl, hB6⟩; refine Hid.out ?_)
    refine Hid.mk ?_
    have s6 := s6.kept hB6
    have s7 := s7.kept hB6
    have s8 := s8.kept hB6
    have HBX := Hid.mk (HBX.out.kept hB6)
    have HX5 := Hid.mk (HX5.out.kept hB6)
    have HSP := Hid.mk (HSP.out.trans (spares_below hB6))
    have hz6 := hB6.size
    clear hB6
    cases hw : wholeQ P with
    | true =>
      have htk : takeF b now (famOf t e0 P) P = (some (bareP P), lateF b now) := by unfold takeF; rw [if_neg (by rw [hr]; decide), if_pos hw]
      go_wp2_with (refine wl_value rfl (look_st rfl isPk s7 rfl) ?_; refine Hid.out ?_)
      refine Hid.mk ?_
      go_wp2_with (go_at_call 36; refine (uncut_run P v _ HX5.out (rgt_len HR.out).2).mono ?_; rintro e w7 ⟨v2, rfl, hnew, hB7⟩; refine Hid.out ?_)
      refine Hid.mk ?_
      have s6 := s6.kept hB7
      have s7 := s7.kept hB7
      have s8 := s8.kept hB7
      have HBX := Hid.mk (HBX.out.kept hB7)
      have HX5 := Hid.mk (HX5.out.kept hB7)
      have HSP := Hid.mk (HSP.out.trans (spares_below hB7))
      have hz7 := hB7.size
      go_wp2_with (refine st_stO (V := pkV (bareP P) v2) (g := g8) rfl rfl isPk (pkV_one hnew.2.1) s8 rfl rfl ?_; intro w9 s9 ho9; refine Hid.out ?_)
      refine Hid.mk ?_
      have hl86 : g8 < w6.heap.size := by omega
      have hnew9 := hnew.only ho9 hl86
      go_wp2_with fail
      refine bodyPost_ret (results_cellt rfl _ _ g8 rfl rfl (SC 46 (pkV (bareP P) v2)) s9 (by rw [SC_size]; kernel_rfl) Try.underlying27 rfl) rfl ?_
      rw [htk]
      have hkN : ∀ k, exK v2 = some k → ¬ N k := fun k hk hnk => by have h1 := (hnew.2.2.1 k hk).1; have h2 := HN.out k hnk; have h3 := HB3.out.size; omega
      exact ⟨v2, _, _, _, rfl, fun Q hQ => by injection hQ with hQ; rw [← hQ]; exact ⟨hnew9.1, hkN⟩, (HBX.out.awayN (touch_only ho9) (fun k e => e ▸ HN6.out.2.2.1)).more (fun k hk => .inl (HN6.out.2.2.2 k hk)), (show begun ≤ begun + 1 by omega), HSP.out.trans (spares_only ho9 hg8N)⟩
    | false =>
      go_wp2_with (refine wl_value rfl (look_st rfl isPk s7 rfl) ?_; refine Hid.out ?_)
      refine Hid.mk ?_
      go_wp2_with (go_at_call 37; refine (mayLie_run P v _ (off_small HR.out HP.out)).mono ?_; rintro e w7 ⟨rfl, hB7⟩; refine Hid.out ?_)
      refine Hid.mk ?_
      have s6 := s6.kept hB7
      have s7 := s7.kept hB7
      have s8 := s8.kept hB7
      have HBX := Hid.mk (HBX.out.kept hB7)
      have HX5 := Hid.mk (HX5.out.kept hB7)
      have HSP := Hid.mk (HSP.out.trans (spares_below hB7))
      have hz7 := hB7.size
      clear hB7
      cases hm : mayL P with
      | false =>
        have htk : takeF b now (famOf t e0 P) P = (none, lateF b now) := by unfold takeF; rw [if_neg (by rw [hr]; decide), if_neg (by rw [hw]; decide), if_pos hm]
        go_wp2_with (refine wl_value rfl (exec_pk0 rfl) ?_; refine Hid.out ?_)
        refine Hid.mk ?_
        go_wp2_with (refine st_stO (V := pkV zeroP (.slice none 0 0)) (g := g8) rfl rfl isPk (pkV_one rfl) s8 rfl rfl ?_; intro w9 s9 ho9; refine Hid.out ?_)
        refine Hid.mk ?_
        go_wp2_with fail
        refine bodyPost_ret (results_cellt rfl _ _ g8 rfl rfl (SC 46 (pkV zeroP (.slice none 0 0))) s9 (by rw [SC_size]; kernel_rfl) Try.underlying27 rfl) rfl ?_
        exact NONE.out w7 w9 _ _ _ _ HBX.out (by omega) HSP.out ho9 htk
      | true =>
        have htk : takeF b now (famOf t e0 P) P = putB (lateF b now) (famOf t e0 P) P := by unfold takeF; rw [if_neg (by rw [hr]; decide), if_neg (by rw [hw]; decide), if_neg (by rw [hm]; decide)]
        have HM := Hid.mk hm
        have HW := Hid.mk hw
        have HTK := Hid.mk htk
        clear hr hw hm htk NONE
        go_upto_region 10 with fail
        have HLAY : Hid (∀ z, Below w7.heap.size w7 z → Calls Try.prog 38 #[.pointer (some ⟨g, 0, none⟩), fmP t e0 P, .agg (SC 46 (pkV P v))] z (LayPost z B N' g begun (putB (lateF b now) (famOf t e0 P) P))) := Hid.mk (fun z hz => lay_run (V := fmV t e0 P.sv P.sb P.dv P.db P.proto P.id) (HBX.out.kept hz) (key_fmP t e0 P) (HX5.out.kept hz) (fun k hk => HN6.out.2.2.2 k (HVN.out k hk)) (fun k hk => by have := HNL.out k hk; have := hz.size; omega) HR.out HM.out HW.out HBG.out)
        refine wp_region_cut 8 rfl (by kernel_rfl) (any_invW (tkS B N' g begun (putB (lateF b now) (famOf t e0 P) P) w7) (fun _ i val z => tkF N' g t e0 P v (putB (lateF b now) (famOf t e0 P) P) i val z) (by kernel_rfl) (sl_start (Below.refl _ w7).drew) (tk_all (b0 := [(0, .pointer (some ⟨g, 0, none⟩)), (6, .pointer (some ⟨g6, 0, none⟩)), (7, .pointer (some ⟨g7, 0, none⟩))]) ⟨
          fun Q L a z hS hL hpr h6 h7 h5 h3 fr kn => tk_value rfl rfl (by decide) hS (exec_move rfl fr.1) rfl,
          fun Q L a z hS hL hpr h6 h7 h5 h3 fr kn => tk_value rfl rfl (by decide) hS (look_st rfl isTg (s6.kept (sl_a hS (by cases hx5 : L 5 with | false => rfl | true => rw [(h3 (h5 hx5).2.1).1] at hL; cases hL))) fr.2.1) rfl,
          fun Q L a z hS hL hpr h6 h7 h5 h3 fr kn => tk_value rfl rfl (by decide) hS (look_st rfl isPk (s7.kept (sl_a hS (by cases hx5 : L 5 with | false => rfl | true => rw [(h3 (h5 hx5).2.1).2] at hL; cases hL))) fr.2.2.1) rfl,
          fun Q L a z hS hL hpr h6 h7 h5 h3 fr kn => tk_below rfl rfl (by decide) hS (by cases hx5 : L 5 with | false => rfl | true => rw [(h5 hx5).2.1] at hL; cases hL) en_familyOf rfl (args2 (kn 1 _ 32 rfl rfl (hpr 1 (by kernel_rfl))) (kn 2 _ 33 rfl rfl (hpr 2 (by kernel_rfl)))) (familyOf_run t e0 P v z) (fun _ => rfl),
          fun Q L a z hS hL hpr h6 h7 h5 h3 fr kn => tk_value rfl rfl (by decide) hS (look_st rfl isPk (s7.kept (sl_a hS (by cases hx5 : L 5 with | false => rfl | true => rw [(h5 hx5).2.2] at hL; cases hL))) fr.2.2.1) rfl,
          fun Q L a z hS hL hpr h6 h7 h5 h3 fr kn => tk_lay rfl rfl hS hL h6 h7 rfl (args3 (kn 0 _ 31 rfl rfl (hpr 0 (by kernel_rfl))) (kn 3 _ 34 rfl rfl (hpr 3 (by kernel_rfl))) (kn 4 _ 35 rfl rfl (hpr 4 (by kernel_rfl)))) (HLAY.out z (sl_a hS hL)),
          fun Q L a z hS hL hpr h6 h7 h5 h3 fr kn => (by obtain ⟨v', hv, hT⟩ := kn 5 _ 36 rfl rfl (hpr 5 (by kernel_rfl)); exact tk_value rfl rfl (by decide) hS (exec_ext rfl (hv.trans (tell_parts _ _)) rfl) ⟨v', rfl, hT⟩),
          fun Q L a z hS hL hpr h6 h7 h5 h3 fr kn => (by obtain ⟨v', hv, hT⟩ := kn 5 _ 36 rfl rfl (hpr 5 (by kernel_rfl)); exact tk_value rfl rfl (by decide) hS (exec_ext rfl (hv.trans (tell_parts _ _)) rfl) rfl),
          trivial⟩ (by kernel_rfl) ⟨rfl, rfl, rfl, trivial⟩ ⟨_, _, _, _, rfl, rfl, rfl, rfl, by kernel_rfl, by kernel_rfl, by kernel_rfl, by kernel_rfl, by kernel_rfl, by kernel_rfl, by kernel_rfl⟩) (fin_ds [31, 32, 33, 34, 35, 36, 37, 38] (by kernel_rfl) (fun vs L z hall hS hk => ?_)) (all_dst (by kernel_rfl)))
        obtain ⟨v', e37, hTX⟩ := hk 6 _ 37 rfl rfl
        have e38 : vs 38 = _ := hk 7 _ 38 rfl rfl
        obtain ⟨mv', bg', cs', hbz, hbgz, hsz⟩ := sl_b hS (hall 5 (by decide))
        obtain ⟨Q2, v2, hfst, hone2⟩ := fst_form hTX
        have e37 : vs 37 = _ := e37.trans hfst
        have hpt := tell_parts (putB (lateF b now) (famOf t e0 P) P).1 v'
        rw [hfst] at hpt
        have s8 := s8.block (hsz.block g8 s8.lt (fun hn => hn HN6.out.2.2.1))
        clear hk hall hS
        show wpList Try.prog _ _ (_ :: _ :: []) _ _
        simp only [putAll, Act.put, List.setIfInBounds_toArray, List.set_cons_zero, List.set_cons_succ, e37, e38]
        clear e37 e38
        go_wp2_with (refine st_stO (V := pkV Q2 v2) (g := g8) rfl rfl isPk (pkV_one hone2) s8 rfl rfl ?_; intro w9 s9 ho9; refine Hid.out ?_)
        refine Hid.mk ?_
        go_wp2_with fail
        refine bodyPost_ret (results_cellt rfl _ _ g8 rfl rfl (SC 46 (pkV Q2 v2)) s9 (by rw [SC_size]; kernel_rfl) Try.underlying27 rfl) rfl ?_
        rw [HTK.out]
        exact ⟨v', _, _, _, by rw [hpt]; rfl, fun Q hQ => ⟨(hTX Q hQ).1.blk (fun k hk => ho9.block k (fun e => (hTX Q hQ).2 k hk (e ▸ HN6.out.2.2.1))), fun k hk hn => (hTX Q hQ).2 k hk (HN6.out.2.2.2 k hn)⟩, (hbz.awayN (touch_only ho9) (fun k e => e ▸ HN6.out.2.2.1)).more (fun k hk => .inl (HN6.out.2.2.2 k hk)), hbgz, (HSP.out.trans (hsz.mono (fun k _ hn => fun hk => hn (HN6.out.2.2.2 k hk)))).trans (spares_only ho9 hg8N)⟩
theorem en_Take (args : Array Value) (w : World) : (callFunc 17 args).run Try.prog w = .ok (.enter 17 args) w := by kernel_rfl
end Go.Proofs.Ythnlfjkpiohooaa
/-
  Own text. The head that a packet's pieces share; whether a packet may be cut.
-/
namespace Go.Proofs.Ythnlfjkpiohooaa
open Go.RowKit Go.Proofs
set_option maxRecDepth 100000
/-- A packet without payload whose header is as long as each piece's. -/
def headOf (P : Pk) (id : Int) : Pk := if P.sv = true then { P with pay := ByteArray.empty, cut := true, id := id } else { P with pay := ByteArray.empty }
theorem emptyB : (⟨#[]⟩ : ByteArray) = ByteArray.empty := rfl
set_option maxHeartbeats 4000000 in
theorem pieceHead_run (P : Pk) (v : Value) (id : Int) (w : World) (hv : v.oneCell' = true) : Calls Try.prog 50 #[.agg (SC 46 (pkV P v)), .int .i64 id] w fun e w' => e = .returned (.agg (SC 46 (pkV (headOf P id) v))) ∧ Below w.heap.size w w' := by
  go_enter Try.func50, Try.ntmps50
  go_wp2_with (refine wl_boxO rfl rfl isPk rfl ?_; intro g1 w1 hg1 r1 hB1; refine Hid.out ?_)
  refine Hid.mk ?_
  go_wp2_with (refine wl_alO rfl rfl zeroPk ?_; intro g2 w2 hg2 s2 hB2; refine Hid.out ?_)
  refine Hid.mk ?_
  have r2 := r1.kept hB2
  have hBa := hB1.trans (hB2.mono hB1.size)
  have hne : g2 ≠ g1 := by have := heap_lt r1; omega
  clear r1
  go_wp2_with (refine wl_value rfl (exec_fpkL 13 45 (by decide) rfl rfl rfl) ?_; refine Hid.out ?_)
  refine Hid.mk ?_
  go_wp2_with (refine wl_stP (z := .string ByteArray.empty) (V' := pkV { P with pay := ByteArray.empty } v) rfl rfl rfl rfl (by decide) (stS ByteArray.empty) r2 (pk_up45 P _ ByteArray.empty) ?_; intro w3 r3 ho3; refine Hid.out ?_)
  refine Hid.mk ?_
  have s3 := s2.only ho3 hne
  clear r2 s2
  go_wp2_with (refine wl_value rfl (exec_fpkL 0 0 (by decide) rfl rfl rfl) ?_; refine Hid.out ?_)
  refine Hid.mk ?_
  go_wp2_with (refine wl_value rfl (exec_fad0 rfl rfl) ?_; refine Hid.out ?_)
  refine Hid.mk ?_
  rcases Bool.eq_false_or_eq_true P.sv with hsv | hsv
  · have csv : w3.cell? ⟨g1, 0, none⟩ = some (.bool true) := (pk_sv r3).trans (by show some (Value.bool P.sv) = _; rw [hsv])
    go_wp2_with (refine wl_value rfl (exec_ld rfl rfl (ldPb csv)) ?_; refine Hid.out ?_)
    refine Hid.mk ?_
    clear csv
    go_wp2_with (refine wl_value rfl (exec_fpkL 12 44 (by decide) rfl rfl rfl) ?_; refine Hid.out ?_)
    refine Hid.mk ?_
    go_wp2_with (refine wl_stP (z := .bool true) (V' := pkV { P with pay := ByteArray.empty, cut := true } v) rfl rfl rfl rfl (by decide) (stB true) r3 (pk_up44 _ _ true) ?_; intro w4 r4 ho4; refine Hid.out ?_)
    refine Hid.mk ?_
    go_wp2_with (refine wl_value rfl (exec_fpkL 5 37 (by decide) rfl rfl rfl) ?_; refine Hid.out ?_)
    refine Hid.mk ?_
    go_wp2_with (refine wl_stP (z := .int .i64 id) (V' := pkV { P with pay := ByteArray.empty, cut := true, id := id } v) rfl rfl rfl rfl (by decide) (stI id) r4 (pk_up37 _ _ id) ?_; intro w5 r5 ho5; refine Hid.out ?_)
    refine Hid.mk ?_
    have s5 := (s3.only ho4 hne).only ho5 hne
    have hh : headOf P id = { P with pay := ByteArray.empty, cut := true, id := id } := if_pos hsv
    rw [← hh] at r5
    clear hh r3 r4 s3
    go_wp2_with (refine wl_value rfl (look_st rfl isPk r5 rfl) ?_; refine Hid.out ?_)
    refine Hid.mk ?_
    go_wp2_with (refine st_stO (V := pkV (headOf P id) v) (g := g2) rfl rfl isPk (pkV_one hv) s5 rfl rfl ?_; intro w6 s6 ho6; refine Hid.out ?_)
    refine Hid.mk ?_
    go_wp2_with fail
    exact bodyPost_ret (res_st rfl isPk s6 rfl) rfl ⟨rfl, (hBa.trans (((ho3.trans ho4).trans ho5).below hg1)).trans (ho6.below (Nat.le_trans hB1.size hg2))⟩
  · have csv : w3.cell? ⟨g1, 0, none⟩ = some (.bool false) := (pk_sv r3).trans (by show some (Value.bool P.sv) = _; rw [hsv])
    go_wp2_with (refine wl_value rfl (exec_ld rfl rfl (ldPb csv)) ?_; refine Hid.out ?_)
    refine Hid.mk ?_
    clear csv
    have hh : headOf P id = { P with pay := ByteArray.empty } := if_neg (by rw [hsv]; decide)
    rw [← hh] at r3
    clear hh
    go_wp2_with (refine wl_value rfl (look_st rfl isPk r3 rfl) ?_; refine Hid.out ?_)
    refine Hid.mk ?_
    go_wp2_with (refine st_stO (V := pkV (headOf P id) v) (g := g2) rfl rfl isPk (pkV_one hv) s3 rfl rfl ?_; intro w6 s6 ho6; refine Hid.out ?_)
    refine Hid.mk ?_
    go_wp2_with fail
    exact bodyPost_ret (res_st rfl isPk s6 rfl) rfl ⟨rfl, (hBa.trans (ho3.below hg1)).trans (ho6.below (Nat.le_trans hB1.size hg2))⟩
theorem en_pieceHead (args : Array Value) (w : World) : (callFunc 50 args).run Try.prog w = .ok (.enter 50 args) w := by kernel_rfl
def leastP (P : Pk) : Int := if P.sv = true then 1280 else 68
def mayC (P : Pk) (mtu id : Int) : Bool := rgtP P && decide (leastP P ≤ mtu) && decide (0 ≤ id) && decide (id ≤ 4294967295) && !P.cut
theorem exec_leT {a : Act} {o : Oper} {w : World} {x y : Operand} (ho : o.op = .binOp .leq 3 x y 3) {m n : Int} (hx : a.eval x = .int .i64 m) (hy : a.eval y = .int .i64 n) (h : m ≤ n) : (execOp a.eval o).run Try.prog w = .ok (.value (.bool true)) w := by
  have := cmp_le (w := w) ho hx hy
  rwa [decide_eq_true h] at this
theorem exec_leF {a : Act} {o : Oper} {w : World} {x y : Operand} (ho : o.op = .binOp .leq 3 x y 3) {m n : Int} (hx : a.eval x = .int .i64 m) (hy : a.eval y = .int .i64 n) (h : ¬ m ≤ n) : (execOp a.eval o).run Try.prog w = .ok (.value (.bool false)) w := by
  have := cmp_le (w := w) ho hx hy
  rwa [decide_eq_false h] at this
set_option maxHeartbeats 8000000 in
theorem mayCut_run (P : Pk) (v : Value) (mtu id : Int) (w : World) (h1 : ExAt w v P.exts) (hn : P.exts.length < 4611686018427387904) (hb : ∀ x ∈ P.exts, x.body.size ≤ 140737488355328) : Calls Try.prog 25 #[.agg (SC 46 (pkV P v)), .int .i64 mtu, .int .i64 id] w fun e w' => e = .returned (.bool (mayC P mtu id)) ∧ Below w.heap.size w w' := by
  have HX := Hid.mk h1
  have HNB := Hid.mk (And.intro hn hb)
  clear h1 hn hb
  go_enter Try.func25, Try.ntmps25
  go_wp2_with (refine wl_boxO (V := pkV P v) rfl rfl isPk rfl ?_; intro g1 w1 hg1 r1 hB1; refine Hid.out ?_)
  refine Hid.mk ?_
  have HX1 := Hid.mk (HX.out.kept hB1)
  go_wp2_with (refine wl_value rfl (exec_fpkL 0 0 (by decide) rfl rfl rfl) ?_; refine Hid.out ?_)
  refine Hid.mk ?_
  go_wp2_with (refine wl_value rfl (exec_fad0 rfl rfl) ?_; refine Hid.out ?_)
  refine Hid.mk ?_
  rcases Bool.eq_false_or_eq_true P.sv with hsv | hsv
  · have hl : leastP P = 1280 := by unfold leastP; rw [hsv]; rfl
    have csv : w1.cell? ⟨g1, 0, none⟩ = some (.bool true) := (pk_sv r1).trans (by rw [hsv])
    go_wp2_with (refine wl_value rfl (exec_ld rfl rfl (ldPb csv)) ?_; refine Hid.out ?_)
    refine Hid.mk ?_
    clear csv
    go_wp2_with (refine wl_value rfl (look_st rfl isPk r1 rfl) ?_; refine Hid.out ?_)
    refine Hid.mk ?_
    go_wp2_with (go_at_call 15; refine (Right_run P v _ HX1.out HNB.out.1 HNB.out.2).mono ?_; rintro e w2 ⟨rfl, hB2⟩; refine Hid.out ?_)
    refine Hid.mk ?_
    have r2 := r1.kept hB2
    have HBa := Hid.mk (hB1.trans (hB2.mono hB1.size))
    clear hB2
    cases hr : rgtP P with
    | false =>
      go_wp2_with fail
      go_ret
      exact ⟨by unfold mayC; rw [hr]; rfl, HBa.out⟩
    | true =>
      by_cases h2 : 1280 ≤ mtu
      · have h2' := h2
        go_wp2_with (refine wl_value rfl (exec_geT (m := mtu) (n := 1280) rfl rfl rfl h2') ?_; refine Hid.out ?_)
        refine Hid.mk ?_
        by_cases h3 : 0 ≤ id
        · have h3' := h3
          go_wp2_with (refine wl_value rfl (exec_geT (m := id) (n := 0) rfl rfl rfl h3') ?_; refine Hid.out ?_)
          refine Hid.mk ?_
          by_cases h4 : id ≤ 4294967295
          · have h4' := h4
            go_wp2_with (refine wl_value rfl (exec_leT (m := id) (n := 4294967295) rfl rfl rfl h4') ?_; refine Hid.out ?_)
            refine Hid.mk ?_
            go_wp2_with (refine wl_value rfl (exec_fpkL 12 44 (by decide) rfl rfl rfl) ?_; refine Hid.out ?_)
            refine Hid.mk ?_
            go_wp2_with (refine wl_value rfl (exec_ld rfl rfl (ldPb (pk_cut r2))) ?_; refine Hid.out ?_)
            refine Hid.mk ?_
            cases hc : P.cut with
            | false =>
              go_wp2_with fail
              go_ret
              exact ⟨by unfold mayC; rw [hr, hl, decide_eq_true h2, decide_eq_true h3, decide_eq_true h4, hc]; rfl, HBa.out⟩
            | true =>
              go_wp2_with fail
              go_ret
              exact ⟨by unfold mayC; rw [hr, hl, decide_eq_true h2, decide_eq_true h3, decide_eq_true h4, hc]; rfl, HBa.out⟩
          · have h4' := h4
            have e4 : decide (id ≤ 4294967295) = false := decide_eq_false h4
            go_wp2_with (refine wl_value rfl (exec_leF (m := id) (n := 4294967295) rfl rfl rfl h4') ?_; refine Hid.out ?_)
            refine Hid.mk ?_
            go_wp2_with fail
            go_ret
            exact ⟨by unfold mayC; rw [hr, hl, decide_eq_true h2, decide_eq_true h3, e4]; rfl, HBa.out⟩
        · have h3' := h3
          have e3 : decide (0 ≤ id) = false := decide_eq_false h3
          go_wp2_with (refine wl_value rfl (exec_geF (m := id) (n := 0) rfl rfl rfl h3') ?_; refine Hid.out ?_)
          refine Hid.mk ?_
          go_wp2_with fail
          go_ret
          exact ⟨by unfold mayC; rw [hr, hl, decide_eq_true h2, e3]; rfl, HBa.out⟩
      · have h2' := h2
        have e2 : decide (1280 ≤ mtu) = false := decide_eq_false h2
        go_wp2_with (refine wl_value rfl (exec_geF (m := mtu) (n := 1280) rfl rfl rfl h2') ?_; refine Hid.out ?_)
        refine Hid.mk ?_
        go_wp2_with fail
        go_ret
        exact ⟨by unfold mayC; rw [hr, hl, e2]; rfl, HBa.out⟩
  · have hl : leastP P = 68 := by unfold leastP; rw [hsv]; rfl
    have csv : w1.cell? ⟨g1, 0, none⟩ = some (.bool false) := (pk_sv r1).trans (by rw [hsv])
    go_wp2_with (refine wl_value rfl (exec_ld rfl rfl (ldPb csv)) ?_; refine Hid.out ?_)
    refine Hid.mk ?_
    clear csv
    go_wp2_with (refine wl_value rfl (look_st rfl isPk r1 rfl) ?_; refine Hid.out ?_)
    refine Hid.mk ?_
    go_wp2_with (go_at_call 15; refine (Right_run P v _ HX1.out HNB.out.1 HNB.out.2).mono ?_; rintro e w2 ⟨rfl, hB2⟩; refine Hid.out ?_)
    refine Hid.mk ?_
    have r2 := r1.kept hB2
    have HBa := Hid.mk (hB1.trans (hB2.mono hB1.size))
    clear hB2
    cases hr : rgtP P with
    | false =>
      go_wp2_with fail
      go_ret
      exact ⟨by unfold mayC; rw [hr]; rfl, HBa.out⟩
    | true =>
      by_cases h2 : 68 ≤ mtu
      · have h2' := h2
        go_wp2_with (refine wl_value rfl (exec_geT (m := mtu) (n := 68) rfl rfl rfl h2') ?_; refine Hid.out ?_)
        refine Hid.mk ?_
        by_cases h3 : 0 ≤ id
        · have h3' := h3
          go_wp2_with (refine wl_value rfl (exec_geT (m := id) (n := 0) rfl rfl rfl h3') ?_; refine Hid.out ?_)
          refine Hid.mk ?_
          by_cases h4 : id ≤ 4294967295
          · have h4' := h4
            go_wp2_with (refine wl_value rfl (exec_leT (m := id) (n := 4294967295) rfl rfl rfl h4') ?_; refine Hid.out ?_)
            refine Hid.mk ?_
            go_wp2_with (refine wl_value rfl (exec_fpkL 12 44 (by decide) rfl rfl rfl) ?_; refine Hid.out ?_)
            refine Hid.mk ?_
            go_wp2_with (refine wl_value rfl (exec_ld rfl rfl (ldPb (pk_cut r2))) ?_; refine Hid.out ?_)
            refine Hid.mk ?_
            cases hc : P.cut with
            | false =>
              go_wp2_with fail
              go_ret
              exact ⟨by unfold mayC; rw [hr, hl, decide_eq_true h2, decide_eq_true h3, decide_eq_true h4, hc]; rfl, HBa.out⟩
            | true =>
              go_wp2_with fail
              go_ret
              exact ⟨by unfold mayC; rw [hr, hl, decide_eq_true h2, decide_eq_true h3, decide_eq_true h4, hc]; rfl, HBa.out⟩
          · have h4' := h4
            have e4 : decide (id ≤ 4294967295) = false := decide_eq_false h4
            go_wp2_with (refine wl_value rfl (exec_leF (m := id) (n := 4294967295) rfl rfl rfl h4') ?_; refine Hid.out ?_)
            refine Hid.mk ?_
            go_wp2_with fail
            go_ret
            exact ⟨by unfold mayC; rw [hr, hl, decide_eq_true h2, decide_eq_true h3, e4]; rfl, HBa.out⟩
        · have h3' := h3
          have e3 : decide (0 ≤ id) = false := decide_eq_false h3
          go_wp2_with (refine wl_value rfl (exec_geF (m := id) (n := 0) rfl rfl rfl h3') ?_; refine Hid.out ?_)
          refine Hid.mk ?_
          go_wp2_with fail
          go_ret
          exact ⟨by unfold mayC; rw [hr, hl, decide_eq_true h2, e3]; rfl, HBa.out⟩
      · have h2' := h2
        have e2 : decide (68 ≤ mtu) = false := decide_eq_false h2
        go_wp2_with (refine wl_value rfl (exec_geF (m := mtu) (n := 68) rfl rfl rfl h2') ?_; refine Hid.out ?_)
        refine Hid.mk ?_
        go_wp2_with fail
        go_ret
        exact ⟨by unfold mayC; rw [hr, hl, e2]; rfl, HBa.out⟩
theorem en_mayCut (args : Array Value) (w : World) : (callFunc 25 args).run Try.prog w = .ok (.enter 25 args) w := by kernel_rfl
end Go.Proofs.Ythnlfjkpiohooaa
/-
  Own text. How a packet is cut: plain data.
-/
namespace Go.Proofs.Ythnlfjkpiohooaa
open Go.RowKit Go.Proofs
set_option maxRecDepth 100000
theorem head_exts (P : Pk) (id : Int) : (headOf P id).exts = P.exts := by unfold headOf; split <;> rfl
theorem head_pay (P : Pk) (id : Int) : (headOf P id).pay = ByteArray.empty := by unfold headOf; split <;> rfl
theorem head_off (P : Pk) (id : Int) : (headOf P id).off = P.off := by unfold headOf; split <;> rfl
theorem rgt_head {P : Pk} {id : Int} (h : rgtP P = true) (h1 : 0 ≤ id) (h2 : id ≤ 4294967295) : rgtP (headOf P id) = true := by
  unfold headOf
  by_cases hs : P.sv = true
  · rw [if_pos hs]
    unfold rgtP at h ⊢
    simp only [Bool.and_eq_true] at h ⊢
    refine ⟨h.1, ?_⟩
    have h3 := h.2
    rw [if_pos hs] at h3
    show (if P.sv = true then _ else _) = true
    rw [if_pos hs]
    unfold rgt6 at h3 ⊢
    simp only [Bool.and_eq_true] at h3 ⊢
    have hid : upB id 4294967295 = true := by unfold upB; simp [h1, h2]
    exact ⟨⟨h3.1.1, hid⟩, rfl⟩
  · rw [if_neg hs]
    unfold rgtP at h ⊢
    simp only [Bool.and_eq_true] at h ⊢
    refine ⟨h.1, ?_⟩
    have h3 := h.2
    rw [if_neg hs] at h3
    show (if P.sv = true then _ else _) = true
    rw [if_neg hs]
    exact h3
/-- How many bytes each piece but the last has. -/
def roomP (P : Pk) (mtu id : Int) : Nat := (mtu - (headP (headOf P id) : Int)).toNat / 8 * 8
def pieceAt (P : Pk) (id : Int) (R at_ : Nat) : Pk := { headOf P id with off := P.off + (at_ : Int), more := P.more || decide (at_ + R < P.pay.size), pay := P.pay.extract at_ (min (at_ + R) P.pay.size) }
/-- The pieces that begin below n times R. -/
def cutN (P : Pk) (id : Int) (R n : Nat) : List Pk := (List.range n).map (fun j => pieceAt P id R (R * j))
def manyP (P : Pk) (R : Nat) : Nat := (P.pay.size + R - 1) / R
def bigP (P : Pk) (R : Nat) : Bool := decide (R = 0) || decide (65528 < P.off + (((P.pay.size - 1) / R * R : Nat) : Int))
/-- What Split tells. -/
def splitP (P : Pk) (mtu id : Int) : List Pk × Int :=
  if mayC P mtu id = false then ([], 1)
  else if fitP P = false then ([], 75)
  else if (sizeP P : Int) ≤ mtu then ([P], 0)
  else if P.still = true then ([], 75)
  else if bigP P (roomP P mtu id) = true then ([], 75)
  else (cutN P id (roomP P mtu id) (manyP P (roomP P mtu id)), 0)
theorem cutN_succ (P : Pk) (id : Int) (R n : Nat) : cutN P id R (n + 1) = cutN P id R n ++ [pieceAt P id R (R * n)] := by
  unfold cutN
  rw [List.range_succ, List.map_append, List.map_singleton]
theorem head_size (P : Pk) (id : Int) (h : rgtP (headOf P id) = true) : sizeP (headOf P id) = headP (headOf P id) := by
  unfold sizeP
  rw [if_pos h, head_pay]
  rfl
/-- A packet that does not fit into mtu has bytes to be cut, where there is room. -/
theorem pay_pos {P : Pk} {mtu id : Int} (hr : rgtP P = true) (hc : P.cut = false) (hs : mtu < (sizeP P : Int)) (hR : roomP P mtu id ≠ 0) : 8 ≤ P.pay.size := by
  have h1 : headP P ≤ headP (headOf P id) := by
    unfold headOf
    by_cases h : P.sv = true
    · rw [if_pos h]
      unfold headP
      rw [if_pos h, hc]
      show _ ≤ (if P.sv = true then 40 + exLen P.exts + (if true = true then 8 else 0) else _)
      rw [if_pos h]
      simp
    · rw [if_neg h]
      exact Nat.le_refl _
  unfold roomP at hR
  unfold sizeP at hs
  rw [if_pos hr] at hs
  omega
/-- Where pieces begin: below the end just as long as there are more. -/
theorem many_iff {L R j : Nat} (hR : 0 < R) : R * j < L ↔ j < (L + R - 1) / R := by
  rw [Nat.lt_div_iff_mul_lt hR]
  constructor
  · intro h; rw [Nat.mul_comm] at h; omega
  · intro h; rw [Nat.mul_comm]; omega
/-- How many there are at most. -/
theorem few_pieces {P : Pk} {R : Nat} (hb : bigP P R = false) (h0 : 0 ≤ P.off) (hp : 0 < P.pay.size) (h8 : 8 ≤ R) : manyP P R ≤ 8192 ∧ R * manyP P R ≤ 65528 + R := by
  unfold bigP at hb
  have h1 : (P.pay.size - 1) / R * R ≤ 65528 := by
    have h := of_decide_eq_false (Bool.or_eq_false_iff.1 hb).2
    generalize (P.pay.size - 1) / R * R = x at *
    omega
  have h2 : manyP P R = (P.pay.size - 1) / R + 1 := by
    unfold manyP
    rw [show P.pay.size + R - 1 = (P.pay.size - 1) + R by omega, Nat.add_div_right _ (by omega)]
  rw [h2]
  have h3 : (P.pay.size - 1) / R * 8 ≤ (P.pay.size - 1) / R * R := Nat.mul_le_mul_left _ h8
  rw [Nat.mul_add, Nat.mul_one, Nat.mul_comm R]
  omega
theorem room_mod (P : Pk) (mtu id : Int) : roomP P mtu id % 8 = 0 := by unfold roomP; omega
end Go.Proofs.Ythnlfjkpiohooaa
/-
  Own text. A packet cut: the walk.
-/
namespace Go.Proofs.Ythnlfjkpiohooaa
open Go.RowKit Go.Proofs
set_option maxRecDepth 100000
theorem pkInfo : (Try.prog.info? 27).map (fun i => (i.zero, i.size, i.bytes)) = some (some (.agg (SC 46 (pkV zeroP (.slice none 0 0)))), 46, 160) := by kernel_rfl
theorem run_bsK (P : Pk) (v : Value) (w : World) : (Instr.buildSlice 29 1 #[(0, .agg (SC 46 (pkV P v)))]).run Try.prog w = .ok (.slice (some ⟨w.heap.size, 0, none⟩) 1 1) (w.alloc (.cells (SC 46 (pkV P v)) 27)) := by
  kernel_rfl
def pksZ (l : List (Pk × Value)) (j : Nat) : Nat → Value := pkV (l.getD j (zeroP, .slice none 0 0)).1 (l.getD j (zeroP, .slice none 0 0)).2
/-- A row of packets, whose lists of headers lie in memory of their own, from C on. -/
structure PkRow (w : World) (B C : Nat) (v : Value) (l : List (Pk × Value)) : Prop where
  row : w.ownsRow B 27 46 v l.length (rX 46 (pksZ l) l.length)
  exs : ∀ x ∈ l, NewEx C w x.2 x.1.exts
  apart : l.Pairwise (fun x y => ∀ k, exK x.2 = some k → exK y.2 ≠ some k)
  off : ∀ x ∈ l, ∀ k, exK x.2 = some k → v.ownBlock ≠ some k
/-- What Split hands back: so many packets, each with a list of headers of its own, and an errno. -/
def CutPost (C : Nat) (er : Int) (L : List Pk) (e : Ending) (w' : World) : Prop := ∃ v' l, e = .returned (.tuple #[v', .int .i64 er]) ∧ PkRow w' C C v' l ∧ l.map (·.1) = L
theorem exec_ltW {a : Act} {o : Oper} {w : World} {x y : Operand} (ho : o.op = .binOp .lss 3 x y 3) {m n : Int} {z : Bool} (hx : a.eval x = .int .i64 m) (hy : a.eval y = .int .i64 n) (hz : decide (m < n) = z) : (execOp a.eval o).run Try.prog w = .ok (.value (.bool z)) w := hz ▸ cmp_lt ho hx hy
theorem strLH (s : ByteArray) (l n : Nat) (w : World) (h1 : l ≤ n) (h : n ≤ s.size) : (Instr.sliceAt 9 (.string s) (some (.int .i64 (l : Int))) (some (.int .i64 (n : Int))) none).run Try.prog w = .ok (.string (s.extract l n)) w := by
  have h2 : (n : Int) ≤ (s.size : Int) := by omega
  have h3 : (l : Int) ≤ (n : Int) := by omega
  simp [go_sem, h2, h3]
theorem NewEx.away {n : Nat} {w u : World} {v : Value} {l : List Ex} (h : NewEx n w v l) (hs : w.heap.size ≤ u.heap.size) (hb : ∀ k, k < w.heap.size → u.heap[k]? = w.heap[k]?) : NewEx n u v l := ⟨h.1.blk (fun k hk => hb k (h.2.2.1 k hk).2), h.2.1, fun k hk => ⟨(h.2.2.1 k hk).1, Nat.lt_of_lt_of_le (h.2.2.1 k hk).2 hs⟩, fun k hk => by rw [hb k (h.2.2.1 k hk).2]; exact h.2.2.2 k hk⟩
theorem exec_maxR {a : Act} {o : Oper} {w : World} {x y : Operand} (ho : o.op = .call { callee := .builtin .max, args := #[x, y], argTypes := #[3, 3] }) {m n r : Int} (hx : a.eval x = .int .i64 m) (hy : a.eval y = .int .i64 n) (hr : max m n = r) : (execOp a.eval o).run Try.prog w = .ok (.value (.int .i64 r)) w := hr ▸ exec_max ho hx hy
theorem exec_gtW {a : Act} {o : Oper} {w : World} {x y : Operand} (ho : o.op = .binOp .gtr 3 x y 3) {m n : Int} {z : Bool} (hx : a.eval x = .int .i64 m) (hy : a.eval y = .int .i64 n) (hz : decide (n < m) = z) : (execOp a.eval o).run Try.prog w = .ok (.value (.bool z)) w := hz ▸ cmp_gt ho hx hy
theorem exec_minR {a : Act} {o : Oper} {w : World} {x y : Operand} (ho : o.op = .call { callee := .builtin .min, args := #[x, y], argTypes := #[3, 3] }) {m n r : Int} (hx : a.eval x = .int .i64 m) (hy : a.eval y = .int .i64 n) (hr : min m n = r) : (execOp a.eval o).run Try.prog w = .ok (.value (.int .i64 r)) w := hr ▸ exec_min ho hx hy
theorem exec_addR {a : Act} {o : Oper} {w : World} {x y : Operand} (ho : o.op = .binOp .add 3 x y 3) {m n r : Int} (hx : a.eval x = .int .i64 m) (hy : a.eval y = .int .i64 n) (hr : m + n = r) (h0 : 0 ≤ r) (h1 : r < 9223372036854775808) : (execOp a.eval o).run Try.prog w = .ok (.value (.int .i64 r)) w := by
  subst hr
  exact exec_addE ho hx hy (wrap_id (by omega) h1)
theorem wl_bsK {ops : Array Oper} {rest : List Oper} {o : Oper} {a : Act} {w : World} {Q : Exit → Act → World → Prop} {y : Operand} {P : Pk} {v : Value} (ho : o.op = .buildSlice 29 1 #[(0, y)]) (hw : Region.wanted o (yielded ops a.tmps) = true) (hy : a.eval y = .agg (SC 46 (pkV P v)))
    (h : ∀ b w', w.heap.size ≤ b → SAt w' b 27 46 (pkV P v) → Below w.heap.size w w' → wpList Try.prog ops Q rest (a.put o.dst (.slice (some ⟨b, 0, none⟩) 1 1)) w') : wpList Try.prog ops Q (o :: rest) a w := by
  refine wl_act hw ?_
  have hr := run_bsK P v w
  unfold Oper.wp execOp
  simp only [ho, List.map_toArray, List.map_cons, List.map_nil, hy, Sem.run_bind, hr, Result.andThen_ok, Sem.run_pure, Oper.upon]
  exact h _ _ (Nat.le_refl _) (heap_alloc_new w _) ((Below.refl _ w).alloc (Nat.le_refl _) _)
theorem pksZ_more (l : List (Pk × Value)) (x : Pk × Value) : rX 46 (setG (pksZ l) l.length (pkV x.1 x.2)) (l.length + 1) = rX 46 (pksZ (l ++ [x])) (l.length + 1) := by
  refine rX_congr _ (fun j f hj hf => ?_)
  unfold pksZ
  by_cases e : j = l.length
  · subst e
    rw [gE, List.getD_eq_getElem?_getD, List.getElem?_append_right (Nat.le_refl _), Nat.sub_self]
    rfl
  · rw [gD _ _ _ e, List.getD_eq_getElem?_getD, List.getD_eq_getElem?_getD, List.getElem?_append_left (by omega)]
/-- One more packet in the row. -/
theorem PkRow.more {w w1 w' : World} {B C : Nat} {vv v' : Value} {l : List (Pk × Value)} {x : Pk × Value} (h : PkRow w B C vv l) (hC : C ≤ w.heap.size) (hk : Below w.heap.size w w1) (hx : NewEx w.heap.size w1 x.2 x.1.exts) (hr : w'.ownsRow B 27 46 v' (l.length + 1) (rX 46 (setG (pksZ l) l.length (pkV x.1 x.2)) (l.length + 1))) (hg : w1.grownBy w' vv.ownBlock) (hn : ∀ q, v'.ownBlock = some q → vv.ownBlock = some q ∨ w1.heap.size ≤ q) : PkRow w' B C v' (l ++ [x]) := by
  have old : ∀ y ∈ l, ∀ k, exK y.2 = some k → k < w.heap.size ∧ vv.ownBlock ≠ some k := fun y hy k hk => ⟨((h.exs y hy).2.2.1 k hk).2, h.off y hy k hk⟩
  have newx : ∀ k, exK x.2 = some k → w.heap.size ≤ k ∧ k < w1.heap.size := fun k hk => hx.2.2.1 k hk
  have hvv : ∀ k, vv.ownBlock = some k → k < w.heap.size := fun k hk => by
    rcases h.row.2 with ⟨e, _⟩ | ⟨g, cap, cur, e, _, hq, _⟩
    · rw [e] at hk; cases hk
    · rw [e] at hk; cases hk; exact heap_lt hq
  have kept : ∀ k, k < w1.heap.size → vv.ownBlock ≠ some k → w'.heap[k]? = w1.heap[k]? := fun k hk hn => hg.block k hk (fun e => hn e.symm)
  have hlen : (l ++ [x]).length = l.length + 1 := by rw [List.length_append, List.length_singleton]
  refine ⟨by rw [hlen, ← pksZ_more]; exact hr, fun y hy => ?_, ?_, fun y hy k hk e => ?_⟩
  · rcases List.mem_append.1 hy with h1 | h1
    · have h2 := (h.exs y h1).kept hk
      exact ⟨h2.1.blk (fun k hk2 => kept k (Nat.lt_of_lt_of_le (old y h1 k hk2).1 hk.size) (old y h1 k hk2).2), h2.2.1, fun k hk2 => ⟨(h2.2.2.1 k hk2).1, Nat.lt_of_lt_of_le (h2.2.2.1 k hk2).2 hg.size⟩, fun k hk2 => by rw [kept k (Nat.lt_of_lt_of_le (old y h1 k hk2).1 hk.size) (old y h1 k hk2).2]; exact h2.2.2.2 k hk2⟩
    · have h1 : y = x := by simpa using h1
      subst h1
      exact ⟨hx.1.blk (fun k hk2 => kept k (newx k hk2).2 (fun e => by have := hvv k e; have := (newx k hk2).1; omega)), hx.2.1, fun k hk2 => ⟨Nat.le_trans hC (newx k hk2).1, Nat.lt_of_lt_of_le (newx k hk2).2 hg.size⟩, fun k hk2 => by rw [kept k (newx k hk2).2 (fun e => by have := hvv k e; have := (newx k hk2).1; omega)]; exact hx.2.2.2 k hk2⟩
  · rw [List.pairwise_append]
    refine ⟨h.apart, List.pairwise_singleton _ _, fun y hy z hz k hk hk2 => ?_⟩
    simp at hz
    subst hz
    have := (old y hy k hk).1
    have := (newx k hk2).1
    omega
  · rcases List.mem_append.1 hy with h1 | h1
    · rcases hn k e with h2 | h2
      · exact (old y h1 k hk).2 h2
      · have := (old y h1 k hk).1; have := Below.size ‹Below w.heap.size w w1›; omega
    · have h1 : y = x := by simpa using h1
      subst h1
      have h3 := newx k hk
      rcases hn k e with h2 | h2
      · have := hvv k h2; omega
      · omega
set_option maxHeartbeats 16000000 in
theorem cut_run (P : Pk) (v : Value) (mtu id : Int) (w : World) (hx : ExAt w v P.exts) (hr : rgtP P = true) (hc : P.cut = false) (h1 : 0 ≤ id) (h2 : id ≤ 4294967295) (hm0 : 0 ≤ mtu) (hs : mtu < (sizeP P : Int)) (hf : sizeP P ≤ 65575) : Calls Try.prog 28 #[.agg (SC 46 (pkV P v)), .int .i64 mtu, .int .i64 id] w fun e w' => CutPost w.heap.size (if bigP P (roomP P mtu id) = true then 75 else 0) (if bigP P (roomP P mtu id) = true then [] else cutN P id (roomP P mtu id) (manyP P (roomP P mtu id))) e w' ∧ Below w.heap.size w w' := by
  have HX := Hid.mk hx
  have HR := Hid.mk hr
  have hv1 := hx.one
  have hrh := rgt_head hr h1 h2
  have hsz := head_size P id hrh
  have hpos := fun h => pay_pos (mtu := mtu) (id := id) hr hc hs h
  have hLL : P.pay.size ≤ 65575 := by unfold sizeP at hf; rw [if_pos hr] at hf; omega
  have HSZ : Hid (∀ u, ExAt u v P.exts → Calls Try.prog 14 #[.agg (SC 46 (pkV (headOf P id) v))] u fun e w' => e = .returned (.int .i64 (headP (headOf P id) : Int)) ∧ Below u.heap.size u w') := Hid.mk (fun u hu => by
    have := Size_run (headOf P id) v u (by rw [head_exts]; exact hu) (by rw [head_exts]; exact (rgt_len hr).1) (by rw [head_exts]; exact rgt_bod hr) (by rw [head_pay]; decide)
    rwa [hsz] at this)
  have hH : headP (headOf P id) ≤ 100000 := by
    have h3 := rgt_few hrh
    unfold headP
    split <;> (try split) <;> omega
  obtain ⟨o, ho⟩ : ∃ o : Nat, P.off = (o : Int) := ⟨P.off.toNat, by
    have h4 := hr
    unfold rgtP upB at h4
    simp only [Bool.and_eq_true, decide_eq_true_eq] at h4
    omega⟩
  have ho8 : o ≤ 65528 := by
    have h4 := hr
    unfold rgtP upB at h4
    simp only [Bool.and_eq_true, decide_eq_true_eq] at h4
    omega
  have hmt : mtu ≤ 65575 := by omega
  clear hx hr hc hs hf
  unfold roomP at hpos ⊢
  generalize headP (headOf P id) = H at *
  obtain ⟨R0, hR0⟩ : ∃ R0 : Nat, (mtu - (H : Int)).toNat = R0 := ⟨_, rfl⟩
  rw [hR0] at hpos ⊢
  have hR1 : max (mtu - (H : Int)) 0 = (R0 : Int) := by omega
  have hR2 : R0 ≤ 65575 := by omega
  clear hR0
  obtain ⟨R8, hR8e⟩ : ∃ R8, R0 / 8 = R8 := ⟨_, rfl⟩
  rw [hR8e] at hpos ⊢
  obtain ⟨R, hRe⟩ : ∃ R, R8 * 8 = R := ⟨_, rfl⟩
  rw [hRe] at hpos ⊢
  have hRm : R ≤ 65575 := by omega
  have hR8 : R ≠ 0 → 8 ≤ R := by omega
  obtain ⟨big, hbg⟩ : ∃ big, bigP P R = big := ⟨_, rfl⟩
  rw [hbg]
  go_enter Try.func28, Try.ntmps28
  go_wp2_with (refine wl_boxO (V := pkV P v) rfl rfl isPk rfl ?_; intro g3 w1 hg3 s3 hB1; refine Hid.out ?_)
  refine Hid.mk ?_
  go_wp2_with (refine wl_value rfl (look_st rfl isPk s3 rfl) ?_; refine Hid.out ?_)
  refine Hid.mk ?_
  go_wp2_with (go_at_call 50; refine (pieceHead_run P v id _ hv1).mono ?_; rintro e w2 ⟨rfl, hB2⟩; refine Hid.out ?_)
  refine Hid.mk ?_
  have s3 := s3.kept hB2
  have hl3 := s3.lt
  go_wp2_with (refine wl_alO rfl rfl zeroPk ?_; intro g8 w3 hg8 s8 hB3; refine Hid.out ?_)
  refine Hid.mk ?_
  have s3 := s3.kept hB3
  have hBa := hB1.trans ((hB2.trans (hB3.mono hB2.size)).mono hB1.size)
  have h38 : g8 ≠ g3 := by omega
  go_wp2_with (refine st_stO (V := pkV (headOf P id) v) (g := g8) rfl rfl isPk (pkV_one hv1) s8 rfl rfl ?_; intro w4 s8 ho8'; refine Hid.out ?_)
  refine Hid.mk ?_
  have s3 := s3.only ho8' h38.symm
  have hBb := hBa.trans (ho8'.below (by have := hB1.size; have := hB2.size; omega))
  have X4 := Hid.mk (HX.out.kept hBb)
  go_wp2_with (refine wl_value rfl (look_st rfl isPk s8 rfl) ?_; refine Hid.out ?_)
  refine Hid.mk ?_
  go_wp2_with (go_at_call 14; refine (HSZ.out _ X4.out).mono ?_; rintro e w5 ⟨rfl, hB5⟩; refine Hid.out ?_)
  refine Hid.mk ?_
  have s3 := s3.kept hB5
  have s8 := s8.kept hB5
  have hBc := hBb.trans (hB5.mono hBb.size)
  clear hBa hBb hB1 hB2 hB3 hB5 ho8'
  go_wp2_with (refine wl_value rfl (exec_subE (m := mtu) (n := (H : Int)) rfl rfl rfl (wrap_id (by omega) (by omega))) ?_; refine Hid.out ?_)
  refine Hid.mk ?_
  go_wp2_with (refine wl_value rfl (exec_maxR (m := mtu - (H : Int)) (n := 0) rfl rfl rfl hR1) ?_; refine Hid.out ?_)
  refine Hid.mk ?_
  go_wp2_with (refine wl_value rfl (exec_quoW (i := R0) (m := 8) (q := R8) rfl rfl rfl hR8e (by decide) (by omega)) ?_; refine Hid.out ?_)
  refine Hid.mk ?_
  go_wp2_with (refine wl_value rfl (exec_mulW (i := R8) (m := 8) (q := R) rfl rfl rfl hRe (by omega)) ?_; refine Hid.out ?_)
  refine Hid.mk ?_
  clear hR1 hR8e hRe hR2
  by_cases hRz : R = 0
  · have hRI : (R : Int) = 0 := by omega
    have hbt : big = true := by rw [← hbg]; unfold bigP; rw [decide_eq_true hRz]; rfl
    subst hbt
    go_upto_region 3 with fail
    refine wp_region3 (Below w5.heap.size w5) (w5.heap.size)
        ([] : List (Nat × Cont))
        [kv (.int .i64 (R : Int)), kv (.bool true), kv (.bool true), kv (undef), kv (undef), kv (undef), kv (undef), kv (undef), kv (undef), kv (undef), kv (undef), kv (undef), kv (undef), kv (undef), kv (undef), kv (.bool true)]
        [.none, .none, .none, .none, .none, .none, .none, .none, .none, .none, .none, .none, .none, .none, .none, .none]
        [some 24, some 25, some 26, some 27, some 28, some 29, some 30, some 31, some 32, some 33, some 34, some 35, some 36, some 37, some 38, some 39]
        [(9, .int .i64 (R : Int)), (3, .pointer (some ⟨g3, 0, none⟩))]
        [[], [.slot 0], [.slot 1], [.slot 2], [.slot 2], [.slot 2], [.slot 2], [.slot 2], [.slot 2], [.slot 2], [.slot 2], [.slot 2], [.slot 2], [.slot 2], [.slot 2], [.slot 2]]
        [.slot 15] [24, 25, 26, 27, 28, 29, 30, 31, 32, 33, 34, 35, 36, 37, 38, 39]
        rfl (by kernel_rfl) ⟨rfl, rfl, trivial⟩ ((Below.refl _ w5).drew) (Nat.le_refl _) trivial trivial (below_GcW (Nat.le_refl _))
        ⟨
        (fun QQ aa ww own hS hBg fr kn => .inl ⟨trivial, fun K hK => wp_value (exec_move rfl fr.1) (hK _ _ ⟨Touch.refl _ _, rfl⟩)⟩),
        (fun QQ aa ww own hS hBg fr kn => .inl ⟨trivial, fun K hK => wp_value (exec_eqT (m := (R : Int)) (n := 0) rfl kn.1 rfl hRI) (hK _ _ ⟨Touch.refl _ _, rfl⟩)⟩),
        (fun QQ aa ww own hS hBg fr kn => .inl ⟨trivial, fun K hK => wp_value (exec_move rfl kn.1) (hK _ _ ⟨Touch.refl _ _, rfl⟩)⟩),
        (fun QQ aa ww own hS hBg fr kn => .inr ⟨.inl kn.1, Touch.refl _ _, rfl⟩),
        (fun QQ aa ww own hS hBg fr kn => .inr ⟨.inl kn.1, Touch.refl _ _, rfl⟩),
        (fun QQ aa ww own hS hBg fr kn => .inr ⟨.inl kn.1, Touch.refl _ _, rfl⟩),
        (fun QQ aa ww own hS hBg fr kn => .inr ⟨.inl kn.1, Touch.refl _ _, rfl⟩),
        (fun QQ aa ww own hS hBg fr kn => .inr ⟨.inl kn.1, Touch.refl _ _, rfl⟩),
        (fun QQ aa ww own hS hBg fr kn => .inr ⟨.inl kn.1, Touch.refl _ _, rfl⟩),
        (fun QQ aa ww own hS hBg fr kn => .inr ⟨.inl kn.1, Touch.refl _ _, rfl⟩),
        (fun QQ aa ww own hS hBg fr kn => .inr ⟨.inl kn.1, Touch.refl _ _, rfl⟩),
        (fun QQ aa ww own hS hBg fr kn => .inr ⟨.inl kn.1, Touch.refl _ _, rfl⟩),
        (fun QQ aa ww own hS hBg fr kn => .inr ⟨.inl kn.1, Touch.refl _ _, rfl⟩),
        (fun QQ aa ww own hS hBg fr kn => .inr ⟨.inl kn.1, Touch.refl _ _, rfl⟩),
        (fun QQ aa ww own hS hBg fr kn => .inr ⟨.inl kn.1, Touch.refl _ _, rfl⟩),
        (fun QQ aa ww own hS hBg fr kn => .inl ⟨trivial, fun K hK => wp_value (exec_pick (v := .bool true) rfl kn.1 rfl) (hK _ _ ⟨Touch.refl _ _, rfl⟩)⟩),
        trivial⟩ ?_
    intro vs own w6 hS hsz kn inj
    have e39 : vs 39 = .bool true := kn.1
    clear kn inj hsz
    simp only [putAll, Act.put, List.setIfInBounds_toArray, List.set_cons_zero, List.set_cons_succ, e39]
    clear e39
    go_wp2_with fail
    refine bodyPost_ret (results_two rfl (u := .slice none 0 0) (v := .int .i64 75) rfl rfl) rfl ?_
    exact ⟨⟨.slice none 0 0, [], rfl, ⟨World.ownsRow_nil w6 _ _ _, fun x hx => (by cases hx), List.Pairwise.nil, fun x hx => (by cases hx)⟩, rfl⟩, hBc.trans (hS.mono hBc.size)⟩
  · have hRI : (R : Int) ≠ 0 := by omega
    have hL8 := hpos hRz
    have hqR : (P.pay.size - 1) / R * R ≤ P.pay.size - 1 := Nat.div_mul_le_self _ _
    have hbig : decide ((65528 : Int) < ((o + (P.pay.size - 1) / R * R : Nat) : Int)) = big := by
      rw [← hbg]
      unfold bigP
      rw [decide_eq_false hRz, Bool.false_or, ho]
      rw [Int.natCast_add]
    have cof : ∀ z, Below w5.heap.size w5 z → z.cell? ⟨g3, 38, none⟩ = some (.int .i64 (o : Int)) := fun z hz => (pk_off (s3.kept hz)).trans (by rw [ho])
    have cpa : ∀ z, Below w5.heap.size w5 z → z.cell? ⟨g3, 45, none⟩ = some (.string P.pay) := fun z hz => pk_pay (s3.kept hz)
    go_upto_region 3 with fail
    refine wp_region3 (Below w5.heap.size w5) (w5.heap.size)
        ([] : List (Nat × Cont))
        [kv (.int .i64 (R : Int)), kv (.bool false), kv (.bool false), kv (.pointer (some ⟨g3, 38, none⟩)), kv (.int .i64 (o : Int)), kv (.pointer (some ⟨g3, 45, none⟩)), kv (.string P.pay), kv (.int .i64 (P.pay.size : Int)), kv (.int .i64 ((P.pay.size - 1 : Nat) : Int)), kv (.int .i64 (R : Int)), kv (.int .i64 (((P.pay.size - 1) / R : Nat) : Int)), kv (.int .i64 (R : Int)), kv (.int .i64 (((P.pay.size - 1) / R * R : Nat) : Int)), kv (.int .i64 ((o + (P.pay.size - 1) / R * R : Nat) : Int)), kv (.bool big), kv (.bool big)]
        [.none, .none, .none, .none, .none, .none, .none, .none, .none, .none, .none, .none, .none, .none, .none, .none]
        [some 24, some 25, some 26, some 27, some 28, some 29, some 30, some 31, some 32, some 33, some 34, some 35, some 36, some 37, some 38, some 39]
        [(9, .int .i64 (R : Int)), (3, .pointer (some ⟨g3, 0, none⟩))]
        [[], [.slot 0], [.slot 1], [.slot 2], [.slot 2, .slot 3], [.slot 2], [.slot 2, .slot 5], [.slot 2, .slot 6], [.slot 2, .slot 7], [.slot 2], [.slot 2, .slot 8, .slot 9], [.slot 2], [.slot 2, .slot 10, .slot 11], [.slot 2, .slot 4, .slot 12], [.slot 2, .slot 13], [.slot 2, .slot 14]]
        [.slot 15] [24, 25, 26, 27, 28, 29, 30, 31, 32, 33, 34, 35, 36, 37, 38, 39]
        rfl (by kernel_rfl) ⟨rfl, rfl, trivial⟩ ((Below.refl _ w5).drew) (Nat.le_refl _) trivial trivial (below_GcW (Nat.le_refl _))
        ⟨
        (fun QQ aa ww own hS hBg fr kn => .inl ⟨trivial, fun K hK => wp_value (exec_move rfl fr.1) (hK _ _ ⟨Touch.refl _ _, rfl⟩)⟩),
        (fun QQ aa ww own hS hBg fr kn => .inl ⟨trivial, fun K hK => wp_value (exec_eqF (m := (R : Int)) (n := 0) rfl kn.1 rfl hRI) (hK _ _ ⟨Touch.refl _ _, rfl⟩)⟩),
        (fun QQ aa ww own hS hBg fr kn => .inl ⟨trivial, fun K hK => wp_value (exec_move rfl kn.1) (hK _ _ ⟨Touch.refl _ _, rfl⟩)⟩),
        (fun QQ aa ww own hS hBg fr kn => .inl ⟨kn.1, fun K hK => wp_value (exec_fpkL 6 38 (by decide) rfl rfl fr.2.1) (hK _ _ ⟨Touch.refl _ _, rfl⟩)⟩),
        (fun QQ aa ww own hS hBg fr kn => .inl ⟨kn.1, fun K hK => wp_value (exec_ld rfl kn.2.1 (ldP (cof _ hS))) (hK _ _ ⟨Touch.refl _ _, rfl⟩)⟩),
        (fun QQ aa ww own hS hBg fr kn => .inl ⟨kn.1, fun K hK => wp_value (exec_fpkL 13 45 (by decide) rfl rfl fr.2.1) (hK _ _ ⟨Touch.refl _ _, rfl⟩)⟩),
        (fun QQ aa ww own hS hBg fr kn => .inl ⟨kn.1, fun K hK => wp_value (exec_ld rfl kn.2.1 (ldPs (cpa _ hS))) (hK _ _ ⟨Touch.refl _ _, rfl⟩)⟩),
        (fun QQ aa ww own hS hBg fr kn => .inl ⟨kn.1, fun K hK => wp_value (exec_lenS rfl kn.2.1) (hK _ _ ⟨Touch.refl _ _, rfl⟩)⟩),
        (fun QQ aa ww own hS hBg fr kn => .inl ⟨kn.1, fun K hK => wp_value (exec_subW (i := P.pay.size) (m := 1) (q := P.pay.size - 1) rfl kn.2.1 rfl (by omega) (by omega)) (hK _ _ ⟨Touch.refl _ _, rfl⟩)⟩),
        (fun QQ aa ww own hS hBg fr kn => .inl ⟨kn.1, fun K hK => wp_value (exec_move rfl fr.1) (hK _ _ ⟨Touch.refl _ _, rfl⟩)⟩),
        (fun QQ aa ww own hS hBg fr kn => .inl ⟨kn.1, fun K hK => wp_value (exec_quoW (i := P.pay.size - 1) (m := R) rfl kn.2.1 kn.2.2.1 rfl (by omega) (by omega)) (hK _ _ ⟨Touch.refl _ _, rfl⟩)⟩),
        (fun QQ aa ww own hS hBg fr kn => .inl ⟨kn.1, fun K hK => wp_value (exec_move rfl fr.1) (hK _ _ ⟨Touch.refl _ _, rfl⟩)⟩),
        (fun QQ aa ww own hS hBg fr kn => .inl ⟨kn.1, fun K hK => wp_value (exec_mulW (i := (P.pay.size - 1) / R) (m := R) rfl kn.2.1 kn.2.2.1 rfl (by have := hqR; omega)) (hK _ _ ⟨Touch.refl _ _, rfl⟩)⟩),
        (fun QQ aa ww own hS hBg fr kn => .inl ⟨kn.1, fun K hK => wp_value (exec_addW (i := o) (m := (P.pay.size - 1) / R * R) rfl kn.2.1 kn.2.2.1 rfl (by have := hqR; omega)) (hK _ _ ⟨Touch.refl _ _, rfl⟩)⟩),
        (fun QQ aa ww own hS hBg fr kn => .inl ⟨kn.1, fun K hK => wp_value (exec_gtW rfl kn.2.1 rfl hbig) (hK _ _ ⟨Touch.refl _ _, rfl⟩)⟩),
        (fun QQ aa ww own hS hBg fr kn => .inl ⟨trivial, fun K hK => wp_value (exec_pickF rfl kn.1 kn.2.1) (hK _ _ ⟨Touch.refl _ _, rfl⟩)⟩),
        trivial⟩ ?_
    intro vs own w6 hS hsz kn inj
    have e39 : vs 39 = .bool big := kn.1
    clear kn inj hsz
    simp only [putAll, Act.put, List.setIfInBounds_toArray, List.set_cons_zero, List.set_cons_succ, e39]
    clear e39
    have s3 := s3.kept hS
    have s8 := s8.kept hS
    have hBc := hBc.trans (hS.mono hBc.size)
    clear hS cof cpa hbig hqR
    cases big with
    | true =>
      go_wp2_with fail
      refine bodyPost_ret (results_two rfl (u := .slice none 0 0) (v := .int .i64 75) rfl rfl) rfl ?_
      exact ⟨⟨.slice none 0 0, [], rfl, ⟨World.ownsRow_nil w6 _ _ _, fun x hx => (by cases hx), List.Pairwise.nil, fun x hx => (by cases hx)⟩, rfl⟩, hBc⟩
    | false =>
      have HFP := Hid.mk (few_pieces hbg (by omega) (by omega) (hR8 hRz))
      have HMI : Hid (∀ j, R * j < P.pay.size ↔ j < manyP P R) := Hid.mk (fun j => many_iff (by omega))
      clear hbg
      obtain ⟨n, hn⟩ : ∃ n, manyP P R = n := ⟨_, rfl⟩
      rw [hn] at HFP HMI
      have HN := Hid.mk hn
      have HS := Hid.mk (And.intro s3 s8)
      have HBc := Hid.mk hBc
      have HG := Hid.mk (And.intro (And.intro hg3 hg8) h38)
      clear hn s3 s8 hBc h38
      go_wp2_with fail
      go_loopg [10, 11] n (fun gm s10 s11 z => ∃ (j at_ : Nat) (l : List (Pk × Value)), Hid (gm + j = n) ∧ s11 = .int .i64 (at_ : Int) ∧ Hid (at_ = R * j) ∧ Hid (PkRow z w6.heap.size w.heap.size s10 l ∧ l.map (·.1) = cutN P id R j) ∧ Hid (SAt z g3 27 46 (pkV P v) ∧ SAt z g8 27 46 (pkV (headOf P id) v)) ∧ Hid (Below w.heap.size w z) ∧ Hid (w6.heap.size ≤ z.heap.size))
      case atStart => exact ⟨0, 0, [], Hid.mk (by omega), rfl, Hid.mk (by rw [Nat.mul_zero]), Hid.mk ⟨⟨World.ownsRow_nil _ _ _ _, fun x hx => (by cases hx), List.Pairwise.nil, fun x hx => (by cases hx)⟩, rfl⟩, HS, HBc, Hid.mk (Nat.le_refl _)⟩
      case round =>
        obtain ⟨j, at_, l, HJ, rfl, HAT, HL, HSz, HBz, HW6⟩ := hrel
        have hg6 : g3 < w6.heap.size ∧ g8 < w6.heap.size := ⟨HS.out.1.lt, HS.out.2.lt⟩
        have c45 := pk_pay HSz.out.1
        by_cases hlt : at_ < P.pay.size
        · have hltI : (at_ : Int) < (P.pay.size : Int) := by omega
          have hjn : j < n := (HMI.out j).1 (by rw [← HAT.out]; exact hlt)
          obtain ⟨E1, hE1⟩ : ∃ E1, at_ + R = E1 := ⟨_, rfl⟩
          obtain ⟨E2, hE2⟩ : ∃ E2, min E1 P.pay.size = E2 := ⟨_, rfl⟩
          have hE2I : min (E1 : Int) (P.pay.size : Int) = (E2 : Int) := by omega
          have hE3 : at_ ≤ E2 ∧ E2 ≤ P.pay.size := by omega
          obtain ⟨off, hoff⟩ : ∃ off, o + at_ = off := ⟨_, rfl⟩
          have HPC : Hid (pieceAt P id R (R * j) = { headOf P id with off := (off : Int), more := P.more || decide (E2 < P.pay.size), pay := P.pay.extract at_ E2 }) := Hid.mk (by
            unfold pieceAt
            rw [← HAT.out, hE1, hE2, ho]
            have e1 : (o : Int) + (at_ : Int) = (off : Int) := by omega
            have e2 : decide (E1 < P.pay.size) = decide (E2 < P.pay.size) := by rw [decide_eq_decide]; omega
            rw [e1, e2])
          have hlt2 := hlt
          go_wp2_with (refine wl_value rfl (exec_fpkL 13 45 (by decide) rfl rfl rfl) ?_; refine Hid.out ?_)
          refine Hid.mk ?_
          go_wp2_with (refine wl_value rfl (exec_ld rfl rfl (ldPs c45)) ?_; refine Hid.out ?_)
          refine Hid.mk ?_
          go_wp2_with (refine wl_value rfl (exec_lenS rfl rfl) ?_; refine Hid.out ?_)
          refine Hid.mk ?_
          go_wp2_with (refine wl_value rfl (exec_ltT (m := (at_ : Int)) (n := (P.pay.size : Int)) rfl rfl rfl hltI) ?_; refine Hid.out ?_)
          refine Hid.mk ?_
          go_wp2_with (refine wl_value rfl (exec_addW (i := at_) (m := R) (q := E1) rfl rfl rfl hE1 (by omega)) ?_; refine Hid.out ?_)
          refine Hid.mk ?_
          go_wp2_with (refine wl_value rfl (exec_fpkL 13 45 (by decide) rfl rfl rfl) ?_; refine Hid.out ?_)
          refine Hid.mk ?_
          go_wp2_with (refine wl_value rfl (exec_ld rfl rfl (ldPs c45)) ?_; refine Hid.out ?_)
          refine Hid.mk ?_
          go_wp2_with (refine wl_value rfl (exec_lenS rfl rfl) ?_; refine Hid.out ?_)
          refine Hid.mk ?_
          go_wp2_with (refine wl_value rfl (exec_minR (m := (E1 : Int)) (n := (P.pay.size : Int)) rfl rfl rfl hE2I) ?_; refine Hid.out ?_)
          refine Hid.mk ?_
          have hXz := HX.out.kept HBz.out
          go_wp2_with (refine wl_value rfl (look_st rfl isPk HSz.out.2 rfl) ?_; refine Hid.out ?_)
          refine Hid.mk ?_
          have HAP := Hid.mk (apart_run (headOf P id) v wr (by rw [head_exts]; exact hXz) (by rw [head_exts]; exact (rgt_len HR.out).2))
          go_wp2_with (go_at_call 27; refine HAP.out.mono ?_; rintro e z1 ⟨v1, rfl, hnew, hBz1⟩; refine Hid.out ?_)
          refine Hid.mk ?_
          have t3 := HSz.out.1.kept hBz1
          have t8 := HSz.out.2.kept hBz1
          have hl3 := t3.lt
          have hl8 := t8.lt
          go_wp2_with (refine wl_alO rfl rfl zeroPk ?_; intro g13 z2 hg13 t13 hBz2; refine Hid.out ?_)
          refine Hid.mk ?_
          have t3 := t3.kept hBz2
          have t8 := t8.kept hBz2
          have hn13 : g3 ≠ g13 ∧ g8 ≠ g13 := by omega
          go_wp2_with (refine st_stO (V := pkV (headOf P id) v1) (g := g13) rfl rfl isPk (pkV_one hnew.2.1) t13 rfl rfl ?_; intro z3 t13 ho3; refine Hid.out ?_)
          refine Hid.mk ?_
          have t3 := t3.only ho3 hn13.1
          have t8 := t8.only ho3 hn13.2
          have c38 : z3.cell? ⟨g3, 38, none⟩ = some (.int .i64 (o : Int)) := (pk_off t3).trans (by rw [ho])
          go_wp2_with (refine wl_value rfl (exec_fpkL 6 38 (by decide) rfl rfl rfl) ?_; refine Hid.out ?_)
          refine Hid.mk ?_
          go_wp2_with (refine wl_value rfl (exec_ld rfl rfl (ldP c38)) ?_; refine Hid.out ?_)
          refine Hid.mk ?_
          go_wp2_with (refine wl_value rfl (exec_addW (i := o) (m := at_) (q := off) rfl rfl rfl hoff (by omega)) ?_; refine Hid.out ?_)
          refine Hid.mk ?_
          go_wp2_with (refine wl_value rfl (exec_fpkL 6 38 (by decide) rfl rfl rfl) ?_; refine Hid.out ?_)
          refine Hid.mk ?_
          go_wp2_with (refine wl_stP (z := .int .i64 (off : Int)) (V' := pkV { headOf P id with off := (off : Int) } v1) rfl rfl rfl rfl (by decide) (stI (off : Int)) t13 (pk_up38 _ _ (off : Int)) ?_; intro z4 t14 ho4; refine Hid.out ?_)
          refine Hid.mk ?_
          have t3 := t3.only ho4 hn13.1
          have t8 := t8.only ho4 hn13.2
          have o34 := ho3.trans ho4
          clear ho3 ho4 c38 c45 t13
          have c45 := pk_pay t3
          obtain ⟨mo, hmo⟩ : ∃ mo, (P.more || decide (E2 < P.pay.size)) = mo := ⟨_, rfl⟩
          have hPC2 := HPC.out
          rw [hmo] at hPC2
          have HPC := Hid.mk hPC2
          clear hPC2
          cases hpm : P.more with
          | true =>
            have hmt2 : mo = true := by rw [← hmo, hpm]; rfl
            have cm : z4.cell? ⟨g3, 39, none⟩ = some (.bool true) := (pk_more t3).trans (by rw [hpm])
            go_wp2_with (refine wl_value rfl (exec_fpkL 7 39 (by decide) rfl rfl rfl) ?_; refine Hid.out ?_)
            refine Hid.mk ?_
            go_wp2_with (refine wl_value rfl (exec_ld rfl rfl (ldPb cm)) ?_; refine Hid.out ?_)
            refine Hid.mk ?_
            subst hmt2
            clear cm
            go_wp2_with (refine wl_value rfl (exec_fpkL 7 39 (by decide) rfl rfl rfl) ?_; refine Hid.out ?_)
            refine Hid.mk ?_
            go_wp2_with (refine wl_stP (z := .bool true) (V' := pkV { headOf P id with off := (off : Int), more := true } v1) rfl rfl rfl rfl (by decide) (stB true) t14 (pk_up39 _ _ true) ?_; intro z5 t15 ho5; refine Hid.out ?_)
            refine Hid.mk ?_
            have t3 := t3.only ho5 hn13.1
            have t8 := t8.only ho5 hn13.2
            have c45 := pk_pay t3
            go_wp2_with (refine wl_value rfl (exec_fpkL 13 45 (by decide) rfl rfl rfl) ?_; refine Hid.out ?_)
            refine Hid.mk ?_
            go_wp2_with (refine wl_value rfl (exec_ld rfl rfl (ldPs c45)) ?_; refine Hid.out ?_)
            refine Hid.mk ?_
            go_wp2_with (refine wl_value rfl (exec_slLH (u := .int .i64 (at_ : Int)) (u' := .int .i64 (E2 : Int)) rfl rfl rfl rfl (strLH P.pay at_ E2 _ hE3.1 hE3.2)) ?_; refine Hid.out ?_)
            refine Hid.mk ?_
            go_wp2_with (refine wl_value rfl (exec_fpkL 13 45 (by decide) rfl rfl rfl) ?_; refine Hid.out ?_)
            refine Hid.mk ?_
            go_wp2_with (refine wl_stP (z := .string (P.pay.extract at_ E2)) (V' := pkV (pieceAt P id R (R * j)) v1) rfl rfl rfl rfl (by decide) (stS (P.pay.extract at_ E2)) t15 (by rw [HPC.out]; exact pk_up45 _ _ (P.pay.extract at_ E2)) ?_; intro z6 t16 ho6; refine Hid.out ?_)
            refine Hid.mk ?_
            have t3 := t3.only ho6 hn13.1
            have t8 := t8.only ho6 hn13.2
            have o46 := (o34.trans ho5).trans ho6
            have hb6 : Below wr.heap.size wr z6 := (hBz1.trans (hBz2.mono hBz1.size)).trans (o46.below (Nat.le_trans hBz1.size hg13))
            have hx6 : NewEx wr.heap.size z6 v1 (headOf P id).exts := hnew.away (by have := hBz2.size; have := o46.size; omega) (fun k hk => (o46.block k (by omega)).trans (hBz2.block k hk))
            clear ho5 ho6 o34 o46 t14 t15 hBz1 hBz2 hnew c45
            go_wp2_with (refine wl_value rfl (look_st rfl isPk t16 rfl) ?_; refine Hid.out ?_)
            refine Hid.mk ?_
            go_wp2_with (refine wl_bsK rfl rfl rfl ?_; intro bb z7 hbb s7 hBz7; refine Hid.out ?_)
            refine Hid.mk ?_
            have t3 := t3.kept hBz7
            have t8 := t8.kept hBz7
            have hb7 := hb6.trans (hBz7.mono hb6.size)
            have hx7 : NewEx wr.heap.size z7 v1 (pieceAt P id R (R * j)).exts := by rw [HPC.out]; exact hx6.kept hBz7
            have hlen : l.length = j := by
              have h1 := congrArg List.length HL.out.2
              rw [List.length_map] at h1
              rw [h1]
              unfold cutN
              rw [List.length_map, List.length_range]
            go_wp2_with (at_builtin; refine ap_row rfl Try.underlying29 pkInfo (by decide) (by decide) rfl (pkV_one hx7.2.1) rfl rfl (ownT_kept HL.out.1.row hb7) s7 (by have := HFP.out.1; omega) (Nat.le_trans HW6.out hb7.size) ?_; intro v' z8 q1 q2 q3; refine Hid.out ?_)
            refine Hid.mk ?_
            have hrow8 : PkRow z8 w6.heap.size w.heap.size v' (l ++ [(pieceAt P id R (R * j), v1)]) := HL.out.1.more (x := (pieceAt P id R (R * j), v1)) HBz.out.size hb7 hx7 q1 q2 q3
            have hob : ∀ k, k < w6.heap.size → u10.ownBlock ≠ some k := fun k hk e => by have := ownM_base HL.out.1.row k e; omega
            have t3 := t3.block (q2.block g3 t3.lt (fun e => hob g3 hg6.1 e.symm))
            have t8 := t8.block (q2.block g8 t8.lt (fun e => hob g8 hg6.2 e.symm))
            have hb8 : Below w.heap.size w z8 := (HBz.out.trans (hb7.mono HBz.out.size)).trans ⟨q2.os, q2.tape, q2.output, q2.size, fun k hk => q2.block k (by have := HBz.out.size; have := hb7.size; omega) (fun e => hob k (by have := HBc.out.size; omega) e.symm)⟩
            have HR8 := Hid.mk (And.intro hrow8 (show (l ++ [(pieceAt P id R (R * j), v1)]).map (·.1) = cutN P id R (j + 1) by rw [List.map_append, HL.out.2, cutN_succ]; rfl))
            have HT8 := Hid.mk (And.intro t3 t8)
            have HB8 := Hid.mk hb8
            have HZ8 : Hid (w6.heap.size ≤ z8.heap.size) := Hid.mk (by have := HW6.out; have := hb7.size; have := q2.size; omega)
            clear hrow8 hob t3 t8 hb8 q1 q2 q3 hx7 hb7 hx6 hb6 s7 t16
            go_wp2_with (refine wl_value rfl (exec_addW (i := at_) (m := R) (q := E1) rfl rfl rfl hE1 (by omega)) ?_; refine Hid.out ?_)
            refine Hid.mk ?_
            go_wp2_with fail
            go_roundg (n - (j + 1))
            case rel => exact ⟨j + 1, E1, _, Hid.mk (by omega), rfl, Hid.mk (by have := HAT.out; rw [Nat.mul_add, Nat.mul_one]; omega), HR8, HT8, HB8, HZ8⟩
            case measure => have := HJ.out; omega
          | false =>
            have hmd : decide ((E2 : Int) < (P.pay.size : Int)) = mo := by
              rw [← hmo, hpm, Bool.false_or, decide_eq_decide]
              omega
            have cm : z4.cell? ⟨g3, 39, none⟩ = some (.bool false) := (pk_more t3).trans (by rw [hpm])
            go_wp2_with (refine wl_value rfl (exec_fpkL 7 39 (by decide) rfl rfl rfl) ?_; refine Hid.out ?_)
            refine Hid.mk ?_
            go_wp2_with (refine wl_value rfl (exec_ld rfl rfl (ldPb cm)) ?_; refine Hid.out ?_)
            refine Hid.mk ?_
            clear cm
            go_wp2_with (refine wl_value rfl (exec_fpkL 13 45 (by decide) rfl rfl rfl) ?_; refine Hid.out ?_)
            refine Hid.mk ?_
            go_wp2_with (refine wl_value rfl (exec_ld rfl rfl (ldPs c45)) ?_; refine Hid.out ?_)
            refine Hid.mk ?_
            go_wp2_with (refine wl_value rfl (exec_lenS rfl rfl) ?_; refine Hid.out ?_)
            refine Hid.mk ?_
            go_wp2_with (refine wl_value rfl (exec_ltW (m := (E2 : Int)) (n := (P.pay.size : Int)) rfl rfl rfl hmd) ?_; refine Hid.out ?_)
            refine Hid.mk ?_
            go_wp2_with (refine wl_value rfl (exec_fpkL 7 39 (by decide) rfl rfl rfl) ?_; refine Hid.out ?_)
            refine Hid.mk ?_
            go_wp2_with (refine wl_stP (z := .bool mo) (V' := pkV { headOf P id with off := (off : Int), more := mo } v1) rfl rfl rfl rfl (by decide) (stB mo) t14 (pk_up39 _ _ mo) ?_; intro z5 t15 ho5; refine Hid.out ?_)
            refine Hid.mk ?_
            have t3 := t3.only ho5 hn13.1
            have t8 := t8.only ho5 hn13.2
            have c45 := pk_pay t3
            go_wp2_with (refine wl_value rfl (exec_fpkL 13 45 (by decide) rfl rfl rfl) ?_; refine Hid.out ?_)
            refine Hid.mk ?_
            go_wp2_with (refine wl_value rfl (exec_ld rfl rfl (ldPs c45)) ?_; refine Hid.out ?_)
            refine Hid.mk ?_
            go_wp2_with (refine wl_value rfl (exec_slLH (u := .int .i64 (at_ : Int)) (u' := .int .i64 (E2 : Int)) rfl rfl rfl rfl (strLH P.pay at_ E2 _ hE3.1 hE3.2)) ?_; refine Hid.out ?_)
            refine Hid.mk ?_
            go_wp2_with (refine wl_value rfl (exec_fpkL 13 45 (by decide) rfl rfl rfl) ?_; refine Hid.out ?_)
            refine Hid.mk ?_
            go_wp2_with (refine wl_stP (z := .string (P.pay.extract at_ E2)) (V' := pkV (pieceAt P id R (R * j)) v1) rfl rfl rfl rfl (by decide) (stS (P.pay.extract at_ E2)) t15 (by rw [HPC.out]; exact pk_up45 _ _ (P.pay.extract at_ E2)) ?_; intro z6 t16 ho6; refine Hid.out ?_)
            refine Hid.mk ?_
            have t3 := t3.only ho6 hn13.1
            have t8 := t8.only ho6 hn13.2
            have o46 := (o34.trans ho5).trans ho6
            have hb6 : Below wr.heap.size wr z6 := (hBz1.trans (hBz2.mono hBz1.size)).trans (o46.below (Nat.le_trans hBz1.size hg13))
            have hx6 : NewEx wr.heap.size z6 v1 (headOf P id).exts := hnew.away (by have := hBz2.size; have := o46.size; omega) (fun k hk => (o46.block k (by omega)).trans (hBz2.block k hk))
            clear ho5 ho6 o34 o46 t14 t15 hBz1 hBz2 hnew c45
            go_wp2_with (refine wl_value rfl (look_st rfl isPk t16 rfl) ?_; refine Hid.out ?_)
            refine Hid.mk ?_
            go_wp2_with (refine wl_bsK rfl rfl rfl ?_; intro bb z7 hbb s7 hBz7; refine Hid.out ?_)
            refine Hid.mk ?_
            have t3 := t3.kept hBz7
            have t8 := t8.kept hBz7
            have hb7 := hb6.trans (hBz7.mono hb6.size)
            have hx7 : NewEx wr.heap.size z7 v1 (pieceAt P id R (R * j)).exts := by rw [HPC.out]; exact hx6.kept hBz7
            have hlen : l.length = j := by
              have h1 := congrArg List.length HL.out.2
              rw [List.length_map] at h1
              rw [h1]
              unfold cutN
              rw [List.length_map, List.length_range]
            go_wp2_with (at_builtin; refine ap_row rfl Try.underlying29 pkInfo (by decide) (by decide) rfl (pkV_one hx7.2.1) rfl rfl (ownT_kept HL.out.1.row hb7) s7 (by have := HFP.out.1; omega) (Nat.le_trans HW6.out hb7.size) ?_; intro v' z8 q1 q2 q3; refine Hid.out ?_)
            refine Hid.mk ?_
            have hrow8 : PkRow z8 w6.heap.size w.heap.size v' (l ++ [(pieceAt P id R (R * j), v1)]) := HL.out.1.more (x := (pieceAt P id R (R * j), v1)) HBz.out.size hb7 hx7 q1 q2 q3
            have hob : ∀ k, k < w6.heap.size → u10.ownBlock ≠ some k := fun k hk e => by have := ownM_base HL.out.1.row k e; omega
            have t3 := t3.block (q2.block g3 t3.lt (fun e => hob g3 hg6.1 e.symm))
            have t8 := t8.block (q2.block g8 t8.lt (fun e => hob g8 hg6.2 e.symm))
            have hb8 : Below w.heap.size w z8 := (HBz.out.trans (hb7.mono HBz.out.size)).trans ⟨q2.os, q2.tape, q2.output, q2.size, fun k hk => q2.block k (by have := HBz.out.size; have := hb7.size; omega) (fun e => hob k (by have := HBc.out.size; omega) e.symm)⟩
            have HR8 := Hid.mk (And.intro hrow8 (show (l ++ [(pieceAt P id R (R * j), v1)]).map (·.1) = cutN P id R (j + 1) by rw [List.map_append, HL.out.2, cutN_succ]; rfl))
            have HT8 := Hid.mk (And.intro t3 t8)
            have HB8 := Hid.mk hb8
            have HZ8 : Hid (w6.heap.size ≤ z8.heap.size) := Hid.mk (by have := HW6.out; have := hb7.size; have := q2.size; omega)
            clear hrow8 hob t3 t8 hb8 q1 q2 q3 hx7 hb7 hx6 hb6 s7 t16
            go_wp2_with (refine wl_value rfl (exec_addW (i := at_) (m := R) (q := E1) rfl rfl rfl hE1 (by omega)) ?_; refine Hid.out ?_)
            refine Hid.mk ?_
            go_wp2_with fail
            go_roundg (n - (j + 1))
            case rel => exact ⟨j + 1, E1, _, Hid.mk (by omega), rfl, Hid.mk (by have := HAT.out; rw [Nat.mul_add, Nat.mul_one]; omega), HR8, HT8, HB8, HZ8⟩
            case measure => have := HJ.out; omega
        · have hltI : ¬ (at_ : Int) < (P.pay.size : Int) := by omega
          have hjn : j = n := by
            have h1 : ¬ j < n := fun h => hlt (by rw [HAT.out]; exact (HMI.out j).2 h)
            have h2 := HJ.out
            omega
          go_wp2_with (refine wl_value rfl (exec_fpkL 13 45 (by decide) rfl rfl rfl) ?_; refine Hid.out ?_)
          refine Hid.mk ?_
          go_wp2_with (refine wl_value rfl (exec_ld rfl rfl (ldPs c45)) ?_; refine Hid.out ?_)
          refine Hid.mk ?_
          go_wp2_with (refine wl_value rfl (exec_lenS rfl rfl) ?_; refine Hid.out ?_)
          refine Hid.mk ?_
          go_wp2_with (refine wl_value rfl (exec_ltF (m := (at_ : Int)) (n := (P.pay.size : Int)) rfl rfl rfl hltI) ?_; refine Hid.out ?_)
          refine Hid.mk ?_
          subst hjn
          go_wp2_with fail
          exact ⟨_, results_two rfl (u := u10) (v := .int .i64 0) rfl rfl, ⟨_, l, rfl, ⟨ownM_mono HL.out.1.row HBc.out.size, HL.out.1.exs, HL.out.1.apart, HL.out.1.off⟩, by rw [HL.out.2, HN.out]⟩, HBz.out⟩
end Go.Proofs.Ythnlfjkpiohooaa
/-
  Own text. Split.
-/
namespace Go.Proofs.Ythnlfjkpiohooaa
open Go.RowKit Go.Proofs
set_option maxRecDepth 100000
theorem none_post (w : World) (C : Nat) (er : Int) : CutPost C er [] (.returned (.tuple #[.slice none 0 0, .int .i64 er])) w := ⟨_, [], rfl, ⟨World.ownsRow_nil w _ _ _, fun x hx => (by cases hx), List.Pairwise.nil, fun x hx => (by cases hx)⟩, rfl⟩
theorem mayC_parts {P : Pk} {mtu id : Int} (h : mayC P mtu id = true) : rgtP P = true ∧ 68 ≤ mtu ∧ 0 ≤ id ∧ id ≤ 4294967295 ∧ P.cut = false := by
  unfold mayC at h
  simp only [Bool.and_eq_true, decide_eq_true_eq, Bool.not_eq_true'] at h
  refine ⟨h.1.1.1.1, ?_, h.1.1.2, h.1.2, h.2⟩
  have h2 := h.1.1.1.2
  unfold leastP at h2
  split at h2 <;> omega
theorem fit_small {P : Pk} (hr : rgtP P = true) (h : fitP P = true) : sizeP P ≤ 65575 := by
  unfold fitP at h
  unfold sizeP
  rw [if_pos hr]
  split at h
  · simpa using h
  · have h2 := of_decide_eq_true h; omega
set_option maxHeartbeats 8000000 in
theorem Split_run (P : Pk) (v : Value) (mtu id : Int) (w : World) (hx : ExAt w v P.exts) (hn : P.exts.length < 4611686018427387904) (hb : ∀ x ∈ P.exts, x.body.size ≤ 140737488355328) (hp : P.pay.size ≤ 140737488355328) : Calls Try.prog 9 #[.agg (SC 46 (pkV P v)), .int .i64 mtu, .int .i64 id] w fun e w' => CutPost w.heap.size (splitP P mtu id).2 (splitP P mtu id).1 e w' ∧ Below w.heap.size w w' := by
  have HX := Hid.mk hx
  have HNB := Hid.mk (And.intro hn hb)
  have HP := Hid.mk hp
  have hv1 := hx.one
  clear hx hn hb hp
  obtain ⟨sp, hsp⟩ : ∃ sp, splitP P mtu id = sp := ⟨_, rfl⟩
  have HSP := Hid.mk hsp
  rw [hsp]
  clear hsp
  go_enter Try.func9, Try.ntmps9
  go_wp2_with (refine wl_boxO (V := pkV P v) rfl rfl isPk rfl ?_; intro g3 w1 hg3 s3 hB1; refine Hid.out ?_)
  refine Hid.mk ?_
  have X1 := Hid.mk (HX.out.kept hB1)
  go_wp2_with (refine wl_value rfl (look_st rfl isPk s3 rfl) ?_; refine Hid.out ?_)
  refine Hid.mk ?_
  go_wp2_with (go_at_call 25; refine (mayCut_run P v mtu id _ X1.out HNB.out.1 HNB.out.2).mono ?_; rintro e w2 ⟨rfl, hB2⟩; refine Hid.out ?_)
  refine Hid.mk ?_
  have s3 := s3.kept hB2
  have X2 := Hid.mk (X1.out.kept hB2)
  have hBa := hB1.trans (hB2.mono hB1.size)
  cases hmc : mayC P mtu id with
  | false =>
    have hsp : sp = ([], 1) := by rw [← HSP.out]; unfold splitP; rw [if_pos hmc]
    subst hsp
    go_wp2_with fail
    refine bodyPost_ret (results_two rfl (u := .slice none 0 0) (v := .int .i64 1) rfl rfl) rfl ?_
    exact ⟨none_post _ _ _, hBa⟩
  | true =>
    obtain ⟨hr, hm68, hi0, hi1, hcut⟩ := mayC_parts hmc
    go_wp2_with (refine wl_value rfl (look_st rfl isPk s3 rfl) ?_; refine Hid.out ?_)
    refine Hid.mk ?_
    go_wp2_with (go_at_call 26; refine (fits2_run P v _ hr X2.out HP.out).mono ?_; rintro e w3 ⟨rfl, hB3⟩; refine Hid.out ?_)
    refine Hid.mk ?_
    have s3 := s3.kept hB3
    have X3 := Hid.mk (X2.out.kept hB3)
    have hBa := hBa.trans (hB3.mono hBa.size)
    cases hft : fitP P with
    | false =>
      have hsp : sp = ([], 75) := by rw [← HSP.out]; unfold splitP; rw [if_neg (by rw [hmc]; decide), if_pos hft]
      subst hsp
      go_wp2_with fail
      refine bodyPost_ret (results_two rfl (u := .slice none 0 0) (v := .int .i64 75) rfl rfl) rfl ?_
      exact ⟨none_post _ _ _, hBa⟩
    | true =>
      have hsm := fit_small hr hft
      go_wp2_with (refine wl_value rfl (look_st rfl isPk s3 rfl) ?_; refine Hid.out ?_)
      refine Hid.mk ?_
      go_wp2_with (go_at_call 14; refine (Size_run P v _ X3.out HNB.out.1 HNB.out.2 HP.out).mono ?_; rintro e w4 ⟨rfl, hB4⟩; refine Hid.out ?_)
      refine Hid.mk ?_
      have s3 := s3.kept hB4
      have X4 := Hid.mk (X3.out.kept hB4)
      have hBa := hBa.trans (hB4.mono hBa.size)
      by_cases hle : (sizeP P : Int) ≤ mtu
      · have hle2 := hle
        have hsp : sp = ([P], 0) := by rw [← HSP.out]; unfold splitP; rw [if_neg (by rw [hmc]; decide), if_neg (by rw [hft]; decide), if_pos hle]
        subst hsp
        go_wp2_with (refine wl_value rfl (exec_leT (m := (sizeP P : Int)) (n := mtu) rfl rfl rfl hle2) ?_; refine Hid.out ?_)
        refine Hid.mk ?_
        go_wp2_with (refine wl_value rfl (look_st rfl isPk s3 rfl) ?_; refine Hid.out ?_)
        refine Hid.mk ?_
        go_wp2_with (go_at_call 27; refine (apart_run P v _ X4.out (rgt_len hr).2).mono ?_; rintro e w5 ⟨v1, rfl, hnew, hB5⟩; refine Hid.out ?_)
        refine Hid.mk ?_
        have hBb := hBa.trans (hB5.mono hBa.size)
        go_wp2_with (refine wl_bsK rfl rfl rfl ?_; intro bb w6 hbb s6 hB6; refine Hid.out ?_)
        refine Hid.mk ?_
        go_wp2_with fail
        refine bodyPost_ret (results_two rfl (u := .slice (some ⟨bb, 0, none⟩) 1 1) (v := .int .i64 0) rfl rfl) rfl ?_
        have hlen1 : (46 : Nat) ≤ (SC 46 (pkV P v1)).toList.length := by rw [Array.length_toList, SC_size]; exact Nat.le_refl _
        refine ⟨⟨_, [(P, v1)], rfl, ⟨⟨rX_len 46 (pksZ [(P, v1)]) 1, .inr ⟨bb, 1, SC 46 (pkV P v1), rfl, Nat.le_trans hBb.size hbb, s6, Nat.le_refl _, by unfold maxLen; omega, by rw [SC_size], ?_⟩⟩, fun x hx => ?_, List.pairwise_singleton _ _, fun x hx k hk e => ?_⟩, rfl⟩, hBb.trans (hB6.mono hBb.size)⟩
        · show List.take (1 * 46) (SC 46 (pkV P v1)).toList = [] ++ (SC 46 (pkV P v1)).toList
          rw [List.nil_append, List.take_of_length_le (by rw [Array.length_toList, SC_size]; decide)]
        · have hx1 : x = (P, v1) := by simpa using hx
          subst hx1
          exact (hnew.kept hB6).mono hBa.size
        · have hx1 : x = (P, v1) := by simpa using hx
          subst hx1
          have h1 := (hnew.2.2.1 k hk).2
          have e : some bb = some k := e
          injection e with e
          omega
      · have hle2 := hle
        have hlt : mtu < (sizeP P : Int) := by omega
        go_wp2_with (refine wl_value rfl (exec_leF (m := (sizeP P : Int)) (n := mtu) rfl rfl rfl hle2) ?_; refine Hid.out ?_)
        refine Hid.mk ?_
        cases hst : P.still with
        | true =>
          have hsp : sp = ([], 75) := by rw [← HSP.out]; unfold splitP; rw [if_neg (by rw [hmc]; decide), if_neg (by rw [hft]; decide), if_neg (Int.not_le.2 hlt), if_pos hst]
          subst hsp
          have cst : w4.cell? ⟨g3, 40, none⟩ = some (.bool true) := (pk_still s3).trans (by rw [hst])
          go_wp2_with (refine wl_value rfl (exec_fpkL 8 40 (by decide) rfl rfl rfl) ?_; refine Hid.out ?_)
          refine Hid.mk ?_
          go_wp2_with (refine wl_value rfl (exec_ld rfl rfl (ldPb cst)) ?_; refine Hid.out ?_)
          refine Hid.mk ?_
          go_wp2_with fail
          refine bodyPost_ret (results_two rfl (u := .slice none 0 0) (v := .int .i64 75) rfl rfl) rfl ?_
          exact ⟨none_post _ _ _, hBa⟩
        | false =>
          have hsp : sp = (if bigP P (roomP P mtu id) = true then [] else cutN P id (roomP P mtu id) (manyP P (roomP P mtu id)), if bigP P (roomP P mtu id) = true then 75 else 0) := by
            rw [← HSP.out]
            unfold splitP
            rw [if_neg (by rw [hmc]; decide), if_neg (by rw [hft]; decide), if_neg (Int.not_le.2 hlt), if_neg (by rw [hst]; decide)]
            split <;> rfl
          have HCU := Hid.mk (cut_run P v mtu id w4 X4.out hr hcut hi0 hi1 (by omega) hlt hsm)
          obtain ⟨L, hL⟩ : ∃ L, (if bigP P (roomP P mtu id) = true then [] else cutN P id (roomP P mtu id) (manyP P (roomP P mtu id))) = L := ⟨_, rfl⟩
          obtain ⟨er, her⟩ : ∃ er : Int, (if bigP P (roomP P mtu id) = true then 75 else 0) = er := ⟨_, rfl⟩
          rw [hL, her] at HCU hsp
          subst hsp
          clear hL her
          have cst : w4.cell? ⟨g3, 40, none⟩ = some (.bool false) := (pk_still s3).trans (by rw [hst])
          go_wp2_with (refine wl_value rfl (exec_fpkL 8 40 (by decide) rfl rfl rfl) ?_; refine Hid.out ?_)
          refine Hid.mk ?_
          go_wp2_with (refine wl_value rfl (exec_ld rfl rfl (ldPb cst)) ?_; refine Hid.out ?_)
          refine Hid.mk ?_
          go_wp2_with (refine wl_value rfl (look_st rfl isPk s3 rfl) ?_; refine Hid.out ?_)
          refine Hid.mk ?_
          go_wp2_with (go_at_call 28; refine HCU.out.mono ?_; rintro e w5 ⟨⟨v', l, rfl, hrow, hl⟩, hB5⟩; refine Hid.out ?_)
          refine Hid.mk ?_
          go_wp2_with fail
          refine bodyPost_ret (results_two rfl (u := v') (v := .int .i64 er) rfl rfl) rfl ?_
          exact ⟨⟨v', l, rfl, ⟨ownM_mono hrow.row hBa.size, fun x hx => (hrow.exs x hx).mono hBa.size, hrow.apart, hrow.off⟩, hl⟩, hBa.trans (hB5.mono hBa.size)⟩
theorem en_Split (args : Array Value) (w : World) : (callFunc 9 args).run Try.prog w = .ok (.enter 9 args) w := by kernel_rfl
end Go.Proofs.Ythnlfjkpiohooaa
