/-
  Own text. FragMixes: two packets, whose pieces come mixed with each other, are each told whole, as they were, and nothing else is.
-/
import Derived.Test.YthnlfjkpiohooaaGR
import Derived.Test.YthnlfjkpiohooaaGP
import Derived.Test.YthnlfjkpiohooaaGQ
namespace Go.Proofs.Ythnlfjkpiohooaa
open Go.RowKit Go.Proofs
set_option maxRecDepth 100000
theorem sam_self (P : Pk) : samP P P = true := samP_iff.2 ⟨rfl, fun _ _ => rfl, rfl, fun _ _ => rfl, rfl, rfl, rfl, rfl, rfl, rfl, rfl, rfl, rfl, rfl, rfl, rfl⟩
theorem fam_ne {P Q : Pk} {R R' : Nat} {e2 : Int} (h : e2 = 2 ∨ P.sv = true ∨ P.id ≠ Q.id) : famOf 1 1 (pcs P 1 R 0) ≠ famOf 1 e2 (pcs Q 2 R' 0) := by
  rw [fam_pcs, fam_pcs]
  intro e
  obtain ⟨_, e1, e3, _, _, _, _, e8⟩ := famL_inj.1 e
  rcases h with h | h | h
  · omega
  · rw [← e3, h] at e8
    simp at e8
  · rw [← e3] at e8
    cases hs : P.sv <;> rw [hs] at e8 <;> simp at e8
    exact h e8
/-- From the last one down. -/
theorem TwoAt.mono {b : Bx} {t t' : Int} {f g : Fam} {x y : List Pk} (h : TwoAt b t f g x y) (ht : t ≤ t') : TwoAt b t' f g x y := ⟨h.t0, Int.le_trans h.t1 ht, h.hs⟩
def dnL (m i : Nat) : List Nat := (List.range i).map (fun j => m - 1 - j)
theorem dnL_succ (m i : Nat) : dnL m (i + 1) = dnL m i ++ [m - 1 - i] := by unfold dnL; rw [List.range_succ, List.map_append, List.map_singleton]
theorem dnL_len (m i : Nat) : (dnL m i).length = i := by unfold dnL; rw [List.length_map, List.length_range]
theorem dnL_mem {m i a : Nat} (h : a ∈ dnL m i) : ∃ j, j < i ∧ a = m - 1 - j := by
  obtain ⟨j, hj, e⟩ := List.mem_map.1 h
  exact ⟨j, List.mem_range.1 hj, e.symm⟩
theorem dnL_nodup {m i : Nat} (h : i ≤ m) : (dnL m i).Nodup := by
  unfold dnL List.Nodup
  rw [List.pairwise_map]
  refine List.Pairwise.imp_of_mem (fun {a b} ha hb hne => ?_) (List.nodup_range (n := i))
  have := List.mem_range.1 ha
  have := List.mem_range.1 hb
  omega
def tdV (a b : Int) (j : Nat) : Value := if j < 1 then .int .i64 a else .int .i64 b
theorem tdV_one (a b : Int) (j : Nat) : (tdV a b j).oneCell' = true := by unfold tdV; split <;> rfl
def xDn (P : Pk) (R m i : Nat) : List Pk := if i = m then [] else (dnL m i).map (pcs P 1 R)
def xUp (Q : Pk) (R m k : Nat) : List Pk := if k = m then [] else (List.range k).map (pcs Q 2 R)
theorem isTd : IsSt 55 2 := ⟨_, Try.underlying55, rfl, by kernel_rfl⟩
theorem zeroTd (w : World) : (zeroValue 55).run Try.prog w = .ok (.agg (SC 2 (tdV 0 0))) w := by kernel_rfl
theorem run_td0 (w : World) : (Instr.build 55 #[(0, .int .i64 0), (1, .int .i64 0)]).run Try.prog w = .ok (.agg (SC 2 (tdV 0 0))) w := by kernel_rfl
theorem exec_td0 {a : Act} {o : Oper} {w : World} (ho : o.op = .build 55 #[(0, .const (.int .i64 0)), (1, .const (.int .i64 0))]) : (execOp a.eval o).run Try.prog w = .ok (.value (.agg (SC 2 (tdV 0 0)))) w := by
  have e : a.eval (.const (.int .i64 0)) = .int .i64 0 := rfl
  unfold execOp
  simp only [ho, List.map_toArray, List.map_cons, List.map_nil, e, Sem.run_bind, run_td0, Result.andThen_ok, Sem.run_pure]
theorem run_tgz (w : World) : (zeroValue 45).run Try.prog w = .ok (.agg (SC 2 (tgV 0 0))) w := by kernel_rfl
theorem run_tg (x y : Int) (w : World) : (Instr.build 45 #[(0, .int .i64 x), (1, .int .i64 y)]).run Try.prog w = .ok (.agg (SC 2 (tgV x y))) w := by kernel_rfl
theorem exec_tg {a : Act} {o : Oper} {w : World} {x y : Int} (ho : o.op = .build 45 #[(0, .const (.int .i64 x)), (1, .const (.int .i64 y))]) : (execOp a.eval o).run Try.prog w = .ok (.value (.agg (SC 2 (tgV x y)))) w := by
  have e : ∀ z : Int, a.eval (.const (.int .i64 z)) = .int .i64 z := fun _ => rfl
  unfold execOp
  simp only [ho, List.map_toArray, List.map_cons, List.map_nil, e, Sem.run_bind, run_tg, Result.andThen_ok, Sem.run_pure]
theorem exec_ftg {a : Act} {o : Oper} {w : World} {x : Operand} (ho : o.op = .fieldAddr 45 x 1) {g : Nat} (hx : a.eval x = .pointer (some ⟨g, 0, none⟩)) : (execOp a.eval o).run Try.prog w = .ok (.value (.pointer (some ⟨g, 1, none⟩))) w := by
  have h : (Instr.fieldAt 45 (.pointer (some ⟨g, 0, none⟩)) 1).run Try.prog w = .ok (.pointer (some ⟨g, 1, none⟩)) w := by simp [go_sem]
  unfold execOp
  simp only [ho, hx, Sem.run_bind, h, Result.andThen_ok, Sem.run_pure]
theorem exec_ixTd0 {a : Act} {o : Oper} {w : World} {x : Operand} (ho : o.op = .indexAddr 55 x (.const (.int .i64 0))) {g : Nat} (hx : a.eval x = .pointer (some ⟨g, 0, none⟩)) : (execOp a.eval o).run Try.prog w = .ok (.value (.pointer (some ⟨g, 0, none⟩))) w :=
  exec_idxA (i := 0) ho Try.underlying55 rfl (fun w => by kernel_rfl) hx rfl (by decide)
theorem exec_ixTd1 {a : Act} {o : Oper} {w : World} {x : Operand} (ho : o.op = .indexAddr 55 x (.const (.int .i64 1))) {g : Nat} (hx : a.eval x = .pointer (some ⟨g, 0, none⟩)) : (execOp a.eval o).run Try.prog w = .ok (.value (.pointer (some ⟨g, 1, none⟩))) w :=
  exec_idxA (i := 1) ho Try.underlying55 rfl (fun w => by kernel_rfl) hx rfl (by decide)
set_option maxHeartbeats 40000000 in
theorem mixes_walk (P : Pk) (v : Value) (Q : Pk) (u : Value) (cv : Value) (C : Cut14) (w : World) (hx : ExAt w v P.exts) (hP : PkIn P) (hy : ExAt w u Q.exts) (hQ : PkIn Q) (hc : CutAt14 w cv C) : Calls Try.prog 6 #[.agg (SC 46 (pkV P v)), .agg (SC 46 (pkV Q u)), cv] w fun e w' => e = .returned (.bool true) ∧ Below w.heap.size w w' := by
  obtain ⟨hcv, hco, _, hbo, _, _⟩ := hc
  subst hcv
  obtain ⟨oa, oc, hov, hocell⟩ := hco
  have HOV := Hid.mk hov
  have HOC := Hid.mk hocell
  have HX := Hid.mk hx
  have HY := Hid.mk hy
  have HPI := Hid.mk hP
  have HQI := Hid.mk hQ
  have hv1 := hx.one
  have hu1 := hy.one
  obtain ⟨era, hera⟩ : ∃ e, (splitP P C.mtu 1).2 = e := ⟨_, rfl⟩
  obtain ⟨erb, herb⟩ : ∃ e, (splitP Q C.mtu 2).2 = e := ⟨_, rfl⟩
  have HEA := Hid.mk hera
  have HEB := Hid.mk herb
  have HSA : Hid (∀ ww, ExAt ww v P.exts → Calls Try.prog 9 #[.agg (SC 46 (pkV P v)), .int .i64 C.mtu, .int .i64 1] ww fun e w' => CutPost ww.heap.size era (splitP P C.mtu 1).1 e w' ∧ Below ww.heap.size ww w') := Hid.mk (fun ww h => hera ▸ Split_run P v C.mtu 1 ww h hP.len hP.b hP.p)
  have HSB : Hid (∀ ww, ExAt ww u Q.exts → Calls Try.prog 9 #[.agg (SC 46 (pkV Q u)), .int .i64 C.mtu, .int .i64 2] ww fun e w' => CutPost ww.heap.size erb (splitP Q C.mtu 2).1 e w' ∧ Below ww.heap.size ww w') := Hid.mk (fun ww h => herb ▸ Split_run Q u C.mtu 2 ww h hQ.len hQ.b hQ.p)
  clear hx hy hP hQ hbo hov hocell hera herb
  go_enter Try.func6, Try.ntmps6
  go_wp2_with (refine wl_boxO (V := pkV P v) rfl rfl isPk rfl ?_; intro g3 w1 hg3 s3 hB1; refine Hid.out ?_)
  refine Hid.mk ?_
  go_wp2_with (refine wl_boxO (V := pkV Q u) rfl rfl isPk rfl ?_; intro g4 w2 hg4 s4 hB2; refine Hid.out ?_)
  refine Hid.mk ?_
  go_wp2_with (refine wl_boxO (V := cutV14 C) rfl rfl isCut rfl ?_; intro g5 w3 hg5 s5 hB3; refine Hid.out ?_)
  refine Hid.mk ?_
  have s3 := (s3.kept hB2).kept hB3
  have s4 := s4.kept hB3
  have hBa := hB1.trans ((hB2.trans (hB3.mono hB2.size)).mono hB1.size)
  clear hB1 hB2 hB3
  go_wp2_with (go_at_call 7; refine (awake14_run _).mono ?_; rintro e w4 ⟨rfl, hB4⟩; refine Hid.out ?_)
  refine Hid.mk ?_
  have s3 := s3.kept hB4
  have s4 := s4.kept hB4
  have s5 := s5.kept hB4
  have hBa := hBa.trans (hB4.mono hBa.size)
  clear hB4
  have X4 := Hid.mk (HX.out.kept hBa)
  go_wp2_with (refine wl_value rfl (look_st rfl isPk s3 rfl) ?_; refine Hid.out ?_)
  refine Hid.mk ?_
  go_wp2_with (refine wl_value rfl (exec_fcut 0 (by decide) rfl rfl) ?_; refine Hid.out ?_)
  refine Hid.mk ?_
  go_wp2_with (refine wl_value rfl (exec_ld rfl rfl (ldP (cut_mtu s5))) ?_; refine Hid.out ?_)
  refine Hid.mk ?_
  go_wp2_with (go_at_call 9; refine (HSA.out _ X4.out).mono ?_; rintro e w5 ⟨⟨va, la, rfl, hra, hla⟩, hB5⟩; refine Hid.out ?_)
  refine Hid.mk ?_
  have s3 := s3.kept hB5
  have s4 := s4.kept hB5
  have s5 := s5.kept hB5
  have hBb := hBa.trans (hB5.mono hBa.size)
  obtain ⟨pa, ca, rfl, hpa⟩ := hra.shape
  have Y5 := Hid.mk (HY.out.kept hBb)
  go_wp2_with (refine wl_value rfl (look_st rfl isPk s4 rfl) ?_; refine Hid.out ?_)
  refine Hid.mk ?_
  go_wp2_with (refine wl_value rfl (exec_fcut 0 (by decide) rfl rfl) ?_; refine Hid.out ?_)
  refine Hid.mk ?_
  go_wp2_with (refine wl_value rfl (exec_ld rfl rfl (ldP (cut_mtu s5))) ?_; refine Hid.out ?_)
  refine Hid.mk ?_
  go_wp2_with (go_at_call 9; refine (HSB.out _ Y5.out).mono ?_; rintro e w6 ⟨⟨vb, lb, rfl, hrb, hlb⟩, hB6⟩; refine Hid.out ?_)
  refine Hid.mk ?_
  have s3 := s3.kept hB6
  have s4 := s4.kept hB6
  have s5 := s5.kept hB6
  have hBc := hBb.trans (hB6.mono hBb.size)
  obtain ⟨pb, cb, rfl, hpb⟩ := hrb.shape
  have hra := hra.keep hB6.size hB6.block
  have HBC := Hid.mk hBc
  have HG : Hid (g3 < w6.heap.size ∧ g4 < w6.heap.size ∧ g5 < w6.heap.size) := Hid.mk ⟨s3.lt, s4.lt, s5.lt⟩
  clear hBa hBb hB5 hB6 hBc X4 Y5 HSA HSB
  have HRA := Hid.mk (And.intro hra (And.intro hla hpa))
  have HRB := Hid.mk (And.intro hrb (And.intro hlb hpb))
  clear hra hrb hla hlb hpa hpb
  go_upto_region 4 with fail
  refine wp_plain_steps (Below w6.heap.size w6) (fun v v' => Below v.heap.size v v') (fun j vv _ => vv = ((.int .i64 era :: .bool (!decide (era = 0)) :: .bool (!decide (era = 0)) :: gv (!(!decide (era = 0))) (.int .i64 erb) :: gv (!(!decide (era = 0))) (.bool (!decide (erb = 0))) :: .bool ((!decide (era = 0)) || (!decide (erb = 0))) :: .bool ((!decide (era = 0)) || (!decide (erb = 0))) :: gv (!((!decide (era = 0)) || (!decide (erb = 0)))) (.slice pa la.length ca) :: gv (!((!decide (era = 0)) || (!decide (erb = 0)))) (.int .i64 (la.length : Int)) :: gv (!((!decide (era = 0)) || (!decide (erb = 0)))) (.bool (decide (64 < (la.length : Int)))) :: .bool (((!decide (era = 0)) || (!decide (erb = 0))) || (decide (64 < (la.length : Int)))) :: .bool (((!decide (era = 0)) || (!decide (erb = 0))) || (decide (64 < (la.length : Int)))) :: gv (!(((!decide (era = 0)) || (!decide (erb = 0))) || (decide (64 < (la.length : Int))))) (.slice pb lb.length cb) :: gv (!(((!decide (era = 0)) || (!decide (erb = 0))) || (decide (64 < (la.length : Int))))) (.int .i64 (lb.length : Int)) :: gv (!(((!decide (era = 0)) || (!decide (erb = 0))) || (decide (64 < (la.length : Int))))) (.bool (decide (64 < (lb.length : Int)))) :: .bool ((((!decide (era = 0)) || (!decide (erb = 0))) || (decide (64 < (la.length : Int)))) || (decide (64 < (lb.length : Int)))) :: .bool ((((!decide (era = 0)) || (!decide (erb = 0))) || (decide (64 < (la.length : Int)))) || (decide (64 < (lb.length : Int)))) :: gv (!((((!decide (era = 0)) || (!decide (erb = 0))) || (decide (64 < (la.length : Int)))) || (decide (64 < (lb.length : Int))))) (.pointer (some ⟨g3, 38, none⟩)) :: gv (!((((!decide (era = 0)) || (!decide (erb = 0))) || (decide (64 < (la.length : Int)))) || (decide (64 < (lb.length : Int))))) (.int .i64 P.off) :: gv (!((((!decide (era = 0)) || (!decide (erb = 0))) || (decide (64 < (la.length : Int)))) || (decide (64 < (lb.length : Int))))) (.bool (decide (0 < P.off))) :: .bool (((((!decide (era = 0)) || (!decide (erb = 0))) || (decide (64 < (la.length : Int)))) || (decide (64 < (lb.length : Int)))) || (decide (0 < P.off))) :: .bool (((((!decide (era = 0)) || (!decide (erb = 0))) || (decide (64 < (la.length : Int)))) || (decide (64 < (lb.length : Int)))) || (decide (0 < P.off))) :: gv (!(((((!decide (era = 0)) || (!decide (erb = 0))) || (decide (64 < (la.length : Int)))) || (decide (64 < (lb.length : Int)))) || (decide (0 < P.off)))) (.pointer (some ⟨g3, 39, none⟩)) :: gv (!(((((!decide (era = 0)) || (!decide (erb = 0))) || (decide (64 < (la.length : Int)))) || (decide (64 < (lb.length : Int)))) || (decide (0 < P.off)))) (.bool P.more) :: .bool ((((((!decide (era = 0)) || (!decide (erb = 0))) || (decide (64 < (la.length : Int)))) || (decide (64 < (lb.length : Int)))) || (decide (0 < P.off))) || P.more) :: .bool ((((((!decide (era = 0)) || (!decide (erb = 0))) || (decide (64 < (la.length : Int)))) || (decide (64 < (lb.length : Int)))) || (decide (0 < P.off))) || P.more) :: gv (!((((((!decide (era = 0)) || (!decide (erb = 0))) || (decide (64 < (la.length : Int)))) || (decide (64 < (lb.length : Int)))) || (decide (0 < P.off))) || P.more)) (.pointer (some ⟨g4, 38, none⟩)) :: gv (!((((((!decide (era = 0)) || (!decide (erb = 0))) || (decide (64 < (la.length : Int)))) || (decide (64 < (lb.length : Int)))) || (decide (0 < P.off))) || P.more)) (.int .i64 Q.off) :: gv (!((((((!decide (era = 0)) || (!decide (erb = 0))) || (decide (64 < (la.length : Int)))) || (decide (64 < (lb.length : Int)))) || (decide (0 < P.off))) || P.more)) (.bool (decide (0 < Q.off))) :: .bool (((((((!decide (era = 0)) || (!decide (erb = 0))) || (decide (64 < (la.length : Int)))) || (decide (64 < (lb.length : Int)))) || (decide (0 < P.off))) || P.more) || (decide (0 < Q.off))) :: .bool (((((((!decide (era = 0)) || (!decide (erb = 0))) || (decide (64 < (la.length : Int)))) || (decide (64 < (lb.length : Int)))) || (decide (0 < P.off))) || P.more) || (decide (0 < Q.off))) :: gv (!(((((((!decide (era = 0)) || (!decide (erb = 0))) || (decide (64 < (la.length : Int)))) || (decide (64 < (lb.length : Int)))) || (decide (0 < P.off))) || P.more) || (decide (0 < Q.off)))) (.pointer (some ⟨g4, 39, none⟩)) :: gv (!(((((((!decide (era = 0)) || (!decide (erb = 0))) || (decide (64 < (la.length : Int)))) || (decide (64 < (lb.length : Int)))) || (decide (0 < P.off))) || P.more) || (decide (0 < Q.off)))) (.bool Q.more) :: .bool ((((((((!decide (era = 0)) || (!decide (erb = 0))) || (decide (64 < (la.length : Int)))) || (decide (64 < (lb.length : Int)))) || (decide (0 < P.off))) || P.more) || (decide (0 < Q.off))) || Q.more) :: .bool ((((((((!decide (era = 0)) || (!decide (erb = 0))) || (decide (64 < (la.length : Int)))) || (decide (64 < (lb.length : Int)))) || (decide (0 < P.off))) || P.more) || (decide (0 < Q.off))) || Q.more) :: gv (!((((((((!decide (era = 0)) || (!decide (erb = 0))) || (decide (64 < (la.length : Int)))) || (decide (64 < (lb.length : Int)))) || (decide (0 < P.off))) || P.more) || (decide (0 < Q.off))) || Q.more)) (.slice pa la.length ca) :: gv (!((((((((!decide (era = 0)) || (!decide (erb = 0))) || (decide (64 < (la.length : Int)))) || (decide (64 < (lb.length : Int)))) || (decide (0 < P.off))) || P.more) || (decide (0 < Q.off))) || Q.more)) (.int .i64 (la.length : Int)) :: gv (!((((((((!decide (era = 0)) || (!decide (erb = 0))) || (decide (64 < (la.length : Int)))) || (decide (64 < (lb.length : Int)))) || (decide (0 < P.off))) || P.more) || (decide (0 < Q.off))) || Q.more)) (.bool (decide ((la.length : Int) = 1))) :: .bool (((((((((!decide (era = 0)) || (!decide (erb = 0))) || (decide (64 < (la.length : Int)))) || (decide (64 < (lb.length : Int)))) || (decide (0 < P.off))) || P.more) || (decide (0 < Q.off))) || Q.more) || (decide ((la.length : Int) = 1))) :: .bool (((((((((!decide (era = 0)) || (!decide (erb = 0))) || (decide (64 < (la.length : Int)))) || (decide (64 < (lb.length : Int)))) || (decide (0 < P.off))) || P.more) || (decide (0 < Q.off))) || Q.more) || (decide ((la.length : Int) = 1))) :: gv (!(((((((((!decide (era = 0)) || (!decide (erb = 0))) || (decide (64 < (la.length : Int)))) || (decide (64 < (lb.length : Int)))) || (decide (0 < P.off))) || P.more) || (decide (0 < Q.off))) || Q.more) || (decide ((la.length : Int) = 1)))) (.slice pb lb.length cb) :: gv (!(((((((((!decide (era = 0)) || (!decide (erb = 0))) || (decide (64 < (la.length : Int)))) || (decide (64 < (lb.length : Int)))) || (decide (0 < P.off))) || P.more) || (decide (0 < Q.off))) || Q.more) || (decide ((la.length : Int) = 1)))) (.int .i64 (lb.length : Int)) :: gv (!(((((((((!decide (era = 0)) || (!decide (erb = 0))) || (decide (64 < (la.length : Int)))) || (decide (64 < (lb.length : Int)))) || (decide (0 < P.off))) || P.more) || (decide (0 < Q.off))) || Q.more) || (decide ((la.length : Int) = 1)))) (.bool (decide ((lb.length : Int) = 1))) :: .bool ((((((((((!decide (era = 0)) || (!decide (erb = 0))) || (decide (64 < (la.length : Int)))) || (decide (64 < (lb.length : Int)))) || (decide (0 < P.off))) || P.more) || (decide (0 < Q.off))) || Q.more) || (decide ((la.length : Int) = 1))) || (decide ((lb.length : Int) = 1))) :: []) : List Value).getD j undef)
      (39 :: 40 :: 41 :: 42 :: 43 :: 44 :: 45 :: 46 :: 47 :: 48 :: 49 :: 50 :: 51 :: 52 :: 53 :: 54 :: 55 :: 56 :: 57 :: 58 :: 59 :: 60 :: 61 :: 62 :: 63 :: 64 :: 65 :: 66 :: 67 :: 68 :: 69 :: 70 :: 71 :: 72 :: 73 :: 74 :: 75 :: 76 :: 77 :: 78 :: 79 :: 80 :: 81 :: 82 :: [])
      [(9, .int .i64 era), (11, .int .i64 erb), (8, .slice pa la.length ca), (10, .slice pb lb.length cb), (3, .pointer (some ⟨g3, 0, none⟩)), (4, .pointer (some ⟨g4, 0, none⟩))] [] 0
      ([] :: [0] :: [1] :: [2] :: [2, 3] :: [2, 4] :: [5] :: [6] :: [6, 7] :: [6, 8] :: [6, 9] :: [10] :: [11] :: [11, 12] :: [11, 13] :: [11, 14] :: [15] :: [16] :: [16, 17] :: [16, 18] :: [16, 19] :: [20] :: [21] :: [21, 22] :: [21, 23] :: [24] :: [25] :: [25, 26] :: [25, 27] :: [25, 28] :: [29] :: [30] :: [30, 31] :: [30, 32] :: [33] :: [34] :: [34, 35] :: [34, 36] :: [34, 37] :: [38] :: [39] :: [39, 40] :: [39, 41] :: [39, 42] :: [])
      (by kernel_rfl) ⟨rfl, rfl, rfl, rfl, rfl, rfl, trivial⟩ trivial (Below.refl _ _) (fun v v' h hb => h.trans (hb.mono h.size)) (fun _ _ _ _ h _ => h)
      ⟨
      (fun QQ aa ww hS fr kn => sg0 rfl (fun K hK => wp_value (exec_move rfl fr.1) (hK _ _ rfl (Below.refl _ _)))),
      (fun QQ aa ww hS fr kn => sg0 rfl (fun K hK => wp_value (cmp_neE (m := era) (n := 0) rfl kn.1 rfl) (hK _ _ rfl (Below.refl _ _)))),
      (fun QQ aa ww hS fr kn => sg0 rfl (fun K hK => wp_value (exec_move rfl kn.1) (hK _ _ rfl (Below.refl _ _)))),
      (fun QQ aa ww hS fr kn => sgF rfl kn.1 (fun hng K hK => have hc := nt_t hng; wp_value (exec_move rfl fr.2.1) (hK _ _ (gv_t hc).symm (Below.refl _ _))) (fun h0 => (gv_f (nt_f h0)).symm)),
      (fun QQ aa ww hS fr kn => sgF rfl kn.1 (fun hng K hK => have hc := nt_t hng; wp_value (cmp_neE (m := erb) (n := 0) rfl (kn.2.1.trans (gv_t hc)) rfl) (hK _ _ (gv_t hc).symm (Below.refl _ _))) (fun h0 => (gv_f (nt_f h0)).symm)),
      (fun QQ aa ww hS fr kn => sg0 rfl (fun K hK => wp_value (exec_pickOr rfl kn.1 rfl (fun hx => kn.2.1.trans (gv_t (nt_t hx)))) (hK _ _ rfl (Below.refl _ _)))),
      (fun QQ aa ww hS fr kn => sg0 rfl (fun K hK => wp_value (exec_move rfl kn.1) (hK _ _ rfl (Below.refl _ _)))),
      (fun QQ aa ww hS fr kn => sgF rfl kn.1 (fun hng K hK => have hc := nt_t hng; wp_value (exec_move rfl fr.2.2.1) (hK _ _ (gv_t hc).symm (Below.refl _ _))) (fun h0 => (gv_f (nt_f h0)).symm)),
      (fun QQ aa ww hS fr kn => sgF rfl kn.1 (fun hng K hK => have hc := nt_t hng; wp_value (exec_lenK rfl (kn.2.1.trans (gv_t hc))) (hK _ _ (gv_t hc).symm (Below.refl _ _))) (fun h0 => (gv_f (nt_f h0)).symm)),
      (fun QQ aa ww hS fr kn => sgF rfl kn.1 (fun hng K hK => have hc := nt_t hng; wp_value (cmp_gt (m := (la.length : Int)) (n := 64) rfl (kn.2.1.trans (gv_t hc)) rfl) (hK _ _ (gv_t hc).symm (Below.refl _ _))) (fun h0 => (gv_f (nt_f h0)).symm)),
      (fun QQ aa ww hS fr kn => sg0 rfl (fun K hK => wp_value (exec_pickOr rfl kn.1 rfl (fun hx => kn.2.1.trans (gv_t (nt_t hx)))) (hK _ _ rfl (Below.refl _ _)))),
      (fun QQ aa ww hS fr kn => sg0 rfl (fun K hK => wp_value (exec_move rfl kn.1) (hK _ _ rfl (Below.refl _ _)))),
      (fun QQ aa ww hS fr kn => sgF rfl kn.1 (fun hng K hK => have hc := nt_t hng; wp_value (exec_move rfl fr.2.2.2.1) (hK _ _ (gv_t hc).symm (Below.refl _ _))) (fun h0 => (gv_f (nt_f h0)).symm)),
      (fun QQ aa ww hS fr kn => sgF rfl kn.1 (fun hng K hK => have hc := nt_t hng; wp_value (exec_lenK rfl (kn.2.1.trans (gv_t hc))) (hK _ _ (gv_t hc).symm (Below.refl _ _))) (fun h0 => (gv_f (nt_f h0)).symm)),
      (fun QQ aa ww hS fr kn => sgF rfl kn.1 (fun hng K hK => have hc := nt_t hng; wp_value (cmp_gt (m := (lb.length : Int)) (n := 64) rfl (kn.2.1.trans (gv_t hc)) rfl) (hK _ _ (gv_t hc).symm (Below.refl _ _))) (fun h0 => (gv_f (nt_f h0)).symm)),
      (fun QQ aa ww hS fr kn => sg0 rfl (fun K hK => wp_value (exec_pickOr rfl kn.1 rfl (fun hx => kn.2.1.trans (gv_t (nt_t hx)))) (hK _ _ rfl (Below.refl _ _)))),
      (fun QQ aa ww hS fr kn => sg0 rfl (fun K hK => wp_value (exec_move rfl kn.1) (hK _ _ rfl (Below.refl _ _)))),
      (fun QQ aa ww hS fr kn => sgF rfl kn.1 (fun hng K hK => have hc := nt_t hng; wp_value (exec_fpk 6 (by decide) rfl fr.2.2.2.2.1) (hK _ _ (gv_t hc).symm (Below.refl _ _))) (fun h0 => (gv_f (nt_f h0)).symm)),
      (fun QQ aa ww hS fr kn => sgF rfl kn.1 (fun hng K hK => have hc := nt_t hng; wp_value (exec_ld rfl (kn.2.1.trans (gv_t hc)) (ldP (pk_off (SAt.kept s3 hS)))) (hK _ _ (gv_t hc).symm (Below.refl _ _))) (fun h0 => (gv_f (nt_f h0)).symm)),
      (fun QQ aa ww hS fr kn => sgF rfl kn.1 (fun hng K hK => have hc := nt_t hng; wp_value (cmp_gt (m := P.off) (n := 0) rfl (kn.2.1.trans (gv_t hc)) rfl) (hK _ _ (gv_t hc).symm (Below.refl _ _))) (fun h0 => (gv_f (nt_f h0)).symm)),
      (fun QQ aa ww hS fr kn => sg0 rfl (fun K hK => wp_value (exec_pickOr rfl kn.1 rfl (fun hx => kn.2.1.trans (gv_t (nt_t hx)))) (hK _ _ rfl (Below.refl _ _)))),
      (fun QQ aa ww hS fr kn => sg0 rfl (fun K hK => wp_value (exec_move rfl kn.1) (hK _ _ rfl (Below.refl _ _)))),
      (fun QQ aa ww hS fr kn => sgF rfl kn.1 (fun hng K hK => have hc := nt_t hng; wp_value (exec_fpk 7 (by decide) rfl fr.2.2.2.2.1) (hK _ _ (gv_t hc).symm (Below.refl _ _))) (fun h0 => (gv_f (nt_f h0)).symm)),
      (fun QQ aa ww hS fr kn => sgF rfl kn.1 (fun hng K hK => have hc := nt_t hng; wp_value (exec_ld rfl (kn.2.1.trans (gv_t hc)) (ldPb (pk_more (SAt.kept s3 hS)))) (hK _ _ (gv_t hc).symm (Below.refl _ _))) (fun h0 => (gv_f (nt_f h0)).symm)),
      (fun QQ aa ww hS fr kn => sg0 rfl (fun K hK => wp_value (exec_pickOr rfl kn.1 rfl (fun hx => kn.2.1.trans (gv_t (nt_t hx)))) (hK _ _ rfl (Below.refl _ _)))),
      (fun QQ aa ww hS fr kn => sg0 rfl (fun K hK => wp_value (exec_move rfl kn.1) (hK _ _ rfl (Below.refl _ _)))),
      (fun QQ aa ww hS fr kn => sgF rfl kn.1 (fun hng K hK => have hc := nt_t hng; wp_value (exec_fpk 6 (by decide) rfl fr.2.2.2.2.2.1) (hK _ _ (gv_t hc).symm (Below.refl _ _))) (fun h0 => (gv_f (nt_f h0)).symm)),
      (fun QQ aa ww hS fr kn => sgF rfl kn.1 (fun hng K hK => have hc := nt_t hng; wp_value (exec_ld rfl (kn.2.1.trans (gv_t hc)) (ldP (pk_off (SAt.kept s4 hS)))) (hK _ _ (gv_t hc).symm (Below.refl _ _))) (fun h0 => (gv_f (nt_f h0)).symm)),
      (fun QQ aa ww hS fr kn => sgF rfl kn.1 (fun hng K hK => have hc := nt_t hng; wp_value (cmp_gt (m := Q.off) (n := 0) rfl (kn.2.1.trans (gv_t hc)) rfl) (hK _ _ (gv_t hc).symm (Below.refl _ _))) (fun h0 => (gv_f (nt_f h0)).symm)),
      (fun QQ aa ww hS fr kn => sg0 rfl (fun K hK => wp_value (exec_pickOr rfl kn.1 rfl (fun hx => kn.2.1.trans (gv_t (nt_t hx)))) (hK _ _ rfl (Below.refl _ _)))),
      (fun QQ aa ww hS fr kn => sg0 rfl (fun K hK => wp_value (exec_move rfl kn.1) (hK _ _ rfl (Below.refl _ _)))),
      (fun QQ aa ww hS fr kn => sgF rfl kn.1 (fun hng K hK => have hc := nt_t hng; wp_value (exec_fpk 7 (by decide) rfl fr.2.2.2.2.2.1) (hK _ _ (gv_t hc).symm (Below.refl _ _))) (fun h0 => (gv_f (nt_f h0)).symm)),
      (fun QQ aa ww hS fr kn => sgF rfl kn.1 (fun hng K hK => have hc := nt_t hng; wp_value (exec_ld rfl (kn.2.1.trans (gv_t hc)) (ldPb (pk_more (SAt.kept s4 hS)))) (hK _ _ (gv_t hc).symm (Below.refl _ _))) (fun h0 => (gv_f (nt_f h0)).symm)),
      (fun QQ aa ww hS fr kn => sg0 rfl (fun K hK => wp_value (exec_pickOr rfl kn.1 rfl (fun hx => kn.2.1.trans (gv_t (nt_t hx)))) (hK _ _ rfl (Below.refl _ _)))),
      (fun QQ aa ww hS fr kn => sg0 rfl (fun K hK => wp_value (exec_move rfl kn.1) (hK _ _ rfl (Below.refl _ _)))),
      (fun QQ aa ww hS fr kn => sgF rfl kn.1 (fun hng K hK => have hc := nt_t hng; wp_value (exec_move rfl fr.2.2.1) (hK _ _ (gv_t hc).symm (Below.refl _ _))) (fun h0 => (gv_f (nt_f h0)).symm)),
      (fun QQ aa ww hS fr kn => sgF rfl kn.1 (fun hng K hK => have hc := nt_t hng; wp_value (exec_lenK rfl (kn.2.1.trans (gv_t hc))) (hK _ _ (gv_t hc).symm (Below.refl _ _))) (fun h0 => (gv_f (nt_f h0)).symm)),
      (fun QQ aa ww hS fr kn => sgF rfl kn.1 (fun hng K hK => have hc := nt_t hng; wp_value (cmp_eq (m := (la.length : Int)) (n := 1) rfl (kn.2.1.trans (gv_t hc)) rfl) (hK _ _ (gv_t hc).symm (Below.refl _ _))) (fun h0 => (gv_f (nt_f h0)).symm)),
      (fun QQ aa ww hS fr kn => sg0 rfl (fun K hK => wp_value (exec_pickOr rfl kn.1 rfl (fun hx => kn.2.1.trans (gv_t (nt_t hx)))) (hK _ _ rfl (Below.refl _ _)))),
      (fun QQ aa ww hS fr kn => sg0 rfl (fun K hK => wp_value (exec_move rfl kn.1) (hK _ _ rfl (Below.refl _ _)))),
      (fun QQ aa ww hS fr kn => sgF rfl kn.1 (fun hng K hK => have hc := nt_t hng; wp_value (exec_move rfl fr.2.2.2.1) (hK _ _ (gv_t hc).symm (Below.refl _ _))) (fun h0 => (gv_f (nt_f h0)).symm)),
      (fun QQ aa ww hS fr kn => sgF rfl kn.1 (fun hng K hK => have hc := nt_t hng; wp_value (exec_lenK rfl (kn.2.1.trans (gv_t hc))) (hK _ _ (gv_t hc).symm (Below.refl _ _))) (fun h0 => (gv_f (nt_f h0)).symm)),
      (fun QQ aa ww hS fr kn => sgF rfl kn.1 (fun hng K hK => have hc := nt_t hng; wp_value (cmp_eq (m := (lb.length : Int)) (n := 1) rfl (kn.2.1.trans (gv_t hc)) rfl) (hK _ _ (gv_t hc).symm (Below.refl _ _))) (fun h0 => (gv_f (nt_f h0)).symm)),
      (fun QQ aa ww hS fr kn => sg0 rfl (fun K hK => wp_value (exec_pickOr rfl kn.1 rfl (fun hx => kn.2.1.trans (gv_t (nt_t hx)))) (hK _ _ rfl (Below.refl _ _)))),
      trivial⟩ ?_
  intro vs w7 hB7 kn
  have e82 : vs 82 = .bool ((((((((((!decide (era = 0)) || (!decide (erb = 0))) || (decide (64 < (la.length : Int)))) || (decide (64 < (lb.length : Int)))) || (decide (0 < P.off))) || P.more) || (decide (0 < Q.off))) || Q.more) || (decide ((la.length : Int) = 1))) || (decide ((lb.length : Int) = 1))) := kn 43 (by decide)
  clear kn
  simp only [putAll, Act.put, List.setIfInBounds_toArray, List.set_cons_zero, List.set_cons_succ, e82]
  clear e82
  have s3 := s3.kept hB7
  have s4 := s4.kept hB7
  have s5 := s5.kept hB7
  have HBC2 : Hid (Below w.heap.size w w6) := HBC
  have HBD := Hid.mk (HBC.out.trans (hB7.mono HBC.out.size))
  have HB7 := Hid.mk hB7
  clear hB7 HBC
  rcases Bool.eq_false_or_eq_true ((((((((((!decide (era = 0)) || (!decide (erb = 0))) || (decide (64 < (la.length : Int)))) || (decide (64 < (lb.length : Int)))) || (decide (0 < P.off))) || P.more) || (decide (0 < Q.off))) || Q.more) || (decide ((la.length : Int) = 1))) || (decide ((lb.length : Int) = 1))) with hE | hE
  · rw [hE]
    go_wp2_with fail
    go_ret
    exact ⟨rfl, HBD.out⟩
  rw [hE]
  have hE2 := hE
  simp only [Bool.or_eq_false_iff, Bool.not_eq_false', decide_eq_true_eq, decide_eq_false_iff_not] at hE2
  clear hE
  obtain ⟨R, ma, HCP⟩ : ∃ R ma, Hid (CutOf P 1 R ma ∧ 2 ≤ ma ∧ ma ≤ 64 ∧ la.length = ma ∧ la.map (·.1) = (List.range ma).map (pcs P 1 R)) := by
    obtain ⟨_, _, _, h4⟩ := split_whole (P := P) (mtu := C.mtu) (id := 1) (by rw [HEA.out]; omega) (by omega) (by simp [hE2])
    rcases h4 with ⟨h5, _⟩ | ⟨R, m, h5, h6, h7, _⟩
    · have h8 := HRA.out.2.1
      rw [h5] at h8
      have h9 : la.length = 1 := by rw [← List.length_map (f := (·.1)), h8]; rfl
      rw [h9] at hE2
      omega
    · have h8 := HRA.out.2.1
      rw [h7] at h8
      have h9 : la.length = m := by rw [← List.length_map (f := (·.1)), h8, List.length_map, List.length_range]
      exact ⟨R, m, Hid.mk ⟨h5, h6, by omega, h9, h8⟩⟩
  obtain ⟨R', mb, HCQ⟩ : ∃ R mb, Hid (CutOf Q 2 R mb ∧ 2 ≤ mb ∧ mb ≤ 64 ∧ lb.length = mb ∧ lb.map (·.1) = (List.range mb).map (pcs Q 2 R)) := by
    obtain ⟨_, _, _, h4⟩ := split_whole (P := Q) (mtu := C.mtu) (id := 2) (by rw [HEB.out]; omega) (by omega) (by simp [hE2])
    rcases h4 with ⟨h5, _⟩ | ⟨R, m, h5, h6, h7, _⟩
    · have h8 := HRB.out.2.1
      rw [h5] at h8
      have h9 : lb.length = 1 := by rw [← List.length_map (f := (·.1)), h8]; rfl
      rw [h9] at hE2
      omega
    · have h8 := HRB.out.2.1
      rw [h7] at h8
      have h9 : lb.length = m := by rw [← List.length_map (f := (·.1)), h8, List.length_map, List.length_range]
      exact ⟨R, m, Hid.mk ⟨h5, h6, by omega, h9, h8⟩⟩
  clear hE2
  obtain ⟨pa, rfl⟩ : ∃ q, pa = some q := by
    obtain ⟨q, hq⟩ := HRA.out.2.2 (by have := HCP.out; omega)
    exact ⟨_, hq⟩
  obtain ⟨pb, rfl⟩ : ∃ q, pb = some q := by
    obtain ⟨q, hq⟩ := HRB.out.2.2 (by have := HCQ.out; omega)
    exact ⟨_, hq⟩
  have HLA := Hid.mk HCP.out.2.2.2.1
  have HLB := Hid.mk HCQ.out.2.2.2.1
  rw [HLA.out, HLB.out]
  go_wp2_with (refine wl_value rfl (exec_tg rfl) ?_; refine Hid.out ?_)
  refine Hid.mk ?_
  go_wp2_with (refine wl_alO rfl rfl (fun w => run_tgz w) ?_; intro g12 w8 hg12 s12 hB8; refine Hid.out ?_)
  refine Hid.mk ?_
  go_wp2_with (refine st_stO (V := tgV 1 1) (g := g12) rfl rfl isTg tgV_one s12 rfl rfl ?_; intro w9 s12 ho9; refine Hid.out ?_)
  refine Hid.mk ?_
  go_wp2_with (refine wl_value rfl (look_st rfl isTg s12 rfl) ?_; refine Hid.out ?_)
  refine Hid.mk ?_
  go_wp2_with (refine wl_alO rfl rfl (fun w => run_tgz w) ?_; intro g13 w10 hg13 s13 hB10; refine Hid.out ?_)
  refine Hid.mk ?_
  go_wp2_with (refine st_stO (V := tgV 1 1) (g := g13) rfl rfl isTg tgV_one s13 rfl rfl ?_; intro w11 s13 ho11; refine Hid.out ?_)
  refine Hid.mk ?_
  have hz13 : g12 < g13 := by have := s12.lt; omega
  have HS0 : Hid (w6.heap.size ≤ g12 ∧ g3 < w6.heap.size ∧ g4 < w6.heap.size ∧ g5 < w6.heap.size) := Hid.mk ⟨by have := HB7.out.size; omega, by have := HBD.out; exact HG.out.1, HG.out.2.1, HG.out.2.2⟩
  have b79 : Spares (fun k => k < w6.heap.size) w6 w9 := (spares_below HB7.out).trans (Spares.local hB8 hg12 HB7.out.size ho9)
  have hz9 : w6.heap.size ≤ w9.heap.size := b79.size
  have b7 : Spares (fun k => k < w6.heap.size) w6 w11 := b79.trans (Spares.local hB10 hg13 hz9 ho11)
  have hl9 := s12.lt
  have s12 := s12.block ((ho11.block g12 (by omega)).trans (hB10.block g12 hl9))
  have HB11 := Hid.mk b7
  have s3 := s3.block (keep_spares ((Spares.local hB8 hg12 HB7.out.size ho9).trans (Spares.local hB10 hg13 hz9 ho11)) HB7.out.size g3 HS0.out.2.1)
  have s4 := s4.block (keep_spares ((Spares.local hB8 hg12 HB7.out.size ho9).trans (Spares.local hB10 hg13 hz9 ho11)) HB7.out.size g4 HS0.out.2.2.1)
  have s5 := s5.block (keep_spares ((Spares.local hB8 hg12 HB7.out.size ho9).trans (Spares.local hB10 hg13 hz9 ho11)) HB7.out.size g5 HS0.out.2.2.2)
  clear b79 b7 hz9 hl9 hB8 hB10 ho9 ho11 hg12 hg13
  go_upto_region 8 with fail
  rename_i K1 HK1 K0 HK0
  have TAIL : ∀ (t24 t25 t26 t27 t28 t29 t30 t31 t32 t33 t34 t35 t36 t37 t38 t39 t40 t41 t42 t43 t44 t45 t46 t47 t48 t49 t50 t51 t52 t53 t54 t55 t56 t57 t58 t59 t60 t61 t62 t63 t64 t65 t66 t67 t68 t69 t70 t71 t72 t73 t74 t75 t76 t77 t78 t79 t80 t81 t82 t83 t84 t85 t86 t87 t88 t89 t90 t91 t92 t93 t94 t95 t96 t97 t98 t99 t100 t101 : Value) (e2 : Int) (z : World), Hid (SAt z g3 27 46 (pkV P v) ∧ SAt z g4 27 46 (pkV Q u) ∧ SAt z g5 39 5 (cutV14 C)) → Hid (SAt z g12 45 2 (tgV 1 1) ∧ SAt z g13 45 2 (tgV 1 e2)) → Hid (Spares (fun k => k < w6.heap.size) w6 z) → Hid (famOf 1 1 (pcs P 1 R 0) ≠ famOf 1 e2 (pcs Q 2 R' 0)) → K1 { tmps := #[.agg (SC 46 (pkV P v)), .agg (SC 46 (pkV Q u)), .agg (SC 5 (cutV14 C)), .pointer (some ⟨g3, 0, none⟩), .pointer (some ⟨g4, 0, none⟩), .pointer (some ⟨g5, 0, none⟩), .bool false, .bool true, .slice (some pa) ma ca, .int .i64 era, .slice (some pb) mb cb, .int .i64 erb, .pointer (some ⟨g12, 0, none⟩), .pointer (some ⟨g13, 0, none⟩), undef, undef, undef, undef, undef, undef, undef, undef, undef, undef, t24, t25, t26, t27, t28, t29, t30, t31, t32, t33, t34, t35, t36, t37, t38, t39, t40, t41, t42, t43, t44, t45, t46, t47, t48, t49, t50, t51, t52, t53, t54, t55, t56, t57, t58, t59, t60, t61, t62, t63, t64, t65, t66, t67, t68, t69, t70, t71, t72, t73, t74, t75, t76, t77, t78, t79, t80, t81, t82, t83, t84, t85, t86, t87, t88, t89, t90, t91, t92, t93, t94, t95, t96, t97, t98, t99, t100, t101, undef, undef, undef, undef, undef, undef, undef, undef, undef, undef, undef, undef, undef, undef, undef, undef, undef, undef, undef, undef, undef, undef, undef, undef, undef, undef, undef, undef, undef, undef, undef, undef, undef, undef, undef, undef, undef, undef, undef, undef, undef, undef, undef, undef, undef, undef, undef, undef, undef, undef, undef, undef, undef, undef, undef, undef, undef, undef, undef, undef, undef, undef, undef, undef, undef, undef, undef, undef, undef, undef, undef, undef, undef, undef, undef, undef, undef, undef, undef, undef, undef, undef, undef, undef, undef, undef, undef, undef, undef, undef, undef, undef, undef, undef, undef, undef, undef, undef, undef, undef, undef, undef, undef, undef, undef, undef, undef, undef, undef, undef, undef, undef, undef, undef, undef, undef, undef, undef, undef, undef, undef, undef, undef, undef, undef, undef, undef, undef, undef, undef, undef], defers := [] } z := by
    intro t24 t25 t26 t27 t28 t29 t30 t31 t32 t33 t34 t35 t36 t37 t38 t39 t40 t41 t42 t43 t44 t45 t46 t47 t48 t49 t50 t51 t52 t53 t54 t55 t56 t57 t58 t59 t60 t61 t62 t63 t64 t65 t66 t67 t68 t69 t70 t71 t72 t73 t74 t75 t76 t77 t78 t79 t80 t81 t82 t83 t84 t85 t86 t87 t88 t89 t90 t91 t92 t93 t94 t95 t96 t97 t98 t99 t100 t101 e2 z HS3 HST HSP HFN
    refine HK1 _ _ ?_
    dsimp only
    have HBE := HBC2
    clear HK1 HK0 s3 s4 s5 s12 s13 HB11
    have HZ6 : Hid (w6.heap.size ≤ z.heap.size) := Hid.mk HSP.out.size
    have HRP : Hid (PkRow z w4.heap.size w4.heap.size (.slice (some pa) la.length ca) la) := Hid.mk (HRA.out.1.keep HSP.out.size (keep_spares HSP.out (Nat.le_refl _)))
    have HRQ : Hid (PkRow z w5.heap.size w5.heap.size (.slice (some pb) lb.length cb) lb) := Hid.mk (HRB.out.1.keep HSP.out.size (keep_spares HSP.out (Nat.le_refl _)))
    have HXZ : Hid (ExAt z v P.exts ∧ ExAt z u Q.exts) := Hid.mk ⟨(HX.out.kept HBE.out).blk (fun k hk => keep_spares HSP.out (Nat.le_refl _) k (by have := exK_lt HX.out hk; have := HBE.out.size; omega)), (HY.out.kept HBE.out).blk (fun k hk => keep_spares HSP.out (Nat.le_refl _) k (by have := exK_lt HY.out hk; have := HBE.out.size; omega))⟩
    obtain ⟨nz, hnz⟩ : ∃ nz, z.heap.size = nz := ⟨_, rfl⟩
    have HNZ := Hid.mk hnz
    have hgz : g3 < nz ∧ g4 < nz ∧ g5 < nz ∧ g12 < nz ∧ g13 < nz := by rw [← hnz]; exact ⟨HS3.out.1.lt, HS3.out.2.1.lt, HS3.out.2.2.lt, HST.out.1.lt, HST.out.2.lt⟩
    have HGZ := Hid.mk hgz
    clear hgz HRA HRB HLA HLB
    go_wp2_with (go_at_call 13; refine (New_run _).mono ?_; rintro e z1 ⟨⟨g, rfl, hg, sg⟩, hB1⟩; refine Hid.out ?_)
    refine Hid.mk ?_
    go_wp2_with (refine wl_value rfl (exec_td0 rfl) ?_; refine Hid.out ?_)
    refine Hid.mk ?_
    go_wp2_with (refine wl_alO rfl rfl zeroTd ?_; intro g15 z2 hg15 s15 hB2; refine Hid.out ?_)
    refine Hid.mk ?_
    go_wp2_with (refine st_stO (V := tdV 0 0) (g := g15) rfl rfl isTd (tdV_one 0 0) s15 rfl rfl ?_; intro z3 s15 ho3; refine Hid.out ?_)
    refine Hid.mk ?_
    have hbn := box_new (B := 0) (N := fun k => k < nz) sg (Nat.zero_le _) (by omega)
    have hb1 := (hbn.more (N' := fun k => k < nz ∨ k = g15) (fun k hk => hk.imp_right (fun e => by have := sg.lt; omega))).kept hB2
    have HB0 := Hid.mk (hb1.awayN (touch_only ho3) (fun k e => .inr e))
    have HS0z : Hid (Spares (fun k => k < nz) z z3) := Hid.mk (((spares_below hB1).trans (spares_below hB2)).trans (spares_only ho3 (by have := hB1.size; omega)))
    have H15 := Hid.mk (And.intro s15 (show nz ≤ g15 by have := hB1.size; omega))
    clear hbn hb1 sg hg hB1 hB2 ho3 s15 hg15
    go_wp2_with fail
    go_loopg [16, 17, 18] (ma + mb) (fun gm s16 s17 s18 zz => ∃ (i k n : Nat) (mv : Value) (b : Bx) (bg : Int) (cs : List Ch), Hid (gm + i + k = ma + mb) ∧ s16 = .int .i64 (i : Int) ∧ s17 = .int .i64 (k : Int) ∧ s18 = .int .i64 (n : Int) ∧ Hid (n = i + k ∧ i ≤ ma ∧ k ≤ mb) ∧ Hid (BoxAt zz 0 (fun k => k < nz ∨ k = g15) g mv b bg cs ∧ bg ≤ (n : Int)) ∧ Hid (TwoAt b (n : Int) (famOf 1 1 (pcs P 1 R 0)) (famOf 1 e2 (pcs Q 2 R' 0)) (xDn P R ma i) (xUp Q R' mb k)) ∧ Hid (SAt zz g15 55 2 (tdV (if i = ma then 1 else 0) (if k = mb then 1 else 0))) ∧ Hid (Spares (fun k => k < nz) z zz))
    case atStart =>
      have hm := HCP.out
      have hq := HCQ.out
      have e1 : xDn P R ma 0 = [] := by unfold xDn; rw [if_neg (by omega)]; rfl
      have e3 : xUp Q R' mb 0 = [] := by unfold xUp; rw [if_neg (by omega)]; rfl
      exact ⟨0, 0, 0, _, _, _, _, Hid.mk (by omega), rfl, rfl, rfl, Hid.mk ⟨rfl, Nat.zero_le _, Nat.zero_le _⟩, Hid.mk ⟨HB0.out, Int.le_refl _⟩, Hid.mk (by rw [e1, e3]; exact two_no _ _), Hid.mk (by rw [if_neg (by omega), if_neg (by omega)]; exact H15.out.1), HS0z⟩
    case round =>
      obtain ⟨i, k, n, mv, b, bg, cs, HI, rfl, rfl, rfl, HN, HBX, HTW, HTD, HSZ⟩ := hrel
      have hwz : nz ≤ wr.heap.size := by have := HSZ.out.size; omega
      have HWZ := Hid.mk hwz
      have hks : ∀ q, q < nz → wr.heap[q]? = z.heap[q]? := keep_spares HSZ.out (by rw [hnz]; exact Nat.le_refl _)
      have s3 := HS3.out.1.block (hks _ HGZ.out.1)
      have s4 := HS3.out.2.1.block (hks _ HGZ.out.2.1)
      have s5 := HS3.out.2.2.block (hks _ HGZ.out.2.2.1)
      have HKS := Hid.mk hks
      clear hks hwz
      go_upto_region 17 with fail
      refine wp_plain_steps (Below wr.heap.size wr) (fun v v' => Below v.heap.size v v') (fun j vv _ => vv = ([.int .i64 (i : Int), .slice (some pa) ma ca, .int .i64 (ma : Int), .bool (decide ((i : Int) < (ma : Int))), .bool (decide ((i : Int) < (ma : Int))), gv (!(decide ((i : Int) < (ma : Int)))) (.int .i64 (k : Int)), gv (!(decide ((i : Int) < (ma : Int)))) (.slice (some pb) mb cb), gv (!(decide ((i : Int) < (ma : Int)))) (.int .i64 (mb : Int)), gv (!(decide ((i : Int) < (ma : Int)))) (.bool (decide ((k : Int) < (mb : Int)))), .bool ((decide ((i : Int) < (ma : Int))) || (decide ((k : Int) < (mb : Int))))] : List Value).getD j undef)
          [106, 107, 108, 109, 110, 111, 112, 113, 114, 115]
          [(16, .int .i64 (i : Int)), (8, .slice (some pa) ma ca), (17, .int .i64 (k : Int)), (10, .slice (some pb) mb cb)] [] 0
          [[], [], [1], [0, 2], [3], [4], [4], [4, 6], [4, 5, 7], [4, 8]]
          (by kernel_rfl) ⟨rfl, rfl, rfl, rfl, trivial⟩ trivial (Below.refl _ _) (fun v v' h hb => h.trans (hb.mono h.size)) (fun _ _ _ _ h _ => h)
          ⟨
          (fun QQ aa ww hS fr kn => sg0 rfl (fun K hK => wp_value (exec_move rfl fr.1) (hK _ _ rfl (Below.refl _ _)))),
          (fun QQ aa ww hS fr kn => sg0 rfl (fun K hK => wp_value (exec_move rfl fr.2.1) (hK _ _ rfl (Below.refl _ _)))),
          (fun QQ aa ww hS fr kn => sg0 rfl (fun K hK => wp_value (exec_lenK rfl kn.1) (hK _ _ rfl (Below.refl _ _)))),
          (fun QQ aa ww hS fr kn => sg0 rfl (fun K hK => wp_value (cmp_lt (m := (i : Int)) (n := (ma : Int)) rfl kn.1 kn.2.1) (hK _ _ rfl (Below.refl _ _)))),
          (fun QQ aa ww hS fr kn => sg0 rfl (fun K hK => wp_value (exec_move rfl kn.1) (hK _ _ rfl (Below.refl _ _)))),
          (fun QQ aa ww hS fr kn => sgF rfl kn.1 (fun hng K hK => have hc := nt_t hng; wp_value (exec_move rfl fr.2.2.1) (hK _ _ (gv_t hc).symm (Below.refl _ _))) (fun h0 => (gv_f (nt_f h0)).symm)),
          (fun QQ aa ww hS fr kn => sgF rfl kn.1 (fun hng K hK => have hc := nt_t hng; wp_value (exec_move rfl fr.2.2.2.1) (hK _ _ (gv_t hc).symm (Below.refl _ _))) (fun h0 => (gv_f (nt_f h0)).symm)),
          (fun QQ aa ww hS fr kn => sgF rfl kn.1 (fun hng K hK => have hc := nt_t hng; wp_value (exec_lenK rfl (kn.2.1.trans (gv_t hc))) (hK _ _ (gv_t hc).symm (Below.refl _ _))) (fun h0 => (gv_f (nt_f h0)).symm)),
          (fun QQ aa ww hS fr kn => sgF rfl kn.1 (fun hng K hK => have hc := nt_t hng; wp_value (cmp_lt (m := (k : Int)) (n := (mb : Int)) rfl (kn.2.1.trans (gv_t hc)) (kn.2.2.1.trans (gv_t hc))) (hK _ _ (gv_t hc).symm (Below.refl _ _))) (fun h0 => (gv_f (nt_f h0)).symm)),
          (fun QQ aa ww hS fr kn => sg0 rfl (fun K hK => wp_value (exec_pickOr rfl kn.1 rfl (fun hx => kn.2.1.trans (gv_t (nt_t hx)))) (hK _ _ rfl (Below.refl _ _)))),
          trivial⟩ ?_
      intro vs za hBa kn
      have e115 : vs 115 = .bool ((decide ((i : Int) < (ma : Int))) || (decide ((k : Int) < (mb : Int)))) := kn 9 (by decide)
      clear kn
      simp only [putAll, Act.put, List.setIfInBounds_toArray, List.set_cons_zero, List.set_cons_succ, e115]
      clear e115
      have s3 := s3.kept hBa
      have s4 := s4.kept hBa
      have s5 := s5.kept hBa
      have HA := Hid.mk hBa
      clear hBa
      by_cases hend : i = ma ∧ k = mb
      · have hE : ((decide ((i : Int) < (ma : Int))) || (decide ((k : Int) < (mb : Int)))) = false := by rw [hend.1, hend.2]; simp
        rw [hE]
        have hb0 : b.hs = [] := by
          have h := HTW.out
          unfold xDn xUp at h
          rw [if_pos hend.1, if_pos hend.2] at h
          exact h.empty
        have HWA : Hid (∀ z', BoxAt z' 0 (fun k => k < nz ∨ k = g15) g mv b bg cs → Calls Try.prog 18 #[.pointer (some ⟨g, 0, none⟩)] z' fun e w' => e = .returned (.int .i64 0) ∧ Below z'.heap.size z' w') := Hid.mk (fun z' hz => by
          have h := Waiting_run hz
          rw [hb0] at h
          exact h)
        have HHE : Hid (∀ z', BoxAt z' 0 (fun k => k < nz ∨ k = g15) g mv b bg cs → Calls Try.prog 19 #[.pointer (some ⟨g, 0, none⟩)] z' fun e w' => e = .returned (.int .i64 0) ∧ Below z'.heap.size z' w') := Hid.mk (fun z' hz => by
          have h := Held_run hz
          rw [hb0] at h
          exact h)
        have s15 := HTD.out
        rw [if_pos hend.1, if_pos hend.2] at s15
        have s15 := s15.kept HA.out
        have c0 : za.cell? ⟨g15, 0, none⟩ = some (.int .i64 1) := s15.at 0 (by decide)
        have c1 : za.cell? ⟨g15, 1, none⟩ = some (.int .i64 1) := s15.at 1 (by decide)
        have HBZ := Hid.mk (HBX.out.1.kept HA.out)
        clear hb0 s15 hE
        go_wp2_with (first | (refine wl_value rfl (exec_ixTd0 rfl (by rfl)) ?_) | (refine wl_value rfl (exec_ixTd1 rfl (by rfl)) ?_) | (refine wl_value rfl (exec_ld rfl (by rfl) (ldP c0)) ?_) | (refine wl_value rfl (exec_ld rfl (by rfl) (ldP c1)) ?_) | (go_at_call 18; refine (HWA.out _ HBZ.out).mono ?_; rintro e zc ⟨rfl, hBc⟩; refine Hid.out ?_))
        refine Hid.mk ?_
        go_wp2_with (go_at_call 19; refine (HHE.out _ (HBZ.out.kept hBc)).mono ?_; rintro e zd ⟨rfl, hBd⟩; refine Hid.out ?_)
        refine Hid.mk ?_
        go_wp2_with fail
        have b1 := HBE.out
        have b2 := below_spares HSP.out (Nat.le_refl _)
        have b3 : Below z.heap.size z wr := by rw [hnz]; exact below_spares HSZ.out (by rw [hnz]; exact Nat.le_refl _)
        have b12 := b1.trans (b2.mono b1.size)
        have b13 := b12.trans (b3.mono b12.size)
        have b14 := b13.trans (HA.out.mono b13.size)
        have b15 := b14.trans (hBc.mono b14.size)
        go_ret
        exact ⟨rfl, b15.trans (hBd.mono b15.size)⟩
      have hE : ((decide ((i : Int) < (ma : Int))) || (decide ((k : Int) < (mb : Int)))) = true := by
        have := HN.out
        rw [Bool.or_eq_true, decide_eq_true_eq, decide_eq_true_eq]
        omega
      rw [hE]
      have HEND := Hid.mk hend
      clear hE hend
      obtain ⟨zf, hzf⟩ : ∃ zf, decide ((mb : Int) ≤ (k : Int)) = zf := ⟨_, rfl⟩
      have HZD := Hid.mk hzf
      have HZF : Hid (zf = false → k < mb) := Hid.mk (fun e => by rw [e] at hzf; have := of_decide_eq_false hzf; omega)
      clear hzf
      go_wp2_with (refine wl_value rfl (exec_lenK rfl rfl) ?_; refine Hid.out ?_)
      refine Hid.mk ?_
      go_wp2_with (refine wl_value rfl (exec_geW (m := (k : Int)) (n := (mb : Int)) (z := zf) rfl rfl rfl HZD.out) ?_; refine Hid.out ?_)
      refine Hid.mk ?_
      go_upto_region 20 with fail
      rename_i K1 HK1 K0 HK0
      have TAIL : ∀ (r106 r107 r108 r109 r110 r111 r112 r113 r114 r115 r116 r117 r118 r119 r120 r121 r122 r123 r124 r125 r126 r127 r128 r129 r130 r131 r132 r133 r134 r135 r136 r137 r138 r139 r140 r141 r142 r143 r144 r145 r146 r147 r148 r149 : Value) (zf : Bool) (zz : World), (zf = false → k < mb) → Hid (Below wr.heap.size wr zz) → K1 { tmps := #[.agg (SC 46 (pkV P v)), .agg (SC 46 (pkV Q u)), .agg (SC 5 (cutV14 C)), .pointer (some ⟨g3, 0, none⟩), .pointer (some ⟨g4, 0, none⟩), .pointer (some ⟨g5, 0, none⟩), u6, .bool true, .slice (some pa) ma ca, .int .i64 era, .slice (some pb) mb cb, .int .i64 erb, .pointer (some ⟨g12, 0, none⟩), .pointer (some ⟨g13, 0, none⟩), .pointer (some ⟨g, 0, none⟩), .pointer (some ⟨g15, 0, none⟩), .int .i64 (i : Int), .int .i64 (k : Int), .int .i64 (n : Int), .bool zf, u20, u21, u22, u23, t24, t25, t26, t27, t28, t29, t30, t31, t32, t33, t34, t35, t36, t37, t38, t39, t40, t41, t42, t43, t44, t45, t46, t47, t48, t49, t50, t51, t52, t53, t54, t55, t56, t57, t58, t59, t60, t61, t62, t63, t64, t65, t66, t67, t68, t69, t70, t71, t72, t73, t74, t75, t76, t77, t78, t79, t80, t81, t82, t83, t84, t85, t86, t87, t88, t89, t90, t91, t92, t93, t94, t95, t96, t97, t98, t99, t100, t101, .pointer (some ⟨g, 0, none⟩), .pointer (some ⟨g, 0, none⟩), .bool false, .agg (SC 2 (tdV 0 0)), r106, r107, r108, r109, r110, r111, r112, r113, r114, r115, r116, r117, r118, r119, r120, r121, r122, r123, r124, r125, r126, r127, r128, r129, r130, r131, r132, r133, r134, r135, r136, r137, r138, r139, r140, r141, r142, r143, r144, r145, r146, r147, r148, r149, u150, u151, u152, u153, u154, u155, u156, u157, u158, u159, u160, u161, u162, u163, u164, u165, u166, u167, u168, u169, u170, u171, u172, u173, u174, u175, u176, u177, u178, u179, u180, u181, u182, u183, u184, u185, u186, u187, u188, u189, u190, u191, u192, u193, u194, u195, u196, u197, u198, u199, u200, u201, u202, u203, u204, u205, u206, u207, u208, u209, u210, u211, undef, undef, undef, undef, undef, undef, undef, undef, undef, undef, undef, undef, undef, undef, undef, undef, undef, undef, undef, undef, undef], defers := [] } zz := by
        clear HZF HZD
        intro r106 r107 r108 r109 r110 r111 r112 r113 r114 r115 r116 r117 r118 r119 r120 r121 r122 r123 r124 r125 r126 r127 r128 r129 r130 r131 r132 r133 r134 r135 r136 r137 r138 r139 r140 r141 r142 r143 r144 r145 r146 r147 r148 r149 zf zz hzf HAZ
        have HZF := Hid.mk hzf
        clear hzf
        refine HK1 _ _ ?_
        dsimp only
        clear HK1 HK0 s3 s4 s5
        go_wp2_with (refine wl_alO rfl rfl zeroPk ?_; intro g20 z1 hg20 s20 hB20; refine Hid.out ?_)
        refine Hid.mk ?_
        have HG20 : Hid (nz ≤ g20 ∧ g15 < g20) := Hid.mk (by have := HWZ.out; have := HAZ.out.size; have := HTD.out.lt; omega)
        have s3 := ((HS3.out.1.block (HKS.out _ HGZ.out.1)).kept HAZ.out).kept hB20
        have s4 := ((HS3.out.2.1.block (HKS.out _ HGZ.out.2.1)).kept HAZ.out).kept hB20
        have q12 := ((HST.out.1.block (HKS.out _ HGZ.out.2.2.2.1)).kept HAZ.out).kept hB20
        have q13 := ((HST.out.2.block (HKS.out _ HGZ.out.2.2.2.2)).kept HAZ.out).kept hB20
        have s15 := (HTD.out.kept HAZ.out).kept hB20
        have hb1 := ((HBX.out.1.kept HAZ.out).more (N' := fun k => (k < nz ∨ k = g15) ∨ k = g20) (fun k hk => hk.imp_right (fun e => by omega))).kept hB20
        have H1 := Hid.mk (HAZ.out.trans (hB20.mono HAZ.out.size))
        go_upto_region 24 with fail
        refine wp_plain_steps (Below z1.heap.size z1) (fun v v' => Below v.heap.size v v') (fun j vv _ => vv = ([.bool zf, .bool zf, gv zf (.int .i64 (i : Int)), gv zf (.slice (some pa) ma ca), gv zf (.int .i64 (ma : Int)), gv zf (.bool (decide ((i : Int) < (ma : Int)))), .bool (zf && (decide ((i : Int) < (ma : Int))))] : List Value).getD j undef)
            [143, 144, 145, 146, 147, 148, 149]
            [(19, .bool zf), (16, .int .i64 (i : Int)), (8, .slice (some pa) ma ca)] [] 0
            [[], [0], [1], [1], [1, 3], [1, 2, 4], [1, 5]]
            (by kernel_rfl) ⟨rfl, rfl, rfl, trivial⟩ trivial (Below.refl _ _) (fun v v' h hb => h.trans (hb.mono h.size)) (fun _ _ _ _ h _ => h)
            ⟨
            (fun QQ aa ww hS fr kn => sg0 rfl (fun K hK => wp_value (exec_move rfl fr.1) (hK _ _ rfl (Below.refl _ _)))),
            (fun QQ aa ww hS fr kn => sg0 rfl (fun K hK => wp_value (exec_move rfl kn.1) (hK _ _ rfl (Below.refl _ _)))),
            (fun QQ aa ww hS fr kn => sgT rfl kn.1 (fun hc K hK => wp_value (exec_move rfl fr.2.1) (hK _ _ (gv_t hc).symm (Below.refl _ _))) (fun h0 => (gv_f h0).symm)),
            (fun QQ aa ww hS fr kn => sgT rfl kn.1 (fun hc K hK => wp_value (exec_move rfl fr.2.2.1) (hK _ _ (gv_t hc).symm (Below.refl _ _))) (fun h0 => (gv_f h0).symm)),
            (fun QQ aa ww hS fr kn => sgT rfl kn.1 (fun hc K hK => wp_value (exec_lenK rfl (kn.2.1.trans (gv_t hc))) (hK _ _ (gv_t hc).symm (Below.refl _ _))) (fun h0 => (gv_f h0).symm)),
            (fun QQ aa ww hS fr kn => sgT rfl kn.1 (fun hc K hK => wp_value (cmp_lt (m := (i : Int)) (n := (ma : Int)) rfl (kn.2.1.trans (gv_t hc)) (kn.2.2.1.trans (gv_t hc))) (hK _ _ (gv_t hc).symm (Below.refl _ _))) (fun h0 => (gv_f h0).symm)),
            (fun QQ aa ww hS fr kn => sg0 rfl (fun K hK => wp_value (exec_pickAnd rfl kn.1 (fun hx => kn.2.1.trans (gv_t hx)) rfl) (hK _ _ rfl (Below.refl _ _)))),
            trivial⟩ ?_
        intro vs z2 hB24 kn
        have e149 : vs 149 = .bool (zf && (decide ((i : Int) < (ma : Int)))) := kn 6 (by decide)
        clear kn
        simp only [putAll, Act.put, List.setIfInBounds_toArray, List.set_cons_zero, List.set_cons_succ, e149]
        clear e149
        have HTG := Hid.mk (And.intro (q12.kept hB24) (q13.kept hB24))
        have s20 := s20.kept hB24
        have s15 := s15.kept hB24
        have HB2 := Hid.mk (hb1.kept hB24)
        have H2 := Hid.mk (H1.out.trans (hB24.mono H1.out.size))
        have HNL : Hid (∀ q, (q < nz ∨ q = g15) ∨ q = g20 → q < z2.heap.size) := Hid.mk (fun q hq => by have := HWZ.out; have := H2.out.size; have := s20.lt; have := s15.lt; omega)
        have HGN : Hid (g15 ≠ g20 ∧ g3 ≠ g20 ∧ g4 ≠ g20) := Hid.mk (by have := HG20.out; have := HGZ.out; omega)
        clear q12 q13 hb1 hB20 hg20 H1 HAZ
        rcases Bool.eq_false_or_eq_true (zf && (decide ((i : Int) < (ma : Int)))) with hE | hE
        · rw [hE]
          have him : i < ma := by
            rw [Bool.and_eq_true, decide_eq_true_eq] at hE
            omega
          clear hE
          have HIM : Hid (i < ma) := Hid.mk him
          obtain ⟨i1, hi1⟩ : ∃ q, i + 1 = q := ⟨_, rfl⟩
          obtain ⟨n1, hn1⟩ : ∃ q, n + 1 = q := ⟨_, rfl⟩
          have HI1 := Hid.mk hi1
          have HN1 := Hid.mk hn1
          obtain ⟨zt, hzt⟩ : ∃ q, decide (i1 = ma) = q := ⟨_, rfl⟩
          have HZT := Hid.mk hzt
          obtain ⟨m1, hm1⟩ : ∃ q, ma - 1 = q := ⟨_, rfl⟩
          obtain ⟨kk, hkk⟩ : ∃ q, m1 - i = q := ⟨_, rfl⟩
          have HKK := Hid.mk (And.intro hm1 hkk)
          have hkm : kk < ma := by omega
          have hke : kk = ma - 1 - i := by omega
          clear hm1 hkk
          obtain ⟨y, hy⟩ : ∃ y, la[kk]? = some (pcs P 1 R kk, y) := by
            have h1 := congrArg (fun q => q[kk]?) HCP.out.2.2.2.2
            simp only [List.getElem?_map] at h1
            rw [List.getElem?_range (by omega)] at h1
            cases hq : la[kk]? with
            | none => rw [hq] at h1; cases h1
            | some q =>
              rw [hq] at h1
              obtain ⟨q1, q2⟩ := q
              injection h1 with h1
              have h1 : q1 = _ := h1
              exact ⟨q2, by rw [h1]⟩
          have hym := List.mem_of_getElem? hy
          have HYE : Hid (∀ zw : World, Below z2.heap.size z2 zw → ExAt zw y P.exts) := Hid.mk (fun zw hb => by
            have h1 := (HRP.out.exs _ hym)
            have h2 := (h1.away (w := z) (u := zw) (by have := HWZ.out; have := H2.out.size; have := hb.size; omega) (fun q hq => by
              have q1 := HWZ.out
              have q2 := H2.out.size
              rw [hb.block q (by omega), H2.out.block q (by omega)]
              exact HKS.out q (by omega))).1
            rwa [pcs_exts] at h2)
          have HYK : Hid (∀ q, exK y = some q → (q < nz ∨ q = g15) ∨ q = g20) := Hid.mk (fun q hq => .inl (.inl (by
            have := (HRP.out.exs _ hym).2.2 q hq
            omega)))
          have HROW : Hid (∀ zw : World, Below z2.heap.size z2 zw → PkRow zw w4.heap.size w4.heap.size (.slice (some pa) la.length ca) la) := Hid.mk (fun zw hb => HRP.out.keep (by have := HWZ.out; have := H2.out.size; have := hb.size; omega) (fun q hq => by
              have q1 := HWZ.out
              have q2 := H2.out.size
              rw [hb.block q (by omega), H2.out.block q (by omega)]
              exact HKS.out q (by omega)))
          have HYY := Hid.mk hy
          have HTWx : Hid (TwoAt b (n : Int) (famOf 1 1 (pcs P 1 R 0)) (famOf 1 e2 (pcs Q 2 R' 0)) ((dnL ma i).map (pcs P 1 R)) (xUp Q R' mb k)) := Hid.mk (by
            have h := HTW.out
            have e : (xDn P R ma i) = (dnL ma i).map (pcs P 1 R) := by unfold xDn; rw [if_neg (by omega)]
            rw [e] at h
            exact h)
          have HTK : Hid (∀ zw : World, Below z2.heap.size z2 zw → Calls Try.prog 17 #[.pointer (some ⟨g, 0, none⟩), .int .i64 (n : Int), .agg (SC 2 (tgV 1 1)), .agg (SC 46 (pkV (pcs P 1 R kk) y))] zw fun e w' => ∃ Q1 v1, e = .returned (.tuple #[.agg (SC 46 (pkV Q1 v1)), .bool zt]) ∧ (v1.oneCell' = true ∧ (zt = true → Q1 = P ∧ ExAt w' v1 P.exts ∧ ∀ k, exK v1 = some k → ¬ ((k < nz ∨ k = g15) ∨ k = g20))) ∧ ∃ mv' bg' cs' b', BoxAt w' 0 (fun k => (k < nz ∨ k = g15) ∨ k = g20) g mv' b' bg' cs' ∧ TwoAt b' (n : Int) (famOf 1 1 (pcs P 1 R 0)) (famOf 1 e2 (pcs Q 2 R' 0)) (if i1 = ma then [] else (dnL ma (i + 1)).map (pcs P 1 R)) (xUp Q R' mb k) ∧ bg' ≤ bg + 1 ∧ Spares (fun k => (k < nz ∨ k = g15) ∨ k = g20) z2 w') := Hid.mk (fun zw hb => by
            have h := stepN_run HCP.out.1 HCP.out.2.1 HCP.out.2.2.1 (now := (n : Int)) (k := kk) (v := y) (t0 := 1) (e0 := 1) HTWx.out HFN.out (Int.le_refl _) (by have := HN.out; have := HCP.out.2.2.1; have := HCQ.out.2.2.1; omega) (dnL_nodup (by omega)) (fun a ha => by obtain ⟨j, hj, e⟩ := dnL_mem ha; omega) (by omega) (fun ha => by obtain ⟨j, hj, e⟩ := dnL_mem ha; omega) (HB2.out.kept hb) (fun q hq => by have := HNL.out q hq; have := hb.size; omega) (HYE.out zw hb) HYK.out (by have := HBX.out.2; have := HN.out; have := HCP.out.2.2.1; have := HCQ.out.2.2.1; omega)
            have e1 : (dnL ma i).length + 1 = i1 := by rw [dnL_len ma i]; exact hi1
            rw [e1] at h
            have e3 : dnL ma i ++ [kk] = dnL ma (i + 1) := by rw [dnL_succ, hke]
            rw [e3] at h
            rw [hzt] at h
            refine h.mono ?_
            rintro e w' ⟨Q1, v1, mv', bg', cs', b', he, h1, h2, h3, h4, h5, h6⟩
            exact ⟨Q1, v1, he, ⟨h1, fun hz => h2 (by rw [← hzt] at hz; exact of_decide_eq_true hz)⟩, mv', bg', cs', b', h3, h4, h5, (spares_below hb).trans h6⟩)
          have HLL := Hid.mk HCP.out.2.2.2.1
          clear hi1 hn1 hzt hy hym HTWx him hkm hke
          have S20 := s20
          go_upto_region 25 with fail
          refine wp_region_cut 16 rfl (by kernel_rfl) (any_callD 11 15 (Below z2.heap.size z2) (fun w' => ∃ mv' bg' cs' b', BoxAt w' 0 (fun k => (k < nz ∨ k = g15) ∨ k = g20) g mv' b' bg' cs' ∧ TwoAt b' (n : Int) (famOf 1 1 (pcs P 1 R 0)) (famOf 1 e2 (pcs Q 2 R' 0)) (if i1 = ma then [] else (dnL ma (i + 1)).map (pcs P 1 R)) (xUp Q R' mb k) ∧ bg' ≤ bg + 1 ∧ Spares (fun k => (k < nz ∨ k = g15) ∨ k = g20) z2 w') (fun w' => ∃ Q1 v1, SAt w' g20 27 46 (pkV Q1 v1) ∧ (fun Q1 v1 w' => v1.oneCell' = true ∧ (zt = true → Q1 = P ∧ ExAt w' v1 P.exts ∧ ∀ k, exK v1 = some k → ¬ ((k < nz ∨ k = g15) ∨ k = g20))) Q1 v1 w' ∧ ∃ mv' bg' cs' b', BoxAt w' 0 (fun k => (k < nz ∨ k = g15) ∨ k = g20) g mv' b' bg' cs' ∧ TwoAt b' (n : Int) (famOf 1 1 (pcs P 1 R 0)) (famOf 1 e2 (pcs Q 2 R' 0)) (if i1 = ma then [] else (dnL ma (i + 1)).map (pcs P 1 R)) (xUp Q R' mb k) ∧ bg' ≤ bg + 1 ∧ Spares (fun k => k < nz ∨ k = g15) z2 w') (fun ix => ([.pointer (some ⟨g, 0, none⟩), .int .i64 (n : Int), .agg (SC 2 (tgV 1 1)), .slice (some pa) ma ca, .slice (some pa) ma ca, .int .i64 (ma : Int), .int .i64 (m1 : Int), .int .i64 (i : Int), .int .i64 (kk : Int), .pointer (some (pa.add (46 * kk))), .agg (SC 46 (pkV (pcs P 1 R kk) y))] : List Value).getD ix undef) (tkW 11 (zt) (fun Q1 v1 w' => v1.oneCell' = true ∧ (zt = true → Q1 = P ∧ ExAt w' v1 P.exts ∧ ∀ k, exK v1 = some k → ¬ ((k < nz ∨ k = g15) ∨ k = g20))))
              [(14, .pointer (some ⟨g, 0, none⟩)), (18, .int .i64 (n : Int)), (12, .pointer (some ⟨g12, 0, none⟩)), (8, .slice (some pa) ma ca), (16, .int .i64 (i : Int)), (20, .pointer (some ⟨g20, 0, none⟩))] [some 151, some 152, some 153, some 154, some 155, some 156, some 157, some 158, some 159, some 160, some 161, some 162, some 150, some 163, some 164, none] [[], [], [], [], [], [4], [5], [], [6, 7], [3, 8], [9], [0, 1, 2, 10], [11], [12], [12], [13]] _ (by kernel_rfl) (by kernel_rfl) (by decide) (by decide) rfl ⟨rfl, rfl, rfl, rfl, rfl, rfl, trivial⟩ (Below.refl _ z2).drew
              ⟨
              pre_val (fun a ww hS fr kn => exec_move rfl fr.1),
              pre_val (fun a ww hS fr kn => exec_move rfl fr.2.1),
              pre_val (fun a ww hS fr kn => look_st rfl isTg (HTG.out.1.kept hS) fr.2.2.1),
              pre_val (fun a ww hS fr kn => exec_move rfl fr.2.2.2.1),
              pre_val (fun a ww hS fr kn => exec_move rfl fr.2.2.2.1),
              pre_val (fun a ww hS fr kn => exec_lenK rfl kn.1),
              pre_val (fun a ww hS fr kn => exec_subW (i := ma) (m := 1) (q := m1) rfl kn.1 rfl (by have := HKK.out; have := HCP.out.2.1; omega) (by have := HKK.out; have := HCP.out.2; omega)),
              pre_val (fun a ww hS fr kn => exec_move rfl fr.2.2.2.2.1),
              pre_val (fun a ww hS fr kn => exec_subW (i := m1) (m := i) (q := kk) rfl kn.1 kn.2.1 (by have := HKK.out; have := HIM.out; omega) (by have := HKK.out; have := HIM.out; have := HCP.out.2; omega)),
              pre_val (fun a ww hS fr kn => exec_ixK (i := kk) rfl kn.1 kn.2.1 (by have := HKK.out; have := HIM.out; omega)),
              pre_val (fun a ww hS fr kn => exec_ld rfl kn.1 (row_pk (HROW.out ww hS) HYY.out)),
              trivial⟩
              (fun QQ a ww hS fr kn K hK => stepp en_Take rfl (args4 kn.1 kn.2.1 kn.2.2.1 kn.2.2.2.1) (R := fun val w' => tkW 11 (zt) (fun Q1 v1 w' => v1.oneCell' = true ∧ (zt = true → Q1 = P ∧ ExAt w' v1 P.exts ∧ ∀ k, exK v1 = some k → ¬ ((k < nz ∨ k = g15) ∨ k = g20))) 11 val w' ∧ (fun w' => ∃ mv' bg' cs' b', BoxAt w' 0 (fun k => (k < nz ∨ k = g15) ∨ k = g20) g mv' b' bg' cs' ∧ TwoAt b' (n : Int) (famOf 1 1 (pcs P 1 R 0)) (famOf 1 e2 (pcs Q 2 R' 0)) (if i1 = ma then [] else (dnL ma (i + 1)).map (pcs P 1 R)) (xUp Q R' mb k) ∧ bg' ≤ bg + 1 ∧ Spares (fun k => (k < nz ∨ k = g15) ∨ k = g20) z2 w') w') ((HTK.out ww hS).mono (fun e w' ⟨Q1, v1, he, hG1, hB1⟩ => ⟨_, he, tkW_call hG1, hB1⟩)) (fun v w' h => hK v w' h.1 h.2))
              ⟨post_mv rfl rfl (by decide), post_pk rfl rfl (by decide), post_ok rfl rfl (by decide), post_st rfl rfl (g := g20) (fun a fr => fr.2.2.2.2.2.1) (fun w' ⟨_, _, _, _, _, _, _, hs⟩ => ⟨_, S20.block (hs.block g20 S20.lt (fun hn => hn (.inr rfl)))⟩) (fun _ _ _ h => h.1) (fun Q1 v1 w1 w2 h ho => ⟨h.1, fun hz => ⟨(h.2 hz).1, (h.2 hz).2.1.blk (fun k hk => ho.block k (fun e => (h.2 hz).2.2 k hk (.inr e))), (h.2 hz).2.2⟩⟩) (fun w1 w2 Q1 v1 ⟨mv', bg', cs', b', h1, h2, h3, h4⟩ ho hs hG => ⟨Q1, v1, hs, hG, mv', bg', cs', b', h1.awayN (touch_only ho) (fun k e => .inr e), h2, h3, Spares.trans (N := fun k => k < nz ∨ k = g15) (h4.mono (fun k _ hn hk => hn (.inl hk))) (spares_only ho (by have := HG20.out; omega))⟩), trivial⟩
              (fun vs z3 hBp hv hp => ?_) (lt_all (by kernel_rfl)))
          have hq2 : vs 164 = _ := tkW_ok' (hp 14 (by decide) (by decide) rfl)
          clear hv hp
          show wpList Try.prog _ _ (_ :: []) _ _
          simp only [List.filterMap_cons, List.filterMap_nil, id, putAll, Act.put, List.setIfInBounds_toArray, List.set_cons_zero, List.set_cons_succ, hq2]
          clear hq2
          obtain ⟨Q1, v1, s20, hG1, mv3, bg3, cs3, b3, hb3, ht3, hg3b, hs3⟩ := hBp
          clear HTK HROW HYE HYK HYY HLL HNL HB2 HTG HKK
          have s15 := s15.block (hs3.block g15 s15.lt (fun hn => hn (.inr rfl)))
          have s3x := (s3.kept hB24).block (hs3.block g3 (by have := H2.out.size; have := HWZ.out; have := HGZ.out; omega) (fun hn => hn (.inl HGZ.out.1)))
          have s4x := (s4.kept hB24).block (hs3.block g4 (by have := H2.out.size; have := HWZ.out; have := HGZ.out; omega) (fun hn => hn (.inl HGZ.out.2.1)))
          have HB4 := Hid.mk hb3
          have HS4 : Hid (Spares (fun k => k < nz) z z3) := Hid.mk ((HSZ.out.trans (spares_below H2.out)).trans (show Spares (fun k => k < nz) z2 z3 from hs3.mono (fun k _ hn hk => hn (.inl hk))))
          have HEX4 : Hid (zt = true → Q1 = P ∧ ExAt z3 v1 P.exts ∧ ∀ z5, Only g15 z3 z5 → ExAt z5 v1 P.exts) := Hid.mk (fun hz => ⟨(hG1.2 hz).1, (hG1.2 hz).2.1, fun z5 h5 => (hG1.2 hz).2.1.blk (fun k hk => h5.block k (fun e => (hG1.2 hz).2.2 k hk (.inl (.inr e))))⟩)
          have HT3 := Hid.mk ht3
          have HG3 : Hid (bg3 ≤ (n1 : Int)) := Hid.mk (by have := HBX.out.2; have := HN1.out; omega)
          clear hb3 ht3 hg3b hs3 hG1 HBX HTW HTD H2 hB24 S20
          go_wp2_with (refine wl_value rfl (exec_addW (i := i) (m := 1) (q := i1) rfl rfl rfl HI1.out (by have := HIM.out; have := HI1.out; have := HCP.out.2.2.1; omega)) ?_; refine Hid.out ?_)
          refine Hid.mk ?_
          cases zt with
          | true =>
            have HZ1 := Hid.mk (of_decide_eq_true HZT.out)
            have c15 : z3.cell? ⟨g15, 0, none⟩ = some (.int .i64 0) := (s15.at 0 (by decide)).trans (by show some (Value.int .i64 _) = _; rw [if_neg (by have := HIM.out; omega)])
            go_wp2_with (refine wl_value rfl (exec_ixTd0 rfl rfl) ?_; refine Hid.out ?_)
            refine Hid.mk ?_
            go_wp2_with (refine wl_value rfl (exec_ld rfl rfl (ldP c15)) ?_; refine Hid.out ?_)
            refine Hid.mk ?_
            go_wp2_with (refine wl_value rfl (exec_addR (m := 0) (n := 1) (r := 1) rfl rfl rfl rfl (by decide) (by decide)) ?_; refine Hid.out ?_)
            refine Hid.mk ?_
            go_wp2_with (refine wl_value rfl (exec_ixTd0 rfl rfl) ?_; refine Hid.out ?_)
            refine Hid.mk ?_
            go_wp2_with (refine wl_stF (z := .int .i64 1) (V' := tdV 1 (if k = mb then 1 else 0)) rfl rfl rfl rfl (by decide) (stI 1) s15 (by intro j hj; match j, hj with | 0, _ => rfl | 1, _ => rfl) ?_; intro z5 s15 ho5; refine Hid.out ?_)
            refine Hid.mk ?_
            have t20 := s20.only ho5 HGN.out.1.symm
            have t3 := s3x.only ho5 (by have := H15.out.2; have := HGZ.out; omega)
            have t4 := s4x.only ho5 (by have := H15.out.2; have := HGZ.out; omega)
            have HB5 := Hid.mk (HB4.out.awayN (touch_only ho5) (fun k e => .inl (.inr e)))
            have HS5 := Hid.mk (HS4.out.trans (spares_only ho5 (by have := H15.out.2; omega)))
            obtain ⟨hqx, hqe⟩ : Q1 = P ∧ _ := by first | exact HEX4.out rfl | exact HEX4.out trivial | exact HEX4.out
            have hqy := hqx.symm
            subst hqy
            have HE5 : Hid (ExAt z5 v1 P.exts ∧ ExAt z5 v P.exts) := Hid.mk ⟨hqe.2 z5 ho5, (HXZ.out.1).blk (fun k hk => keep_spares HS5.out (by rw [hnz]; exact Nat.le_refl _) k (by rw [← hnz]; exact exK_lt HXZ.out.1 hk))⟩
            clear c15 hqe s20 s3x s4x ho5
            go_wp2_with (refine wl_value rfl (look_st rfl isPk t20 rfl) ?_; refine Hid.out ?_)
            refine Hid.mk ?_
            go_wp2_with (refine wl_value rfl (look_st rfl isPk t3 rfl) ?_; refine Hid.out ?_)
            refine Hid.mk ?_
            go_wp2_with (go_at_call 11; refine (rSame_run P P v1 v _ HE5.out.1 HE5.out.2 HPI.out.len HPI.out.len).mono ?_; rintro e z6 ⟨rfl, hB6⟩; refine Hid.out ?_)
            refine Hid.mk ?_
            rw [sam_self]
            have hlt : ¬ ((i1 : Int) < (ma : Int)) := by have := HZ1.out; omega
            go_wp2_with (first | (refine wl_value rfl (exec_lenK rfl (by rfl)) ?_) | (refine wl_value rfl (exec_ltF (m := (i1 : Int)) (n := (ma : Int)) rfl (by rfl) (by rfl) hlt) ?_) | (refine wl_value rfl (exec_addW (i := n) (m := 1) (q := n1) rfl (by rfl) (by rfl) HN1.out (by have := HN1.out; have := HN.out; have := HCP.out.2.2.1; have := HCQ.out.2.2.1; omega)) ?_; refine Hid.out ?_))
            refine Hid.mk ?_
            go_wp2_with fail
            go_roundg (ma + mb - n1)
            case rel => exact ⟨i1, k, n1, _, _, _, _, Hid.mk (by have := HN.out; have := HI1.out; have := HN1.out; have := HI.out; have := HIM.out; omega), rfl, rfl, rfl, Hid.mk (by have := HN.out; have := HI1.out; have := HN1.out; have := HIM.out; omega), Hid.mk ⟨(HB5.out.more (fun k hk => .inl (.inl hk))).kept hB6, HG3.out⟩, Hid.mk (by
                have h := HT3.out
                rw [if_pos HZ1.out] at h
                have e : xDn P R ma i1 = [] := by unfold xDn; rw [if_pos HZ1.out]
                rw [e]
                exact (h.mono (by have := HN1.out; omega))), Hid.mk (by rw [if_pos HZ1.out]; exact s15.kept hB6), Hid.mk (HS5.out.trans (spares_below hB6))⟩
            case measure => have := HI.out; have := HN.out; have := HN1.out; have := HIM.out; omega
          | false =>
            have HZ1 := Hid.mk (of_decide_eq_false HZT.out)
            go_wp2_with (refine wl_value rfl (exec_addW (i := n) (m := 1) (q := n1) rfl rfl rfl HN1.out (by have := HN1.out; have := HN.out; have := HCP.out.2.2.1; have := HCQ.out.2.2.1; omega)) ?_; refine Hid.out ?_)
            refine Hid.mk ?_
            go_wp2_with fail
            go_roundg (ma + mb - n1)
            case rel => exact ⟨i1, k, n1, _, _, _, _, Hid.mk (by have := HN.out; have := HI1.out; have := HN1.out; have := HI.out; have := HIM.out; omega), rfl, rfl, rfl, Hid.mk (by have := HN.out; have := HI1.out; have := HN1.out; have := HIM.out; omega), Hid.mk ⟨HB4.out.more (fun k hk => .inl (.inl hk)), HG3.out⟩, Hid.mk (by
                have h := HT3.out
                rw [if_neg HZ1.out] at h
                have e : xDn P R ma i1 = (dnL ma (i + 1)).map (pcs P 1 R) := by unfold xDn; rw [if_neg HZ1.out, HI1.out]
                rw [e]
                exact (h.mono (by have := HN1.out; omega))), Hid.mk (by
                have h := s15
                rw [if_neg (show ¬ i = ma by have := HIM.out; omega)] at h
                rw [if_neg HZ1.out]
                exact h), HS4⟩
            case measure => have := HI.out; have := HN.out; have := HN1.out; have := HIM.out; omega
        · rw [hE]
          have him : k < mb := by
            have := HN.out
            have hend := HEND.out
            cases zf with
            | false => exact HZF.out rfl
            | true =>
              simp at hE
              omega
          clear hE
          have HIM : Hid (k < mb) := Hid.mk him
          obtain ⟨k1, hi1⟩ : ∃ q, k + 1 = q := ⟨_, rfl⟩
          obtain ⟨n1, hn1⟩ : ∃ q, n + 1 = q := ⟨_, rfl⟩
          have HI1 := Hid.mk hi1
          have HN1 := Hid.mk hn1
          obtain ⟨zt, hzt⟩ : ∃ q, decide (k1 = mb) = q := ⟨_, rfl⟩
          have HZT := Hid.mk hzt

          obtain ⟨y, hy⟩ : ∃ y, lb[k]? = some (pcs Q 2 R' k, y) := by
            have h1 := congrArg (fun q => q[k]?) HCQ.out.2.2.2.2
            simp only [List.getElem?_map] at h1
            rw [List.getElem?_range (by omega)] at h1
            cases hq : lb[k]? with
            | none => rw [hq] at h1; cases h1
            | some q =>
              rw [hq] at h1
              obtain ⟨q1, q2⟩ := q
              injection h1 with h1
              have h1 : q1 = _ := h1
              exact ⟨q2, by rw [h1]⟩
          have hym := List.mem_of_getElem? hy
          have HYE : Hid (∀ zw : World, Below z2.heap.size z2 zw → ExAt zw y Q.exts) := Hid.mk (fun zw hb => by
            have h1 := (HRQ.out.exs _ hym)
            have h2 := (h1.away (w := z) (u := zw) (by have := HWZ.out; have := H2.out.size; have := hb.size; omega) (fun q hq => by
              have q1 := HWZ.out
              have q2 := H2.out.size
              rw [hb.block q (by omega), H2.out.block q (by omega)]
              exact HKS.out q (by omega))).1
            rwa [pcs_exts] at h2)
          have HYK : Hid (∀ q, exK y = some q → (q < nz ∨ q = g15) ∨ q = g20) := Hid.mk (fun q hq => .inl (.inl (by
            have := (HRQ.out.exs _ hym).2.2 q hq
            omega)))
          have HROW : Hid (∀ zw : World, Below z2.heap.size z2 zw → PkRow zw w5.heap.size w5.heap.size (.slice (some pb) lb.length cb) lb) := Hid.mk (fun zw hb => HRQ.out.keep (by have := HWZ.out; have := H2.out.size; have := hb.size; omega) (fun q hq => by
              have q1 := HWZ.out
              have q2 := H2.out.size
              rw [hb.block q (by omega), H2.out.block q (by omega)]
              exact HKS.out q (by omega)))
          have HYY := Hid.mk hy
          have HTWx : Hid (TwoAt b (n : Int) (famOf 1 e2 (pcs Q 2 R' 0)) (famOf 1 1 (pcs P 1 R 0)) ((List.range k).map (pcs Q 2 R')) (xDn P R ma i)) := Hid.mk (by
            have h := HTW.out.symm
            have e : (xUp Q R' mb k) = (List.range k).map (pcs Q 2 R') := by unfold xUp; rw [if_neg (by omega)]
            rw [e] at h
            exact h)
          have HTK : Hid (∀ zw : World, Below z2.heap.size z2 zw → Calls Try.prog 17 #[.pointer (some ⟨g, 0, none⟩), .int .i64 (n : Int), .agg (SC 2 (tgV 1 e2)), .agg (SC 46 (pkV (pcs Q 2 R' k) y))] zw fun e w' => ∃ Q1 v1, e = .returned (.tuple #[.agg (SC 46 (pkV Q1 v1)), .bool zt]) ∧ (v1.oneCell' = true ∧ (zt = true → Q1 = Q ∧ ExAt w' v1 Q.exts ∧ ∀ k, exK v1 = some k → ¬ ((k < nz ∨ k = g15) ∨ k = g20))) ∧ ∃ mv' bg' cs' b', BoxAt w' 0 (fun k => (k < nz ∨ k = g15) ∨ k = g20) g mv' b' bg' cs' ∧ TwoAt b' (n : Int) (famOf 1 e2 (pcs Q 2 R' 0)) (famOf 1 1 (pcs P 1 R 0)) (if k1 = mb then [] else (List.range (k + 1)).map (pcs Q 2 R')) (xDn P R ma i) ∧ bg' ≤ bg + 1 ∧ Spares (fun k => (k < nz ∨ k = g15) ∨ k = g20) z2 w') := Hid.mk (fun zw hb => by
            have h := stepN_run HCQ.out.1 HCQ.out.2.1 HCQ.out.2.2.1 (now := (n : Int)) (k := k) (v := y) (t0 := 1) (e0 := e2) HTWx.out HFN.out.symm (Int.le_refl _) (by have := HN.out; have := HCP.out.2.2.1; have := HCQ.out.2.2.1; omega) List.nodup_range (fun a ha => by have := List.mem_range.1 ha; omega) (by omega) (fun ha => by have := List.mem_range.1 ha; omega) (HB2.out.kept hb) (fun q hq => by have := HNL.out q hq; have := hb.size; omega) (HYE.out zw hb) HYK.out (by have := HBX.out.2; have := HN.out; have := HCP.out.2.2.1; have := HCQ.out.2.2.1; omega)
            have e1 : (List.range k).length + 1 = k1 := by rw [List.length_range (n := k)]; exact hi1
            rw [e1] at h
            have e3 : List.range k ++ [k] = List.range (k + 1) := List.range_succ.symm
            rw [e3] at h
            rw [hzt] at h
            refine h.mono ?_
            rintro e w' ⟨Q1, v1, mv', bg', cs', b', he, h1, h2, h3, h4, h5, h6⟩
            exact ⟨Q1, v1, he, ⟨h1, fun hz => h2 (by rw [← hzt] at hz; exact of_decide_eq_true hz)⟩, mv', bg', cs', b', h3, h4, h5, (spares_below hb).trans h6⟩)
          have HLL := Hid.mk HCQ.out.2.2.2.1
          clear hi1 hn1 hzt hy hym HTWx him
          have S20 := s20
          go_upto_region 32 with fail
          refine wp_region_cut 12 rfl (by kernel_rfl) (any_callD 7 11 (Below z2.heap.size z2) (fun w' => ∃ mv' bg' cs' b', BoxAt w' 0 (fun k => (k < nz ∨ k = g15) ∨ k = g20) g mv' b' bg' cs' ∧ TwoAt b' (n : Int) (famOf 1 e2 (pcs Q 2 R' 0)) (famOf 1 1 (pcs P 1 R 0)) (if k1 = mb then [] else (List.range (k + 1)).map (pcs Q 2 R')) (xDn P R ma i) ∧ bg' ≤ bg + 1 ∧ Spares (fun k => (k < nz ∨ k = g15) ∨ k = g20) z2 w') (fun w' => ∃ Q1 v1, SAt w' g20 27 46 (pkV Q1 v1) ∧ (fun Q1 v1 w' => v1.oneCell' = true ∧ (zt = true → Q1 = Q ∧ ExAt w' v1 Q.exts ∧ ∀ k, exK v1 = some k → ¬ ((k < nz ∨ k = g15) ∨ k = g20))) Q1 v1 w' ∧ ∃ mv' bg' cs' b', BoxAt w' 0 (fun k => (k < nz ∨ k = g15) ∨ k = g20) g mv' b' bg' cs' ∧ TwoAt b' (n : Int) (famOf 1 e2 (pcs Q 2 R' 0)) (famOf 1 1 (pcs P 1 R 0)) (if k1 = mb then [] else (List.range (k + 1)).map (pcs Q 2 R')) (xDn P R ma i) ∧ bg' ≤ bg + 1 ∧ Spares (fun k => k < nz ∨ k = g15) z2 w') (fun ix => ([.pointer (some ⟨g, 0, none⟩), .int .i64 (n : Int), .agg (SC 2 (tgV 1 e2)), .slice (some pb) mb cb, .int .i64 (k : Int), .pointer (some (pb.add (46 * k))), .agg (SC 46 (pkV (pcs Q 2 R' k) y))] : List Value).getD ix undef) (tkW 7 (zt) (fun Q1 v1 w' => v1.oneCell' = true ∧ (zt = true → Q1 = Q ∧ ExAt w' v1 Q.exts ∧ ∀ k, exK v1 = some k → ¬ ((k < nz ∨ k = g15) ∨ k = g20))))
              [(14, .pointer (some ⟨g, 0, none⟩)), (18, .int .i64 (n : Int)), (13, .pointer (some ⟨g13, 0, none⟩)), (10, .slice (some pb) mb cb), (17, .int .i64 (k : Int)), (20, .pointer (some ⟨g20, 0, none⟩))] [some 184, some 185, some 186, some 187, some 188, some 189, some 190, some 191, some 183, some 192, some 193, none] [[], [], [], [], [], [3, 4], [5], [0, 1, 2, 6], [7], [8], [8], [9]] _ (by kernel_rfl) (by kernel_rfl) (by decide) (by decide) rfl ⟨rfl, rfl, rfl, rfl, rfl, rfl, trivial⟩ (Below.refl _ z2).drew
              ⟨
              pre_val (fun a ww hS fr kn => exec_move rfl fr.1),
              pre_val (fun a ww hS fr kn => exec_move rfl fr.2.1),
              pre_val (fun a ww hS fr kn => look_st rfl isTg (HTG.out.2.kept hS) fr.2.2.1),
              pre_val (fun a ww hS fr kn => exec_move rfl fr.2.2.2.1),
              pre_val (fun a ww hS fr kn => exec_move rfl fr.2.2.2.2.1),
              pre_val (fun a ww hS fr kn => exec_ixK (i := k) rfl kn.1 kn.2.1 HIM.out),
              pre_val (fun a ww hS fr kn => exec_ld rfl kn.1 (row_pk (HROW.out ww hS) HYY.out)),
              trivial⟩
              (fun QQ a ww hS fr kn K hK => stepp en_Take rfl (args4 kn.1 kn.2.1 kn.2.2.1 kn.2.2.2.1) (R := fun val w' => tkW 7 (zt) (fun Q1 v1 w' => v1.oneCell' = true ∧ (zt = true → Q1 = Q ∧ ExAt w' v1 Q.exts ∧ ∀ k, exK v1 = some k → ¬ ((k < nz ∨ k = g15) ∨ k = g20))) 7 val w' ∧ (fun w' => ∃ mv' bg' cs' b', BoxAt w' 0 (fun k => (k < nz ∨ k = g15) ∨ k = g20) g mv' b' bg' cs' ∧ TwoAt b' (n : Int) (famOf 1 e2 (pcs Q 2 R' 0)) (famOf 1 1 (pcs P 1 R 0)) (if k1 = mb then [] else (List.range (k + 1)).map (pcs Q 2 R')) (xDn P R ma i) ∧ bg' ≤ bg + 1 ∧ Spares (fun k => (k < nz ∨ k = g15) ∨ k = g20) z2 w') w') ((HTK.out ww hS).mono (fun e w' ⟨Q1, v1, he, hG1, hB1⟩ => ⟨_, he, tkW_call hG1, hB1⟩)) (fun v w' h => hK v w' h.1 h.2))
              ⟨post_mv rfl rfl (by decide), post_pk rfl rfl (by decide), post_ok rfl rfl (by decide), post_st rfl rfl (g := g20) (fun a fr => fr.2.2.2.2.2.1) (fun w' ⟨_, _, _, _, _, _, _, hs⟩ => ⟨_, S20.block (hs.block g20 S20.lt (fun hn => hn (.inr rfl)))⟩) (fun _ _ _ h => h.1) (fun Q1 v1 w1 w2 h ho => ⟨h.1, fun hz => ⟨(h.2 hz).1, (h.2 hz).2.1.blk (fun k hk => ho.block k (fun e => (h.2 hz).2.2 k hk (.inr e))), (h.2 hz).2.2⟩⟩) (fun w1 w2 Q1 v1 ⟨mv', bg', cs', b', h1, h2, h3, h4⟩ ho hs hG => ⟨Q1, v1, hs, hG, mv', bg', cs', b', h1.awayN (touch_only ho) (fun k e => .inr e), h2, h3, Spares.trans (N := fun k => k < nz ∨ k = g15) (h4.mono (fun k _ hn hk => hn (.inl hk))) (spares_only ho (by have := HG20.out; omega))⟩), trivial⟩
              (fun vs z3 hBp hv hp => ?_) (lt_all (by kernel_rfl)))
          have hq2 : vs 193 = _ := tkW_ok' (hp 10 (by decide) (by decide) rfl)
          clear hv hp
          show wpList Try.prog _ _ (_ :: []) _ _
          simp only [List.filterMap_cons, List.filterMap_nil, id, putAll, Act.put, List.setIfInBounds_toArray, List.set_cons_zero, List.set_cons_succ, hq2]
          clear hq2
          obtain ⟨Q1, v1, s20, hG1, mv3, bg3, cs3, b3, hb3, ht3, hg3b, hs3⟩ := hBp
          clear HTK HROW HYE HYK HYY HLL HNL HB2 HTG
          have s15 := s15.block (hs3.block g15 s15.lt (fun hn => hn (.inr rfl)))
          have s3x := (s3.kept hB24).block (hs3.block g3 (by have := H2.out.size; have := HWZ.out; have := HGZ.out; omega) (fun hn => hn (.inl HGZ.out.1)))
          have s4x := (s4.kept hB24).block (hs3.block g4 (by have := H2.out.size; have := HWZ.out; have := HGZ.out; omega) (fun hn => hn (.inl HGZ.out.2.1)))
          have HB4 := Hid.mk hb3
          have HS4 : Hid (Spares (fun k => k < nz) z z3) := Hid.mk ((HSZ.out.trans (spares_below H2.out)).trans (show Spares (fun k => k < nz) z2 z3 from hs3.mono (fun k _ hn hk => hn (.inl hk))))
          have HEX4 : Hid (zt = true → Q1 = Q ∧ ExAt z3 v1 Q.exts ∧ ∀ z5, Only g15 z3 z5 → ExAt z5 v1 Q.exts) := Hid.mk (fun hz => ⟨(hG1.2 hz).1, (hG1.2 hz).2.1, fun z5 h5 => (hG1.2 hz).2.1.blk (fun k hk => h5.block k (fun e => (hG1.2 hz).2.2 k hk (.inl (.inr e))))⟩)
          have HT3 := Hid.mk ht3
          have HG3 : Hid (bg3 ≤ (n1 : Int)) := Hid.mk (by have := HBX.out.2; have := HN1.out; omega)
          clear hb3 ht3 hg3b hs3 hG1 HBX HTW HTD H2 hB24 S20
          go_wp2_with (refine wl_value rfl (exec_addW (i := k) (m := 1) (q := k1) rfl rfl rfl HI1.out (by have := HIM.out; have := HI1.out; have := HCQ.out.2.2.1; omega)) ?_; refine Hid.out ?_)
          refine Hid.mk ?_
          cases zt with
          | true =>
            have HZ1 := Hid.mk (of_decide_eq_true HZT.out)
            have c15 : z3.cell? ⟨g15, 1, none⟩ = some (.int .i64 0) := (s15.at 1 (by decide)).trans (by show some (Value.int .i64 _) = _; rw [if_neg (by have := HIM.out; omega)])
            go_wp2_with (refine wl_value rfl (exec_ixTd1 rfl rfl) ?_; refine Hid.out ?_)
            refine Hid.mk ?_
            go_wp2_with (refine wl_value rfl (exec_ld rfl rfl (ldP c15)) ?_; refine Hid.out ?_)
            refine Hid.mk ?_
            go_wp2_with (refine wl_value rfl (exec_addR (m := 0) (n := 1) (r := 1) rfl rfl rfl rfl (by decide) (by decide)) ?_; refine Hid.out ?_)
            refine Hid.mk ?_
            go_wp2_with (refine wl_value rfl (exec_ixTd1 rfl rfl) ?_; refine Hid.out ?_)
            refine Hid.mk ?_
            go_wp2_with (refine wl_stF (z := .int .i64 1) (V' := tdV (if i = ma then 1 else 0) 1) rfl rfl rfl rfl (by decide) (stI 1) s15 (by intro j hj; match j, hj with | 0, _ => rfl | 1, _ => rfl) ?_; intro z5 s15 ho5; refine Hid.out ?_)
            refine Hid.mk ?_
            have t20 := s20.only ho5 HGN.out.1.symm
            have t3 := s3x.only ho5 (by have := H15.out.2; have := HGZ.out; omega)
            have t4 := s4x.only ho5 (by have := H15.out.2; have := HGZ.out; omega)
            have HB5 := Hid.mk (HB4.out.awayN (touch_only ho5) (fun k e => .inl (.inr e)))
            have HS5 := Hid.mk (HS4.out.trans (spares_only ho5 (by have := H15.out.2; omega)))
            obtain ⟨hqx, hqe⟩ : Q1 = Q ∧ _ := by first | exact HEX4.out rfl | exact HEX4.out trivial | exact HEX4.out
            have hqy := hqx.symm
            subst hqy
            have HE5 : Hid (ExAt z5 v1 Q.exts ∧ ExAt z5 u Q.exts) := Hid.mk ⟨hqe.2 z5 ho5, (HXZ.out.2).blk (fun k hk => keep_spares HS5.out (by rw [hnz]; exact Nat.le_refl _) k (by rw [← hnz]; exact exK_lt HXZ.out.2 hk))⟩
            clear c15 hqe s20 s3x s4x ho5
            go_wp2_with (refine wl_value rfl (look_st rfl isPk t20 rfl) ?_; refine Hid.out ?_)
            refine Hid.mk ?_
            go_wp2_with (refine wl_value rfl (look_st rfl isPk t4 rfl) ?_; refine Hid.out ?_)
            refine Hid.mk ?_
            go_wp2_with (go_at_call 11; refine (rSame_run Q Q v1 u _ HE5.out.1 HE5.out.2 HQI.out.len HQI.out.len).mono ?_; rintro e z6 ⟨rfl, hB6⟩; refine Hid.out ?_)
            refine Hid.mk ?_
            rw [sam_self]
            have hlt : ¬ ((k1 : Int) < (mb : Int)) := by have := HZ1.out; omega
            go_wp2_with (first | (refine wl_value rfl (exec_lenK rfl (by rfl)) ?_) | (refine wl_value rfl (exec_ltF (m := (k1 : Int)) (n := (mb : Int)) rfl (by rfl) (by rfl) hlt) ?_) | (refine wl_value rfl (exec_addW (i := n) (m := 1) (q := n1) rfl (by rfl) (by rfl) HN1.out (by have := HN1.out; have := HN.out; have := HCP.out.2.2.1; have := HCQ.out.2.2.1; omega)) ?_; refine Hid.out ?_))
            refine Hid.mk ?_
            go_wp2_with fail
            go_roundg (ma + mb - n1)
            case rel => exact ⟨i, k1, n1, _, _, _, _, Hid.mk (by have := HN.out; have := HI1.out; have := HN1.out; have := HI.out; have := HIM.out; omega), rfl, rfl, rfl, Hid.mk (by have := HN.out; have := HI1.out; have := HN1.out; have := HIM.out; omega), Hid.mk ⟨(HB5.out.more (fun k hk => .inl (.inl hk))).kept hB6, HG3.out⟩, Hid.mk (by
                have h := HT3.out
                rw [if_pos HZ1.out] at h
                have e : xUp Q R' mb k1 = [] := by unfold xUp; rw [if_pos HZ1.out]
                rw [e]
                exact (h.mono (by have := HN1.out; omega)).symm), Hid.mk (by rw [if_pos HZ1.out]; exact s15.kept hB6), Hid.mk (HS5.out.trans (spares_below hB6))⟩
            case measure => have := HI.out; have := HN.out; have := HN1.out; have := HIM.out; omega
          | false =>
            have HZ1 := Hid.mk (of_decide_eq_false HZT.out)
            go_wp2_with (refine wl_value rfl (exec_addW (i := n) (m := 1) (q := n1) rfl rfl rfl HN1.out (by have := HN1.out; have := HN.out; have := HCP.out.2.2.1; have := HCQ.out.2.2.1; omega)) ?_; refine Hid.out ?_)
            refine Hid.mk ?_
            go_wp2_with fail
            go_roundg (ma + mb - n1)
            case rel => exact ⟨i, k1, n1, _, _, _, _, Hid.mk (by have := HN.out; have := HI1.out; have := HN1.out; have := HI.out; have := HIM.out; omega), rfl, rfl, rfl, Hid.mk (by have := HN.out; have := HI1.out; have := HN1.out; have := HIM.out; omega), Hid.mk ⟨HB4.out.more (fun k hk => .inl (.inl hk)), HG3.out⟩, Hid.mk (by
                have h := HT3.out
                rw [if_neg HZ1.out] at h
                have e : xUp Q R' mb k1 = (List.range (k + 1)).map (pcs Q 2 R') := by unfold xUp; rw [if_neg HZ1.out, HI1.out]
                rw [e]
                exact (h.mono (by have := HN1.out; omega)).symm), Hid.mk (by
                have h := s15
                rw [if_neg (show ¬ k = mb by have := HIM.out; omega)] at h
                rw [if_neg HZ1.out]
                exact h), HS4⟩
            case measure => have := HI.out; have := HN.out; have := HN1.out; have := HIM.out; omega
      clear HK1
      refine wp_plain_steps (Below za.heap.size za) (fun v v' => Below v.heap.size v v') (fun j vv _ => vv = ([.int .i64 (i : Int), .slice (some pa) ma ca, .int .i64 (ma : Int), .bool (decide ((i : Int) < (ma : Int))), .bool (decide ((i : Int) < (ma : Int))), gv (decide ((i : Int) < (ma : Int))) (.int .i64 (n : Int)), gv (decide ((i : Int) < (ma : Int))) (.pointer (some ⟨g5, 2, none⟩)), gv (decide ((i : Int) < (ma : Int))) (.slice oa C.on oc), gv (decide ((i : Int) < (ma : Int))) (.int .i64 (C.on : Int)), gv (decide ((i : Int) < (ma : Int))) (.bool (decide ((n : Int) < (C.on : Int)))), .bool ((decide ((i : Int) < (ma : Int))) && (decide ((n : Int) < (C.on : Int))))] : List Value).getD j undef)
          [122, 123, 124, 125, 126, 127, 128, 129, 130, 131, 132]
          [(16, .int .i64 (i : Int)), (8, .slice (some pa) ma ca), (18, .int .i64 (n : Int)), (5, .pointer (some ⟨g5, 0, none⟩))] [] 0
          [[], [], [1], [0, 2], [3], [4], [4], [4, 6], [4, 7], [4, 5, 8], [4, 9]]
          (by kernel_rfl) ⟨rfl, rfl, rfl, rfl, trivial⟩ trivial (Below.refl _ _) (fun v v' h hb => h.trans (hb.mono h.size)) (fun _ _ _ _ h _ => h)
          ⟨
          (fun QQ aa ww hS fr kn => sg0 rfl (fun K hK => wp_value (exec_move rfl fr.1) (hK _ _ rfl (Below.refl _ _)))),
          (fun QQ aa ww hS fr kn => sg0 rfl (fun K hK => wp_value (exec_move rfl fr.2.1) (hK _ _ rfl (Below.refl _ _)))),
          (fun QQ aa ww hS fr kn => sg0 rfl (fun K hK => wp_value (exec_lenK rfl kn.1) (hK _ _ rfl (Below.refl _ _)))),
          (fun QQ aa ww hS fr kn => sg0 rfl (fun K hK => wp_value (cmp_lt (m := (i : Int)) (n := (ma : Int)) rfl kn.1 kn.2.1) (hK _ _ rfl (Below.refl _ _)))),
          (fun QQ aa ww hS fr kn => sg0 rfl (fun K hK => wp_value (exec_move rfl kn.1) (hK _ _ rfl (Below.refl _ _)))),
          (fun QQ aa ww hS fr kn => sgT rfl kn.1 (fun hc K hK => wp_value (exec_move rfl fr.2.2.1) (hK _ _ (gv_t hc).symm (Below.refl _ _))) (fun h0 => (gv_f h0).symm)),
          (fun QQ aa ww hS fr kn => sgT rfl kn.1 (fun hc K hK => wp_value (exec_fcut 2 (by decide) rfl fr.2.2.2.1) (hK _ _ (gv_t hc).symm (Below.refl _ _))) (fun h0 => (gv_f h0).symm)),
          (fun QQ aa ww hS fr kn => sgT rfl kn.1 (fun hc K hK => wp_value (exec_ld rfl (kn.2.1.trans (gv_t hc)) (ldNs (((cut_ov (SAt.kept s5 hS))).trans (congrArg some HOV.out)))) (hK _ _ (gv_t hc).symm (Below.refl _ _))) (fun h0 => (gv_f h0).symm)),
          (fun QQ aa ww hS fr kn => sgT rfl kn.1 (fun hc K hK => wp_value (exec_lenN rfl (kn.2.1.trans (gv_t hc))) (hK _ _ (gv_t hc).symm (Below.refl _ _))) (fun h0 => (gv_f h0).symm)),
          (fun QQ aa ww hS fr kn => sgT rfl kn.1 (fun hc K hK => wp_value (cmp_lt (m := (n : Int)) (n := (C.on : Int)) rfl (kn.2.1.trans (gv_t hc)) (kn.2.2.1.trans (gv_t hc))) (hK _ _ (gv_t hc).symm (Below.refl _ _))) (fun h0 => (gv_f h0).symm)),
          (fun QQ aa ww hS fr kn => sg0 rfl (fun K hK => wp_value (exec_pickAnd rfl kn.1 (fun hx => kn.2.1.trans (gv_t hx)) rfl) (hK _ _ rfl (Below.refl _ _)))),
          trivial⟩ ?_
      intro vs zb hBb kn
      have e132 : vs 132 = .bool ((decide ((i : Int) < (ma : Int))) && (decide ((n : Int) < (C.on : Int)))) := kn 10 (by decide)
      clear kn
      simp only [putAll, Act.put, List.setIfInBounds_toArray, List.set_cons_zero, List.set_cons_succ, e132]
      clear e132
      have s5' := s5.kept hBb
      have hBab := HA.out.trans (hBb.mono HA.out.size)
      rcases Bool.eq_false_or_eq_true ((decide ((i : Int) < (ma : Int))) && (decide ((n : Int) < (C.on : Int)))) with hE | hE
      · rw [hE]
        simp only [Bool.and_eq_true, decide_eq_true_eq] at hE
        obtain ⟨op, hop, _, _⟩ := HOC.out n (by omega)
        subst hop
        have HNO : Hid (n < C.on ∧ ∀ z1, Below zb.heap.size zb z1 → z1.cell? (op.add n) = some (.int .i64 (C.ord n))) := Hid.mk ⟨by omega, fun z1 h1 => by
          obtain ⟨p', e', hc', hl'⟩ := HOC.out n (by omega)
          injection e' with e'
          subst e'
          refine (cell_blk ?_).trans hc'
          rw [add_blk]
          have q0 := HBE.out.size
          have q1 := HZ6.out
          have q2 := HWZ.out
          have q3 := hBab.size
          rw [h1.block _ (by omega), hBab.block _ (by omega), HKS.out _ (by omega), keep_spares HSP.out (Nat.le_refl _) _ (by omega), HBE.out.block _ (by omega)]⟩
        have s5 := s5'
        go_upto_region 21 with fail
        refine wp_plain_steps (Below zb.heap.size zb) (fun v v' => Below v.heap.size v v') (fun j vv _ => vv = ([.bool zf, .bool zf, gv (!zf) (.pointer (some ⟨g5, 2, none⟩)), gv (!zf) (.slice (some op) C.on oc), gv (!zf) (.int .i64 (n : Int)), gv (!zf) (.pointer (some (op.add n))), gv (!zf) (.int .i64 (C.ord n)), gv (!zf) (.int .i64 ((C.ord n).tmod 2)), gv (!zf) (.bool (decide (((C.ord n).tmod 2) = 0))), .bool (zf || (decide (((C.ord n).tmod 2) = 0))), .bool (zf || (decide (((C.ord n).tmod 2) = 0)))] : List Value).getD j undef)
            [133, 134, 135, 136, 137, 138, 139, 140, 141, 142, 19]
            [(18, .int .i64 (n : Int)), (5, .pointer (some ⟨g5, 0, none⟩))] [(19, .bool zf)] 10
            [[], [0], [1], [1, 2], [1], [1, 3, 4], [1, 5], [1, 6], [1, 7], [1, 8], [9]]
            (by kernel_rfl) ⟨rfl, rfl, trivial⟩ ⟨rfl, trivial⟩ (Below.refl _ _) (fun v v' h hb => h.trans (hb.mono h.size)) (fun _ _ _ _ h _ => h)
            ⟨
            (fun QQ aa ww hS fr kn => sg0 rfl (fun K hK => wp_value (exec_move rfl fr.2.2.1) (hK _ _ rfl (Below.refl _ _)))),
            (fun QQ aa ww hS fr kn => sg0 rfl (fun K hK => wp_value (exec_move rfl kn.1) (hK _ _ rfl (Below.refl _ _)))),
            (fun QQ aa ww hS fr kn => sgF rfl kn.1 (fun hng K hK => have hc := nt_t hng; wp_value (exec_fcut 2 (by decide) rfl fr.2.1) (hK _ _ (gv_t hc).symm (Below.refl _ _))) (fun h0 => (gv_f (nt_f h0)).symm)),
            (fun QQ aa ww hS fr kn => sgF rfl kn.1 (fun hng K hK => have hc := nt_t hng; wp_value (exec_ld rfl (kn.2.1.trans (gv_t hc)) (ldNs (((cut_ov (SAt.kept s5 hS))).trans (congrArg some HOV.out)))) (hK _ _ (gv_t hc).symm (Below.refl _ _))) (fun h0 => (gv_f (nt_f h0)).symm)),
            (fun QQ aa ww hS fr kn => sgF rfl kn.1 (fun hng K hK => have hc := nt_t hng; wp_value (exec_move rfl fr.1) (hK _ _ (gv_t hc).symm (Below.refl _ _))) (fun h0 => (gv_f (nt_f h0)).symm)),
            (fun QQ aa ww hS fr kn => sgF rfl kn.1 (fun hng K hK => have hc := nt_t hng; wp_value (exec_ixN (p := op) (i := n) rfl (kn.2.1.trans (gv_t hc)) (kn.2.2.1.trans (gv_t hc)) HNO.out.1) (hK _ _ (gv_t hc).symm (Below.refl _ _))) (fun h0 => (gv_f (nt_f h0)).symm)),
            (fun QQ aa ww hS fr kn => sgF rfl kn.1 (fun hng K hK => have hc := nt_t hng; wp_value (exec_ld rfl (kn.2.1.trans (gv_t hc)) (ldP (HNO.out.2 _ hS))) (hK _ _ (gv_t hc).symm (Below.refl _ _))) (fun h0 => (gv_f (nt_f h0)).symm)),
            (fun QQ aa ww hS fr kn => sgF rfl kn.1 (fun hng K hK => have hc := nt_t hng; wp_value (exec_remI (m := C.ord n) (n := 2) rfl (kn.2.1.trans (gv_t hc)) rfl (by decide)) (hK _ _ (gv_t hc).symm (Below.refl _ _))) (fun h0 => (gv_f (nt_f h0)).symm)),
            (fun QQ aa ww hS fr kn => sgF rfl kn.1 (fun hng K hK => have hc := nt_t hng; wp_value (cmp_eq (m := ((C.ord n).tmod 2)) (n := 0) rfl (kn.2.1.trans (gv_t hc)) rfl) (hK _ _ (gv_t hc).symm (Below.refl _ _))) (fun h0 => (gv_f (nt_f h0)).symm)),
            (fun QQ aa ww hS fr kn => sg0 rfl (fun K hK => wp_value (exec_pickOr rfl kn.1 rfl (fun hx => kn.2.1.trans (gv_t (nt_t hx)))) (hK _ _ rfl (Below.refl _ _)))),
            (fun QQ aa ww hS fr kn => sg0 rfl (fun K hK => wp_value (exec_assign rfl kn.1) (hK _ _ rfl (Below.refl _ _)))),
            trivial⟩ ?_
        intro vs zc hBc kn
        have e19 : vs 19 = .bool (zf || (decide (((C.ord n).tmod 2) = 0))) := kn 10 (by decide)
        clear kn
        simp only [putAll, Act.put, List.setIfInBounds_toArray, List.set_cons_zero, List.set_cons_succ, e19]
        clear e19
        go_wp2_with fail
        exact TAIL _ _ _ _ _ _ _ _ _ _ _ _ _ _ _ _ _ _ _ _ _ _ _ _ _ _ _ _ _ _ _ _ _ _ _ _ _ _ _ _ _ _ _ _ _ zc (fun e => HZF.out (by
          simp only [Bool.or_eq_false_iff] at e
          exact e.1)) (Hid.mk (hBab.trans (hBc.mono hBab.size)))
      · rw [hE]
        go_wp2_with fail
        exact TAIL _ _ _ _ _ _ _ _ _ _ _ _ _ _ _ _ _ _ _ _ _ _ _ _ _ _ _ _ _ _ _ _ _ _ _ _ _ _ _ _ _ _ _ _ _ zb HZF.out (Hid.mk hBab)
  refine wp_plain_steps (Below w11.heap.size w11) (fun v v' => Below v.heap.size v v') (fun j vv _ => vv = ([.pointer (some ⟨g5, 4, none⟩), .bool C.other, .bool C.other, gv (!C.other) (.pointer (some ⟨g3, 0, none⟩)), gv (!C.other) (.pointer (some ⟨g3, 0, none⟩)), gv (!C.other) (.bool P.sv), gv (!C.other) (.bool (!P.sv)), gv (!C.other) (.bool (!P.sv)), gv ((!C.other) && (!P.sv)) (.pointer (some ⟨g3, 37, none⟩)), gv ((!C.other) && (!P.sv)) (.int .i64 P.id), gv ((!C.other) && (!P.sv)) (.pointer (some ⟨g4, 37, none⟩)), gv ((!C.other) && (!P.sv)) (.int .i64 Q.id), gv ((!C.other) && (!P.sv)) (.bool (decide (P.id = Q.id))), gv (!C.other) (.bool ((!P.sv) && (decide (P.id = Q.id)))), .bool (C.other || ((!P.sv) && (decide (P.id = Q.id))))] : List Value).getD j undef)
      [86, 87, 88, 89, 90, 91, 92, 93, 94, 95, 96, 97, 98, 99, 100]
      [(5, .pointer (some ⟨g5, 0, none⟩)), (3, .pointer (some ⟨g3, 0, none⟩)), (4, .pointer (some ⟨g4, 0, none⟩))] [] 0
      [[], [0], [1], [2], [2, 3], [2, 4], [2, 5], [2, 6], [7], [7, 8], [7], [7, 10], [7, 9, 11], [2, 7, 12], [2, 13]]
      (by kernel_rfl) ⟨rfl, rfl, rfl, trivial⟩ trivial (Below.refl _ _) (fun v v' h hb => h.trans (hb.mono h.size)) (fun _ _ _ _ h _ => h)
      ⟨
      (fun QQ aa ww hS fr kn => sg0 rfl (fun K hK => wp_value (exec_fcut 4 (by decide) rfl fr.1) (hK _ _ rfl (Below.refl _ _)))),
      (fun QQ aa ww hS fr kn => sg0 rfl (fun K hK => wp_value (exec_ld rfl kn.1 (ldPb (cut_other (SAt.kept s5 hS)))) (hK _ _ rfl (Below.refl _ _)))),
      (fun QQ aa ww hS fr kn => sg0 rfl (fun K hK => wp_value (exec_move rfl kn.1) (hK _ _ rfl (Below.refl _ _)))),
      (fun QQ aa ww hS fr kn => sgF rfl kn.1 (fun hng K hK => have hc := nt_t hng; wp_value (exec_fpk 0 (by decide) rfl fr.2.1) (hK _ _ (gv_t hc).symm (Below.refl _ _))) (fun h0 => (gv_f (nt_f h0)).symm)),
      (fun QQ aa ww hS fr kn => sgF rfl kn.1 (fun hng K hK => have hc := nt_t hng; wp_value (exec_fad0 rfl (kn.2.1.trans (gv_t hc))) (hK _ _ (gv_t hc).symm (Below.refl _ _))) (fun h0 => (gv_f (nt_f h0)).symm)),
      (fun QQ aa ww hS fr kn => sgF rfl kn.1 (fun hng K hK => have hc := nt_t hng; wp_value (exec_ld rfl (kn.2.1.trans (gv_t hc)) (ldPb (pk_sv (SAt.kept s3 hS)))) (hK _ _ (gv_t hc).symm (Below.refl _ _))) (fun h0 => (gv_f (nt_f h0)).symm)),
      (fun QQ aa ww hS fr kn => sgF rfl kn.1 (fun hng K hK => have hc := nt_t hng; wp_value (exec_notB rfl (kn.2.1.trans (gv_t hc))) (hK _ _ (gv_t hc).symm (Below.refl _ _))) (fun h0 => (gv_f (nt_f h0)).symm)),
      (fun QQ aa ww hS fr kn => sgF rfl kn.1 (fun hng K hK => have hc := nt_t hng; wp_value (exec_move rfl (kn.2.1.trans (gv_t hc))) (hK _ _ (gv_t hc).symm (Below.refl _ _))) (fun h0 => (gv_f (nt_f h0)).symm)),
      (fun QQ aa ww hS fr kn => sgTT rfl kn.1 (fun hc K hK => wp_value (exec_fpk 5 (by decide) rfl fr.2.1) (hK _ _ (gv_t hc).symm (Below.refl _ _))) (fun h0 => (gv_f h0).symm)),
      (fun QQ aa ww hS fr kn => sgTT rfl kn.1 (fun hc K hK => wp_value (exec_ld rfl (kn.2.1.trans (gv_t hc)) (ldP (pk_id (SAt.kept s3 hS)))) (hK _ _ (gv_t hc).symm (Below.refl _ _))) (fun h0 => (gv_f h0).symm)),
      (fun QQ aa ww hS fr kn => sgTT rfl kn.1 (fun hc K hK => wp_value (exec_fpk 5 (by decide) rfl fr.2.2.1) (hK _ _ (gv_t hc).symm (Below.refl _ _))) (fun h0 => (gv_f h0).symm)),
      (fun QQ aa ww hS fr kn => sgTT rfl kn.1 (fun hc K hK => wp_value (exec_ld rfl (kn.2.1.trans (gv_t hc)) (ldP (pk_id (SAt.kept s4 hS)))) (hK _ _ (gv_t hc).symm (Below.refl _ _))) (fun h0 => (gv_f h0).symm)),
      (fun QQ aa ww hS fr kn => sgTT rfl kn.1 (fun hc K hK => wp_value (cmp_eq (m := P.id) (n := Q.id) rfl (kn.2.1.trans (gv_t hc)) (kn.2.2.1.trans (gv_t hc))) (hK _ _ (gv_t hc).symm (Below.refl _ _))) (fun h0 => (gv_f h0).symm)),
      (fun QQ aa ww hS fr kn => sgF rfl kn.1 (fun hng K hK => have hc := nt_t hng; wp_value (exec_pickAnd rfl (kn.2.1.trans (gv_t hc)) (fun hx => kn.2.2.1.trans (gv_t (an_t hc hx))) rfl) (hK _ _ (gv_t hc).symm (Below.refl _ _))) (fun h0 => (gv_f (nt_f h0)).symm)),
      (fun QQ aa ww hS fr kn => sg0 rfl (fun K hK => wp_value (exec_pickOr rfl kn.1 rfl (fun hx => kn.2.1.trans (gv_t (nt_t hx)))) (hK _ _ rfl (Below.refl _ _)))),
      trivial⟩ ?_
  intro vs w12 hB12 kn
  have e100 : vs 100 = .bool (C.other || ((!P.sv) && (decide (P.id = Q.id)))) := kn 14 (by decide)
  clear kn
  simp only [putAll, Act.put, List.setIfInBounds_toArray, List.set_cons_zero, List.set_cons_succ, e100]
  clear e100
  have HB12 := Hid.mk hB12
  have s12' := s12.kept hB12
  have s13' := s13.kept hB12
  have HS3' := Hid.mk (And.intro (s3.kept hB12) (And.intro (s4.kept hB12) (s5.kept hB12)))
  have HSPz := HB11.out.trans (spares_below hB12)
  rcases Bool.eq_false_or_eq_true (C.other || ((!P.sv) && (decide (P.id = Q.id)))) with hE | hE
  · rw [hE]
    go_wp2_with (refine wl_value rfl (exec_ftg rfl rfl) ?_; refine Hid.out ?_)
    refine Hid.mk ?_
    go_wp2_with (refine wl_stF (z := .int .i64 2) (V := tgV 1 1) (V' := tgV 1 2) (g := g13) (n := 2) rfl rfl rfl rfl (by decide) (stI 2) s13' (by intro i hi; match i, hi with | 0, _ => rfl | 1, _ => rfl) ?_; intro w13 s13'' ho13; refine Hid.out ?_)
    refine Hid.mk ?_
    go_wp2_with fail
    have q12 := s12'.only ho13 (by omega)
    exact TAIL _ _ _ _ _ _ _ _ _ _ _ _ _ _ _ _ _ _ _ _ _ _ _ _ _ _ _ _ _ _ _ _ _ _ _ _ _ _ _ _ _ _ _ _ _ _ _ _ _ _ _ _ _ _ _ _ _ _ _ _ _ _ _ _ _ _ _ _ _ _ _ _ _ _ _ _ _ _ 2 w13 (Hid.mk ⟨HS3'.out.1.only ho13 (by have := HS0.out; omega), HS3'.out.2.1.only ho13 (by have := HS0.out; omega), HS3'.out.2.2.only ho13 (by have := HS0.out; omega)⟩) (Hid.mk ⟨q12, s13''⟩) (Hid.mk (HSPz.trans (spares_only ho13 (by have := HS0.out; omega)))) (Hid.mk (fam_ne (.inl rfl)))
  · rw [hE]
    go_wp2_with fail
    exact TAIL _ _ _ _ _ _ _ _ _ _ _ _ _ _ _ _ _ _ _ _ _ _ _ _ _ _ _ _ _ _ _ _ _ _ _ _ _ _ _ _ _ _ _ _ _ _ _ _ _ _ _ _ _ _ _ _ _ _ _ _ _ _ _ _ _ _ _ _ _ _ _ _ _ _ _ _ _ _ 1 w12 HS3' (Hid.mk ⟨s12', s13'⟩) (Hid.mk HSPz) (Hid.mk (fam_ne (.inr (by
      simp only [Bool.or_eq_false_iff, Bool.and_eq_false_imp, Bool.not_eq_true', decide_eq_false_iff_not] at hE
      cases hs : P.sv with
      | true => exact .inl rfl
      | false => exact .inr (hE.2 hs)))))
end Go.Proofs.Ythnlfjkpiohooaa
