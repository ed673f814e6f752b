/-
  Own text. The law's own helpers: small, awake.
-/
import Derived.Test.YtdlepeogmjmleaaJ9
import Derived.Test.YtdlepeogmjmleaaRows
import Derived.ChangeSlices
import Derived.Deep.Slices
import Derived.Deep.SlicePairs
import Derived.ChangeSame
import Derived.OpenShut
import Derived.ProofKit
import Derived.SizedLaws
import Derived.Stop.Joined
namespace Go.Proofs.Ytdlepeogmjmleaa
open Go.RowKit Go.Proofs
set_option maxRecDepth 100000
theorem Parse_end (b : ByteArray) (w : World) (hsm : b.size < 4611686018427387904) : Calls Try.prog 18 #[.string b] w fun e w' => DEnd w (rdP b) e w' := Parse_run b w hsm
theorem Parse_ok {b : ByteArray} {Q : Pk} (h : rdP b = .ok Q) (w : World) (hsm : b.size < 4611686018427387904) : Calls Try.prog 18 #[.string b] w fun e w' => Below w.heap.size w w' ∧ ∃ v, e = .returned (.tuple #[.agg (SC 46 (pkV Q v)), .int .i64 0]) ∧ DTold w.heap.size (.ok Q) Q v 0 w' := (Parse_end b w hsm).mono (fun e w' ⟨hB, Q', v, x, he, hd⟩ => by
  have hd' : DTold w.heap.size (rdP b) Q' v x w' := hd
  rw [h] at hd'
  obtain ⟨e1, e2⟩ := hd'.q
  have e1' : Q' = Q := e1
  have e2' : x = 0 := e2
  subst e1' e2'
  exact ⟨hB, v, he, hd'⟩)
theorem Parse_err {b : ByteArray} {x : Int} (h : rdP b = .err x) (w : World) (hsm : b.size < 4611686018427387904) : Calls Try.prog 18 #[.string b] w fun e w' => e = .returned (.tuple #[.agg (SC 46 (pkV zeroP (.slice none 0 0))), .int .i64 x]) ∧ Below w.heap.size w w' := (Parse_end b w hsm).mono (fun e w' ⟨hB, Q', v, x', he, hd⟩ => by
  have hd' : DTold w.heap.size (rdP b) Q' v x' w' := hd
  rw [h] at hd'
  rcases hd' with ⟨h1, h2, h3⟩ | ⟨_, h1, _⟩
  · injection h1 with h1
    subst h1 h2 h3
    exact ⟨he, hB⟩
  · cases h1)
theorem exec_lenSV {a : Act} {o : Oper} {w : World} {x : Operand} {s : ByteArray} {n : Nat} (h : s.size = n) (ho : o.op = .call { callee := .builtin .len, args := #[x], argTypes := #[9] }) (hx : a.eval x = .string s) : (execOp a.eval o).run Try.prog w = .ok (.value (.int .i64 (n : Int))) w := by
  subst h
  exact exec_lenS ho hx
def smallP : Pk := ⟨false, v4B 10 0 0 1, false, v4B 10 0 0 2, 17, 64, 0, 1, 0, false, false, ByteArray.empty, 0, [], false, ⟨#[104, 105]⟩⟩
theorem run_bdS (w : World) : (Instr.build 27 #[(0, .agg (SC 17 (adV false (v4B 10 0 0 1)))), (1, .agg (SC 17 (adV false (v4B 10 0 0 2)))), (2, .int .i64 17), (3, .int .i64 64), (5, .int .i64 1), (13, .string ⟨#[104, 105]⟩)]).run Try.prog w = .ok (.agg (SC 46 (pkV smallP (.slice none 0 0)))) w := by kernel_rfl
theorem exec_bdS {a : Act} {o : Oper} {w : World} {x y : Operand} (ho : o.op = .build 27 #[(0, x), (1, y), (2, .const (.int .i64 17)), (3, .const (.int .i64 64)), (5, .const (.int .i64 1)), (13, .const (.string ⟨#[104, 105]⟩))]) (hx : a.eval x = .agg (SC 17 (adV false (v4B 10 0 0 1)))) (hy : a.eval y = .agg (SC 17 (adV false (v4B 10 0 0 2)))) : (execOp a.eval o).run Try.prog w = .ok (.value (.agg (SC 46 (pkV smallP (.slice none 0 0))))) w := by
  have e1 : a.eval (.const (.int .i64 17)) = .int .i64 17 := rfl
  have e2 : a.eval (.const (.int .i64 64)) = .int .i64 64 := rfl
  have e3 : a.eval (.const (.int .i64 1)) = .int .i64 1 := rfl
  have e4 : a.eval (.const (.string ⟨#[104, 105]⟩)) = .string ⟨#[104, 105]⟩ := rfl
  unfold execOp
  simp only [ho, List.map_toArray, List.map_cons, List.map_nil, hx, hy, e1, e2, e3, e4, Sem.run_bind, run_bdS, Result.andThen_ok, Sem.run_pure]
theorem small_run (w : World) : Calls Try.prog 20 #[] w fun e w' => e = .returned (.agg (SC 46 (pkV smallP (.slice none 0 0)))) ∧ Below w.heap.size w w' := by
  have H1 := Hid.mk (fun ww => V4_run 10 0 0 1 ww)
  have H2 := Hid.mk (fun ww => V4_run 10 0 0 2 ww)
  have HB : Hid (∀ (a : Act) (o : Oper) (w : World) (x y : Operand), o.op = .build 27 #[(0, x), (1, y), (2, .const (.int .i64 17)), (3, .const (.int .i64 64)), (5, .const (.int .i64 1)), (13, .const (.string ⟨#[104, 105]⟩))] → a.eval x = .agg (SC 17 (adV false (v4B 10 0 0 1))) → a.eval y = .agg (SC 17 (adV false (v4B 10 0 0 2))) → (execOp a.eval o).run Try.prog w = .ok (.value (.agg (SC 46 (pkV smallP (.slice none 0 0))))) w) := Hid.mk (fun a o w x y h1 h2 h3 => exec_bdS h1 h2 h3)
  generalize smallP = SP at *
  generalize v4B 10 0 0 1 = F1 at *
  generalize v4B 10 0 0 2 = F2 at *
  go_enter Try.func20, Try.ntmps20
  go_wp2_with (refine wl_alO rfl rfl zeroPk ?_; intro g1 u2 hg1 q1 hB2; refine Hid.out ?_)
  refine Hid.mk ?_
  go_wp2_with (go_at_call 45; refine (H1.out _).mono ?_; rintro e u3 ⟨rfl, hB3⟩; refine Hid.out ?_)
  refine Hid.mk ?_
  go_wp2_with (go_at_call 45; refine (H2.out _).mono ?_; rintro e u4 ⟨rfl, hB4⟩; refine Hid.out ?_)
  refine Hid.mk ?_
  have q4 := (q1.kept hB3).kept hB4
  go_wp2_with (first | (refine wl_value rfl (HB.out _ _ _ _ _ rfl (by rfl) (by rfl)) ?_) | (refine st_stO rfl rfl isPk (fun i => pkV_one rfl i) q4 (by rfl) (by rfl) ?_; intro u5 q5 o5; refine Hid.out ?_))
  refine Hid.mk ?_
  go_wp2_with fail
  have h1 := hB2.trans (hB3.mono hB2.size)
  have h2 := h1.trans (hB4.mono h1.size)
  exact bodyPost_ret (res_st rfl isPk q5 (by rfl)) rfl ⟨rfl, h2.trans (o5.below hg1)⟩
theorem small_right : rgtP smallP = true := by decide +kernel
theorem small_fit : fitP smallP = true := by decide +kernel
theorem small_size : sizeP smallP = 22 := by decide +kernel
theorem small_E : bldE smallP = 0 := by decide +kernel
theorem small_ok : PkOk smallP := ⟨fun i hi => by
  have h : ∀ i, i < 16 → 0 ≤ v4B 10 0 0 1 i ∧ v4B 10 0 0 1 i < 256 := by decide
  exact h i hi, fun i hi => by
  have h : ∀ i, i < 16 → 0 ≤ v4B 10 0 0 2 i ∧ v4B 10 0 0 2 i < 256 := by decide
  exact h i hi⟩
theorem small_b : (bldT smallP).size = 22 := by rw [bld_size small_right small_fit]; exact small_size
theorem small_says : txt (bldT smallP) 0 = 69 ∧ txt (bldT smallP) 9 = 17 := by
  obtain ⟨s0, _, _, _, _, _, s9, _⟩ := four_says small_right small_fit (show smallP.sv = false from rfl) ByteArray.empty
  have hB : bldT smallP = fourB smallP := by unfold bldT; rw [small_right, small_fit]; rfl
  rw [app_empty, ← hB] at s0 s9
  exact ⟨s0, s9⟩
theorem small_rd : ∃ Q, rdP (bldT smallP) = .ok Q ∧ Q.pay = ⟨#[104, 105]⟩ ∧ Q.hop = 64 := by
  obtain ⟨Q, h1, h2⟩ := rd_bld small_ok small_right small_fit ByteArray.empty
  rw [app_empty] at h1
  obtain ⟨_, _, _, _, _, e6, _, _, _, _, _, _, _, _, _, e16⟩ := samP_iff.1 h2
  exact ⟨Q, h1, e16.symm, e6.symm⟩
set_option maxHeartbeats 4000000 in
theorem awake_run (w : World) : Calls Try.prog 8 #[] w fun e w' => e = .returned (.bool true) ∧ Below w.heap.size w w' := by
  have HSM := Hid.mk (fun ww => small_run ww)
  have HBD : Hid (∀ ww, Calls Try.prog 10 #[.agg (SC 46 (pkV smallP (.slice none 0 0)))] ww fun e w' => e = .returned (.tuple #[.string (bldT smallP), .int .i64 0]) ∧ Below ww.heap.size ww w') := Hid.mk (fun ww => by
    have := Build_run smallP (.slice none 0 0) ww (ExAt.nil ww) small_ok (by decide) (fun x hx => by cases hx) (by decide)
    rw [small_E] at this
    exact this)
  obtain ⟨Q, hQ, hq1, hq2⟩ := small_rd
  have HPA : Hid (∀ ww, Calls Try.prog 18 #[.string (bldT smallP)] ww fun e w' => Below ww.heap.size ww w' ∧ ∃ v, e = .returned (.tuple #[.agg (SC 46 (pkV Q v)), .int .i64 0]) ∧ v.oneCell' = true) := Hid.mk (fun ww => (Parse_ok hQ ww (by rw [small_b]; decide)).mono (fun e w' ⟨h1, v, h2, h3⟩ => ⟨h1, v, h2, h3.one⟩))
  have HSZ : Hid (∀ ww, Calls Try.prog 15 #[.agg (SC 46 (pkV smallP (.slice none 0 0)))] ww fun e w' => e = .returned (.int .i64 22) ∧ Below ww.heap.size ww w') := Hid.mk (fun ww => by
    have := Size_run smallP (.slice none 0 0) ww (ExAt.nil ww) (by decide) (fun x hx => by cases hx) (by decide)
    rw [small_size] at this
    exact this)
  have HRT : Hid (∀ ww, Calls Try.prog 13 #[.agg (SC 46 (pkV smallP (.slice none 0 0)))] ww fun e w' => e = .returned (.bool true) ∧ Below ww.heap.size ww w') := Hid.mk (fun ww => by
    have := Right_run smallP (.slice none 0 0) ww (ExAt.nil ww) (by decide) (fun x hx => by cases hx)
    rw [small_right] at this
    exact this)
  have HZ := Hid.mk small_b
  have H0 := Hid.mk small_says.1
  have H9 := Hid.mk small_says.2
  have HZ0 : Hid (0 < (bldT smallP).size) := Hid.mk (by rw [HZ.out]; decide)
  have HZ9 : Hid (9 < (bldT smallP).size) := Hid.mk (by rw [HZ.out]; decide)
  have HQ1 := Hid.mk hq1
  have HQ2 := Hid.mk hq2
  clear hQ hq1 hq2
  generalize bldT smallP = BT at *
  generalize smallP = SP at *
  go_enter Try.func8, Try.ntmps8
  go_wp2_with (go_at_call 20; refine (HSM.out _).mono ?_; rintro e u2 ⟨rfl, hB2⟩; refine Hid.out ?_)
  refine Hid.mk ?_
  go_wp2_with (go_at_call 10; refine (HBD.out _).mono ?_; rintro e u3 ⟨rfl, hB3⟩; refine Hid.out ?_)
  refine Hid.mk ?_
  go_wp2_with (go_at_call 18; refine (HPA.out _).mono ?_; rintro e u4 ⟨hB4, v, rfl, hon⟩; refine Hid.out ?_)
  refine Hid.mk ?_
  have hBa := hB2.trans (hB3.mono hB2.size)
  replace hBa := hBa.trans (hB4.mono hBa.size)
  clear hB2 hB3 hB4
  go_wp2_with (refine wl_alO rfl rfl zeroPk ?_; intro g3 u5 hg3 q3 hB5; refine Hid.out ?_)
  refine Hid.mk ?_
  have hg3w : w.heap.size ≤ g3 := by have := hBa.size; omega
  have hBb := hBa.trans (hB5.mono hBa.size)
  go_wp2_with (refine st_stO rfl rfl isPk (fun i => pkV_one hon i) q3 (by rfl) (by rfl) ?_; intro u6 q6 o6; refine Hid.out ?_)
  refine Hid.mk ?_
  have hBc := hBb.trans (o6.below hg3w)
  clear hBa hBb hB5 q3 o6
  have c13 := pk_pay q6
  have c3 := pk_hop q6
  rw [HQ1.out] at c13
  rw [HQ2.out] at c3
  go_wp2_with (first | (refine wl_value rfl (exec_lenSV HZ.out rfl (by rfl)) ?_) | (refine wl_value rfl (exec_ixv (j := 0) rfl (by rfl) (by rfl) HZ0.out H0.out) ?_) | (refine wl_value rfl (exec_ixv (j := 9) rfl (by rfl) (by rfl) HZ9.out H9.out) ?_) | (refine wl_value rfl (exec_fpkL 13 45 (by decide) rfl rfl (by rfl)) ?_) | (refine wl_value rfl (exec_fpkL 3 35 (by decide) rfl rfl (by rfl)) ?_) | (refine wl_value rfl (exec_ld rfl (by rfl) (ldPs c13)) ?_) | (refine wl_value rfl (exec_ld rfl (by rfl) (ldP c3)) ?_) | (refine wl_value rfl (exec_eqT (s := ⟨#[104, 105]⟩) (t := ⟨#[104, 105]⟩) rfl rfl (by rfl) (by rfl)) ?_) | (go_at_call 20; refine (HSM.out _).mono ?_; rintro e u7 ⟨rfl, hB7⟩; refine Hid.out ?_))
  refine Hid.mk ?_
  go_wp2_with (go_at_call 15; refine (HSZ.out _).mono ?_; rintro e u8 ⟨rfl, hB8⟩; refine Hid.out ?_)
  refine Hid.mk ?_
  go_wp2_with (go_at_call 20; refine (HSM.out _).mono ?_; rintro e u9 ⟨rfl, hB9⟩; refine Hid.out ?_)
  refine Hid.mk ?_
  go_wp2_with (go_at_call 13; refine (HRT.out _).mono ?_; rintro e u10 ⟨rfl, hB10⟩; refine Hid.out ?_)
  refine Hid.mk ?_
  go_wp2_with fail
  go_ret
  have h1 := hBc.trans (hB7.mono hBc.size)
  have h2 := h1.trans (hB8.mono h1.size)
  have h3 := h2.trans (hB9.mono h2.size)
  exact ⟨rfl, h3.trans (hB10.mono h3.size)⟩
end Go.Proofs.Ytdlepeogmjmleaa
/-
  Own text. The law's helper lent: a packet whose extension headers lie in memory of their own, with one more behind them.
-/
namespace Go.Proofs.Ytdlepeogmjmleaa
open Go.RowKit Go.Proofs
set_option maxRecDepth 100000
def exW (l : List Ex) (j f : Nat) : Value := exV (l.getD j ⟨0, ByteArray.empty⟩) f
theorem exW_at {l : List Ex} {j : Nat} {x : Ex} (h : l[j]? = some x) (f : Nat) : exW l j f = exV x f := by
  unfold exW
  rw [List.getD_eq_getElem?_getD, h]
  rfl
theorem exW_row {w : World} {ad : Addr} {l : List Ex} (h : ∀ j x, l[j]? = some x → w.cell? (ad.add (2 * j)) = some (.int .i64 x.kind) ∧ w.cell? (ad.add (2 * j + 1)) = some (.string x.body)) : ∀ i u, (rX 2 (exW l) l.length)[i]? = some u → w.cell? (ad.add i) = some u := by
  intro i u hu
  have hi : i < l.length * 2 := by
    have := (List.getElem?_eq_some_iff.1 hu).1
    rwa [rX_len] at this
  have hj : i / 2 < l.length := by omega
  obtain ⟨x, hx⟩ : ∃ x, l[i / 2]? = some x := ⟨_, List.getElem?_eq_getElem hj⟩
  obtain ⟨h1, h2⟩ := h _ _ hx
  have hr := rX_at 2 (exW l) l.length (i / 2) (i % 2) hj (by omega)
  rw [show 2 * (i / 2) + i % 2 = i by omega, hu, exW_at hx] at hr
  have hu2 : u = exV x (i % 2) := Option.some.inj hr
  rcases (show i % 2 = 0 ∨ i % 2 = 1 by omega) with e | e
  · rw [show 2 * (i / 2) = i by omega] at h1
    rw [hu2, e]
    exact h1
  · rw [show 2 * (i / 2) + 1 = i by omega] at h2
    rw [hu2, e]
    exact h2
theorem rX_one {Z : Nat → Nat → Value} (h : ∀ j f, (Z j f).oneCell' = true) {c : Nat} : ∀ n, ∀ u ∈ rX c Z n, u.oneCell' = true
  | 0, u, hu => by cases hu
  | n + 1, u, hu => by
    unfold rX at hu
    rcases List.mem_append.1 hu with hu | hu
    · exact rX_one h n u hu
    · exact (Array.all_eq_true_iff_forall_mem.1 (SC_one (n := c) (h n))) u (by simpa using hu)
/-- append of a packet's headers to the nil slice. -/
theorem wl_apN {ops : Array Oper} {rest : List Oper} {o : Oper} {a : Act} {w : World} {Q : Exit → Act → World → Prop} (hgd : o.guard = none) {s x : Operand} {v : Value} {l : List Ex}
    (ho : o.op = .call { callee := .builtin .append, args := #[s, x], argTypes := #[25, 25] }) (hs : a.eval s = .slice none 0 0) (hx : a.eval x = v) (hv : ExAt w v l) (hn : l.length * 24 ≤ 140737488355328)
    (h : ∀ v' w', w'.ownsRow w.heap.size 36 2 v' l.length (rX 2 (exW l) l.length) → Below w.heap.size w w' → wpList Try.prog ops Q rest (a.put o.dst v') w') : wpList Try.prog ops Q (o :: rest) a w := by
  obtain ⟨i0, hi, hz0, hz1, hz2⟩ := info_parts exInfo
  obtain ⟨ad, cap, rfl, hc⟩ := hv
  cases ad with
  | none =>
    have hl0 : l = [] := by
      cases l with
      | nil => rfl
      | cons y l =>
        obtain ⟨ad, e, _⟩ := hc 0 y rfl
        cases e
    subst hl0
    refine wpList_plain hgd fun K hK => ?_
    have hr : (Builtin.append_ #[25, 25] o.type #[.slice none 0 0, .slice none 0 cap]).run Try.prog w = .ok (.slice none 0 0) w := by
      simp [Builtin.append_, run_underlying Try.underlying25, sizeOf, typeInfo, hi, Builtin.lenOf, go_sem]
    unfold Oper.wp
    simp [execOp, ho, resolve, invoke, builtin, hs, hx, hr, Result.andThen]
    exact hK _ _ (h _ _ (World.ownsRow_nil w _ _ _) (Below.refl _ _))
  | some ad =>
    refine wpList_append_own w hgd s x 25 ho w.heap.size 36 i0 _ 2 24 Try.underlying25 hi hz0 hz1 hz2 (by show (SC 2 _).size = 2; rw [SC_size]) (by decide) _ 0 [] hs (World.ownsRow_nil w _ _ _) ad l.length cap (rX 2 (exW l) l.length) hx (rX_len _ _ _) (exW_row (fun j y hj => by
      obtain ⟨ad', e, _, h1, h2⟩ := hc j y hj
      injection e with e
      subst e
      exact ⟨h1, h2⟩)) (rX_one (fun j f => exV_one _ _) _) (by unfold maxLen; omega) (by rw [Nat.zero_add]; exact hn) (Nat.le_refl _) ?_
    intro v' w1 hown hg _
    rw [Nat.zero_add] at hown
    exact h v' w1 hown ⟨hg.os, hg.tape, hg.output, hg.size, fun k hk => hg.block k hk (by simp [Value.ownBlock])⟩
/-- append of one more, in whatever number. -/
theorem ap_rowB {ops : Array Oper} {rest : List Oper} {o : Oper} {a : Act} {w : World} {Q : Exit → Act → World → Prop} (hgd : o.guard = none) {s x : Operand} {t e : TypeId} {c by' : Nat} {z : Nat → Value} (ht : Try.prog.underlying t = some (.slice e)) (hi : (Try.prog.info? e).map (fun i => (i.zero, i.size, i.bytes)) = some (some (.agg (SC c z)), c, by')) (hc : 0 < c)
    (ho : o.op = .call { callee := .builtin .append, args := #[s, x], argTypes := #[t, t] })
    {B n b : Nat} {Z : Nat → Nat → Value} {v : Value} {y : Nat → Value} (hy : ∀ i, (y i).oneCell' = true) (hs : a.eval s = v) (hx : a.eval x = .slice (some ⟨b, 0, none⟩) 1 1) (hD : w.ownsRow B e c v n (rX c Z n)) (hg : SAt w b e c y) (hM : n + 1 ≤ maxLen) (hY : (n + 1) * by' ≤ 140737488355328) (hB : B ≤ w.heap.size)
    (h : ∀ v' w', w'.ownsRow B e c v' (n + 1) (rX c (setG Z n y) (n + 1)) → w.grownBy w' v.ownBlock → wpList Try.prog ops Q rest (a.put o.dst v') w') : wpList Try.prog ops Q (o :: rest) a w := by
  obtain ⟨i0, hi, hz0, hz1, hz2⟩ := info_parts hi
  have hz : (Value.agg (SC c z)).cells.size = c := by show (SC c z).size = c; rw [SC_size]
  have hln : (SC c y).toList.length = 1 * c := by rw [Array.length_toList, SC_size, Nat.one_mul]
  have hc' : ∀ j u, (SC c y).toList[j]? = some u → w.cell? ((⟨b, 0, none⟩ : Addr).add j) = some u := fun j u hj => by
    have hj2 : j < c := by have := (List.getElem?_eq_some_iff.1 hj).1; rwa [Array.length_toList, SC_size] at this
    rw [Addr.add_lit, Nat.zero_add, hg.at j hj2, ← SC_get c _ j hj2, ← Array.getElem?_toList, hj]
  have h1 : ∀ u ∈ (SC c y).toList, u.oneCell' = true := fun u hu => (Array.all_eq_true_iff_forall_mem.1 (SC_one (n := c) hy)) u (by simpa using hu)
  refine wpList_append_own w hgd s x t ho B e i0 _ c by' ht hi hz0 hz1 hz2 hz hc v n _ hs hD ⟨b, 0, none⟩ 1 1 _ hx hln hc' h1 hM hY hB ?_
  intro v' w1 hown hgrow _
  exact h v' w1 (by rw [rX_more]; exact hown) hgrow
theorem wl_bsX {ops : Array Oper} {rest : List Oper} {o : Oper} {a : Act} {w : World} {Q : Exit → Act → World → Prop} {y : Operand} {x : Ex} (ho : o.op = .buildSlice 25 1 #[(0, y)]) (hw : Region.wanted o (yielded ops a.tmps) = true) (hy : a.eval y = .agg (SC 2 (exV x)))
    (h : ∀ b w', w.heap.size ≤ b → SAt w' b 36 2 (exV x) → Below w.heap.size w w' → wpList Try.prog ops Q rest (a.put o.dst (.slice (some ⟨b, 0, none⟩) 1 1)) w') : wpList Try.prog ops Q (o :: rest) a w := by
  refine wl_act hw ?_
  have hr := run_bsX x w
  unfold Oper.wp execOp
  simp only [ho, List.map_toArray, List.map_cons, List.map_nil, hy, Sem.run_bind, hr, Result.andThen_ok, Sem.run_pure, Oper.upon]
  exact h _ _ (Nat.le_refl _) (heap_alloc_new w _) ((Below.refl _ w).alloc (Nat.le_refl _) _)
theorem run_bd77 (k : Int) (w : World) : (Instr.build 36 #[(0, .int .i64 k)]).run Try.prog w = .ok (.agg (SC 2 (exV ⟨k, ByteArray.empty⟩))) w := by kernel_rfl
theorem exec_bd77 {a : Act} {o : Oper} {w : World} {x : Operand} (ho : o.op = .build 36 #[(0, x)]) {k : Int} (hx : a.eval x = .int .i64 k) : (execOp a.eval o).run Try.prog w = .ok (.value (.agg (SC 2 (exV ⟨k, ByteArray.empty⟩)))) w := by
  unfold execOp
  simp only [ho, List.map_toArray, List.map_cons, List.map_nil, hx, Sem.run_bind, run_bd77, Result.andThen_ok, Sem.run_pure]
theorem slX (p : Addr) (n m c : Nat) (w : World) (h : m ≤ c) : (Instr.sliceAt 25 (.slice (some p) n c) none (some (.int .i64 (m : Int))) none).run Try.prog w = .ok (.slice (some p) m c) w := by
  have i1 : (m : Int) ≤ (c : Int) := by omega
  simp [go_sem, i1]
theorem exAt_only {w w' : World} {g q n cap : Nat} {l : List Ex} (h : ExAt w (.slice (some ⟨g, 0, none⟩) n cap) l) (hc : w.cell? ⟨g, 2 * n, none⟩ = some (.int .i64 77)) (hg : g < w.heap.size) (o : Only q w w') (hq : g ≠ q) : ExAt w' (.slice (some ⟨g, 0, none⟩) n cap) l ∧ g < w'.heap.size ∧ w'.cell? ⟨g, 2 * n, none⟩ = some (.int .i64 77) := by
  have hb := o.block g hq
  have hl : g < w'.heap.size := by
    have e : w.heap[g]? = some w.heap[g] := Array.getElem?_eq_getElem hg
    rw [← hb] at e
    exact heap_lt e
  refine ⟨?_, hl, by rw [World.cell?_of_block (w := w) (by exact hb)]; exact hc⟩
  obtain ⟨a, c, e, hh⟩ := h
  injection e with e1 e2 e3
  subst e1 e3
  refine ⟨some ⟨g, 0, none⟩, cap, by rw [e2], fun j x hj => ?_⟩
  obtain ⟨ad, ha, _, k1, k2⟩ := hh j x hj
  injection ha with ha
  subst ha
  exact ⟨_, rfl, hl, by rw [World.cell?_of_block (w := w) (by rw [add_blk]; exact hb)]; exact k1, by rw [World.cell?_of_block (w := w) (by rw [add_blk]; exact hb)]; exact k2⟩
set_option maxHeartbeats 4000000 in
theorem lent_run (P : Pk) (v : Value) (w : World) (h1 : ExAt w v P.exts) (hn : P.exts.length * 24 ≤ 140737488351232) : Calls Try.prog 9 #[.agg (SC 46 (pkV P v))] w fun e w' => Below w.heap.size w w' ∧ ∃ g cap, e = .returned (.tuple #[.agg (SC 46 (pkV P (.slice (some ⟨g, 0, none⟩) P.exts.length cap))), .slice (some ⟨g, 0, none⟩) (P.exts.length + 1) cap]) ∧ ExAt w' (.slice (some ⟨g, 0, none⟩) P.exts.length cap) P.exts ∧ g < w'.heap.size ∧ w'.cell? ⟨g, 2 * P.exts.length, none⟩ = some (.int .i64 77) := by
  have hvo := h1.one
  have HN1 : Hid (P.exts.length * 24 ≤ 140737488355328) := Hid.mk (by omega)
  have HN2 : Hid ((P.exts.length + 1) * 24 ≤ 140737488355328) := Hid.mk (by omega)
  have HM : Hid (P.exts.length + 1 ≤ maxLen) := Hid.mk (by unfold maxLen; omega)
  have hnl : P.exts.length < 4611686018427387904 := by omega
  clear hn
  go_enter Try.func9, Try.ntmps9
  go_wp2_with (refine wl_boxO rfl rfl isPk (by rfl) ?_; intro g1 u1 hg1 p1 hB1; refine Hid.out ?_)
  refine Hid.mk ?_
  go_wp2_with (refine wl_alO rfl rfl zeroPk ?_; intro g2 u2 hg2 q2 hB2; refine Hid.out ?_)
  refine Hid.mk ?_
  have p2 := p1.kept hB2
  have hBa := hB1.trans (hB2.mono hB1.size)
  have HX := Hid.mk (h1.kept hBa)
  have c11 := pk_exts p2
  have hg2w : w.heap.size ≤ g2 := by have := hB1.size; omega
  have hne : g2 ≠ g1 := by have := heap_lt p1; omega
  clear p1 hB1 hB2 h1
  go_wp2_with (first | (refine wl_value rfl (exec_fpkL 11 43 (by decide) rfl rfl (by rfl)) ?_) | (refine wl_value rfl (exec_ld rfl (by rfl) (ldPx c11)) ?_) | (refine wl_apN (l := P.exts) rfl rfl (by rfl) (by rfl) HX.out HN1.out ?_; intro v2 u3 ow3 hB3; refine Hid.out ?_))
  refine Hid.mk ?_
  have p3 := p2.kept hB3
  have q3 := q2.kept hB3
  have hBb := hBa.trans (hB3.mono hBa.size)
  have hs2 := hBa.size
  have OW := Hid.mk ow3
  have hs23 := hB3.size
  have l2 := heap_lt p2
  have l2q := heap_lt q2
  clear p2 q2 c11 HX hBa hB3 ow3
  go_wp2_with (first | (refine wl_value rfl (exec_bd77 (k := 77) rfl (by rfl)) ?_) | (refine wl_bsX (x := ⟨77, ByteArray.empty⟩) rfl rfl (by rfl) ?_; intro gb u4 hgb qb hB4; refine Hid.out ?_))
  refine Hid.mk ?_
  have p4 := p3.kept hB4
  have q4 := q3.kept hB4
  have hBc := hBb.trans (hB4.mono hBb.size)
  have ow4 := ownT_kept OW.out hB4
  have OW4 := Hid.mk ow4
  have hs4 : u2.heap.size ≤ u4.heap.size := Nat.le_trans hs23 hB4.size
  clear p3 q3 hBb hB4 OW ow4
  go_wp2_with (refine ap_rowB (Z := exW P.exts) (B := u2.heap.size) (n := P.exts.length) rfl Try.underlying25 exInfo (by decide) rfl (exV_one ⟨77, ByteArray.empty⟩) (by rfl) (by rfl) OW4.out qb HM.out HN2.out hs4 ?_; intro v3 u5 ow5 hg5; refine Hid.out ?_)
  refine Hid.mk ?_
  have lo : ∀ q, q < u2.heap.size → (some q : Option Nat) ≠ v2.ownBlock := fun q hq e => by have := ownM_base OW4.out q e.symm; omega
  have p5 : SAt u5 g1 _ _ _ := (hg5.block g1 (heap_lt p4) (lo g1 l2)).trans p4
  have q5 : SAt u5 g2 _ _ _ := (hg5.block g2 (heap_lt q4) (lo g2 l2q)).trans q4
  have hBd : Below w.heap.size w u5 := ⟨hg5.os.trans hBc.os, hg5.tape.trans hBc.tape, hg5.output.trans hBc.output, Nat.le_trans hBc.size hg5.size, fun k hk => (hg5.block k (Nat.lt_of_lt_of_le hk hBc.size) (lo k (by omega))).trans (hBc.block k hk)⟩
  obtain ⟨pp, cap, rfl, hpp⟩ := ownM_shape ow5
  obtain ⟨g, rfl⟩ := hpp (Nat.succ_pos _)
  have hcap : P.exts.length ≤ cap := by
    rcases ow5.2 with ⟨e, _⟩ | ⟨_, _, _, e, _, _, h, _⟩
    · cases e
    · injection e with _ _ e3
      omega
  have hgB := ownM_base ow5 g rfl
  have hgl := (ow5.lt g rfl).2
  have hE : ExAt u5 (.slice (some ⟨g, 0, none⟩) P.exts.length cap) P.exts := ⟨_, _, rfl, fun j x hj => by
    have hl := (List.getElem?_eq_some_iff.1 hj).1
    have k0 := own_at ow5 (k := j) (by omega) 0 (by decide)
    have k1 := own_at ow5 (k := j) (by omega) 1 (by decide)
    rw [gD _ _ _ (by omega), exW_at hj] at k0 k1
    refine ⟨⟨g, 0, none⟩, rfl, hgl, ?_, ?_⟩
    · rw [Addr.add_lit, Nat.zero_add]; exact k0
    · rw [Addr.add_lit, Nat.zero_add]; exact k1⟩
  have c77 := own_at ow5 (k := P.exts.length) (by omega) 0 (by decide)
  rw [gE, Nat.add_zero] at c77
  have HE := Hid.mk hE
  have HC := Hid.mk c77
  clear p4 q4 qb hBc OW4 hg5 lo ow5 hE c77 hpp
  obtain ⟨n, hnn⟩ : ∃ n, P.exts.length = n := ⟨_, rfl⟩
  have HNN := Hid.mk hnn
  rw [hnn] at HE HC hcap hnl ⊢
  clear hnn HM HN1 HN2
  have HSL : Hid (∀ ww, (Instr.sliceAt 25 (.slice (some ⟨g, 0, none⟩) (n + 1) cap) none (some (.int .i64 (n : Int))) none).run Try.prog ww = .ok (.slice (some ⟨g, 0, none⟩) n cap) ww) := Hid.mk (fun ww => slX ⟨g, 0, none⟩ (n + 1) n cap ww hcap)
  go_wp2_with (first | (refine wl_value rfl (exec_lenX rfl (by rfl)) ?_) | (refine wl_value rfl (exec_subW (i := n + 1) (m := 1) (q := n) rfl (by rfl) (by rfl) (by omega) (by omega)) ?_) | (refine wl_value rfl (exec_slH (u := .int .i64 (n : Int)) rfl (by rfl) (by rfl) (HSL.out _)) ?_) | (refine wl_value rfl (exec_fpkL 11 43 (by decide) rfl rfl (by rfl)) ?_) | (refine wl_stP rfl rfl (by rfl) (by rfl) (by decide) stX p5 (pk_up43 P _ _) ?_; intro u6 p6 o6; refine Hid.out ?_))
  refine Hid.mk ?_
  have q6 := q5.only o6 hne
  have hBe := hBd.trans (o6.below hg1)
  have HE6 : Hid (ExAt u6 (.slice (some ⟨g, 0, none⟩) n cap) P.exts ∧ g < u6.heap.size ∧ u6.cell? ⟨g, 2 * n, none⟩ = some (.int .i64 77)) := Hid.mk (exAt_only HE.out HC.out hgl o6 (by omega))
  clear p5 q5 hBd o6 HE HC
  have l6 := heap_lt q6
  go_wp2_with (first | (refine wl_value rfl (look_st rfl isPk p6 (by rfl)) ?_) | (refine st_stO rfl rfl isPk (fun i => pkV_one rfl i) q6 (by rfl) (by rfl) ?_; intro u7 q7 o7; refine Hid.out ?_))
  refine Hid.mk ?_
  go_wp2_with fail
  obtain rfl := HNN.out
  exact bodyPost_ret (res_ct rfl isPk q7 (by rfl) (by rfl)) rfl ⟨hBe.trans (o7.below hg2w), g, cap, rfl, exAt_only HE6.out.1 HE6.out.2.2 HE6.out.2.1 o7 (by omega)⟩
end Go.Proofs.Ytdlepeogmjmleaa
/-
  Own text. IpBuilds: a packet becomes just the bytes that the document says, or is refused; it stays as it is.
-/
namespace Go.Proofs.Ytdlepeogmjmleaa
open Go.RowKit Go.Proofs
set_option maxRecDepth 100000
section
variable {a : Act} {o : Oper} {w : World} {x y : Operand}
theorem exec_eqEt {m n : Int} (h : m = n) (ho : o.op = .binOp .eql 31 x y 31) (hx : a.eval x = .int .i64 m) (hy : a.eval y = .int .i64 n) : (execOp a.eval o).run Try.prog w = .ok (.value (.bool true)) w := by
  have := cmp_eqE (w := w) ho hx hy
  rwa [decide_eq_true h] at this
theorem exec_eqIt {m n : Int} (h : m = n) (ho : o.op = .binOp .eql 3 x y 3) (hx : a.eval x = .int .i64 m) (hy : a.eval y = .int .i64 n) : (execOp a.eval o).run Try.prog w = .ok (.value (.bool true)) w := by
  have := cmp_eq (w := w) ho hx hy
  rwa [decide_eq_true h] at this
theorem exec_eqBt {m n : Bool} (h : m = n) (ho : o.op = .binOp .eql 4 x y 4) (hx : a.eval x = .bool m) (hy : a.eval y = .bool n) : (execOp a.eval o).run Try.prog w = .ok (.value (.bool true)) w := by
  have := cmp_eqB (w := w) ho hx hy
  rwa [beq_iff_eq.2 h] at this
end
theorem wl_box2P {ops : Array Oper} {rest : List Oper} {o1 o2 : Oper} {x y : Operand} {ty ty' : TypeId} {a : Act} {w : World} {Q : Exit → Act → World → Prop} {n n' : Nat} {V V' : Nat → Value} (h1 : o1.op = .box ty x) (h2 : o2.op = .box ty' y) (w1 : o1.guard = none) (w2 : o2.guard = none) (hA : IsSt ty n) (hA' : IsSt ty' n') (hx : a.eval x = .agg (SC n V)) (hy : ∀ u, (a.put o1.dst u).eval y = .agg (SC n' V'))
    (h : ∀ g g' w', w.heap.size ≤ g → g < g' → SAt w' g ty n V → SAt w' g' ty' n' V' → Below w.heap.size w w' → wpList Try.prog ops Q rest ((a.put o1.dst (.pointer (some ⟨g, 0, none⟩))).put o2.dst (.pointer (some ⟨g', 0, none⟩))) w') : wpList Try.prog ops Q (o1 :: o2 :: rest) a w := by
  have q1 : Region.wanted o1 (yielded ops a.tmps) = true := by unfold Region.wanted; rw [w1]
  refine wl_boxO h1 q1 hA hx (fun g u hg s1 b1 => ?_)
  have q2 : Region.wanted o2 (yielded ops (a.put o1.dst (.pointer (some ⟨g, 0, none⟩))).tmps) = true := by unfold Region.wanted; rw [w2]
  refine wl_boxO h2 q2 hA' (hy _) (fun g' u' hg' s2 b2 => ?_)
  exact h g g' u' hg (by have := SAt.lt s1; omega) (SAt.kept s1 b2) s2 (b1.trans (b2.mono b1.size))
/-- What is known of a packet that is an argument. -/
structure PkArg (P : Pk) : Prop where
  ok : PkOk P
  n : P.exts.length * 24 ≤ 140737488351232
  b : ∀ x ∈ P.exts, x.body.size ≤ 140737488355328
  p : P.pay.size ≤ 140737488355328
theorem PkArg.len {P : Pk} (h : PkArg P) : P.exts.length < 4611686018427387904 := by have := h.n; omega
set_option maxHeartbeats 8000000 in
theorem builds_walk (P : Pk) (v : Value) (w : World) (h1 : ExAt w v P.exts) (hA : PkArg P) : Calls Try.prog 3 #[.agg (SC 46 (pkV P v))] w fun e w' => e = .returned (.bool true) ∧ Below w.heap.size w w' := by
  have hnl := hA.len
  have HLT : Hid (∀ ww, ExAt ww v P.exts → Calls Try.prog 9 #[.agg (SC 46 (pkV P v))] ww fun e w' => Below ww.heap.size ww w' ∧ ∃ g cap, e = .returned (.tuple #[.agg (SC 46 (pkV P (.slice (some ⟨g, 0, none⟩) P.exts.length cap))), .slice (some ⟨g, 0, none⟩) (P.exts.length + 1) cap]) ∧ ExAt w' (.slice (some ⟨g, 0, none⟩) P.exts.length cap) P.exts ∧ g < w'.heap.size ∧ w'.cell? ⟨g, 2 * P.exts.length, none⟩ = some (.int .i64 77)) := Hid.mk (fun ww h => lent_run P v ww h hA.n)
  have HB1 : Hid (∀ v2 ww, ExAt ww v2 P.exts → Calls Try.prog 10 #[.agg (SC 46 (pkV P v2))] ww fun e w' => e = .returned (.tuple #[.string (bldT P), .int .i64 (bldE P)]) ∧ Below ww.heap.size ww w') := Hid.mk (fun v2 ww h => Build_run P v2 ww h hA.ok hnl hA.b hA.p)
  have HB2 : Hid (∀ v2 ww, ExAt ww v2 P.exts → Calls Try.prog 11 #[.agg (SC 46 (pkV P v2))] ww fun e w' => e = .returned (.tuple #[.string (bldT P), .int .i64 (bldE P)]) ∧ Below ww.heap.size ww w') := Hid.mk (fun v2 ww h => rBuild_run P v2 ww h hA.ok hnl hA.b hA.p)
  have HSA : Hid (∀ v1 v2 ww, ExAt ww v1 P.exts → ExAt ww v2 P.exts → Calls Try.prog 12 #[.agg (SC 46 (pkV P v1)), .agg (SC 46 (pkV P v2))] ww fun e w' => e = .returned (.bool true) ∧ Below ww.heap.size ww w') := Hid.mk (fun v1 v2 ww h1 h2 => by
    have := rSame_run P P v1 v2 ww h1 h2 hnl hnl
    rw [sam_self] at this
    exact this)
  have HR1' : Hid (∀ v2 ww, ExAt ww v2 P.exts → Calls Try.prog 13 #[.agg (SC 46 (pkV P v2))] ww fun e w' => e = .returned (.bool (rgtP P)) ∧ Below ww.heap.size ww w') := Hid.mk (fun v2 ww h => Right_run P v2 ww h hnl hA.b)
  have HR2' : Hid (∀ v2 ww, ExAt ww v2 P.exts → Calls Try.prog 14 #[.agg (SC 46 (pkV P v2))] ww fun e w' => e = .returned (.bool (rgtP P)) ∧ Below ww.heap.size ww w') := Hid.mk (fun v2 ww h => rRight_run P v2 ww h hnl hA.b)
  have HZ1' : Hid (∀ v2 ww, ExAt ww v2 P.exts → Calls Try.prog 15 #[.agg (SC 46 (pkV P v2))] ww fun e w' => e = .returned (.int .i64 ((sizeP P : Nat) : Int)) ∧ Below ww.heap.size ww w') := Hid.mk (fun v2 ww h => Size_run P v2 ww h hnl hA.b hA.p)
  have HZ2' : Hid (∀ v2 ww, ExAt ww v2 P.exts → Calls Try.prog 16 #[.agg (SC 46 (pkV P v2))] ww fun e w' => e = .returned (.int .i64 ((sizeP P : Nat) : Int)) ∧ Below ww.heap.size ww w') := Hid.mk (fun v2 ww h => rSize_run P v2 ww h hnl hA.b hA.p)
  have hvo := h1.one
  clear hA
  generalize bldT P = BT at *
  generalize bldE P = BE at *
  generalize rgtP P = RB at *
  generalize sizeP P = SZ at *
  obtain ⟨n, hn⟩ : ∃ n, P.exts.length = n := ⟨_, rfl⟩
  rw [hn] at HLT hnl
  have HN := Hid.mk hn
  clear hn
  go_enter Try.func3, Try.ntmps3
  go_wp2_with (refine wl_boxO rfl rfl isPk (by rfl) ?_; intro g1 u1 hg1 p1 hB1; refine Hid.out ?_)
  refine Hid.mk ?_
  go_wp2_with (go_at_call 8; refine (awake_run _).mono ?_; rintro e u2 ⟨rfl, hB2⟩; refine Hid.out ?_)
  refine Hid.mk ?_
  have p2 := p1.kept hB2
  have hBa := hB1.trans (hB2.mono hB1.size)
  have hx2 := h1.kept hBa
  have HX := Hid.mk hx2
  clear p1 hB1 hB2 h1 hx2
  go_wp2_with (first | (refine wl_value rfl (look_st rfl isPk p2 (by rfl)) ?_) | (go_at_call 9; refine (HLT.out _ HX.out).mono ?_; rintro e u3 ⟨hB3, g, cap, rfl, he3, hg3, hc3⟩; refine Hid.out ?_))
  refine Hid.mk ?_
  have p3 := p2.kept hB3
  have hBb := hBa.trans (hB3.mono hBa.size)
  have hx3 := HX.out.kept hB3
  clear p2 hBa hB3 HX HLT
  go_wp2_with (refine wl_alO rfl rfl zeroPk ?_; intro g4 u4 hg4 q4 hB4; refine Hid.out ?_)
  refine Hid.mk ?_
  have hg4w : w.heap.size ≤ g4 := by have := hBb.size; omega
  go_wp2_with (refine st_stO rfl rfl isPk (fun i => pkV_one rfl i) q4 (by rfl) (by rfl) ?_; intro u5 q5 o5; refine Hid.out ?_)
  refine Hid.mk ?_
  have hBn : Below u3.heap.size u3 u5 := hB4.trans (o5.below hg4)
  have p5 := p3.kept hBn
  have hBd := hBb.trans (hBn.mono hBb.size)
  have hx5 := hx3.kept hBn
  have he5 := he3.kept hBn
  have hc5 := (hBn.cell (show (⟨g, 2 * n, none⟩ : Addr).block < _ from hg3)).trans hc3
  have hg5 := Nat.lt_of_lt_of_le hg3 hBn.size
  have HX5 := Hid.mk hx5
  have HE5 := Hid.mk he5
  clear p3 hBb hB4 hx3 he3 hc3 hg3 hBn o5 q4 hx5 he5
  go_wp2_with (first | (refine wl_value rfl (look_st rfl isPk q5 (by rfl)) ?_) | (go_at_call 10; refine (HB1.out _ _ HE5.out).mono ?_; rintro e u6 ⟨rfl, hB6⟩; refine Hid.out ?_))
  refine Hid.mk ?_
  have p6 := p5.kept hB6
  have q6 := q5.kept hB6
  have HX6 := Hid.mk (HX5.out.kept hB6)
  have HE6 := Hid.mk (HE5.out.kept hB6)
  have hc6 := (hB6.cell (show (⟨g, 2 * n, none⟩ : Addr).block < _ from hg5)).trans hc5
  have hg6 := Nat.lt_of_lt_of_le hg5 hB6.size
  have hBe := hBd.trans (hB6.mono hBd.size)
  clear p5 q5 HX5 HE5 hc5 hg5 hBd hB6 HB1
  go_wp2_with (first | (refine wl_value rfl (look_st rfl isPk p6 (by rfl)) ?_) | (go_at_call 11; refine (HB2.out _ _ HX6.out).mono ?_; rintro e u7 ⟨rfl, hB7⟩; refine Hid.out ?_))
  refine Hid.mk ?_
  have p7 := p6.kept hB7
  have q7 := q6.kept hB7
  have HX7 := Hid.mk (HX6.out.kept hB7)
  have HE7 := Hid.mk (HE6.out.kept hB7)
  have hc7 := (hB7.cell (show (⟨g, 2 * n, none⟩ : Addr).block < _ from hg6)).trans hc6
  have hg7 := Nat.lt_of_lt_of_le hg6 hB7.size
  have hBf := hBe.trans (hB7.mono hBe.size)
  clear p6 q6 HX6 HE6 hc6 hg6 hBe hB7 HB2
  go_wp2_with (first | (refine wl_value rfl (look_st rfl isPk p7 (by rfl)) ?_) | (refine wl_value rfl (look_st rfl isPk q7 (by rfl)) ?_) | (go_at_call 12; refine (HSA.out _ _ _ HE7.out HX7.out).mono ?_; rintro e u9 ⟨rfl, hB9⟩; refine Hid.out ?_))
  refine Hid.mk ?_
  have p9 := p7.kept hB9
  have q9 := q7.kept hB9
  have HX2 := Hid.mk (HX7.out.kept hB9)
  have HX1 := Hid.mk (HE7.out.kept hB9)
  have hc9 := (hB9.cell (show (⟨g, 2 * n, none⟩ : Addr).block < _ from hg7)).trans hc7
  have hg9 := Nat.lt_of_lt_of_le hg7 hB9.size
  have hBg := hBf.trans (hB9.mono hBf.size)
  have HC : Hid (u9.cell? (((⟨g, 0, none⟩ : Addr).add (2 * n)).add 0) = some (.int .i64 77)) := Hid.mk (by
    rw [Addr.add_add, Addr.add_lit, Nat.zero_add, Nat.add_zero]
    exact hc9)
  have HGL : Hid ((((⟨g, 0, none⟩ : Addr).add (2 * n)).add 0).block < u9.heap.size) := Hid.mk (by rw [add_blk, add_blk]; exact hg9)
  have HR1 := Hid.mk (fun ww h => HR1'.out (.slice (some ⟨g, 0, none⟩) n cap) ww h)
  have HR2 := Hid.mk (fun ww h => HR2'.out v ww h)
  have HZ1 := Hid.mk (fun ww h => HZ1'.out (.slice (some ⟨g, 0, none⟩) n cap) ww h)
  have HZ2 := Hid.mk (fun ww h => HZ2'.out v ww h)
  clear p7 q7 HX7 HE7 hc7 hg7 hBf hB9 HSA hc9 hg9 HR1' HR2' HZ1' HZ2'
  go_upto_region 6 with fail
  refine wp_region3 (Below u9.heap.size u9) u9.heap.size
      ([] : List (Nat × Cont))
      (kv (.bool true) :: kv (.bool true) :: kv (.string BT) :: kv (.string BT) :: kv (.bool true) :: kv (.bool true) :: kv (.bool true) :: kv (.int .i64 BE) :: kv (.int .i64 BE) :: kv (.bool true) :: kv (.bool true) :: kv (.bool true) :: kv (.bool true) :: kv (.bool true) :: kv (.bool true) :: kv (.slice (some ⟨g, 0, none⟩) (n + 1) cap) :: kv (.slice (some ⟨g, 0, none⟩) (n + 1) cap) :: kv (.int .i64 ((n + 1 : Nat) : Int)) :: kv (.int .i64 ((n : Nat) : Int)) :: kv (.pointer (some ((⟨g, 0, none⟩ : Addr).add (2 * n)))) :: kv (.pointer (some (((⟨g, 0, none⟩ : Addr).add (2 * n)).add 0))) :: kv (.int .i64 77) :: kv (.bool true) :: kv (.bool true) :: kv (.bool true) :: kv (.agg (SC 46 (pkV P (.slice (some ⟨g, 0, none⟩) n cap)))) :: kv (.bool RB) :: kv (.agg (SC 46 (pkV P v))) :: kv (.bool RB) :: kv (.bool true) :: kv (.bool true) :: kv (.bool true) :: kv (.agg (SC 46 (pkV P (.slice (some ⟨g, 0, none⟩) n cap)))) :: kv (.int .i64 ((SZ : Nat) : Int)) :: kv (.agg (SC 46 (pkV P v))) :: kv (.int .i64 ((SZ : Nat) : Int)) :: kv (.bool true) :: kv (.bool true) :: kv (.bool true) :: [])
      (.none :: .none :: .none :: .none :: .none :: .none :: .none :: .none :: .none :: .none :: .none :: .none :: .none :: .none :: .none :: .none :: .none :: .none :: .none :: .none :: .none :: .none :: .none :: .none :: .none :: .none :: .none :: .none :: .none :: .none :: .none :: .none :: .none :: .none :: .none :: .none :: .none :: .none :: .none :: [])
      (some 30 :: some 31 :: some 32 :: some 33 :: some 34 :: some 35 :: some 36 :: some 37 :: some 38 :: some 39 :: some 40 :: some 41 :: some 42 :: some 43 :: some 44 :: some 45 :: some 46 :: some 47 :: some 48 :: some 49 :: some 50 :: some 51 :: some 52 :: some 53 :: some 54 :: some 55 :: some 56 :: some 57 :: some 58 :: some 59 :: some 60 :: some 61 :: some 62 :: some 63 :: some 64 :: some 65 :: some 66 :: some 67 :: some 2 :: [])
      [(3, .bool true), (6, .string BT), (8, .string BT), (7, .int .i64 BE), (9, .int .i64 BE), (10, .bool true), (5, .slice (some ⟨g, 0, none⟩) (n + 1) cap), (4, .pointer (some ⟨g4, 0, none⟩)), (1, .pointer (some ⟨g1, 0, none⟩))]
      ([] :: [.slot 0] :: [.slot 1] :: [.slot 1] :: [.slot 1, .slot 2, .slot 3] :: [.slot 1, .slot 4] :: [.slot 5] :: [.slot 6] :: [.slot 6] :: [.slot 6, .slot 7, .slot 8] :: [.slot 6, .slot 9] :: [.slot 10] :: [.slot 11] :: [.slot 11, .slot 12] :: [.slot 13] :: [.slot 14] :: [.slot 14] :: [.slot 14, .slot 16] :: [.slot 14, .slot 17] :: [.slot 14, .slot 15, .slot 18] :: [.slot 14, .slot 19] :: [.slot 14, .slot 20] :: [.slot 14, .slot 21] :: [.slot 14, .slot 22] :: [.slot 23] :: [.slot 24] :: [.slot 24, .slot 25] :: [.slot 24] :: [.slot 24, .slot 27] :: [.slot 24, .slot 26, .slot 28] :: [.slot 24, .slot 29] :: [.slot 30] :: [.slot 31] :: [.slot 31, .slot 32] :: [.slot 31] :: [.slot 31, .slot 34] :: [.slot 31, .slot 33, .slot 35] :: [.slot 31, .slot 36] :: [.slot 37] :: [])
      [.slot 38] (30 :: 31 :: 32 :: 33 :: 34 :: 35 :: 36 :: 37 :: 38 :: 39 :: 40 :: 41 :: 42 :: 43 :: 44 :: 45 :: 46 :: 47 :: 48 :: 49 :: 50 :: 51 :: 52 :: 53 :: 54 :: 55 :: 56 :: 57 :: 58 :: 59 :: 60 :: 61 :: 62 :: 63 :: 64 :: 65 :: 66 :: 67 :: 2 :: [])
      rfl (by kernel_rfl) ⟨rfl, rfl, rfl, rfl, rfl, rfl, rfl, rfl, rfl, trivial⟩ ((Below.refl _ u9).drew) (Nat.le_refl _) trivial trivial (below_GcW (Nat.le_refl _))
      ⟨
      (fun QQ aa ww own hS hBg fr kn => .inl ⟨trivial, fun K hK => wp_value (exec_move rfl fr.1) (hK _ _ ⟨Touch.refl _ _, rfl⟩)⟩),
      (fun QQ aa ww own hS hBg fr kn => .inl ⟨trivial, fun K hK => wp_value (exec_move rfl kn.1) (hK _ _ ⟨Touch.refl _ _, rfl⟩)⟩),
      (fun QQ aa ww own hS hBg fr kn => .inl ⟨kn.1, fun K hK => wp_value (exec_move rfl fr.2.1) (hK _ _ ⟨Touch.refl _ _, rfl⟩)⟩),
      (fun QQ aa ww own hS hBg fr kn => .inl ⟨kn.1, fun K hK => wp_value (exec_move rfl fr.2.2.1) (hK _ _ ⟨Touch.refl _ _, rfl⟩)⟩),
      (fun QQ aa ww own hS hBg fr kn => .inl ⟨kn.1, fun K hK => wp_value (exec_eqT (s := BT) (t := BT) rfl rfl kn.2.1 kn.2.2.1) (hK _ _ ⟨Touch.refl _ _, rfl⟩)⟩),
      (fun QQ aa ww own hS hBg fr kn => .inl ⟨trivial, fun K hK => wp_value (exec_pick (v := .bool true) rfl kn.1 kn.2.1) (hK _ _ ⟨Touch.refl _ _, rfl⟩)⟩),
      (fun QQ aa ww own hS hBg fr kn => .inl ⟨trivial, fun K hK => wp_value (exec_move rfl kn.1) (hK _ _ ⟨Touch.refl _ _, rfl⟩)⟩),
      (fun QQ aa ww own hS hBg fr kn => .inl ⟨kn.1, fun K hK => wp_value (exec_move rfl fr.2.2.2.1) (hK _ _ ⟨Touch.refl _ _, rfl⟩)⟩),
      (fun QQ aa ww own hS hBg fr kn => .inl ⟨kn.1, fun K hK => wp_value (exec_move rfl fr.2.2.2.2.1) (hK _ _ ⟨Touch.refl _ _, rfl⟩)⟩),
      (fun QQ aa ww own hS hBg fr kn => .inl ⟨kn.1, fun K hK => wp_value (exec_eqEt (m := BE) (n := BE) rfl rfl kn.2.1 kn.2.2.1) (hK _ _ ⟨Touch.refl _ _, rfl⟩)⟩),
      (fun QQ aa ww own hS hBg fr kn => .inl ⟨trivial, fun K hK => wp_value (exec_pick (v := .bool true) rfl kn.1 kn.2.1) (hK _ _ ⟨Touch.refl _ _, rfl⟩)⟩),
      (fun QQ aa ww own hS hBg fr kn => .inl ⟨trivial, fun K hK => wp_value (exec_move rfl kn.1) (hK _ _ ⟨Touch.refl _ _, rfl⟩)⟩),
      (fun QQ aa ww own hS hBg fr kn => .inl ⟨kn.1, fun K hK => wp_value (exec_move rfl fr.2.2.2.2.2.1) (hK _ _ ⟨Touch.refl _ _, rfl⟩)⟩),
      (fun QQ aa ww own hS hBg fr kn => .inl ⟨trivial, fun K hK => wp_value (exec_pick (v := .bool true) rfl kn.1 kn.2.1) (hK _ _ ⟨Touch.refl _ _, rfl⟩)⟩),
      (fun QQ aa ww own hS hBg fr kn => .inl ⟨trivial, fun K hK => wp_value (exec_move rfl kn.1) (hK _ _ ⟨Touch.refl _ _, rfl⟩)⟩),
      (fun QQ aa ww own hS hBg fr kn => .inl ⟨kn.1, fun K hK => wp_value (exec_move rfl fr.2.2.2.2.2.2.1) (hK _ _ ⟨Touch.refl _ _, rfl⟩)⟩),
      (fun QQ aa ww own hS hBg fr kn => .inl ⟨kn.1, fun K hK => wp_value (exec_move rfl fr.2.2.2.2.2.2.1) (hK _ _ ⟨Touch.refl _ _, rfl⟩)⟩),
      (fun QQ aa ww own hS hBg fr kn => .inl ⟨kn.1, fun K hK => wp_value (exec_lenX rfl kn.2.1) (hK _ _ ⟨Touch.refl _ _, rfl⟩)⟩),
      (fun QQ aa ww own hS hBg fr kn => .inl ⟨kn.1, fun K hK => wp_value (exec_subW (i := n + 1) (m := 1) (q := n) rfl kn.2.1 rfl (by omega) (by omega)) (hK _ _ ⟨Touch.refl _ _, rfl⟩)⟩),
      (fun QQ aa ww own hS hBg fr kn => .inl ⟨kn.1, fun K hK => wp_value (exec_ixE (i := n) rfl kn.2.1 kn.2.2.1 (by omega)) (hK _ _ ⟨Touch.refl _ _, rfl⟩)⟩),
      (fun QQ aa ww own hS hBg fr kn => .inl ⟨kn.1, fun K hK => wp_value (exec_fex 0 (by decide) rfl kn.2.1) (hK _ _ ⟨Touch.refl _ _, rfl⟩)⟩),
      (fun QQ aa ww own hS hBg fr kn => .inl ⟨kn.1, fun K hK => wp_value (exec_ld rfl kn.2.1 (ldP ((hS.cell HGL.out).trans HC.out))) (hK _ _ ⟨Touch.refl _ _, rfl⟩)⟩),
      (fun QQ aa ww own hS hBg fr kn => .inl ⟨kn.1, fun K hK => wp_value (exec_eqIt (m := 77) (n := 77) rfl rfl kn.2.1 rfl) (hK _ _ ⟨Touch.refl _ _, rfl⟩)⟩),
      (fun QQ aa ww own hS hBg fr kn => .inl ⟨trivial, fun K hK => wp_value (exec_pick (v := .bool true) rfl kn.1 kn.2.1) (hK _ _ ⟨Touch.refl _ _, rfl⟩)⟩),
      (fun QQ aa ww own hS hBg fr kn => .inl ⟨trivial, fun K hK => wp_value (exec_move rfl kn.1) (hK _ _ ⟨Touch.refl _ _, rfl⟩)⟩),
      (fun QQ aa ww own hS hBg fr kn => .inl ⟨kn.1, fun K hK => wp_value (look_st rfl isPk (SAt.kept q9 hS) fr.2.2.2.2.2.2.2.1) (hK _ _ ⟨Touch.refl _ _, rfl⟩)⟩),
      (fun QQ aa ww own hS hBg fr kn => .inl ⟨kn.1, fun K hK => stepc en_Right rfl (args1 kn.2.1) (HR1.out ww (HX1.out.kept hS)) (fun w' hb => hK _ _ ⟨touch_below hb, rfl⟩)⟩),
      (fun QQ aa ww own hS hBg fr kn => .inl ⟨kn.1, fun K hK => wp_value (look_st rfl isPk (SAt.kept p9 hS) fr.2.2.2.2.2.2.2.2.1) (hK _ _ ⟨Touch.refl _ _, rfl⟩)⟩),
      (fun QQ aa ww own hS hBg fr kn => .inl ⟨kn.1, fun K hK => stepc en_rRight rfl (args1 kn.2.1) (HR2.out ww (HX2.out.kept hS)) (fun w' hb => hK _ _ ⟨touch_below hb, rfl⟩)⟩),
      (fun QQ aa ww own hS hBg fr kn => .inl ⟨kn.1, fun K hK => wp_value (exec_eqBt (m := RB) (n := RB) rfl rfl kn.2.1 kn.2.2.1) (hK _ _ ⟨Touch.refl _ _, rfl⟩)⟩),
      (fun QQ aa ww own hS hBg fr kn => .inl ⟨trivial, fun K hK => wp_value (exec_pick (v := .bool true) rfl kn.1 kn.2.1) (hK _ _ ⟨Touch.refl _ _, rfl⟩)⟩),
      (fun QQ aa ww own hS hBg fr kn => .inl ⟨trivial, fun K hK => wp_value (exec_move rfl kn.1) (hK _ _ ⟨Touch.refl _ _, rfl⟩)⟩),
      (fun QQ aa ww own hS hBg fr kn => .inl ⟨kn.1, fun K hK => wp_value (look_st rfl isPk (SAt.kept q9 hS) fr.2.2.2.2.2.2.2.1) (hK _ _ ⟨Touch.refl _ _, rfl⟩)⟩),
      (fun QQ aa ww own hS hBg fr kn => .inl ⟨kn.1, fun K hK => stepc en_Size rfl (args1 kn.2.1) (HZ1.out ww (HX1.out.kept hS)) (fun w' hb => hK _ _ ⟨touch_below hb, rfl⟩)⟩),
      (fun QQ aa ww own hS hBg fr kn => .inl ⟨kn.1, fun K hK => wp_value (look_st rfl isPk (SAt.kept p9 hS) fr.2.2.2.2.2.2.2.2.1) (hK _ _ ⟨Touch.refl _ _, rfl⟩)⟩),
      (fun QQ aa ww own hS hBg fr kn => .inl ⟨kn.1, fun K hK => stepc en_rSize rfl (args1 kn.2.1) (HZ2.out ww (HX2.out.kept hS)) (fun w' hb => hK _ _ ⟨touch_below hb, rfl⟩)⟩),
      (fun QQ aa ww own hS hBg fr kn => .inl ⟨kn.1, fun K hK => wp_value (exec_eqIt (m := ((SZ : Nat) : Int)) (n := ((SZ : Nat) : Int)) rfl rfl kn.2.1 kn.2.2.1) (hK _ _ ⟨Touch.refl _ _, rfl⟩)⟩),
      (fun QQ aa ww own hS hBg fr kn => .inl ⟨trivial, fun K hK => wp_value (exec_pick (v := .bool true) rfl kn.1 kn.2.1) (hK _ _ ⟨Touch.refl _ _, rfl⟩)⟩),
      (fun QQ aa ww own hS hBg fr kn => .inl ⟨trivial, fun K hK => wp_value (exec_assign rfl kn.1) (hK _ _ ⟨Touch.refl _ _, rfl⟩)⟩),
      trivial⟩ ?_
  intro vs own u10 hB10 hsz kn inj
  have e2 : vs 2 = .bool true := kn.1
  clear kn inj hsz
  simp only [putAll, Act.put, List.setIfInBounds_toArray, List.set_cons_zero, List.set_cons_succ, e2]
  clear e2
  go_wp2_with fail
  go_ret
  exact ⟨rfl, hBg.trans (hB10.mono hBg.size)⟩
end Go.Proofs.Ytdlepeogmjmleaa
/-
  Own text. A packet as an argument.
-/
namespace Go.Proofs.Ytdlepeogmjmleaa
open Go.ChangeShapes Go.WideShapes Go.ChangeAt Go.WideMaps Go.WideElems Go.RowKit Go.Proofs
set_option maxRecDepth 100000
theorem laid13 : laidOutB Try.prog = true := by kernel_rfl
theorem cells8 : Try.prog.cellsOf 5 = 1 := by kernel_rfl
theorem tk1 {cs : List Value} {o : Nat} {x : Value} (h : (cs.drop o).take 1 = [x]) : cs[o]? = some x := by
  have h1 : ((cs.drop o).take 1)[0]? = some x := by rw [h]; rfl
  rw [List.getElem?_take, if_pos (by omega), List.getElem?_drop] at h1
  simpa using h1
theorem tkN {cs : List Value} {o n i : Nat} (hi : i < n) : ((cs.drop o).take n)[i]? = cs[o + i]? := by
  rw [List.getElem?_take, if_pos hi, List.getElem?_drop]
theorem sc_list {cs : List Value} {n : Nat} {V : Nat → Value} (hl : cs.length = n) (h : ∀ i, i < n → cs[i]? = some (V i)) : cs = (SC n V).toList := by
  apply List.ext_getElem?
  intro i
  by_cases hi : i < n
  · rw [h i hi, Array.getElem?_toList, SC_get n V i hi]
  · rw [List.getElem?_eq_none (by omega), List.getElem?_eq_none (by rw [Array.length_toList, SC_size]; omega)]
def kOf : Value → Int
  | .int .i64 k => k
  | _ => 0
def sOf : Value → ByteArray
  | .string s => s
  | _ => ByteArray.empty
theorem weightsAll_mem {H : Type} {P : Program} {e : TypeId} : ∀ {l : List (DataW H)} {d : DataW H}, d ∈ l → ∀ n ∈ d.weights P e, n ∈ DataW.weightsAll P e l
  | [], _, h, _, _ => by cases h
  | a :: l, d, h, n, hn => by
    unfold DataW.weightsAll
    rcases List.mem_cons.1 h with rfl | h
    · exact List.mem_append.2 (.inl hn)
    · exact List.mem_append.2 (.inr (weightsAll_mem h n hn))
theorem sized_all {H : Type} {P : Program} {ts : List TypeId} {ds : List (DataW H)} (h : (DataW.weightsEach P ts ds).all (· ≤ reachBytes) = true) {j : Nat} {t : TypeId} {d : DataW H} (ht : ts[j]? = some t) (hd : ds[j]? = some d) : ∀ n ∈ d.weights P t, n ≤ reachBytes := fun n hn => by
  simpa using List.all_eq_true.1 h n (DataW.weights_mem_each ht hd n hn)
section
variable {H : Type} {enc : TypeId × Value → H} {w : World} {base : Nat} {sp : Nat → Bool} {held : Bool} {fuel : Nat} {cs : List Value} {x : DataW H × List MemPlace}
theorem trod_16 (h : DataW.trod enc Try.prog w base sp held fuel 22 cs = some x) : ∃ b, Byts 16 b ∧ (∀ i, i < 16 → cs[i]? = some (.int .u8 (b i))) := by
  obtain ⟨xs, m, _, hx, _, hl, hel⟩ := DataW.trod_array Try.underlying22 h
  have key : ∀ i, i < 16 → ∃ k : Int, cs[i]? = some (.int .u8 k) ∧ (0 ≤ k ∧ k < 256) := fun i hi => by
    have hi' := hel i hi
    rw [cells8, Nat.mul_one] at hi'
    have hxs : i < xs.length := by omega
    rw [List.getElem?_eq_getElem hxs] at hi'
    obtain ⟨k, e1, e2, wk⟩ := DataW.trod_int Try.underlying5 hi'
    have := bounds_u8 wk
    exact ⟨k, tk1 e1, by omega⟩
  refine ⟨fun i => match cs[i]? with | some (.int .u8 k) => k | _ => 0, fun i hi => ?_, fun i hi => ?_⟩
  · obtain ⟨k, e, hk⟩ := key i hi
    simp only [e]
    exact hk
  · obtain ⟨k, e, hk⟩ := key i hi
    simp only [e]
theorem adF : ∃ f0 f1 : Field, Try.prog.underlying 24 = some (.struct #[f0, f1]) ∧ f0.type = 4 ∧ f1.type = 22 ∧ f0.offset = 0 ∧ f1.offset = 1 := ⟨_, _, Try.underlying24, rfl, rfl, rfl, rfl⟩
theorem cAd : Try.prog.cellsOf 24 = 17 := by kernel_rfl
theorem cBo : Try.prog.cellsOf 4 = 1 := by kernel_rfl
theorem cIn : Try.prog.cellsOf 3 = 1 := by kernel_rfl
theorem cSt : Try.prog.cellsOf 9 = 1 := by kernel_rfl
theorem cEs : Try.prog.cellsOf 25 = 1 := by kernel_rfl
theorem c16 : Try.prog.cellsOf 22 = 16 := by kernel_rfl
theorem cPk : Try.prog.cellsOf 27 = 46 := by kernel_rfl
theorem trod_ad (h : DataW.trod enc Try.prog w base sp held fuel 24 cs = some x) : ∃ v b, Byts 16 b ∧ (∀ i, i < 17 → cs[i]? = some (adV v b i)) := by
  obtain ⟨f0, f1, hu, e0, e1, o0, o1⟩ := adF
  obtain ⟨y0, y1, n, hx, hl, h0, h1⟩ := trod_struct2 hu h
  rw [e0, o0, cBo] at h0
  rw [e1, o1, c16] at h1
  obtain ⟨v, hv, hv2⟩ := DataW.trod_bool Try.underlying4 h0
  obtain ⟨b, hb, hbs⟩ := trod_16 h1
  refine ⟨v, b, hb, fun i hi => ?_⟩
  by_cases e : i < 1
  · obtain rfl : i = 0 := by omega
    exact tk1 hv
  · have := hbs (i - 1) (by omega)
    rw [tkN (by omega), show 1 + (i - 1) = i by omega] at this
    rw [this]
    unfold adV
    rw [if_neg e]
theorem exF : ∃ f0 f1 : Field, Try.prog.underlying 36 = some (.struct #[f0, f1]) ∧ f0.type = 3 ∧ f1.type = 9 ∧ f0.offset = 0 ∧ f1.offset = 1 := ⟨_, _, Try.underlying36, rfl, rfl, rfl, rfl⟩
theorem bytesEx : Try.prog.bytesOf 36 = 24 := by kernel_rfl
theorem open_exs (h : DataW.trod enc Try.prog w base sp held fuel 25 cs = some x) : ∃ vs l, cs = [vs] ∧ ExAt w vs l ∧ ((∀ n ∈ x.1.weights Try.prog 25, n ≤ reachBytes) → l.length * 24 ≤ reachBytes ∧ ∀ y ∈ l, y.body.size ≤ reachBytes) := by
  obtain ⟨f0, f1, hu, e0, e1, o0, o1⟩ := exF
  rcases Go.Deep.open_slice_pairs Try.underlying25 hu (by kernel_rfl) o0 o1 (by rw [e0]; exact cIn) (by rw [e1]; exact cSt) h with ⟨hcs, hx⟩ | ⟨a, len, cap, m, n, V0, V1, D0, D1, P0, P1, hcs, hb, hl, hm, hmm, hx, hcell⟩
  · exact ⟨_, [], hcs, ExAt.nil w, fun _ => ⟨Nat.zero_le _, fun y hy => by cases hy⟩⟩
  have hle : len ≤ m := by rw [hmm]; split <;> omega
  have each : ∀ i, i < len → V0 i = .int .i64 (kOf (V0 i)) ∧ V1 i = .string (sOf (V1 i)) ∧ D1 i = .lit (.string (sOf (V1 i)).data.toList) := fun i hi => by
    obtain ⟨_, _, t0, t1⟩ := hcell i (by omega)
    rw [e0] at t0
    rw [e1] at t1
    obtain ⟨k, q1, _, _⟩ := DataW.trod_int Try.underlying3 t0
    obtain ⟨s, q2, q3, _⟩ := DataW.trod_string Try.underlying9 t1
    injection q1 with q1
    injection q2 with q2
    injection q3 with q3
    rw [q1, q2, q3]
    exact ⟨rfl, rfl, rfl⟩
  have hat : ∀ j y, ((List.range len).map fun i => Ex.mk (kOf (V0 i)) (sOf (V1 i)))[j]? = some y → j < len ∧ y = ⟨kOf (V0 j), sOf (V1 j)⟩ := fun j y hj => by
    have hjl : j < len := by
      have := (List.getElem?_eq_some_iff.1 hj).1
      simpa using this
    rw [List.getElem?_map, List.getElem?_range hjl] at hj
    exact ⟨hjl, (Option.some.inj hj).symm⟩
  refine ⟨_, (List.range len).map fun i => ⟨kOf (V0 i), sOf (V1 i)⟩, hcs, ⟨some a, cap, by simp, fun j y hj => ?_⟩, fun hw => ⟨?_, fun y hy => ?_⟩⟩
  · obtain ⟨hjl, rfl⟩ := hat j y hj
    obtain ⟨t0, t1, _, _⟩ := hcell j (by omega)
    obtain ⟨q0, q1, _⟩ := each j hjl
    rw [q0, Nat.mul_comm] at t0
    rw [q1, Nat.mul_comm] at t1
    have hbk := World.block_lt_of_cell? w _ t0
    rw [add_blk] at hbk
    exact ⟨a, rfl, hbk, t0, t1⟩
  · have h1 := hw ((len + (m - len)) * 24) (by
      rw [hx]
      unfold DataW.weights
      rw [Try.underlying25]
      simp only [List.length_map, List.length_range]
      show _ ∈ (_ * Try.prog.bytesOf 36) :: _
      rw [bytesEx]
      exact List.mem_cons_self ..)
    simp only [List.length_map, List.length_range]
    omega
  · obtain ⟨i, hi, rfl⟩ := List.mem_map.1 hy
    have hil : i < len := List.mem_range.1 hi
    obtain ⟨_, _, q3⟩ := each i hil
    refine hw (sOf (V1 i)).size ?_
    rw [hx]
    unfold DataW.weights
    rw [Try.underlying25]
    refine List.mem_cons_of_mem _ (List.mem_append.2 (.inl (weightsAll_mem (d := .agg [D0 i, D1 i]) (List.mem_map.2 ⟨i, hi, rfl⟩) _ ?_)))
    unfold DataW.weights
    rw [hu]
    show _ ∈ DataW.weightsEach Try.prog [f0.type, f1.type] [D0 i, D1 i]
    unfold DataW.weightsEach
    refine List.mem_append.2 (.inr ?_)
    unfold DataW.weightsEach
    refine List.mem_append.2 (.inl ?_)
    rw [q3]
    unfold DataW.weights
    exact List.mem_singleton.2 rfl
theorem pkF : ∃ f0 f1 f2 f3 f4 f5 f6 f7 f8 f9 f10 f11 f12 f13 : Field, Try.prog.underlying 27 = some (.struct #[f0, f1, f2, f3, f4, f5, f6, f7, f8, f9, f10, f11, f12, f13]) ∧ f0.type = 24 ∧ f0.offset = 0 ∧ f1.type = 24 ∧ f1.offset = 17 ∧ f2.type = 3 ∧ f2.offset = 34 ∧ f3.type = 3 ∧ f3.offset = 35 ∧ f4.type = 3 ∧ f4.offset = 36 ∧ f5.type = 3 ∧ f5.offset = 37 ∧ f6.type = 3 ∧ f6.offset = 38 ∧ f7.type = 4 ∧ f7.offset = 39 ∧ f8.type = 4 ∧ f8.offset = 40 ∧ f9.type = 9 ∧ f9.offset = 41 ∧ f10.type = 3 ∧ f10.offset = 42 ∧ f11.type = 25 ∧ f11.offset = 43 ∧ f12.type = 4 ∧ f12.offset = 44 ∧ f13.type = 9 ∧ f13.offset = 45 := ⟨_, _, _, _, _, _, _, _, _, _, _, _, _, _, Try.underlying27, rfl, rfl, rfl, rfl, rfl, rfl, rfl, rfl, rfl, rfl, rfl, rfl, rfl, rfl, rfl, rfl, rfl, rfl, rfl, rfl, rfl, rfl, rfl, rfl, rfl, rfl, rfl, rfl⟩
end
section
variable {H : Type} {enc : TypeId × Value → H} {W : World} {base : Nat} {sp : Nat → Bool} {v : Value} {d : DataW H} {p : List MemPlace}
/-- An argument that is a packet. -/
theorem open_pk (hv : Value.okWide Try.prog W .any base 27 v) (h : DataW.Trod enc Try.prog W 0 sp true 27 v d p) : ∃ P vs, PkOk P ∧ v = .agg (SC 46 (pkV P vs)) ∧ ExAt W vs P.exts ∧ ((∀ n ∈ d.weights Try.prog 27, n ≤ reachBytes) → PkArg P) := by
  obtain ⟨cs, rfl, hsz, _⟩ : ∃ cs, v = .agg cs ∧ cs.size = Try.prog.cellsOf 27 ∧ Row.okWide Try.prog W .any base 27 cs := by
    simpa [Value.okWide, Try.underlying27] using hv
  obtain ⟨fuel, hf⟩ := h
  obtain ⟨f0, f1, f2, f3, f4, f5, f6, f7, f8, f9, f10, f11, f12, f13, hu, e0, o0, e1, o1, e2, o2, e3, o3, e4, o4, e5, o5, e6, o6, e7, o7, e8, o8, e9, o9, e10, o10, e11, o11, e12, o12, e13, o13⟩ := pkF
  obtain ⟨xs, n', _, hxx, hl, hxl, hff⟩ := DataW.trod_struct hu hf
  rw [cPk] at hl
  obtain ⟨y0, y1, y2, y3, y4, y5, y6, y7, y8, y9, y10, y11, y12, y13, rfl⟩ : ∃ y0 y1 y2 y3 y4 y5 y6 y7 y8 y9 y10 y11 y12 y13, xs = [y0, y1, y2, y3, y4, y5, y6, y7, y8, y9, y10, y11, y12, y13] := by
    match xs, hxl with
    | [c0, c1, c2, c3, c4, c5, c6, c7, c8, c9, c10, c11, c12, c13], _ => exact ⟨_, _, _, _, _, _, _, _, _, _, _, _, _, _, rfl⟩
  have g0 := hff 0 f0 rfl
  rw [e0, o0, cAd] at g0
  have g1 := hff 1 f1 rfl
  rw [e1, o1, cAd] at g1
  have g2 := hff 2 f2 rfl
  rw [e2, o2, cIn] at g2
  have g3 := hff 3 f3 rfl
  rw [e3, o3, cIn] at g3
  have g4 := hff 4 f4 rfl
  rw [e4, o4, cIn] at g4
  have g5 := hff 5 f5 rfl
  rw [e5, o5, cIn] at g5
  have g6 := hff 6 f6 rfl
  rw [e6, o6, cIn] at g6
  have g7 := hff 7 f7 rfl
  rw [e7, o7, cBo] at g7
  have g8 := hff 8 f8 rfl
  rw [e8, o8, cBo] at g8
  have g9 := hff 9 f9 rfl
  rw [e9, o9, cSt] at g9
  have g10 := hff 10 f10 rfl
  rw [e10, o10, cIn] at g10
  have g11 := hff 11 f11 rfl
  rw [e11, o11, cEs] at g11
  have g12 := hff 12 f12 rfl
  rw [e12, o12, cBo] at g12
  have g13 := hff 13 f13 rfl
  rw [e13, o13, cSt] at g13
  obtain ⟨sv, sb, hsb, hs⟩ := trod_ad g0
  obtain ⟨dv, db, hdb, hd⟩ := trod_ad g1
  obtain ⟨pr, h2, _, _⟩ := DataW.trod_int Try.underlying3 g2
  obtain ⟨ho, h3, _, _⟩ := DataW.trod_int Try.underlying3 g3
  obtain ⟨cl, h4, _, _⟩ := DataW.trod_int Try.underlying3 g4
  obtain ⟨id, h5, _, _⟩ := DataW.trod_int Try.underlying3 g5
  obtain ⟨off, h6, _, _⟩ := DataW.trod_int Try.underlying3 g6
  obtain ⟨fl, h10, _, _⟩ := DataW.trod_int Try.underlying3 g10
  obtain ⟨mo, h7, _⟩ := DataW.trod_bool Try.underlying4 g7
  obtain ⟨st, h8, _⟩ := DataW.trod_bool Try.underlying4 g8
  obtain ⟨cu, h12, _⟩ := DataW.trod_bool Try.underlying4 g12
  obtain ⟨op, h9, _, _⟩ := DataW.trod_string Try.underlying9 g9
  obtain ⟨py, h13, k13, _⟩ := DataW.trod_string Try.underlying9 g13
  obtain ⟨vs, l, h11, hE, hwt⟩ := open_exs g11
  obtain ⟨rfl, _⟩ := Prod.mk.inj hxx
  refine ⟨⟨sv, sb, dv, db, pr, ho, cl, id, off, mo, st, op, fl, l, cu, py⟩, vs, ⟨hsb, hdb⟩, ?_, hE, fun hw => ?_⟩
  · have e2 : cs.toList = (SC 46 (pkV ⟨sv, sb, dv, db, pr, ho, cl, id, off, mo, st, op, fl, l, cu, py⟩ vs)).toList := sc_list hl (fun i hi => by
      unfold pkV
      by_cases c1 : i < 17
      · have := hs i c1
        rw [tkN c1, Nat.zero_add] at this
        rw [if_pos c1]
        exact this
      · by_cases c2 : i < 34
        · have := hd (i - 17) (by omega)
          rw [tkN (by omega), show 17 + (i - 17) = i by omega] at this
          rw [if_neg c1, if_pos c2]
          exact this
        · rw [if_neg c1, if_neg c2]
          obtain ⟨j, rfl⟩ : ∃ j, i = 34 + j := ⟨i - 34, by omega⟩
          rw [Nat.add_sub_cancel_left]
          match j, (show j < 12 by omega) with
          | 0, _ => exact tk1 h2
          | 1, _ => exact tk1 h3
          | 2, _ => exact tk1 h4
          | 3, _ => exact tk1 h5
          | 4, _ => exact tk1 h6
          | 5, _ => exact tk1 h7
          | 6, _ => exact tk1 h8
          | 7, _ => exact tk1 h9
          | 8, _ => exact tk1 h10
          | 9, _ => exact tk1 h11
          | 10, _ => exact tk1 h12
          | 11, _ => exact tk1 h13
          )
    exact congrArg Value.agg (Array.toList_inj.1 e2)
  · have mem : ∀ (j : Nat) (t : TypeId) (dd : DataW H), ([f0.type, f1.type, f2.type, f3.type, f4.type, f5.type, f6.type, f7.type, f8.type, f9.type, f10.type, f11.type, f12.type, f13.type] : List TypeId)[j]? = some t → ([y0.1, y1.1, y2.1, y3.1, y4.1, y5.1, y6.1, y7.1, y8.1, y9.1, y10.1, y11.1, y12.1, y13.1] : List (DataW H))[j]? = some dd → ∀ n ∈ dd.weights Try.prog t, n ≤ reachBytes := fun j t dd ht hdd n hn => by
      refine hw n ?_
      unfold DataW.weights
      rw [hu]
      exact DataW.weights_mem_each (j := j) ht hdd n hn
    have m11 := hwt (fun n hn => mem 11 _ _ (by rw [← e11]; rfl) rfl n hn)
    have m13 := mem 13 9 y13.1 (by rw [← e13]; rfl) rfl py.size (by
      rw [k13]
      unfold DataW.weights
      exact List.mem_singleton.2 rfl)
    have hr : reachBytes = 140737488351232 := rfl
    rw [hr] at m11 m13
    exact ⟨⟨hsb, hdb⟩, m11.1, fun x hx => by have := m11.2 x hx; omega, by show py.size ≤ _; omega⟩
end
end Go.Proofs.Ytdlepeogmjmleaa
/-
  Own text. IpBack: what was built is read again as the packet that it was, whatever stands behind it.
-/
namespace Go.Proofs.Ytdlepeogmjmleaa
open Go.RowKit Go.Proofs
set_option maxRecDepth 100000
theorem bld_no {P : Pk} (h : rgtP P = false) : bldT P = ByteArray.empty ∧ bldE P = 1 := by
  unfold bldT bldE
  rw [h]
  exact ⟨rfl, rfl⟩
theorem bld_big {P : Pk} (h : rgtP P = true) (hf : fitP P = false) : bldT P = ByteArray.empty ∧ bldE P = 75 := by
  unfold bldT bldE
  rw [h, hf]
  exact ⟨rfl, rfl⟩
theorem bld_yes {P : Pk} (h : rgtP P = true) (hf : fitP P = true) : bldE P = 0 := by
  unfold bldE
  rw [h, hf]
  rfl
theorem fit_size {P : Pk} (h : rgtP P = true) (hf : fitP P = true) : (bldT P).size ≤ 65575 := by
  rw [bld_size h hf]
  unfold sizeP
  rw [if_pos h]
  unfold fitP at hf
  split at hf
  · exact of_decide_eq_true hf
  · have := of_decide_eq_true hf
    omega
theorem rgt_exts4 {P : Pk} (h : rgtP P = true) : P.exts.length ≤ 4 := by
  obtain ⟨_, _, _, _, _, _, _, _, hr⟩ := rgtP_iff.1 h
  split at hr
  · obtain ⟨_, _, _, hx, _⟩ := rgt6_iff.1 hr
    rcases exsOk_len hx with e | e
    · rw [e]; decide
    · omega
  · obtain ⟨_, _, _, _, hx, _⟩ := rgt4_iff.1 hr
    rw [hx]
    decide
set_option maxHeartbeats 8000000 in
theorem back_walk (P : Pk) (v : Value) (rest : ByteArray) (w : World) (h1 : ExAt w v P.exts) (hA : PkArg P) (hr : rest.size ≤ 140737488355328) : Calls Try.prog 6 #[.agg (SC 46 (pkV P v)), .string rest] w fun e w' => e = .returned (.bool true) ∧ Below w.heap.size w w' := by
  have hnl := hA.len
  have HB1 : Hid (∀ ww, ExAt ww v P.exts → Calls Try.prog 10 #[.agg (SC 46 (pkV P v))] ww fun e w' => e = .returned (.tuple #[.string (bldT P), .int .i64 (bldE P)]) ∧ Below ww.heap.size ww w') := Hid.mk (fun ww h => Build_run P v ww h hA.ok hnl hA.b hA.p)
  have HR1 : Hid (∀ ww, ExAt ww v P.exts → Calls Try.prog 13 #[.agg (SC 46 (pkV P v))] ww fun e w' => e = .returned (.bool (rgtP P)) ∧ Below ww.heap.size ww w') := Hid.mk (fun ww h => Right_run P v ww h hnl hA.b)
  have HZ1 : Hid (∀ ww, ExAt ww v P.exts → Calls Try.prog 15 #[.agg (SC 46 (pkV P v))] ww fun e w' => e = .returned (.int .i64 ((sizeP P : Nat) : Int)) ∧ Below ww.heap.size ww w') := Hid.mk (fun ww h => Size_run P v ww h hnl hA.b hA.p)
  have hvo := h1.one
  go_enter Try.func6, Try.ntmps6
  go_wp2_with (refine wl_boxO rfl rfl isPk (by rfl) ?_; intro g1 u1 hg1 p1 hB1; refine Hid.out ?_)
  refine Hid.mk ?_
  go_wp2_with (go_at_call 8; refine (awake_run _).mono ?_; rintro e u2 ⟨rfl, hB2⟩; refine Hid.out ?_)
  refine Hid.mk ?_
  have p2 := p1.kept hB2
  have hBa := hB1.trans (hB2.mono hB1.size)
  have HX := Hid.mk (h1.kept hBa)
  clear p1 hB1 hB2 h1
  go_wp2_with (first | (refine wl_value rfl (look_st rfl isPk p2 (by rfl)) ?_) | (go_at_call 10; refine (HB1.out _ HX.out).mono ?_; rintro e u3 ⟨rfl, hB3⟩; refine Hid.out ?_))
  refine Hid.mk ?_
  have p3 := p2.kept hB3
  have hBb := hBa.trans (hB3.mono hBa.size)
  have HX3 := Hid.mk (HX.out.kept hB3)
  clear p2 hBa hB3 HX HB1
  cases hR : rgtP P
  · rw [hR] at HR1
    obtain ⟨e1, e2⟩ := bld_no hR
    rw [e1, e2]
    clear hR e1 e2 hA HZ1
    go_wp2_with (first | (refine wl_value rfl (exec_eqT (s := ByteArray.empty) (t := ByteArray.empty) rfl rfl (by rfl) (by rfl)) ?_) | (refine wl_value rfl (look_st rfl isPk p3 (by rfl)) ?_) | (go_at_call 13; refine (HR1.out _ HX3.out).mono ?_; rintro e u4 ⟨rfl, hB4⟩; refine Hid.out ?_))
    refine Hid.mk ?_
    go_wp2_with fail
    go_ret
    exact ⟨rfl, hBb.trans (hB4.mono hBb.size)⟩
  cases hF : fitP P
  · rw [hR] at HR1
    obtain ⟨e1, e2⟩ := bld_big hR hF
    rw [e1, e2]
    clear hR hF e1 e2 hA HZ1
    go_wp2_with (first | (refine wl_value rfl (exec_eqT (s := ByteArray.empty) (t := ByteArray.empty) rfl rfl (by rfl) (by rfl)) ?_) | (refine wl_value rfl (look_st rfl isPk p3 (by rfl)) ?_) | (go_at_call 13; refine (HR1.out _ HX3.out).mono ?_; rintro e u4 ⟨rfl, hB4⟩; refine Hid.out ?_))
    refine Hid.mk ?_
    go_wp2_with fail
    go_ret
    exact ⟨rfl, hBb.trans (hB4.mono hBb.size)⟩
  · rw [bld_yes hR hF]
    obtain ⟨Q, hQ, hS⟩ := rd_bld hA.ok hR hF rest
    have hzB := fit_size hR hF
    have HSZ := Hid.mk (bld_size hR hF)
    have HPA : Hid (∀ ww, Calls Try.prog 18 #[.string (bldT P ++ rest)] ww fun e w' => Below ww.heap.size ww w' ∧ ∃ v, e = .returned (.tuple #[.agg (SC 46 (pkV Q v)), .int .i64 0]) ∧ v.oneCell' = true ∧ ExAt w' v Q.exts) := Hid.mk (fun ww => (Parse_ok hQ ww (by rw [ByteArray.size_append]; omega)).mono (fun e w' ⟨h1, v, h2, h3⟩ => ⟨h1, v, h2, h3.one, h3.exAt⟩))
    have hex : P.exts = Q.exts := by
      obtain ⟨_, _, _, _, _, _, _, _, _, _, _, _, _, e14, _⟩ := samP_iff.1 hS
      exact e14
    have HSA : Hid (∀ v2 ww, ExAt ww v P.exts → ExAt ww v2 Q.exts → Calls Try.prog 12 #[.agg (SC 46 (pkV P v)), .agg (SC 46 (pkV Q v2))] ww fun e w' => e = .returned (.bool true) ∧ Below ww.heap.size ww w') := Hid.mk (fun v2 ww h1 h2 => by
      have := rSame_run P Q v v2 ww h1 h2 hnl (by rw [← hex]; exact hnl)
      rw [hS] at this
      exact this)
    have HCC : Hid ((bldT P).size + rest.size ≤ 9223372036854775807) := Hid.mk (by omega)
    clear hR hF hA hQ hS hex hzB HR1
    generalize bldT P = BT at *
    generalize sizeP P = SZ at *
    go_wp2_with (first | (refine wl_value rfl (exec_catS rfl (by rfl) (by rfl) HCC.out) ?_) | (go_at_call 18; refine (HPA.out _).mono ?_; rintro e u4 ⟨hB4, v2, rfl, hon, hx4⟩; refine Hid.out ?_))
    refine Hid.mk ?_
    have p4 := p3.kept hB4
    have HX4 := Hid.mk (HX3.out.kept hB4)
    have hBc := hBb.trans (hB4.mono hBb.size)
    clear p3 HX3 hBb hB4 HPA
    go_wp2_with (refine wl_alO rfl rfl zeroPk ?_; intro g8 u5 hg8 q5 hB5; refine Hid.out ?_)
    refine Hid.mk ?_
    go_wp2_with (refine st_stO rfl rfl isPk (fun i => pkV_one hon i) q5 (by rfl) (by rfl) ?_; intro u6 q6 o6; refine Hid.out ?_)
    refine Hid.mk ?_
    have hBn : Below u4.heap.size u4 u6 := hB5.trans (o6.below hg8)
    have p6 := p4.kept hBn
    have HX6 := Hid.mk (HX4.out.kept hBn)
    have HY6 := Hid.mk (hx4.kept hBn)
    have hBd := hBc.trans (hBn.mono hBc.size)
    clear p4 HX4 hx4 hBc hBn hB5 o6 q5
    go_wp2_with (first | (refine wl_value rfl (look_st rfl isPk p6 (by rfl)) ?_) | (refine wl_value rfl (look_st rfl isPk q6 (by rfl)) ?_) | (go_at_call 12; refine (HSA.out _ _ HX6.out HY6.out).mono ?_; rintro e u7 ⟨rfl, hB7⟩; refine Hid.out ?_))
    refine Hid.mk ?_
    have p7 := p6.kept hB7
    have HX7 := Hid.mk (HX6.out.kept hB7)
    have hBe := hBd.trans (hB7.mono hBd.size)
    clear p6 q6 HX6 HY6 hBd hB7 HSA
    go_wp2_with (first | (refine wl_value rfl (exec_lenSV HSZ.out rfl (by rfl)) ?_) | (refine wl_value rfl (look_st rfl isPk p7 (by rfl)) ?_) | (go_at_call 15; refine (HZ1.out _ HX7.out).mono ?_; rintro e u8 ⟨rfl, hB8⟩; refine Hid.out ?_))
    refine Hid.mk ?_
    go_wp2_with fail
    go_ret
    exact ⟨rfl, hBe.trans (hB8.mono hBe.size)⟩
end Go.Proofs.Ytdlepeogmjmleaa
