/-
  Own text. The document's Split.
-/
import Derived.Test.YthnlfjkpiohooaaJ8
namespace Go.Proofs.Ythnlfjkpiohooaa
open Go.RowKit Go.Proofs
set_option maxRecDepth 100000
theorem exK_lt {w : World} {v : Value} {l : List Ex} (h : ExAt w v l) {k : Nat} (hk : exK v = some k) : k < w.heap.size := by
  obtain ⟨a, cap, rfl, h⟩ := h
  cases l with
  | nil => cases a <;> simp [exK] at hk
  | cons x l =>
    obtain ⟨ad, rfl, hl, _⟩ := h 0 x rfl
    have e : ad.block = k := by simpa [exK] using hk
    omega
theorem ExAt.keep {w w' : World} {v : Value} {l : List Ex} (h : ExAt w v l) (e : ∀ k, k < w.heap.size → w'.heap[k]? = w.heap[k]?) : ExAt w' v l := h.blk (fun k hk => e k (exK_lt h hk))
theorem ld_row {w : World} {ty : TypeId} {n : Nat} {V : Nat → Value} {p : Addr} (hT : IsSt ty n) (h : ∀ k, k < n → w.cell? (p.add k) = some (V k)) : (Instr.loadAt ty (.pointer (some p))).run Try.prog w = .ok (.agg (SC n V)) w := by
  obtain ⟨u, h1, h2, h3⟩ := hT
  refine run_loadAt_addr w p ty ((List.range n).map V) _ (fun j y hj => ?_) h1 (by cases u <;> first | rfl | exact h2) (by rw [List.length_map, List.length_range]; exact h3)
  rw [List.getElem?_map] at hj
  have hl : j < n := by
    rcases Nat.lt_or_ge j n with h | h
    · exact h
    · rw [List.getElem?_eq_none (by simpa using h)] at hj; cases hj
  rw [List.getElem?_range hl] at hj
  rw [h j hl]
  exact hj
theorem exec_geW {a : Act} {o : Oper} {w : World} {x y : Operand} (ho : o.op = .binOp .geq 3 x y 3) {m n : Int} {z : Bool} (hx : a.eval x = .int .i64 m) (hy : a.eval y = .int .i64 n) (hz : decide (n ≤ m) = z) : (execOp a.eval o).run Try.prog w = .ok (.value (.bool z)) w := hz ▸ cmp_ge ho hx hy
/-- A slice of packets. -/
def PkSl (w : World) (v : Value) (l : List (Pk × Value)) : Prop := ∃ (p : Option Addr) (c : Nat), v = .slice p l.length c ∧ l.length ≤ c ∧ (∀ j x, l[j]? = some x → ∃ b q, p = some ⟨b, q, none⟩ ∧ ∀ f, f < 46 → w.cell? ⟨b, q + 46 * j + f, none⟩ = some (pkV x.1 x.2 f)) ∧ ∀ x ∈ l, ExAt w x.2 x.1.exts
theorem PkSl.nil (w : World) : PkSl w (.slice none 0 0) [] := ⟨none, 0, rfl, Nat.le_refl _, fun j x h => by simp at h, fun x h => by cases h⟩
theorem PkSl.keepB {w w' : World} {v : Value} {l : List (Pk × Value)} (h : PkSl w v l) (_hs : w.heap.size ≤ w'.heap.size) (hb : ∀ k, k < w.heap.size → w'.heap[k]? = w.heap[k]?) : PkSl w' v l := by
  obtain ⟨p, c, hv, hc, h1, h2⟩ := h
  refine ⟨p, c, hv, hc, fun j x hj => ?_, fun x hx => (h2 x hx).keep hb⟩
  obtain ⟨b, q, hp, hf⟩ := h1 j x hj
  refine ⟨b, q, hp, fun f hf2 => ?_⟩
  have h3 := hf f hf2
  exact (cell_blk (hb b (World.block_lt_of_cell? _ _ h3))).trans h3
theorem PkSl.kept {w w' : World} {v : Value} {l : List (Pk × Value)} (h : PkSl w v l) (hb : Below w.heap.size w w') : PkSl w' v l := h.keepB hb.size hb.block
theorem PkRow.sl {w : World} {B C : Nat} {v : Value} {l : List (Pk × Value)} (h : PkRow w B C v l) : PkSl w v l := by
  rcases h.row.2 with ⟨hv, hl⟩ | ⟨g, cap, cur, hv, _, hg, hc, _, hs, ht⟩
  · have : l = [] := List.length_eq_zero_iff.1 hl
    subst this
    rw [hv]
    exact PkSl.nil w
  · refine ⟨_, cap, hv, hc, fun j x hj => ⟨g, 0, rfl, fun f hf => ?_⟩, fun x hx => (h.exs x hx).1⟩
    have hjl : j < l.length := (List.getElem?_eq_some_iff.1 hj).1
    rw [cell_of_row w g _ _ _ _ hg]
    have h1 := rX_at 46 (pksZ l) l.length j f hjl hf
    rw [← ht, List.getElem?_take] at h1
    split at h1
    · rw [Array.getElem?_toList] at h1
      rw [Nat.zero_add, h1]
      unfold pksZ
      rw [List.getD_eq_getElem?_getD, hj]
      rfl
    · cases h1
theorem sl_pk {w : World} {p : Addr} {c n : Nat} {l : List (Pk × Value)} (h : PkSl w (.slice (some p) n c) l) {i : Nat} {x : Pk × Value} (hi : l[i]? = some x) : (Instr.loadAt 27 (.pointer (some (p.add (46 * i))))).run Try.prog w = .ok (.agg (SC 46 (pkV x.1 x.2))) w := by
  obtain ⟨p', c', e, _, h1, _⟩ := h
  injection e with e1 e2 e3
  subst e1
  obtain ⟨b, q, hp, hf⟩ := h1 i x hi
  injection hp with hp
  subst hp
  refine ld_row isPk (fun k hk => ?_)
  rw [Addr.add_add, Addr.add_lit, ← Nat.add_assoc]
  exact hf k hk
/-- What the document's Split hands back. -/
def SplPost (er : Int) (L : List Pk) (e : Ending) (w' : World) : Prop := ∃ v' l, e = .returned (.tuple #[v', .int .i64 er]) ∧ PkSl w' v' l ∧ l.map (·.1) = L
theorem spl_none (w : World) (er : Int) : SplPost er [] (.returned (.tuple #[.slice none 0 0, .int .i64 er])) w := ⟨_, [], rfl, PkSl.nil w, rfl⟩
section
variable {a : Act} {o : Oper} {w : World} {x y : Operand}
theorem exec_quoQ (ho : o.op = .binOp .quo 3 x y 3) {m q : Int} (hx : a.eval x = .int .i64 m) (hy : a.eval y = .int .i64 8) (hq : Hid (m.tdiv 8 = q)) (h0 : -9223372036854775808 ≤ q) (h1 : q < 9223372036854775808) : (execOp a.eval o).run Try.prog w = .ok (.value (.int .i64 q)) w := by
  refine exec_bin2 ho hx hy rfl ?_
  have e2 : IntKind.i64.wrap q = q := by rw [IntKind.wrap_i64]; omega
  simp [go_sem, hq.out, e2]
theorem exec_mulQ (ho : o.op = .binOp .mul 3 x y 3) {m q : Int} (hx : a.eval x = .int .i64 m) (hy : a.eval y = .int .i64 8) (hq : Hid (m * 8 = q)) (h0 : -9223372036854775808 ≤ q) (h1 : q < 9223372036854775808) : (execOp a.eval o).run Try.prog w = .ok (.value (.int .i64 q)) w := by
  refine exec_bin2 ho hx hy rfl ?_
  have e2 : IntKind.i64.wrap q = q := by rw [IntKind.wrap_i64]; omega
  simp [go_sem, hq.out, e2]
end
theorem tdiv8 (d : Int) : d.tdiv 8 * 8 = if 0 ≤ d then ((d.toNat / 8 * 8 : Nat) : Int) else -(((-d).toNat / 8 * 8 : Nat) : Int) := by
  split
  · rename_i h
    obtain ⟨k, rfl⟩ := Int.eq_ofNat_of_zero_le h
    rw [Int.tdiv_eq_ediv_of_nonneg (by omega)]
    simp
  · rename_i h
    obtain ⟨k, hk⟩ : ∃ k : Nat, d = -(k : Int) := ⟨(-d).toNat, by omega⟩
    subst hk
    rw [Int.neg_tdiv, Int.tdiv_eq_ediv_of_nonneg (by omega)]
    have e : (-(-(k : Int))).toNat = k := by omega
    rw [e, Int.neg_mul]
    congr 1
/-- Any piece begins too far: the last one does. -/
theorem big_some {P : Pk} {R j : Nat} (hR : 0 < R) (hj : R * j < P.pay.size) (h : 65528 < P.off + ((R * j : Nat) : Int)) : bigP P R = true := by
  unfold bigP
  rw [Bool.or_eq_true]
  refine .inr (decide_eq_true ?_)
  have h1 : j ≤ (P.pay.size - 1) / R := (Nat.le_div_iff_mul_le hR).2 (by rw [Nat.mul_comm]; omega)
  have h2 : R * j ≤ (P.pay.size - 1) / R * R := by rw [Nat.mul_comm]; exact Nat.mul_le_mul_right _ h1
  omega
theorem big_none {P : Pk} {R : Nat} (hR : 0 < R) (hp : 0 < P.pay.size) (h : ∀ j, R * j < P.pay.size → ¬ 65528 < P.off + ((R * j : Nat) : Int)) : bigP P R = false := by
  unfold bigP
  rw [decide_eq_false (by omega), Bool.false_or]
  refine decide_eq_false ?_
  have h1 : (P.pay.size - 1) / R * R ≤ P.pay.size - 1 := Nat.div_mul_le_self _ _
  have h2 := h ((P.pay.size - 1) / R) (by rw [Nat.mul_comm]; omega)
  rw [Nat.mul_comm] at h2
  exact h2
theorem mayC_or (P : Pk) (mtu id : Int) : ((((((!(rgtP P)) || (decide (mtu < 68))) || (P.sv && (decide (mtu < 1280)))) || (decide (id < 0))) || (decide (4294967295 < id))) || P.cut) = !mayC P mtu id := by
  unfold mayC leastP
  cases h1 : rgtP P <;> cases h2 : P.sv <;> cases h3 : P.cut <;> rw [Bool.eq_iff_iff] <;> simp <;> (try omega)
set_option maxHeartbeats 16000000 in
theorem rSplit_run (P : Pk) (v : Value) (mtu id : Int) (w : World) (hx : ExAt w v P.exts) (hn : P.exts.length < 4611686018427387904) (hb : ∀ x ∈ P.exts, x.body.size ≤ 140737488355328) (hp : P.pay.size ≤ 140737488355328) : Calls Try.prog 8 #[.agg (SC 46 (pkV P v)), .int .i64 mtu, .int .i64 id] w fun e w' => SplPost (splitP P mtu id).2 (splitP P mtu id).1 e w' ∧ Below w.heap.size w w' := by
  have HX := Hid.mk hx
  have HNB := Hid.mk (And.intro hn hb)
  have HP := Hid.mk hp
  have hv1 := hx.one
  clear hx hn hb hp
  obtain ⟨sp, hsp⟩ : ∃ sp, splitP P mtu id = sp := ⟨_, rfl⟩
  have HSP := Hid.mk hsp
  rw [hsp]
  clear hsp
  go_enter Try.func8, Try.ntmps8
  go_wp2_with (refine wl_boxO (V := pkV P v) rfl rfl isPk rfl ?_; intro g3 w1 hg3 s3 hB1; refine Hid.out ?_)
  refine Hid.mk ?_
  have X1 := Hid.mk (HX.out.kept hB1)
  go_wp2_with (refine wl_value rfl (look_st rfl isPk s3 rfl) ?_; refine Hid.out ?_)
  refine Hid.mk ?_
  go_wp2_with (go_at_call 22; refine (rRight_run P v _ X1.out HNB.out.1 HNB.out.2).mono ?_; rintro e w2 ⟨rfl, hB2⟩; refine Hid.out ?_)
  refine Hid.mk ?_
  have s3 := s3.kept hB2
  have hBa := hB1.trans (hB2.mono hB1.size)
  have HG3 := Hid.mk hg3
  clear hB1 hB2 X1 hg3
  go_upto_region 2 with fail
  refine wp_plain_steps (Below w2.heap.size w2) (fun v v' => Below v.heap.size v v') (fun j vv _ => vv = ([.bool (rgtP P), .bool (!(rgtP P)), .bool (!(rgtP P)), gv (!(!(rgtP P))) (.int .i64 mtu), gv (!(!(rgtP P))) (.bool (decide (mtu < 68))), .bool ((!(rgtP P)) || (decide (mtu < 68))), .bool ((!(rgtP P)) || (decide (mtu < 68))), gv (!((!(rgtP P)) || (decide (mtu < 68)))) (.pointer (some ⟨g3, 0, none⟩)), gv (!((!(rgtP P)) || (decide (mtu < 68)))) (.pointer (some ⟨g3, 0, none⟩)), gv (!((!(rgtP P)) || (decide (mtu < 68)))) (.bool P.sv), gv (!((!(rgtP P)) || (decide (mtu < 68)))) (.bool P.sv), gv ((!((!(rgtP P)) || (decide (mtu < 68)))) && P.sv) (.int .i64 mtu), gv ((!((!(rgtP P)) || (decide (mtu < 68)))) && P.sv) (.bool (decide (mtu < 1280))), gv (!((!(rgtP P)) || (decide (mtu < 68)))) (.bool (P.sv && (decide (mtu < 1280)))), .bool (((!(rgtP P)) || (decide (mtu < 68))) || (P.sv && (decide (mtu < 1280)))), .bool (((!(rgtP P)) || (decide (mtu < 68))) || (P.sv && (decide (mtu < 1280)))), gv (!(((!(rgtP P)) || (decide (mtu < 68))) || (P.sv && (decide (mtu < 1280))))) (.int .i64 id), gv (!(((!(rgtP P)) || (decide (mtu < 68))) || (P.sv && (decide (mtu < 1280))))) (.bool (decide (id < 0))), .bool ((((!(rgtP P)) || (decide (mtu < 68))) || (P.sv && (decide (mtu < 1280)))) || (decide (id < 0))), .bool ((((!(rgtP P)) || (decide (mtu < 68))) || (P.sv && (decide (mtu < 1280)))) || (decide (id < 0))), gv (!((((!(rgtP P)) || (decide (mtu < 68))) || (P.sv && (decide (mtu < 1280)))) || (decide (id < 0)))) (.int .i64 id), gv (!((((!(rgtP P)) || (decide (mtu < 68))) || (P.sv && (decide (mtu < 1280)))) || (decide (id < 0)))) (.bool (decide (4294967295 < id))), .bool (((((!(rgtP P)) || (decide (mtu < 68))) || (P.sv && (decide (mtu < 1280)))) || (decide (id < 0))) || (decide (4294967295 < id))), .bool (((((!(rgtP P)) || (decide (mtu < 68))) || (P.sv && (decide (mtu < 1280)))) || (decide (id < 0))) || (decide (4294967295 < id))), gv (!(((((!(rgtP P)) || (decide (mtu < 68))) || (P.sv && (decide (mtu < 1280)))) || (decide (id < 0))) || (decide (4294967295 < id)))) (.pointer (some ⟨g3, 44, none⟩)), gv (!(((((!(rgtP P)) || (decide (mtu < 68))) || (P.sv && (decide (mtu < 1280)))) || (decide (id < 0))) || (decide (4294967295 < id)))) (.bool P.cut), .bool ((((((!(rgtP P)) || (decide (mtu < 68))) || (P.sv && (decide (mtu < 1280)))) || (decide (id < 0))) || (decide (4294967295 < id))) || P.cut)] : List Value).getD j undef)
      [18, 19, 20, 21, 22, 23, 24, 25, 26, 27, 28, 29, 30, 31, 32, 33, 34, 35, 36, 37, 38, 39, 40, 41, 42, 43, 44]
      [(8, .bool (rgtP P)), (1, .int .i64 mtu), (2, .int .i64 id), (3, .pointer (some ⟨g3, 0, none⟩))] [] 0
      [[], [0], [1], [2], [2, 3], [2, 4], [5], [6], [6, 7], [6, 8], [6, 9], [10], [10, 11], [6, 10, 12], [6, 13], [14], [15], [15, 16], [15, 17], [18], [19], [19, 20], [19, 21], [22], [23], [23, 24], [23, 25]]
      (by kernel_rfl) ⟨rfl, rfl, rfl, rfl, trivial⟩ trivial (Below.refl _ _) (fun v v' h hb => h.trans (hb.mono h.size)) (fun _ _ _ _ h _ => h)
      ⟨
      (fun QQ aa ww hS fr kn => sg0 rfl (fun K hK => wp_value (exec_move rfl fr.1) (hK _ _ rfl (Below.refl _ _)))),
      (fun QQ aa ww hS fr kn => sg0 rfl (fun K hK => wp_value (exec_notB rfl kn.1) (hK _ _ rfl (Below.refl _ _)))),
      (fun QQ aa ww hS fr kn => sg0 rfl (fun K hK => wp_value (exec_move rfl kn.1) (hK _ _ rfl (Below.refl _ _)))),
      (fun QQ aa ww hS fr kn => sgF rfl kn.1 (fun hng K hK => have hc := nt_t hng; wp_value (exec_move rfl fr.2.1) (hK _ _ (gv_t hc).symm (Below.refl _ _))) (fun h0 => (gv_f (nt_f h0)).symm)),
      (fun QQ aa ww hS fr kn => sgF rfl kn.1 (fun hng K hK => have hc := nt_t hng; wp_value (cmp_lt (m := mtu) (n := 68) rfl (kn.2.1.trans (gv_t hc)) rfl) (hK _ _ (gv_t hc).symm (Below.refl _ _))) (fun h0 => (gv_f (nt_f h0)).symm)),
      (fun QQ aa ww hS fr kn => sg0 rfl (fun K hK => wp_value (exec_pickOr rfl kn.1 rfl (fun hx => kn.2.1.trans (gv_t (nt_t hx)))) (hK _ _ rfl (Below.refl _ _)))),
      (fun QQ aa ww hS fr kn => sg0 rfl (fun K hK => wp_value (exec_move rfl kn.1) (hK _ _ rfl (Below.refl _ _)))),
      (fun QQ aa ww hS fr kn => sgF rfl kn.1 (fun hng K hK => have hc := nt_t hng; wp_value (exec_fpk 0 (by decide) rfl fr.2.2.2.1) (hK _ _ (gv_t hc).symm (Below.refl _ _))) (fun h0 => (gv_f (nt_f h0)).symm)),
      (fun QQ aa ww hS fr kn => sgF rfl kn.1 (fun hng K hK => have hc := nt_t hng; wp_value (exec_fad0 rfl (kn.2.1.trans (gv_t hc))) (hK _ _ (gv_t hc).symm (Below.refl _ _))) (fun h0 => (gv_f (nt_f h0)).symm)),
      (fun QQ aa ww hS fr kn => sgF rfl kn.1 (fun hng K hK => have hc := nt_t hng; wp_value (exec_ld rfl (kn.2.1.trans (gv_t hc)) (ldPb (pk_sv (SAt.kept s3 hS)))) (hK _ _ (gv_t hc).symm (Below.refl _ _))) (fun h0 => (gv_f (nt_f h0)).symm)),
      (fun QQ aa ww hS fr kn => sgF rfl kn.1 (fun hng K hK => have hc := nt_t hng; wp_value (exec_move rfl (kn.2.1.trans (gv_t hc))) (hK _ _ (gv_t hc).symm (Below.refl _ _))) (fun h0 => (gv_f (nt_f h0)).symm)),
      (fun QQ aa ww hS fr kn => sgTT rfl kn.1 (fun hc K hK => wp_value (exec_move rfl fr.2.1) (hK _ _ (gv_t hc).symm (Below.refl _ _))) (fun h0 => (gv_f h0).symm)),
      (fun QQ aa ww hS fr kn => sgTT rfl kn.1 (fun hc K hK => wp_value (cmp_lt (m := mtu) (n := 1280) rfl (kn.2.1.trans (gv_t hc)) rfl) (hK _ _ (gv_t hc).symm (Below.refl _ _))) (fun h0 => (gv_f h0).symm)),
      (fun QQ aa ww hS fr kn => sgF rfl kn.1 (fun hng K hK => have hc := nt_t hng; wp_value (exec_pickAnd rfl (kn.2.1.trans (gv_t hc)) (fun hx => kn.2.2.1.trans (gv_t (an_t hc hx))) rfl) (hK _ _ (gv_t hc).symm (Below.refl _ _))) (fun h0 => (gv_f (nt_f h0)).symm)),
      (fun QQ aa ww hS fr kn => sg0 rfl (fun K hK => wp_value (exec_pickOr rfl kn.1 rfl (fun hx => kn.2.1.trans (gv_t (nt_t hx)))) (hK _ _ rfl (Below.refl _ _)))),
      (fun QQ aa ww hS fr kn => sg0 rfl (fun K hK => wp_value (exec_move rfl kn.1) (hK _ _ rfl (Below.refl _ _)))),
      (fun QQ aa ww hS fr kn => sgF rfl kn.1 (fun hng K hK => have hc := nt_t hng; wp_value (exec_move rfl fr.2.2.1) (hK _ _ (gv_t hc).symm (Below.refl _ _))) (fun h0 => (gv_f (nt_f h0)).symm)),
      (fun QQ aa ww hS fr kn => sgF rfl kn.1 (fun hng K hK => have hc := nt_t hng; wp_value (cmp_lt (m := id) (n := 0) rfl (kn.2.1.trans (gv_t hc)) rfl) (hK _ _ (gv_t hc).symm (Below.refl _ _))) (fun h0 => (gv_f (nt_f h0)).symm)),
      (fun QQ aa ww hS fr kn => sg0 rfl (fun K hK => wp_value (exec_pickOr rfl kn.1 rfl (fun hx => kn.2.1.trans (gv_t (nt_t hx)))) (hK _ _ rfl (Below.refl _ _)))),
      (fun QQ aa ww hS fr kn => sg0 rfl (fun K hK => wp_value (exec_move rfl kn.1) (hK _ _ rfl (Below.refl _ _)))),
      (fun QQ aa ww hS fr kn => sgF rfl kn.1 (fun hng K hK => have hc := nt_t hng; wp_value (exec_move rfl fr.2.2.1) (hK _ _ (gv_t hc).symm (Below.refl _ _))) (fun h0 => (gv_f (nt_f h0)).symm)),
      (fun QQ aa ww hS fr kn => sgF rfl kn.1 (fun hng K hK => have hc := nt_t hng; wp_value (cmp_gt (m := id) (n := 4294967295) rfl (kn.2.1.trans (gv_t hc)) rfl) (hK _ _ (gv_t hc).symm (Below.refl _ _))) (fun h0 => (gv_f (nt_f h0)).symm)),
      (fun QQ aa ww hS fr kn => sg0 rfl (fun K hK => wp_value (exec_pickOr rfl kn.1 rfl (fun hx => kn.2.1.trans (gv_t (nt_t hx)))) (hK _ _ rfl (Below.refl _ _)))),
      (fun QQ aa ww hS fr kn => sg0 rfl (fun K hK => wp_value (exec_move rfl kn.1) (hK _ _ rfl (Below.refl _ _)))),
      (fun QQ aa ww hS fr kn => sgF rfl kn.1 (fun hng K hK => have hc := nt_t hng; wp_value (exec_fpk 12 (by decide) rfl fr.2.2.2.1) (hK _ _ (gv_t hc).symm (Below.refl _ _))) (fun h0 => (gv_f (nt_f h0)).symm)),
      (fun QQ aa ww hS fr kn => sgF rfl kn.1 (fun hng K hK => have hc := nt_t hng; wp_value (exec_ld rfl (kn.2.1.trans (gv_t hc)) (ldPb (pk_cut (SAt.kept s3 hS)))) (hK _ _ (gv_t hc).symm (Below.refl _ _))) (fun h0 => (gv_f (nt_f h0)).symm)),
      (fun QQ aa ww hS fr kn => sg0 rfl (fun K hK => wp_value (exec_pickOr rfl kn.1 rfl (fun hx => kn.2.1.trans (gv_t (nt_t hx)))) (hK _ _ rfl (Below.refl _ _)))),
      trivial⟩ ?_
  intro vs w3 hB3 kn
  have e44 : vs 44 = .bool ((((((!(rgtP P)) || (decide (mtu < 68))) || (P.sv && (decide (mtu < 1280)))) || (decide (id < 0))) || (decide (4294967295 < id))) || P.cut) := kn 26 (by decide)
  clear kn
  simp only [putAll, Act.put, List.setIfInBounds_toArray, List.set_cons_zero, List.set_cons_succ, e44]
  clear e44
  have s3 := s3.kept hB3
  have hBb := hBa.trans (hB3.mono hBa.size)
  clear hBa hB3
  rw [mayC_or]
  obtain ⟨mc, hmc⟩ : ∃ q, mayC P mtu id = q := ⟨_, rfl⟩
  rw [hmc]
  cases mc with
  | false =>
    have hsp : sp = ([], 1) := by rw [← HSP.out]; unfold splitP; rw [if_pos hmc]
    subst hsp
    go_wp2_with fail
    refine bodyPost_ret (results_two rfl (u := .slice none 0 0) (v := .int .i64 1) rfl rfl) rfl ?_
    exact ⟨spl_none _ _, hBb⟩
  | true =>
    obtain ⟨hr, hm68, hi0, hi1, hcut⟩ := mayC_parts hmc
    have HR := Hid.mk (And.intro hr (And.intro hm68 (And.intro hi0 hi1)))
    have HCUT := Hid.mk hcut
    have HMC := Hid.mk hmc
    have X3 := Hid.mk (HX.out.kept hBb)
    have HFI := Hid.mk (rFits_run P v w3 X3.out (by have := (rgt_few hr).2.2; omega) (by have := rgt_few hr; omega) HP.out)
    clear hr hm68 hi0 hi1 hcut hmc
    go_wp2_with (refine wl_value rfl (look_st rfl isPk s3 rfl) ?_; refine Hid.out ?_)
    refine Hid.mk ?_
    go_wp2_with (go_at_call 23; refine HFI.out.mono ?_; rintro e w4 ⟨rfl, hB4⟩; refine Hid.out ?_)
    refine Hid.mk ?_
    have s3 := s3.kept hB4
    have hBc := hBb.trans (hB4.mono hBb.size)
    have X4 := Hid.mk (HX.out.kept hBc)
    clear hBb hB4 X3 HFI
    obtain ⟨ft, hft⟩ : ∃ q, fitP P = q := ⟨_, rfl⟩
    rw [hft]
    cases ft with
    | false =>
      have hsp : sp = ([], 75) := by rw [← HSP.out]; unfold splitP; rw [if_neg (by rw [HMC.out]; decide), if_pos hft]
      subst hsp
      go_wp2_with fail
      refine bodyPost_ret (results_two rfl (u := .slice none 0 0) (v := .int .i64 75) rfl rfl) rfl ?_
      exact ⟨spl_none _ _, hBc⟩
    | true =>
      have HSM := Hid.mk (And.intro (fit_small HR.out.1 hft) hft)
      clear hft
      go_wp2_with (refine wl_value rfl (look_st rfl isPk s3 rfl) ?_; refine Hid.out ?_)
      refine Hid.mk ?_
      go_wp2_with (go_at_call 24; refine (rSize_run P v _ X4.out HNB.out.1 HNB.out.2 HP.out).mono ?_; rintro e w5 ⟨rfl, hB5⟩; refine Hid.out ?_)
      refine Hid.mk ?_
      have s3 := s3.kept hB5
      have hBd := hBc.trans (hB5.mono hBc.size)
      have X5 := Hid.mk (HX.out.kept hBd)
      clear hBc hB5 X4
      by_cases hle : (sizeP P : Int) ≤ mtu
      · have HLE := Hid.mk hle
        have hsp : sp = ([P], 0) := by rw [← HSP.out]; unfold splitP; rw [if_neg (by rw [HMC.out]; decide), if_neg (by rw [HSM.out.2]; decide), if_pos hle]
        subst hsp
        clear hle
        go_wp2_with (refine wl_value rfl (exec_leT (m := (sizeP P : Int)) (n := mtu) rfl rfl rfl HLE.out) ?_; refine Hid.out ?_)
        refine Hid.mk ?_
        go_wp2_with (refine wl_value rfl (look_st rfl isPk s3 rfl) ?_; refine Hid.out ?_)
        refine Hid.mk ?_
        go_wp2_with (refine wl_bsK rfl rfl rfl ?_; intro bb w6 hbb s6 hB6; refine Hid.out ?_)
        refine Hid.mk ?_
        go_wp2_with fail
        refine bodyPost_ret (results_two rfl (u := .slice (some ⟨bb, 0, none⟩) 1 1) (v := .int .i64 0) rfl rfl) rfl ?_
        refine ⟨⟨_, [(P, v)], rfl, ⟨_, 1, rfl, Nat.le_refl _, fun j x hj => ?_, fun x hx => ?_⟩, rfl⟩, hBd.trans (hB6.mono hBd.size)⟩
        · cases j with
          | zero =>
            have hj : (P, v) = x := by simpa using hj
            subst hj
            exact ⟨bb, 0, rfl, fun f hf => by rw [Nat.mul_zero, Nat.zero_add]; exact s6.at f hf⟩
          | succ j => simp at hj
        · have hx1 : x = (P, v) := by simpa using hx
          subst hx1
          exact X5.out.kept hB6
      · have HLT : Hid (mtu < (sizeP P : Int)) := Hid.mk (by omega)
        have HLE : Hid (¬ (sizeP P : Int) ≤ mtu ∧ True) := Hid.mk ⟨hle, trivial⟩
        clear hle
        go_wp2_with (refine wl_value rfl (exec_leF (m := (sizeP P : Int)) (n := mtu) rfl rfl rfl (Int.not_le.2 HLT.out)) ?_; refine Hid.out ?_)
        refine Hid.mk ?_
        cases hst : P.still with
        | true =>
          have hsp : sp = ([], 75) := by rw [← HSP.out]; unfold splitP; rw [if_neg (by rw [HMC.out]; decide), if_neg (by rw [HSM.out.2]; decide), if_neg (Int.not_le.2 HLT.out), if_pos hst]
          subst hsp
          have cst : w5.cell? ⟨g3, 40, none⟩ = some (.bool true) := (pk_still s3).trans (by rw [hst])
          go_wp2_with (refine wl_value rfl (exec_fpkL 8 40 (by decide) rfl rfl rfl) ?_; refine Hid.out ?_)
          refine Hid.mk ?_
          go_wp2_with (refine wl_value rfl (exec_ld rfl rfl (ldPb cst)) ?_; refine Hid.out ?_)
          refine Hid.mk ?_
          go_wp2_with fail
          refine bodyPost_ret (results_two rfl (u := .slice none 0 0) (v := .int .i64 75) rfl rfl) rfl ?_
          exact ⟨spl_none _ _, hBd⟩
        | false =>
          have HSP2 : Hid (sp = (if bigP P (roomP P mtu id) = true then [] else cutN P id (roomP P mtu id) (manyP P (roomP P mtu id)), if bigP P (roomP P mtu id) = true then 75 else 0)) := Hid.mk (by
            rw [← HSP.out]
            unfold splitP
            rw [if_neg (by rw [HMC.out]; decide), if_neg (by rw [HSM.out.2]; decide), if_neg (Int.not_le.2 HLT.out), if_neg (by rw [hst]; decide)]
            split <;> rfl)
          have cst : w5.cell? ⟨g3, 40, none⟩ = some (.bool false) := (pk_still s3).trans (by rw [hst])
          go_wp2_with (refine wl_value rfl (exec_fpkL 8 40 (by decide) rfl rfl rfl) ?_; refine Hid.out ?_)
          refine Hid.mk ?_
          go_wp2_with (refine wl_value rfl (exec_ld rfl rfl (ldPb cst)) ?_; refine Hid.out ?_)
          refine Hid.mk ?_
          clear cst hst
          go_wp2_with (refine wl_value rfl (look_st rfl isPk s3 rfl) ?_; refine Hid.out ?_)
          refine Hid.mk ?_
          have hl3 := s3.lt
          go_wp2_with (refine wl_alO rfl rfl zeroPk ?_; intro g10 w6 hg10 s10 hB6; refine Hid.out ?_)
          refine Hid.mk ?_
          have s3 := s3.kept hB6
          have hBe := hBd.trans (hB6.mono hBd.size)
          go_wp2_with (refine st_stO (V := pkV P v) (g := g10) rfl rfl isPk (pkV_one hv1) s10 rfl rfl ?_; intro w7 s10 ho7; refine Hid.out ?_)
          refine Hid.mk ?_
          have hne : g3 ≠ g10 := by omega
          have hgw : w.heap.size ≤ g10 := by have := hBd.size; omega
          have s3 := s3.only ho7 hne
          have hBf := hBe.trans (ho7.below hgw)
          go_wp2_with (refine wl_value rfl (exec_fpkL 13 45 (by decide) rfl rfl rfl) ?_; refine Hid.out ?_)
          refine Hid.mk ?_
          go_wp2_with (refine wl_stP (z := .string ByteArray.empty) (V' := pkV { P with pay := ByteArray.empty } v) rfl rfl rfl rfl (by decide) (stS ByteArray.empty) s10 (pk_up45 _ _ ByteArray.empty) ?_; intro w8 s10 ho8; refine Hid.out ?_)
          refine Hid.mk ?_
          have s3 := s3.only ho8 hne
          have hBg := hBf.trans (ho8.below hgw)
          go_upto_region 13 with fail
          rename_i K1 HK1 K0 HK0
          have HSZ : Hid (∀ z, ExAt z v P.exts → Calls Try.prog 24 #[.agg (SC 46 (pkV (headOf P id) v))] z fun e w' => e = .returned (.int .i64 (headP (headOf P id) : Int)) ∧ Below z.heap.size z w') := Hid.mk (fun z hz => by
            have h := rSize_run (headOf P id) v z (by rw [head_exts]; exact hz) (by rw [head_exts]; exact (rgt_len HR.out.1).1) (by rw [head_exts]; exact rgt_bod HR.out.1) (by rw [head_pay]; decide)
            rwa [head_size P id (rgt_head HR.out.1 HR.out.2.2.1 HR.out.2.2.2)] at h)
          have TAIL : ∀ (r59 r60 r61 r62 r63 r64 : Value) (z : World), Hid (SAt z g3 27 46 (pkV P v) ∧ SAt z g10 27 46 (pkV (headOf P id) v)) → Hid (Below w.heap.size w z) → K1 { tmps := #[.agg (SC 46 (pkV P v)), .int .i64 mtu, .int .i64 id, .pointer (some ⟨g3, 0, none⟩), undef, undef, .slice none 0 0, .int .i64 0, .bool (rgtP P), .bool true, .pointer (some ⟨g10, 0, none⟩), undef, undef, undef, undef, undef, .agg (SC 46 (pkV P v)), .bool (rgtP P), vs 18, vs 19, vs 20, vs 21, vs 22, vs 23, vs 24, vs 25, vs 26, vs 27, vs 28, vs 29, vs 30, vs 31, vs 32, vs 33, vs 34, vs 35, vs 36, vs 37, vs 38, vs 39, vs 40, vs 41, vs 42, vs 43, .bool false, .agg (SC 46 (pkV P v)), .bool true, .bool true, .bool false, .agg (SC 46 (pkV P v)), .int .i64 (sizeP P : Int), .int .i64 mtu, .bool false, undef, undef, .pointer (some ⟨g3, 40, none⟩), .bool false, .agg (SC 46 (pkV P v)), .pointer (some ⟨g10, 45, none⟩), r59, r60, r61, r62, r63, r64, undef, undef, undef, undef, undef, undef, undef, undef, undef, undef, undef, undef, undef, undef, undef, undef, undef, undef, undef, undef, undef, undef, undef, undef, undef, undef, undef, undef, undef, undef, undef, undef, undef, undef, undef, undef, undef, undef, undef, undef, undef, undef, undef, undef, undef, undef, undef, undef, undef, undef, undef, undef, undef, undef, undef, undef, undef, undef, undef, undef, undef, undef, undef, undef], defers := [] } z := by
            clear s3 s10 hBd hBe hBf hBg ho7 ho8 hB6 hg10 hl3 X5
            intro r59 r60 r61 r62 r63 r64 z HSS HBZ
            refine HK1 _ _ ?_
            dsimp only
            clear HK1 HK0
            have hxz := HX.out.kept HBZ.out
            have HXZ := Hid.mk hxz
            clear hxz
            go_wp2_with (refine wl_value rfl (look_st rfl isPk HSS.out.2 rfl) ?_; refine Hid.out ?_)
            refine Hid.mk ?_
            go_wp2_with (go_at_call 24; refine (HSZ.out _ HXZ.out).mono ?_; rintro e w9 ⟨rfl, hB9⟩; refine Hid.out ?_)
            refine Hid.mk ?_
            have HS9 := Hid.mk (And.intro (HSS.out.1.kept hB9) (HSS.out.2.kept hB9))
            have HB9 := Hid.mk (HBZ.out.trans (hB9.mono HBZ.out.size))
            clear hB9 HSS HBZ HXZ HSZ
            have hH : headP (headOf P id) ≤ 100000 := by
              have h3 := rgt_few (rgt_head HR.out.1 HR.out.2.2.1 HR.out.2.2.2)
              unfold headP
              split <;> (try split) <;> omega
            have hrm : ∀ q : Int, (mtu - (headP (headOf P id) : Int)).tdiv 8 * 8 = q → (0 < q → ((roomP P mtu id : Nat) : Int) = q) ∧ (q ≤ 0 → roomP P mtu id = 0) := fun q hq => by
              rw [tdiv8] at hq
              unfold roomP
              split at hq <;> constructor <;> intro h <;> omega
            have hps : roomP P mtu id ≠ 0 → 8 ≤ P.pay.size := fun h => pay_pos HR.out.1 HCUT.out HLT.out h
            obtain ⟨H, hHe⟩ : ∃ H, headP (headOf P id) = H := ⟨_, rfl⟩
            rw [hHe] at hH hrm ⊢
            obtain ⟨q8, hq8⟩ : ∃ q, (mtu - (H : Int)).tdiv 8 = q := ⟨_, rfl⟩
            obtain ⟨qn, hqn⟩ : ∃ q, q8 * 8 = q := ⟨_, rfl⟩
            have hrm2 := hrm qn (by rw [hq8]; exact hqn)
            have hmt : mtu ≤ 65575 := by have := HSM.out.1; have := HLT.out; omega
            have hqb : -100000 ≤ q8 ∧ q8 ≤ 100000 := by
              have h1 := tdiv8 (mtu - (H : Int))
              rw [hq8] at h1
              have := HR.out.2.1
              split at h1 <;> omega
            have HQ8 := Hid.mk hq8
            have HQN := Hid.mk hqn
            have HQB := Hid.mk (And.intro hqb (show -1000000 ≤ qn ∧ qn ≤ 1000000 by omega))
            have HMT := Hid.mk (And.intro hmt (show 68 ≤ mtu from HR.out.2.1))
            have HHH := Hid.mk hH
            have HRM := Hid.mk hrm2
            have HPS := Hid.mk hps
            clear hH hrm hps hHe hq8 hqn hrm2 hmt hqb
            go_wp2_with (refine wl_value rfl (exec_subE (m := mtu) (n := (H : Int)) rfl rfl rfl (wrap_id (by have := HMT.out; have := HHH.out; omega) (by have := HMT.out; have := HHH.out; omega))) ?_; refine Hid.out ?_)
            refine Hid.mk ?_
            go_wp2_with (refine wl_value rfl (exec_quoQ (m := mtu - (H : Int)) (q := q8) rfl rfl rfl HQ8 (by have := HQB.out; omega) (by have := HQB.out; omega)) ?_; refine Hid.out ?_)
            refine Hid.mk ?_
            go_wp2_with (refine wl_value rfl (exec_mulQ (m := q8) (q := qn) rfl rfl rfl HQN (by have := HQB.out; omega) (by have := HQB.out; omega)) ?_; refine Hid.out ?_)
            refine Hid.mk ?_
            by_cases hq0 : qn ≤ 0
            · have hr0 := HRM.out.2 hq0
              have HQ0 := Hid.mk hq0
              have hbig : bigP P (roomP P mtu id) = true := by unfold bigP; rw [hr0]; rfl
              have hsp : sp = ([], 75) := by rw [HSP2.out, if_pos hbig, if_pos hbig]
              subst hsp
              clear hq0 hr0 hbig
              go_wp2_with (refine wl_value rfl (exec_leT (m := qn) (n := 0) rfl rfl rfl HQ0.out) ?_; refine Hid.out ?_)
              refine Hid.mk ?_
              go_wp2_with fail
              refine bodyPost_ret (results_two rfl (u := .slice none 0 0) (v := .int .i64 75) rfl rfl) rfl ?_
              exact ⟨spl_none _ _, HB9.out⟩
            have HQ0 : Hid (0 < qn) := Hid.mk (by omega)
            clear hq0
            go_wp2_with (refine wl_value rfl (exec_leF (m := qn) (n := 0) rfl rfl rfl (Int.not_le.2 HQ0.out)) ?_; refine Hid.out ?_)
            refine Hid.mk ?_
            obtain ⟨R, hRe⟩ : ∃ R, roomP P mtu id = R := ⟨_, rfl⟩
            have hqR : qn = (R : Int) := by rw [← hRe]; exact (HRM.out.1 HQ0.out).symm
            have HSPR : Hid (sp = (if bigP P R = true then [] else cutN P id R (manyP P R), if bigP P R = true then 75 else 0)) := Hid.mk (by rw [HSP2.out, hRe])
            have HRR : Hid (8 ≤ R ∧ R ≤ 1000000 ∧ 8 ≤ P.pay.size ∧ P.pay.size ≤ 65575) := Hid.mk (by
              have h1 := room_mod P mtu id
              have h2 := HQ0.out
              have h3 := HQB.out
              have h4 := HPS.out (by omega)
              have h5 := HSM.out.1
              unfold sizeP at h5
              rw [if_pos HR.out.1] at h5
              omega)
            subst hqR
            clear HRM HPS HQ8 HQN HQB HQ0 HSP2 HMT HHH hRe
            obtain ⟨o, ho⟩ : ∃ o : Nat, P.off = (o : Int) := ⟨P.off.toNat, by
              have h4 := (rgtP_iff.1 HR.out.1).2.2.2.2.2.2.1
              omega⟩
            have HO : Hid (P.off = (o : Int) ∧ o ≤ 65528) := Hid.mk ⟨ho, by have h4 := (rgtP_iff.1 HR.out.1).2.2.2.2.2.2.1; omega⟩
            have HMI : Hid (∀ j, R * j < P.pay.size ↔ j < manyP P R) := Hid.mk (fun j => many_iff (by have := HRR.out; omega))
            obtain ⟨n, hn⟩ : ∃ n, manyP P R = n := ⟨_, rfl⟩
            rw [hn] at HMI
            have HN := Hid.mk hn
            clear hn ho
            obtain ⟨nb, hnb⟩ : ∃ nb, w9.heap.size = nb := ⟨_, rfl⟩
            have HGW : Hid (g3 < nb ∧ g10 < nb ∧ w.heap.size ≤ nb ∧ g3 ≠ g10) := Hid.mk ⟨by rw [← hnb]; exact HS9.out.1.lt, by rw [← hnb]; exact HS9.out.2.lt, by have := HB9.out.size; omega, hne⟩
            go_wp2_with fail
            go_loopg [12, 13] n (fun gm s12 s13 z => ∃ (j at_ : Nat) (l : List (Pk × Value)), Hid (gm + j = n) ∧ s13 = .int .i64 (at_ : Int) ∧ Hid (at_ = R * j ∧ ∀ i, i < j → ¬ 65528 < P.off + ((R * i : Nat) : Int)) ∧ Hid (PkRow z nb w.heap.size s12 l ∧ l.map (·.1) = cutN P id R j) ∧ Hid (SAt z g3 27 46 (pkV P v) ∧ SAt z g10 27 46 (pkV (headOf P id) v)) ∧ Hid (Below w.heap.size w z) ∧ Hid (nb ≤ z.heap.size))
            case atStart => exact ⟨0, 0, [], Hid.mk (by omega), rfl, Hid.mk ⟨by rw [Nat.mul_zero], fun i hi => by omega⟩, Hid.mk ⟨⟨World.ownsRow_nil _ _ _ _, fun x hx => (by cases hx), List.Pairwise.nil, fun x hx => (by cases hx)⟩, rfl⟩, HS9, HB9, Hid.mk (by omega)⟩
            case round =>
              obtain ⟨j, at_, l, HJ, rfl, HAT, HL, HSz, HBz, HW6⟩ := hrel
              have t3 := HSz.out.1
              have t10 := HSz.out.2
              by_cases hlt : at_ < P.pay.size
              · have HLTI : Hid ((at_ : Int) < (P.pay.size : Int) ∧ at_ < P.pay.size ∧ j < n) := Hid.mk ⟨by omega, hlt, (HMI.out j).1 (by rw [← HAT.out.1]; exact hlt)⟩
                have HJ8 : Hid (j ≤ 8192) := Hid.mk (by
                  rcases Nat.eq_zero_or_pos j with h0 | h0
                  · omega
                  · have h1 := HAT.out.2 (j - 1) (by omega)
                    have h2 : 8 * (j - 1) ≤ R * (j - 1) := Nat.mul_le_mul_right _ HRR.out.1
                    have h3 := HO.out
                    generalize R * (j - 1) = x at *
                    omega)
                obtain ⟨E1, hE1⟩ : ∃ E1, at_ + R = E1 := ⟨_, rfl⟩
                have HE1 := Hid.mk hE1
                obtain ⟨off, hoff⟩ : ∃ off, o + at_ = off := ⟨_, rfl⟩
                have HOF := Hid.mk hoff
                have hxz := HX.out.kept HBz.out
                have HXZ := Hid.mk hxz
                clear hxz hE1 hoff hlt
                go_wp2_with (refine wl_value rfl (exec_fpkL 13 45 (by decide) rfl rfl rfl) ?_; refine Hid.out ?_)
                refine Hid.mk ?_
                go_wp2_with (refine wl_value rfl (exec_ld rfl rfl (ldPs (pk_pay t3))) ?_; refine Hid.out ?_)
                refine Hid.mk ?_
                go_wp2_with (refine wl_value rfl (exec_lenS rfl rfl) ?_; refine Hid.out ?_)
                refine Hid.mk ?_
                go_wp2_with (refine wl_value rfl (exec_ltT (m := (at_ : Int)) (n := (P.pay.size : Int)) rfl rfl rfl HLTI.out.1) ?_; refine Hid.out ?_)
                refine Hid.mk ?_
                go_wp2_with (refine wl_value rfl (exec_addW (i := at_) (m := R) (q := E1) rfl rfl rfl HE1.out (by have := HE1.out; have := HRR.out; have := HLTI.out; omega)) ?_; refine Hid.out ?_)
                refine Hid.mk ?_
                by_cases hE : P.pay.size ≤ E1
                · have HEL : Hid (decide ((P.pay.size : Int) ≤ (E1 : Int)) = true) := Hid.mk (decide_eq_true (by omega))
                  have HEE := Hid.mk hE
                  clear hE
                  go_wp2_with (refine wl_value rfl (exec_fpkL 13 45 (by decide) rfl rfl rfl) ?_; refine Hid.out ?_)
                  refine Hid.mk ?_
                  go_wp2_with (refine wl_value rfl (exec_ld rfl rfl (ldPs (pk_pay t3))) ?_; refine Hid.out ?_)
                  refine Hid.mk ?_
                  go_wp2_with (refine wl_value rfl (exec_lenS rfl rfl) ?_; refine Hid.out ?_)
                  refine Hid.mk ?_
                  go_wp2_with (refine wl_value rfl (exec_geW (m := (E1 : Int)) (n := (P.pay.size : Int)) (z := true) rfl rfl rfl HEL.out) ?_; refine Hid.out ?_)
                  refine Hid.mk ?_
                  go_wp2_with (refine wl_value rfl (exec_fpkL 13 45 (by decide) rfl rfl rfl) ?_; refine Hid.out ?_)
                  refine Hid.mk ?_
                  go_wp2_with (refine wl_value rfl (exec_ld rfl rfl (ldPs (pk_pay t3))) ?_; refine Hid.out ?_)
                  refine Hid.mk ?_
                  go_wp2_with (refine wl_value rfl (exec_lenS rfl rfl) ?_; refine Hid.out ?_)
                  refine Hid.mk ?_
                  have HPC : Hid (pieceAt P id R (R * j) = { headOf P id with off := (off : Int), more := P.more, pay := P.pay.extract at_ P.pay.size }) := Hid.mk (by
                    have h1 := HE1.out
                    have h2 := HAT.out.1
                    have h3 := HO.out.1
                    have h4 := HOF.out
                    have h5 := HEE.out
                    unfold pieceAt
                    rw [← h2, h1, h3, show min E1 P.pay.size = P.pay.size by omega, show (o : Int) + (at_ : Int) = (off : Int) by omega]
                    rw [decide_eq_false (show ¬ E1 < P.pay.size by omega), Bool.or_false])
                  go_wp2_with (refine wl_value rfl (look_st rfl isPk t10 rfl) ?_; refine Hid.out ?_)
                  refine Hid.mk ?_
                  go_wp2_with (refine wl_alO rfl rfl zeroPk ?_; intro g15 z1 hg15 s15 hB1; refine Hid.out ?_)
                  refine Hid.mk ?_
                  have hl10 := t10.lt
                  have hl3 := t3.lt
                  have hn15 : g3 ≠ g15 ∧ g10 ≠ g15 := by omega
                  have t3 := t3.kept hB1
                  have t10 := t10.kept hB1
                  go_wp2_with (refine st_stO (V := pkV (headOf P id) v) (g := g15) rfl rfl isPk (pkV_one hv1) s15 rfl rfl ?_; intro z2 s15 ho2; refine Hid.out ?_)
                  refine Hid.mk ?_
                  have t3 := t3.only ho2 hn15.1
                  have t10 := t10.only ho2 hn15.2
                  go_wp2_with (refine wl_value rfl (exec_fpkL 11 43 (by decide) rfl rfl rfl) ?_; refine Hid.out ?_)
                  refine Hid.mk ?_
                  go_wp2_with (refine wl_stP (z := .slice none 0 0) (V' := pkV (headOf P id) (.slice none 0 0)) rfl rfl rfl rfl (by decide) stX s15 (pk_up43 _ _ _) ?_; intro z3 s15 ho3; refine Hid.out ?_)
                  refine Hid.mk ?_
                  have t3 := t3.only ho3 hn15.1
                  have t10 := t10.only ho3 hn15.2
                  have o13 := ho2.trans ho3
                  have HG15 : Hid (g15 < z3.heap.size) := Hid.mk s15.lt
                  have hb3 : Below wr.heap.size wr z3 := hB1.trans (o13.below hg15)
                  have HX3 : Hid (ExAt z3 v P.exts) := Hid.mk (HXZ.out.kept hb3)
                  clear ho2 ho3 o13
                  go_wp2_with (refine wl_value rfl (exec_fpkL 11 43 (by decide) rfl rfl rfl) ?_; refine Hid.out ?_)
                  refine Hid.mk ?_
                  go_wp2_with (refine wl_value rfl (exec_ld rfl rfl (ldPx (pk_exts s15))) ?_; refine Hid.out ?_)
                  refine Hid.mk ?_
                  go_wp2_with (refine wl_value rfl (exec_fpkL 11 43 (by decide) rfl rfl rfl) ?_; refine Hid.out ?_)
                  refine Hid.mk ?_
                  go_wp2_with (refine wl_value rfl (exec_ld rfl rfl (ldPx (pk_exts t3))) ?_; refine Hid.out ?_)
                  refine Hid.mk ?_
                  go_wp2_with (refine wl_apN rfl rfl rfl rfl HX3.out (rgt_len HR.out.1).2 ?_; intro v1 z4 hr4 hB4; refine Hid.out ?_)
                  refine Hid.mk ?_
                  have hnew := own_new hr4
                  have h11 := hnew.1
                  obtain ⟨a1, c1, rfl, _⟩ := h11
                  have t3 := t3.kept hB4
                  have t10 := t10.kept hB4
                  have s15 := s15.kept hB4
                  go_wp2_with (refine wl_value rfl (exec_fpkL 11 43 (by decide) rfl rfl rfl) ?_; refine Hid.out ?_)
                  refine Hid.mk ?_
                  go_wp2_with (refine wl_stP (z := .slice a1 P.exts.length c1) (V' := pkV (headOf P id) (.slice a1 P.exts.length c1)) rfl rfl rfl rfl (by decide) stX s15 (pk_up43 _ _ _) ?_; intro z5 s16 ho5; refine Hid.out ?_)
                  refine Hid.mk ?_
                  have t3 := t3.only ho5 hn15.1
                  have t10 := t10.only ho5 hn15.2
                  have c38 : z5.cell? ⟨g3, 38, none⟩ = some (.int .i64 (o : Int)) := (pk_off t3).trans (by rw [HO.out.1])
                  go_wp2_with (refine wl_value rfl (exec_fpkL 6 38 (by decide) rfl rfl rfl) ?_; refine Hid.out ?_)
                  refine Hid.mk ?_
                  go_wp2_with (refine wl_value rfl (exec_ld rfl rfl (ldP c38)) ?_; refine Hid.out ?_)
                  refine Hid.mk ?_
                  go_wp2_with (refine wl_value rfl (exec_addW (i := o) (m := at_) (q := off) rfl rfl rfl HOF.out (by have := HOF.out; have := HO.out; have := HLTI.out; have := HRR.out; omega)) ?_; refine Hid.out ?_)
                  refine Hid.mk ?_
                  go_wp2_with (refine wl_value rfl (exec_fpkL 6 38 (by decide) rfl rfl rfl) ?_; refine Hid.out ?_)
                  refine Hid.mk ?_
                  go_wp2_with (refine wl_stP (z := .int .i64 (off : Int)) (V' := pkV { headOf P id with off := (off : Int) } (.slice a1 P.exts.length c1)) rfl rfl rfl rfl (by decide) (stI (off : Int)) s16 (pk_up38 _ _ (off : Int)) ?_; intro z6 s17 ho6; refine Hid.out ?_)
                  refine Hid.mk ?_
                  have t3 := t3.only ho6 hn15.1
                  have t10 := t10.only ho6 hn15.2
                  clear c38
                  go_wp2_with (refine wl_value rfl (exec_fpkL 13 45 (by decide) rfl rfl rfl) ?_; refine Hid.out ?_)
                  refine Hid.mk ?_
                  go_wp2_with (refine wl_value rfl (exec_ld rfl rfl (ldPs (pk_pay t3))) ?_; refine Hid.out ?_)
                  refine Hid.mk ?_
                  go_wp2_with (refine wl_value rfl (exec_lenS rfl rfl) ?_; refine Hid.out ?_)
                  refine Hid.mk ?_
                  go_wp2_with (refine wl_value rfl (exec_ltF (m := (P.pay.size : Int)) (n := (P.pay.size : Int)) rfl rfl rfl (Int.lt_irrefl _)) ?_; refine Hid.out ?_)
                  refine Hid.mk ?_
                  go_wp2_with (refine wl_value rfl (exec_fpkL 7 39 (by decide) rfl rfl rfl) ?_; refine Hid.out ?_)
                  refine Hid.mk ?_
                  go_wp2_with (refine wl_value rfl (exec_ld rfl rfl (ldPb (pk_more t3))) ?_; refine Hid.out ?_)
                  refine Hid.mk ?_
                  go_wp2_with (refine wl_value rfl (exec_fpkL 7 39 (by decide) rfl rfl rfl) ?_; refine Hid.out ?_)
                  refine Hid.mk ?_
                  go_wp2_with (refine wl_stP (z := .bool P.more) (V' := pkV { headOf P id with off := (off : Int), more := P.more } (.slice a1 P.exts.length c1)) rfl rfl rfl rfl (by decide) (stB P.more) s17 (pk_up39 _ _ P.more) ?_; intro z7 s18 ho7; refine Hid.out ?_)
                  refine Hid.mk ?_
                  have t3 := t3.only ho7 hn15.1
                  have t10 := t10.only ho7 hn15.2
                  go_wp2_with (refine wl_value rfl (exec_fpkL 13 45 (by decide) rfl rfl rfl) ?_; refine Hid.out ?_)
                  refine Hid.mk ?_
                  go_wp2_with (refine wl_value rfl (exec_ld rfl rfl (ldPs (pk_pay t3))) ?_; refine Hid.out ?_)
                  refine Hid.mk ?_
                  go_wp2_with (refine wl_value rfl (exec_slLH (u := .int .i64 (at_ : Int)) (u' := .int .i64 (P.pay.size : Int)) rfl rfl rfl rfl (strLH P.pay at_ P.pay.size _ (by have := HLTI.out; have := HE1.out; omega) (by have := HEE.out; omega))) ?_; refine Hid.out ?_)
                  refine Hid.mk ?_
                  go_wp2_with (refine wl_value rfl (exec_fpkL 13 45 (by decide) rfl rfl rfl) ?_; refine Hid.out ?_)
                  refine Hid.mk ?_
                  go_wp2_with (refine wl_stP (z := .string (P.pay.extract at_ P.pay.size)) (V' := pkV (pieceAt P id R (R * j)) (.slice a1 P.exts.length c1)) rfl rfl rfl rfl (by decide) (stS (P.pay.extract at_ P.pay.size)) s18 (by rw [HPC.out]; exact pk_up45 _ _ (P.pay.extract at_ P.pay.size)) ?_; intro z8 s19 ho8; refine Hid.out ?_)
                  refine Hid.mk ?_
                  have t3 := t3.only ho8 hn15.1
                  have t10 := t10.only ho8 hn15.2
                  have o58 := ((ho5.trans ho6).trans ho7).trans ho8
                  have hb4 : Below wr.heap.size wr z4 := hb3.trans (hB4.mono hb3.size)
                  have hb8 : Below wr.heap.size wr z8 := hb4.trans (o58.below hg15)
                  have hg3z := HG15.out
                  have hx8 : NewEx wr.heap.size z8 (.slice a1 P.exts.length c1) (pieceAt P id R (R * j)).exts := by rw [HPC.out]; show NewEx _ _ _ (headOf P id).exts; rw [head_exts]; exact (hnew.only o58 hg3z).mono hb3.size
                  have c38 : z8.cell? ⟨g15, 38, none⟩ = some (.int .i64 (off : Int)) := (pk_off s19).trans (by rw [HPC.out])
                  clear ho5 ho6 ho7 ho8 o58 s15 s16 s17 s18 hnew hB4 hb3 hb4 hB1 HX3
                  by_cases hfar : 65528 < off
                  · have HFA : Hid (decide ((65528 : Int) < (off : Int)) = true) := Hid.mk (decide_eq_true (by omega))
                    have hbig : bigP P R = true := big_some (j := j) (by have := HRR.out; omega) (by have := HLTI.out; have := HAT.out.1; omega) (by rw [← HAT.out.1]; have := HOF.out; have := HO.out; omega)
                    have hsp : sp = ([], 75) := by rw [HSPR.out, if_pos hbig, if_pos hbig]
                    have HSE := Hid.mk hsp
                    clear hfar hbig hsp
                    go_wp2_with (refine wl_value rfl (exec_fpkL 6 38 (by decide) rfl rfl rfl) ?_; refine Hid.out ?_)
                    refine Hid.mk ?_
                    go_wp2_with (refine wl_value rfl (exec_ld rfl rfl (ldP c38)) ?_; refine Hid.out ?_)
                    refine Hid.mk ?_
                    go_wp2_with (refine wl_value rfl (exec_gtW (m := (off : Int)) (n := 65528) (z := true) rfl rfl rfl HFA.out) ?_; refine Hid.out ?_)
                    refine Hid.mk ?_
                    go_wp2_with fail
                    rw [HSE.out]
                    refine bodyPost_ret (results_two rfl (u := .slice none 0 0) (v := .int .i64 75) rfl rfl) rfl ?_
                    exact ⟨spl_none _ _, HBz.out.trans (hb8.mono HBz.out.size)⟩
                  have HFA : Hid (decide ((65528 : Int) < (off : Int)) = false ∧ ¬ 65528 < off) := Hid.mk ⟨decide_eq_false (by omega), hfar⟩
                  clear hfar
                  go_wp2_with (refine wl_value rfl (exec_fpkL 6 38 (by decide) rfl rfl rfl) ?_; refine Hid.out ?_)
                  refine Hid.mk ?_
                  go_wp2_with (refine wl_value rfl (exec_ld rfl rfl (ldP c38)) ?_; refine Hid.out ?_)
                  refine Hid.mk ?_
                  go_wp2_with (refine wl_value rfl (exec_gtW (m := (off : Int)) (n := 65528) (z := false) rfl rfl rfl HFA.out.1) ?_; refine Hid.out ?_)
                  refine Hid.mk ?_
                  go_wp2_with (refine wl_value rfl (look_st rfl isPk s19 rfl) ?_; refine Hid.out ?_)
                  refine Hid.mk ?_
                  go_wp2_with (refine wl_bsK rfl rfl rfl ?_; intro bb z9 hbb s9 hB9; refine Hid.out ?_)
                  refine Hid.mk ?_
                  have t3 := t3.kept hB9
                  have t10 := t10.kept hB9
                  have hb9 := hb8.trans (hB9.mono hb8.size)
                  have hx9 := hx8.kept hB9
                  have hlen : l.length = j := by
                    have h1 := congrArg List.length HL.out.2
                    rw [List.length_map] at h1
                    rw [h1]
                    unfold cutN
                    rw [List.length_map, List.length_range]
                  go_wp2_with (at_builtin; refine ap_row rfl Try.underlying29 pkInfo (by decide) (by decide) rfl (pkV_one hx9.2.1) rfl rfl (ownT_kept HL.out.1.row hb9) s9 (by have := HJ8.out; omega) (Nat.le_trans HW6.out hb9.size) ?_; intro v' z10 q1 q2 q3; refine Hid.out ?_)
                  refine Hid.mk ?_
                  have hrow10 : PkRow z10 nb w.heap.size v' (l ++ [(pieceAt P id R (R * j), .slice a1 P.exts.length c1)]) := HL.out.1.more (x := (pieceAt P id R (R * j), .slice a1 P.exts.length c1)) HBz.out.size hb9 hx9 q1 q2 q3
                  have hob : ∀ k, k < nb → u12.ownBlock ≠ some k := fun k hk e => by have := ownM_base HL.out.1.row k e; omega
                  have t3 := t3.block (q2.block g3 t3.lt (fun e => hob g3 HGW.out.1 e.symm))
                  have t10 := t10.block (q2.block g10 t10.lt (fun e => hob g10 HGW.out.2.1 e.symm))
                  have hb10 : Below w.heap.size w z10 := (HBz.out.trans (hb9.mono HBz.out.size)).trans ⟨q2.os, q2.tape, q2.output, q2.size, fun k hk => q2.block k (by have := HBz.out.size; have := hb9.size; omega) (fun e => hob k (by have := HGW.out; omega) e.symm)⟩
                  have HR8 := Hid.mk (And.intro hrow10 (show (l ++ [(pieceAt P id R (R * j), Value.slice a1 P.exts.length c1)]).map (·.1) = cutN P id R (j + 1) by rw [List.map_append, HL.out.2, cutN_succ]; rfl))
                  have HT8 := Hid.mk (And.intro t3 t10)
                  have HB8 := Hid.mk hb10
                  have HZ8 : Hid (nb ≤ z10.heap.size) := Hid.mk (by have := HW6.out; have := hb9.size; have := q2.size; omega)
                  clear hrow10 hob t3 t10 hb10 q1 q2 q3 hx9 hb9 hx8 hb8 s9 s19 c38 hB9
                  go_wp2_with (refine wl_value rfl (exec_addW (i := at_) (m := R) (q := E1) rfl rfl rfl HE1.out (by have := HE1.out; have := HRR.out; have := HLTI.out; omega)) ?_; refine Hid.out ?_)
                  refine Hid.mk ?_
                  go_wp2_with fail
                  go_roundg (n - (j + 1))
                  case rel => exact ⟨j + 1, E1, _, Hid.mk (by have := HLTI.out; omega), rfl, Hid.mk ⟨by have := HAT.out.1; have := HE1.out; rw [Nat.mul_add, Nat.mul_one]; omega, fun i hi => by
                    rcases Nat.lt_or_ge i j with h | h
                    · exact HAT.out.2 i h
                    · obtain rfl : i = j := by omega
                      rw [← HAT.out.1]
                      have := HFA.out.2
                      have := HOF.out
                      have := HO.out
                      omega⟩, HR8, HT8, HB8, HZ8⟩
                  case measure => have := HJ.out; have := HLTI.out; omega

                · have HEG : Hid (decide ((P.pay.size : Int) ≤ (E1 : Int)) = false) := Hid.mk (decide_eq_false (by omega))
                  have HEL : Hid ((E1 : Int) < (P.pay.size : Int)) := Hid.mk (by omega)
                  have HEE : Hid (E1 < P.pay.size) := Hid.mk (by omega)
                  clear hE
                  go_wp2_with (refine wl_value rfl (exec_fpkL 13 45 (by decide) rfl rfl rfl) ?_; refine Hid.out ?_)
                  refine Hid.mk ?_
                  go_wp2_with (refine wl_value rfl (exec_ld rfl rfl (ldPs (pk_pay t3))) ?_; refine Hid.out ?_)
                  refine Hid.mk ?_
                  go_wp2_with (refine wl_value rfl (exec_lenS rfl rfl) ?_; refine Hid.out ?_)
                  refine Hid.mk ?_
                  go_wp2_with (refine wl_value rfl (exec_geW (m := (E1 : Int)) (n := (P.pay.size : Int)) (z := false) rfl rfl rfl HEG.out) ?_; refine Hid.out ?_)
                  refine Hid.mk ?_
                  have HPC : Hid (pieceAt P id R (R * j) = { headOf P id with off := (off : Int), more := true, pay := P.pay.extract at_ E1 }) := Hid.mk (by
                    have h1 := HE1.out
                    have h2 := HAT.out.1
                    have h3 := HO.out.1
                    have h4 := HOF.out
                    have h5 := HEE.out
                    unfold pieceAt
                    rw [← h2, h1, h3, show min E1 P.pay.size = E1 by omega, show (o : Int) + (at_ : Int) = (off : Int) by omega]
                    rw [decide_eq_true h5, Bool.or_true])
                  go_wp2_with (refine wl_value rfl (look_st rfl isPk t10 rfl) ?_; refine Hid.out ?_)
                  refine Hid.mk ?_
                  go_wp2_with (refine wl_alO rfl rfl zeroPk ?_; intro g15 z1 hg15 s15 hB1; refine Hid.out ?_)
                  refine Hid.mk ?_
                  have hl10 := t10.lt
                  have hl3 := t3.lt
                  have hn15 : g3 ≠ g15 ∧ g10 ≠ g15 := by omega
                  have t3 := t3.kept hB1
                  have t10 := t10.kept hB1
                  go_wp2_with (refine st_stO (V := pkV (headOf P id) v) (g := g15) rfl rfl isPk (pkV_one hv1) s15 rfl rfl ?_; intro z2 s15 ho2; refine Hid.out ?_)
                  refine Hid.mk ?_
                  have t3 := t3.only ho2 hn15.1
                  have t10 := t10.only ho2 hn15.2
                  go_wp2_with (refine wl_value rfl (exec_fpkL 11 43 (by decide) rfl rfl rfl) ?_; refine Hid.out ?_)
                  refine Hid.mk ?_
                  go_wp2_with (refine wl_stP (z := .slice none 0 0) (V' := pkV (headOf P id) (.slice none 0 0)) rfl rfl rfl rfl (by decide) stX s15 (pk_up43 _ _ _) ?_; intro z3 s15 ho3; refine Hid.out ?_)
                  refine Hid.mk ?_
                  have t3 := t3.only ho3 hn15.1
                  have t10 := t10.only ho3 hn15.2
                  have o13 := ho2.trans ho3
                  have HG15 : Hid (g15 < z3.heap.size) := Hid.mk s15.lt
                  have hb3 : Below wr.heap.size wr z3 := hB1.trans (o13.below hg15)
                  have HX3 : Hid (ExAt z3 v P.exts) := Hid.mk (HXZ.out.kept hb3)
                  clear ho2 ho3 o13
                  go_wp2_with (refine wl_value rfl (exec_fpkL 11 43 (by decide) rfl rfl rfl) ?_; refine Hid.out ?_)
                  refine Hid.mk ?_
                  go_wp2_with (refine wl_value rfl (exec_ld rfl rfl (ldPx (pk_exts s15))) ?_; refine Hid.out ?_)
                  refine Hid.mk ?_
                  go_wp2_with (refine wl_value rfl (exec_fpkL 11 43 (by decide) rfl rfl rfl) ?_; refine Hid.out ?_)
                  refine Hid.mk ?_
                  go_wp2_with (refine wl_value rfl (exec_ld rfl rfl (ldPx (pk_exts t3))) ?_; refine Hid.out ?_)
                  refine Hid.mk ?_
                  go_wp2_with (refine wl_apN rfl rfl rfl rfl HX3.out (rgt_len HR.out.1).2 ?_; intro v1 z4 hr4 hB4; refine Hid.out ?_)
                  refine Hid.mk ?_
                  have hnew := own_new hr4
                  have h11 := hnew.1
                  obtain ⟨a1, c1, rfl, _⟩ := h11
                  have t3 := t3.kept hB4
                  have t10 := t10.kept hB4
                  have s15 := s15.kept hB4
                  go_wp2_with (refine wl_value rfl (exec_fpkL 11 43 (by decide) rfl rfl rfl) ?_; refine Hid.out ?_)
                  refine Hid.mk ?_
                  go_wp2_with (refine wl_stP (z := .slice a1 P.exts.length c1) (V' := pkV (headOf P id) (.slice a1 P.exts.length c1)) rfl rfl rfl rfl (by decide) stX s15 (pk_up43 _ _ _) ?_; intro z5 s16 ho5; refine Hid.out ?_)
                  refine Hid.mk ?_
                  have t3 := t3.only ho5 hn15.1
                  have t10 := t10.only ho5 hn15.2
                  have c38 : z5.cell? ⟨g3, 38, none⟩ = some (.int .i64 (o : Int)) := (pk_off t3).trans (by rw [HO.out.1])
                  go_wp2_with (refine wl_value rfl (exec_fpkL 6 38 (by decide) rfl rfl rfl) ?_; refine Hid.out ?_)
                  refine Hid.mk ?_
                  go_wp2_with (refine wl_value rfl (exec_ld rfl rfl (ldP c38)) ?_; refine Hid.out ?_)
                  refine Hid.mk ?_
                  go_wp2_with (refine wl_value rfl (exec_addW (i := o) (m := at_) (q := off) rfl rfl rfl HOF.out (by have := HOF.out; have := HO.out; have := HLTI.out; have := HRR.out; omega)) ?_; refine Hid.out ?_)
                  refine Hid.mk ?_
                  go_wp2_with (refine wl_value rfl (exec_fpkL 6 38 (by decide) rfl rfl rfl) ?_; refine Hid.out ?_)
                  refine Hid.mk ?_
                  go_wp2_with (refine wl_stP (z := .int .i64 (off : Int)) (V' := pkV { headOf P id with off := (off : Int) } (.slice a1 P.exts.length c1)) rfl rfl rfl rfl (by decide) (stI (off : Int)) s16 (pk_up38 _ _ (off : Int)) ?_; intro z6 s17 ho6; refine Hid.out ?_)
                  refine Hid.mk ?_
                  have t3 := t3.only ho6 hn15.1
                  have t10 := t10.only ho6 hn15.2
                  clear c38
                  go_wp2_with (refine wl_value rfl (exec_fpkL 13 45 (by decide) rfl rfl rfl) ?_; refine Hid.out ?_)
                  refine Hid.mk ?_
                  go_wp2_with (refine wl_value rfl (exec_ld rfl rfl (ldPs (pk_pay t3))) ?_; refine Hid.out ?_)
                  refine Hid.mk ?_
                  go_wp2_with (refine wl_value rfl (exec_lenS rfl rfl) ?_; refine Hid.out ?_)
                  refine Hid.mk ?_
                  go_wp2_with (refine wl_value rfl (exec_ltT (m := (E1 : Int)) (n := (P.pay.size : Int)) rfl rfl rfl HEL.out) ?_; refine Hid.out ?_)
                  refine Hid.mk ?_
                  go_wp2_with (refine wl_value rfl (exec_fpkL 7 39 (by decide) rfl rfl rfl) ?_; refine Hid.out ?_)
                  refine Hid.mk ?_
                  go_wp2_with (refine wl_stP (z := .bool true) (V' := pkV { headOf P id with off := (off : Int), more := true } (.slice a1 P.exts.length c1)) rfl rfl rfl rfl (by decide) (stB true) s17 (pk_up39 _ _ true) ?_; intro z7 s18 ho7; refine Hid.out ?_)
                  refine Hid.mk ?_
                  have t3 := t3.only ho7 hn15.1
                  have t10 := t10.only ho7 hn15.2
                  go_wp2_with (refine wl_value rfl (exec_fpkL 13 45 (by decide) rfl rfl rfl) ?_; refine Hid.out ?_)
                  refine Hid.mk ?_
                  go_wp2_with (refine wl_value rfl (exec_ld rfl rfl (ldPs (pk_pay t3))) ?_; refine Hid.out ?_)
                  refine Hid.mk ?_
                  go_wp2_with (refine wl_value rfl (exec_slLH (u := .int .i64 (at_ : Int)) (u' := .int .i64 (E1 : Int)) rfl rfl rfl rfl (strLH P.pay at_ E1 _ (by have := HLTI.out; have := HE1.out; omega) (by have := HEE.out; omega))) ?_; refine Hid.out ?_)
                  refine Hid.mk ?_
                  go_wp2_with (refine wl_value rfl (exec_fpkL 13 45 (by decide) rfl rfl rfl) ?_; refine Hid.out ?_)
                  refine Hid.mk ?_
                  go_wp2_with (refine wl_stP (z := .string (P.pay.extract at_ E1)) (V' := pkV (pieceAt P id R (R * j)) (.slice a1 P.exts.length c1)) rfl rfl rfl rfl (by decide) (stS (P.pay.extract at_ E1)) s18 (by rw [HPC.out]; exact pk_up45 _ _ (P.pay.extract at_ E1)) ?_; intro z8 s19 ho8; refine Hid.out ?_)
                  refine Hid.mk ?_
                  have t3 := t3.only ho8 hn15.1
                  have t10 := t10.only ho8 hn15.2
                  have o58 := ((ho5.trans ho6).trans ho7).trans ho8
                  have hb4 : Below wr.heap.size wr z4 := hb3.trans (hB4.mono hb3.size)
                  have hb8 : Below wr.heap.size wr z8 := hb4.trans (o58.below hg15)
                  have hg3z := HG15.out
                  have hx8 : NewEx wr.heap.size z8 (.slice a1 P.exts.length c1) (pieceAt P id R (R * j)).exts := by rw [HPC.out]; show NewEx _ _ _ (headOf P id).exts; rw [head_exts]; exact (hnew.only o58 hg3z).mono hb3.size
                  have c38 : z8.cell? ⟨g15, 38, none⟩ = some (.int .i64 (off : Int)) := (pk_off s19).trans (by rw [HPC.out])
                  clear ho5 ho6 ho7 ho8 o58 s15 s16 s17 s18 hnew hB4 hb3 hb4 hB1 HX3
                  by_cases hfar : 65528 < off
                  · have HFA : Hid (decide ((65528 : Int) < (off : Int)) = true) := Hid.mk (decide_eq_true (by omega))
                    have hbig : bigP P R = true := big_some (j := j) (by have := HRR.out; omega) (by have := HLTI.out; have := HAT.out.1; omega) (by rw [← HAT.out.1]; have := HOF.out; have := HO.out; omega)
                    have hsp : sp = ([], 75) := by rw [HSPR.out, if_pos hbig, if_pos hbig]
                    have HSE := Hid.mk hsp
                    clear hfar hbig hsp
                    go_wp2_with (refine wl_value rfl (exec_fpkL 6 38 (by decide) rfl rfl rfl) ?_; refine Hid.out ?_)
                    refine Hid.mk ?_
                    go_wp2_with (refine wl_value rfl (exec_ld rfl rfl (ldP c38)) ?_; refine Hid.out ?_)
                    refine Hid.mk ?_
                    go_wp2_with (refine wl_value rfl (exec_gtW (m := (off : Int)) (n := 65528) (z := true) rfl rfl rfl HFA.out) ?_; refine Hid.out ?_)
                    refine Hid.mk ?_
                    go_wp2_with fail
                    rw [HSE.out]
                    refine bodyPost_ret (results_two rfl (u := .slice none 0 0) (v := .int .i64 75) rfl rfl) rfl ?_
                    exact ⟨spl_none _ _, HBz.out.trans (hb8.mono HBz.out.size)⟩
                  have HFA : Hid (decide ((65528 : Int) < (off : Int)) = false ∧ ¬ 65528 < off) := Hid.mk ⟨decide_eq_false (by omega), hfar⟩
                  clear hfar
                  go_wp2_with (refine wl_value rfl (exec_fpkL 6 38 (by decide) rfl rfl rfl) ?_; refine Hid.out ?_)
                  refine Hid.mk ?_
                  go_wp2_with (refine wl_value rfl (exec_ld rfl rfl (ldP c38)) ?_; refine Hid.out ?_)
                  refine Hid.mk ?_
                  go_wp2_with (refine wl_value rfl (exec_gtW (m := (off : Int)) (n := 65528) (z := false) rfl rfl rfl HFA.out.1) ?_; refine Hid.out ?_)
                  refine Hid.mk ?_
                  go_wp2_with (refine wl_value rfl (look_st rfl isPk s19 rfl) ?_; refine Hid.out ?_)
                  refine Hid.mk ?_
                  go_wp2_with (refine wl_bsK rfl rfl rfl ?_; intro bb z9 hbb s9 hB9; refine Hid.out ?_)
                  refine Hid.mk ?_
                  have t3 := t3.kept hB9
                  have t10 := t10.kept hB9
                  have hb9 := hb8.trans (hB9.mono hb8.size)
                  have hx9 := hx8.kept hB9
                  have hlen : l.length = j := by
                    have h1 := congrArg List.length HL.out.2
                    rw [List.length_map] at h1
                    rw [h1]
                    unfold cutN
                    rw [List.length_map, List.length_range]
                  go_wp2_with (at_builtin; refine ap_row rfl Try.underlying29 pkInfo (by decide) (by decide) rfl (pkV_one hx9.2.1) rfl rfl (ownT_kept HL.out.1.row hb9) s9 (by have := HJ8.out; omega) (Nat.le_trans HW6.out hb9.size) ?_; intro v' z10 q1 q2 q3; refine Hid.out ?_)
                  refine Hid.mk ?_
                  have hrow10 : PkRow z10 nb w.heap.size v' (l ++ [(pieceAt P id R (R * j), .slice a1 P.exts.length c1)]) := HL.out.1.more (x := (pieceAt P id R (R * j), .slice a1 P.exts.length c1)) HBz.out.size hb9 hx9 q1 q2 q3
                  have hob : ∀ k, k < nb → u12.ownBlock ≠ some k := fun k hk e => by have := ownM_base HL.out.1.row k e; omega
                  have t3 := t3.block (q2.block g3 t3.lt (fun e => hob g3 HGW.out.1 e.symm))
                  have t10 := t10.block (q2.block g10 t10.lt (fun e => hob g10 HGW.out.2.1 e.symm))
                  have hb10 : Below w.heap.size w z10 := (HBz.out.trans (hb9.mono HBz.out.size)).trans ⟨q2.os, q2.tape, q2.output, q2.size, fun k hk => q2.block k (by have := HBz.out.size; have := hb9.size; omega) (fun e => hob k (by have := HGW.out; omega) e.symm)⟩
                  have HR8 := Hid.mk (And.intro hrow10 (show (l ++ [(pieceAt P id R (R * j), Value.slice a1 P.exts.length c1)]).map (·.1) = cutN P id R (j + 1) by rw [List.map_append, HL.out.2, cutN_succ]; rfl))
                  have HT8 := Hid.mk (And.intro t3 t10)
                  have HB8 := Hid.mk hb10
                  have HZ8 : Hid (nb ≤ z10.heap.size) := Hid.mk (by have := HW6.out; have := hb9.size; have := q2.size; omega)
                  clear hrow10 hob t3 t10 hb10 q1 q2 q3 hx9 hb9 hx8 hb8 s9 s19 c38 hB9
                  go_wp2_with (refine wl_value rfl (exec_addW (i := at_) (m := R) (q := E1) rfl rfl rfl HE1.out (by have := HE1.out; have := HRR.out; have := HLTI.out; omega)) ?_; refine Hid.out ?_)
                  refine Hid.mk ?_
                  go_wp2_with fail
                  go_roundg (n - (j + 1))
                  case rel => exact ⟨j + 1, E1, _, Hid.mk (by have := HLTI.out; omega), rfl, Hid.mk ⟨by have := HAT.out.1; have := HE1.out; rw [Nat.mul_add, Nat.mul_one]; omega, fun i hi => by
                    rcases Nat.lt_or_ge i j with h | h
                    · exact HAT.out.2 i h
                    · obtain rfl : i = j := by omega
                      rw [← HAT.out.1]
                      have := HFA.out.2
                      have := HOF.out
                      have := HO.out
                      omega⟩, HR8, HT8, HB8, HZ8⟩
                  case measure => have := HJ.out; have := HLTI.out; omega

              · have HLTI : Hid ((P.pay.size : Int) ≤ (at_ : Int)) := Hid.mk (by omega)
                have hjn : j = n := by
                  have h1 : ¬ j < n := fun h => hlt (by rw [HAT.out.1]; exact (HMI.out j).2 h)
                  have h2 := HJ.out
                  omega
                have hbig : bigP P R = false := big_none (by have := HRR.out; omega) (by have := HRR.out; omega) (fun i hi => HAT.out.2 i (by have := (HMI.out i).1 hi; omega))
                have hsp : sp = (cutN P id R n, 0) := by rw [HSPR.out, if_neg (by rw [hbig]; decide), if_neg (by rw [hbig]; decide), HN.out]
                have HSE := Hid.mk hsp
                subst hjn
                clear hlt hbig hsp
                go_wp2_with (refine wl_value rfl (exec_fpkL 13 45 (by decide) rfl rfl rfl) ?_; refine Hid.out ?_)
                refine Hid.mk ?_
                go_wp2_with (refine wl_value rfl (exec_ld rfl rfl (ldPs (pk_pay t3))) ?_; refine Hid.out ?_)
                refine Hid.mk ?_
                go_wp2_with (refine wl_value rfl (exec_lenS rfl rfl) ?_; refine Hid.out ?_)
                refine Hid.mk ?_
                go_wp2_with (refine wl_value rfl (exec_ltF (m := (at_ : Int)) (n := (P.pay.size : Int)) rfl rfl rfl (Int.not_lt.2 HLTI.out)) ?_; refine Hid.out ?_)
                refine Hid.mk ?_
                go_wp2_with fail
                rw [HSE.out]
                refine bodyPost_ret (results_two rfl (u := u12) (v := .int .i64 0) rfl rfl) rfl ?_
                exact ⟨⟨_, l, rfl, HL.out.1.sl, HL.out.2⟩, HBz.out⟩
          clear HK1
          rcases Bool.eq_false_or_eq_true P.sv with hsv | hsv
          · have csv : w8.cell? ⟨g3, 0, none⟩ = some (.bool true) := (pk_sv s3).trans (by rw [hsv])
            go_wp2_with (refine wl_value rfl (exec_fpkL 0 0 (by decide) rfl rfl rfl) ?_; refine Hid.out ?_)
            refine Hid.mk ?_
            go_wp2_with (refine wl_value rfl (exec_fad0 rfl rfl) ?_; refine Hid.out ?_)
            refine Hid.mk ?_
            go_wp2_with (refine wl_value rfl (exec_ld rfl rfl (ldPb csv)) ?_; refine Hid.out ?_)
            refine Hid.mk ?_
            clear csv
            go_wp2_with (refine wl_value rfl (exec_fpkL 12 44 (by decide) rfl rfl rfl) ?_; refine Hid.out ?_)
            refine Hid.mk ?_
            go_wp2_with (refine wl_stP (z := .bool true) (V' := pkV { P with pay := ByteArray.empty, cut := true } v) rfl rfl rfl rfl (by decide) (stB true) s10 (pk_up44 _ _ true) ?_; intro w9 s11 ho9; refine Hid.out ?_)
            refine Hid.mk ?_
            go_wp2_with (refine wl_value rfl (exec_fpkL 5 37 (by decide) rfl rfl rfl) ?_; refine Hid.out ?_)
            refine Hid.mk ?_
            go_wp2_with (refine wl_stP (z := .int .i64 id) (V' := pkV { P with pay := ByteArray.empty, cut := true, id := id } v) rfl rfl rfl rfl (by decide) (stI id) s11 (pk_up37 _ _ id) ?_; intro w10 s12 ho10; refine Hid.out ?_)
            refine Hid.mk ?_
            have hh : headOf P id = { P with pay := ByteArray.empty, cut := true, id := id } := if_pos hsv
            rw [← hh] at s12
            have s3 := (s3.only ho9 hne).only ho10 hne
            go_wp2_with fail
            exact TAIL _ _ _ _ _ _ w10 (Hid.mk ⟨s3, s12⟩) (Hid.mk (hBg.trans ((ho9.trans ho10).below hgw)))
          · have csv : w8.cell? ⟨g3, 0, none⟩ = some (.bool false) := (pk_sv s3).trans (by rw [hsv])
            go_wp2_with (refine wl_value rfl (exec_fpkL 0 0 (by decide) rfl rfl rfl) ?_; refine Hid.out ?_)
            refine Hid.mk ?_
            go_wp2_with (refine wl_value rfl (exec_fad0 rfl rfl) ?_; refine Hid.out ?_)
            refine Hid.mk ?_
            go_wp2_with (refine wl_value rfl (exec_ld rfl rfl (ldPb csv)) ?_; refine Hid.out ?_)
            refine Hid.mk ?_
            clear csv
            have hh : headOf P id = { P with pay := ByteArray.empty } := if_neg (by rw [hsv]; decide)
            rw [← hh] at s10
            go_wp2_with fail
            exact TAIL _ _ _ _ _ _ w8 (Hid.mk ⟨s3, s10⟩) (Hid.mk hBg)
end Go.Proofs.Ythnlfjkpiohooaa

