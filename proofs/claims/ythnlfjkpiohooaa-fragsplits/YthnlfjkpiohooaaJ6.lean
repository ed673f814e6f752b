/-
  Own text. Stores into packets in memory; append of extension headers.
-/
import Derived.Test.YthnlfjkpiohooaaJ5
import Derived.Scope
import Derived.Shelf.Strings.Builder1
import Derived.Shelf.Small.Wraps
import Derived.Shelf.SlSortCmp.WholeK
import Derived.Test.YthnlfjkpiohooaaProg
import Derived.Test.YthnlfjkpiohooaaJ2
namespace Go.Proofs.Ythnlfjkpiohooaa
open Go.RowKit Go.Proofs
set_option maxRecDepth 100000
theorem touch_tr {T : Nat → Prop} {u v w : World} (h : Touch T u v) (k : Touch T v w) : Touch T u w := h.tr k
theorem tou_only {g : Nat} {w w' : World} (h : Only g w w') : Touch (fun k => k = g) w w' := touch_only h
theorem tou_bel {T : Nat → Prop} {w w' : World} (h : Below w.heap.size w w') : Touch T w w' := (touch_below h).mono (fun _ _ e => e.elim)
theorem touch_new {T : Nat → Prop} {u v w : World} {g1 : Nat} (h : Touch T u v) (k : Only g1 v w) (hn : u.heap.size ≤ g1) : Touch T u w :=
  ⟨k.os.trans h.os, k.tape.trans h.tape, k.output.trans h.output, by rw [k.size]; exact h.size, fun j hj hn2 => (k.block j (by omega)).trans (h.block j hj hn2)⟩
theorem pk_up37 (P : Pk) (v : Value) (q : Int) : ∀ x, x < 46 → (if x = 37 then .int .i64 q else pkV P v x) = pkV { P with id := q } v x := by
  intro x hx
  unfold pkV
  by_cases h1 : x < 17
  · rw [if_neg (by omega), if_pos h1, if_pos h1]
  · by_cases h2 : x < 34
    · rw [if_neg (by omega), if_neg h1, if_neg h1, if_pos h2, if_pos h2]
    · rw [if_neg h1, if_neg h2, if_neg h1, if_neg h2]
      obtain ⟨y, rfl⟩ : ∃ y, x = 34 + y := ⟨x - 34, by omega⟩
      rw [Nat.add_sub_cancel_left]
      match y, hx with
      | 0, _ => rfl
      | 1, _ => rfl
      | 2, _ => rfl
      | 3, _ => rfl
      | 4, _ => rfl
      | 5, _ => rfl
      | 6, _ => rfl
      | 7, _ => rfl
      | 8, _ => rfl
      | 9, _ => rfl
      | 10, _ => rfl
      | 11, _ => rfl
      | y + 12, h => omega
theorem pk_up38 (P : Pk) (v : Value) (q : Int) : ∀ x, x < 46 → (if x = 38 then .int .i64 q else pkV P v x) = pkV { P with off := q } v x := by
  intro x hx
  unfold pkV
  by_cases h1 : x < 17
  · rw [if_neg (by omega), if_pos h1, if_pos h1]
  · by_cases h2 : x < 34
    · rw [if_neg (by omega), if_neg h1, if_neg h1, if_pos h2, if_pos h2]
    · rw [if_neg h1, if_neg h2, if_neg h1, if_neg h2]
      obtain ⟨y, rfl⟩ : ∃ y, x = 34 + y := ⟨x - 34, by omega⟩
      rw [Nat.add_sub_cancel_left]
      match y, hx with
      | 0, _ => rfl
      | 1, _ => rfl
      | 2, _ => rfl
      | 3, _ => rfl
      | 4, _ => rfl
      | 5, _ => rfl
      | 6, _ => rfl
      | 7, _ => rfl
      | 8, _ => rfl
      | 9, _ => rfl
      | 10, _ => rfl
      | 11, _ => rfl
      | y + 12, h => omega
theorem pk_up39 (P : Pk) (v : Value) (q : Bool) : ∀ x, x < 46 → (if x = 39 then .bool q else pkV P v x) = pkV { P with more := q } v x := by
  intro x hx
  unfold pkV
  by_cases h1 : x < 17
  · rw [if_neg (by omega), if_pos h1, if_pos h1]
  · by_cases h2 : x < 34
    · rw [if_neg (by omega), if_neg h1, if_neg h1, if_pos h2, if_pos h2]
    · rw [if_neg h1, if_neg h2, if_neg h1, if_neg h2]
      obtain ⟨y, rfl⟩ : ∃ y, x = 34 + y := ⟨x - 34, by omega⟩
      rw [Nat.add_sub_cancel_left]
      match y, hx with
      | 0, _ => rfl
      | 1, _ => rfl
      | 2, _ => rfl
      | 3, _ => rfl
      | 4, _ => rfl
      | 5, _ => rfl
      | 6, _ => rfl
      | 7, _ => rfl
      | 8, _ => rfl
      | 9, _ => rfl
      | 10, _ => rfl
      | 11, _ => rfl
      | y + 12, h => omega
theorem pk_up43 (P : Pk) (v : Value) (q : Value) : ∀ x, x < 46 → (if x = 43 then q else pkV P v x) = pkV P q x := by
  intro x hx
  unfold pkV
  by_cases h1 : x < 17
  · rw [if_neg (by omega), if_pos h1, if_pos h1]
  · by_cases h2 : x < 34
    · rw [if_neg (by omega), if_neg h1, if_neg h1, if_pos h2, if_pos h2]
    · rw [if_neg h1, if_neg h2, if_neg h1, if_neg h2]
      obtain ⟨y, rfl⟩ : ∃ y, x = 34 + y := ⟨x - 34, by omega⟩
      rw [Nat.add_sub_cancel_left]
      match y, hx with
      | 0, _ => rfl
      | 1, _ => rfl
      | 2, _ => rfl
      | 3, _ => rfl
      | 4, _ => rfl
      | 5, _ => rfl
      | 6, _ => rfl
      | 7, _ => rfl
      | 8, _ => rfl
      | 9, _ => rfl
      | 10, _ => rfl
      | 11, _ => rfl
      | y + 12, h => omega
theorem pk_up44 (P : Pk) (v : Value) (q : Bool) : ∀ x, x < 46 → (if x = 44 then .bool q else pkV P v x) = pkV { P with cut := q } v x := by
  intro x hx
  unfold pkV
  by_cases h1 : x < 17
  · rw [if_neg (by omega), if_pos h1, if_pos h1]
  · by_cases h2 : x < 34
    · rw [if_neg (by omega), if_neg h1, if_neg h1, if_pos h2, if_pos h2]
    · rw [if_neg h1, if_neg h2, if_neg h1, if_neg h2]
      obtain ⟨y, rfl⟩ : ∃ y, x = 34 + y := ⟨x - 34, by omega⟩
      rw [Nat.add_sub_cancel_left]
      match y, hx with
      | 0, _ => rfl
      | 1, _ => rfl
      | 2, _ => rfl
      | 3, _ => rfl
      | 4, _ => rfl
      | 5, _ => rfl
      | 6, _ => rfl
      | 7, _ => rfl
      | 8, _ => rfl
      | 9, _ => rfl
      | 10, _ => rfl
      | 11, _ => rfl
      | y + 12, h => omega
theorem pk_up45 (P : Pk) (v : Value) (q : ByteArray) : ∀ x, x < 46 → (if x = 45 then .string q else pkV P v x) = pkV { P with pay := q } v x := by
  intro x hx
  unfold pkV
  by_cases h1 : x < 17
  · rw [if_neg (by omega), if_pos h1, if_pos h1]
  · by_cases h2 : x < 34
    · rw [if_neg (by omega), if_neg h1, if_neg h1, if_pos h2, if_pos h2]
    · rw [if_neg h1, if_neg h2, if_neg h1, if_neg h2]
      obtain ⟨y, rfl⟩ : ∃ y, x = 34 + y := ⟨x - 34, by omega⟩
      rw [Nat.add_sub_cancel_left]
      match y, hx with
      | 0, _ => rfl
      | 1, _ => rfl
      | 2, _ => rfl
      | 3, _ => rfl
      | 4, _ => rfl
      | 5, _ => rfl
      | 6, _ => rfl
      | 7, _ => rfl
      | 8, _ => rfl
      | 9, _ => rfl
      | 10, _ => rfl
      | 11, _ => rfl
      | y + 12, h => omega
theorem exec_fpkL {a : Act} {o : Oper} {w : World} {x : Operand} (k f : Nat) (hk : k < 14) (hf : pkO k = f) (ho : o.op = .fieldAddr 27 x k) {g : Nat} (hx : a.eval x = .pointer (some ⟨g, 0, none⟩)) : (execOp a.eval o).run Try.prog w = .ok (.value (.pointer (some ⟨g, f, none⟩))) w := by
  rw [← hf]
  exact exec_fpk k hk ho hx
theorem wl_stP {ops : Array Oper} {rest : List Oper} {o : Oper} {a : Act} {w : World} {x y : Operand} {Q : Exit → Act → World → Prop} {t : TypeId} {g f : Nat} {V V' : Nat → Value} {z : Value} (ho : o.op = .store t x y) (hw : Region.wanted o (yielded ops a.tmps) = true) (hx : a.eval x = .pointer (some ⟨g, f, none⟩)) (hy : a.eval y = z) (hf : f < 46)
    (hr : ∀ w : World, w.cell? ⟨g, f, none⟩ = some (V f) → w.frozen? ⟨g, f, none⟩ = false → (Instr.storeAt t (.pointer (some ⟨g, f, none⟩)) z).run Try.prog w = .ok () (w.setCell ⟨g, f, none⟩ z)) (hg : SAt w g 27 46 V) (hV : ∀ i, i < 46 → (if i = f then z else V i) = V' i)
    (h : ∀ w', SAt w' g 27 46 V' → Only g w w' → wpList Try.prog ops Q rest (a.put o.dst undef) w') : wpList Try.prog ops Q (o :: rest) a w := by
  refine wl_act hw ?_
  have hr' := hr w (hg.at f hf) (frozen_of_row w _ f _ _ hg)
  unfold Oper.wp execOp
  simp only [ho, hx, hy, Sem.run_bind, hr', Result.andThen_ok, Sem.run_pure, Oper.upon]
  exact h _ ((hg.set f z hf).congr hV) only_set
section
variable {g f : Nat} {c : Value}
theorem stI (n : Int) : ∀ w : World, w.cell? ⟨g, f, none⟩ = some c → w.frozen? ⟨g, f, none⟩ = false → (Instr.storeAt 3 (.pointer (some ⟨g, f, none⟩)) (.int .i64 n)).run Try.prog w = .ok () (w.setCell ⟨g, f, none⟩ (.int .i64 n)) := fun w h1 h2 => by simp [go_sem, h1, h2]
theorem stB (n : Bool) : ∀ w : World, w.cell? ⟨g, f, none⟩ = some c → w.frozen? ⟨g, f, none⟩ = false → (Instr.storeAt 4 (.pointer (some ⟨g, f, none⟩)) (.bool n)).run Try.prog w = .ok () (w.setCell ⟨g, f, none⟩ (.bool n)) := fun w h1 h2 => by simp [go_sem, h1, h2]
theorem stS (n : ByteArray) : ∀ w : World, w.cell? ⟨g, f, none⟩ = some c → w.frozen? ⟨g, f, none⟩ = false → (Instr.storeAt 9 (.pointer (some ⟨g, f, none⟩)) (.string n)).run Try.prog w = .ok () (w.setCell ⟨g, f, none⟩ (.string n)) := fun w h1 h2 => by simp [go_sem, h1, h2]
theorem stX {ad : Option Addr} {n m : Nat} : ∀ w : World, w.cell? ⟨g, f, none⟩ = some c → w.frozen? ⟨g, f, none⟩ = false → (Instr.storeAt 25 (.pointer (some ⟨g, f, none⟩)) (.slice ad n m)).run Try.prog w = .ok () (w.setCell ⟨g, f, none⟩ (.slice ad n m)) := fun w h1 h2 => by simp [go_sem, h1, h2]
end
theorem exInfo : (Try.prog.info? 60).map (fun i => (i.zero, i.size, i.bytes)) = some (some (.agg (SC 2 (exV ⟨0, ByteArray.empty⟩))), 2, 24) := by kernel_rfl
def exW (l : List Ex) (j f : Nat) : Value := exV (l.getD j ⟨0, ByteArray.empty⟩) f
theorem exW_at {l : List Ex} {j : Nat} {x : Ex} (h : l[j]? = some x) (f : Nat) : exW l j f = exV x f := by
  unfold exW
  rw [List.getD_eq_getElem?_getD, h]
  rfl
theorem exW_row {w : World} {ad : Addr} {l : List Ex} (h : ∀ j x, l[j]? = some x → w.cell? (ad.add (2 * j)) = some (.int .i64 x.kind) ∧ w.cell? (ad.add (2 * j + 1)) = some (.string x.body)) : ∀ i u, (rX 2 (exW l) l.length)[i]? = some u → w.cell? (ad.add i) = some u := by
  intro i u hu
  have hi : i < l.length * 2 := by
    have := (List.getElem?_eq_some_iff.1 hu).1
    rwa [rX_len] at this
  have hj : i / 2 < l.length := by omega
  obtain ⟨x, hx⟩ : ∃ x, l[i / 2]? = some x := ⟨_, List.getElem?_eq_getElem hj⟩
  obtain ⟨h1, h2⟩ := h _ _ hx
  have hr := rX_at 2 (exW l) l.length (i / 2) (i % 2) hj (by omega)
  rw [show 2 * (i / 2) + i % 2 = i by omega, hu, exW_at hx] at hr
  have hu2 : u = exV x (i % 2) := Option.some.inj hr
  rcases (show i % 2 = 0 ∨ i % 2 = 1 by omega) with e | e
  · rw [show 2 * (i / 2) = i by omega] at h1
    rw [hu2, e]
    exact h1
  · rw [show 2 * (i / 2) + 1 = i by omega] at h2
    rw [hu2, e]
    exact h2
theorem rX_one {Z : Nat → Nat → Value} (h : ∀ j f, (Z j f).oneCell' = true) {c : Nat} : ∀ n, ∀ u ∈ rX c Z n, u.oneCell' = true
  | 0, u, hu => by cases hu
  | n + 1, u, hu => by
    unfold rX at hu
    rcases List.mem_append.1 hu with hu | hu
    · exact rX_one h n u hu
    · exact (Array.all_eq_true_iff_forall_mem.1 (SC_one (n := c) (h n))) u (by simpa using hu)
/-- append of a packet's headers to the nil slice. -/
theorem wl_apN {ops : Array Oper} {rest : List Oper} {o : Oper} {a : Act} {w : World} {Q : Exit → Act → World → Prop} (hgd : o.guard = none) {s x : Operand} {v : Value} {l : List Ex}
    (ho : o.op = .call { callee := .builtin .append, args := #[s, x], argTypes := #[25, 25] }) (hs : a.eval s = .slice none 0 0) (hx : a.eval x = v) (hv : ExAt w v l) (hn : l.length * 24 ≤ 140737488355328)
    (h : ∀ v' w', w'.ownsRow w.heap.size 60 2 v' l.length (rX 2 (exW l) l.length) → Below w.heap.size w w' → wpList Try.prog ops Q rest (a.put o.dst v') w') : wpList Try.prog ops Q (o :: rest) a w := by
  obtain ⟨i0, hi, hz0, hz1, hz2⟩ := info_parts exInfo
  obtain ⟨ad, cap, rfl, hc⟩ := hv
  cases ad with
  | none =>
    have hl0 : l = [] := by
      cases l with
      | nil => rfl
      | cons y l =>
        obtain ⟨ad, e, _⟩ := hc 0 y rfl
        cases e
    subst hl0
    refine wpList_plain hgd fun K hK => ?_
    have hr : (Builtin.append_ #[25, 25] o.type #[.slice none 0 0, .slice none 0 cap]).run Try.prog w = .ok (.slice none 0 0) w := by
      simp [Builtin.append_, run_underlying Try.underlying25, sizeOf, typeInfo, hi, Builtin.lenOf, go_sem]
    unfold Oper.wp
    simp [execOp, ho, resolve, invoke, builtin, hs, hx, hr, Result.andThen]
    exact hK _ _ (h _ _ (World.ownsRow_nil w _ _ _) (Below.refl _ _))
  | some ad =>
    refine wpList_append_own w hgd s x 25 ho w.heap.size 60 i0 _ 2 24 Try.underlying25 hi hz0 hz1 hz2 (by show (SC 2 _).size = 2; rw [SC_size]) (by decide) _ 0 [] hs (World.ownsRow_nil w _ _ _) ad l.length cap (rX 2 (exW l) l.length) hx (rX_len _ _ _) (exW_row (fun j y hj => by
      obtain ⟨ad', e, _, h1, h2⟩ := hc j y hj
      injection e with e
      subst e
      exact ⟨h1, h2⟩)) (rX_one (fun j f => exV_one _ _) _) (by unfold maxLen; omega) (by rw [Nat.zero_add]; exact hn) (Nat.le_refl _) ?_
    intro v' w1 hown hg _
    rw [Nat.zero_add] at hown
    exact h v' w1 hown ⟨hg.os, hg.tape, hg.output, hg.size, fun k hk => hg.block k hk (by simp [Value.ownBlock])⟩
end Go.Proofs.Ythnlfjkpiohooaa
/-
  Own text. Families of packets, heaps' times, copies of packets: due, familyOf, Clone, apart, uncut, fits, told.
-/
namespace Go.Proofs.Ythnlfjkpiohooaa
open Go.RowKit Go.Proofs
set_option maxRecDepth 100000
theorem run_fmB (a e : Int) (sv : Bool) (sb : Nat → Int) (dv : Bool) (db : Nat → Int) (p i : Int) (w : World) : (Instr.build 69 #[(0, .agg (SC 2 (tgV a e))), (1, .agg (SC 17 (adV sv sb))), (2, .agg (SC 17 (adV dv db))), (3, .int .i64 p), (4, .int .i64 i)]).run Try.prog w = .ok (.agg (SC 38 (fmV a e sv sb dv db p i))) w := by kernel_rfl
theorem exec_fmB {a : Act} {o : Oper} {w : World} {x y z u v : Operand} (ho : o.op = .build 69 #[(0, x), (1, y), (2, z), (3, u), (4, v)]) {t e p i : Int} {sv dv : Bool} {sb db : Nat → Int} (hx : a.eval x = .agg (SC 2 (tgV t e))) (hy : a.eval y = .agg (SC 17 (adV sv sb))) (hz : a.eval z = .agg (SC 17 (adV dv db))) (hu : a.eval u = .int .i64 p) (hv : a.eval v = .int .i64 i) : (execOp a.eval o).run Try.prog w = .ok (.value (.agg (SC 38 (fmV t e sv sb dv db p i)))) w := by
  unfold execOp
  simp only [ho, List.map_toArray, List.map_cons, List.map_nil, hx, hy, hz, hu, hv, Sem.run_bind, run_fmB, Result.andThen_ok, Sem.run_pure]
/-- The value of a family of a packet. -/
def fmP (a e : Int) (P : Pk) : Value := .agg (SC 38 (fmV a e P.sv P.sb P.dv P.db P.proto P.id))
theorem key_fmP (a e : Int) (P : Pk) : KeyIs (fmP a e P) (famOf a e P) := ⟨a, e, P.sv, P.sb, P.dv, P.db, P.proto, P.id, rfl, rfl⟩
set_option maxHeartbeats 4000000 in
theorem familyOf_run (t e : Int) (P : Pk) (v : Value) (w : World) : Calls Try.prog 39 #[.agg (SC 2 (tgV t e)), .agg (SC 46 (pkV P v))] w fun e' w' => e' = .returned (fmP t e P) ∧ Below w.heap.size w w' := by
  go_enter Try.func39, Try.ntmps39
  go_upto_region 1 with (first | (refine wl_boxO (V := tgV t e) rfl rfl isTg rfl ?_; intro g0 w0 hg0 r0 hB0) | (refine wl_boxO (V := pkV P v) rfl rfl isPk rfl ?_; intro g1 w1 hg1 r1 hB1; have r0 := r0.kept hB1) | (refine wl_alO rfl rfl zeroFm ?_; intro g2 w2 hg2 s2 hB2; have r1 := r1.kept hB2; have r0 := r0.kept hB2))
  go_wp2_with (refine wl_value rfl (look_st rfl isTg r0 rfl) ?_; refine Hid.out ?_)
  refine Hid.mk ?_
  go_wp2_with (refine wl_value rfl (exec_fpk 0 (by decide) rfl rfl) ?_; refine Hid.out ?_)
  refine Hid.mk ?_
  go_wp2_with (refine wl_value rfl (exec_ld rfl rfl (ld_src r1)) ?_; refine Hid.out ?_)
  refine Hid.mk ?_
  go_wp2_with (refine wl_value rfl (exec_fpk 1 (by decide) rfl rfl) ?_; refine Hid.out ?_)
  refine Hid.mk ?_
  go_wp2_with (refine wl_value rfl (exec_ld rfl rfl (ld_dst r1)) ?_; refine Hid.out ?_)
  refine Hid.mk ?_
  go_wp2_with (refine wl_value rfl (exec_fpk 2 (by decide) rfl rfl) ?_; refine Hid.out ?_)
  refine Hid.mk ?_
  go_wp2_with (refine wl_value rfl (exec_ld rfl rfl (ldP (pk_proto r1))) ?_; refine Hid.out ?_)
  refine Hid.mk ?_
  go_wp2_with (refine wl_value rfl (exec_fpk 5 (by decide) rfl rfl) ?_; refine Hid.out ?_)
  refine Hid.mk ?_
  go_wp2_with (refine wl_value rfl (exec_ld rfl rfl (ldP (pk_id r1))) ?_; refine Hid.out ?_)
  refine Hid.mk ?_
  go_wp2_with (refine wl_value rfl (exec_fmB (t := t) (e := e) (sv := P.sv) (sb := P.sb) (dv := P.dv) (db := P.db) (p := P.proto) (i := P.id) rfl rfl rfl rfl rfl rfl) ?_; refine Hid.out ?_)
  refine Hid.mk ?_
  go_wp2_with (refine st_stO (V := fmV t e P.sv P.sb P.dv P.db P.proto P.id) (g := g2) rfl rfl isFm fmV_one s2 rfl rfl ?_; intro w3 s3 ho3)
  have hBa := (hB0.trans (hB1.mono hB0.size)).trans (hB2.mono (Nat.le_trans hB0.size hB1.size))
  exact bodyPost_ret (res_st rfl isFm s3 rfl) rfl ⟨rfl, hBa.trans (ho3.below (Nat.le_trans (Nat.le_trans hB0.size hB1.size) hg2))⟩
theorem en_familyOf (args : Array Value) (w : World) : (callFunc 39 args).run Try.prog w = .ok (.enter 39 args) w := by kernel_rfl
set_option maxHeartbeats 4000000 in
theorem due_run {g : Nat} {born num : Int} {hd : Pk} {hv ps : Value} {w : World} (h : SAt w g 89 49 (hpV born num hd hv ps)) (hw : IntKind.i64.wrap (born + 30000) = born + 30000) : Calls Try.prog 42 #[.pointer (some ⟨g, 0, none⟩)] w fun e w' => e = .returned (.int .i64 (born + 30000)) ∧ w' = w := by
  have HW := Hid.mk hw
  clear hw
  go_enter Try.func42, Try.ntmps42
  go_wp2_with (first | (refine wl_value rfl (exec_fhp 0 (by decide) rfl (by rfl)) ?_) | (refine wl_value rfl (exec_ld rfl (by rfl) (ldP (hp_born h))) ?_) | (refine wl_value rfl (exec_addE rfl (by rfl) (by rfl) HW.out) ?_))
  go_ret
  exact ⟨rfl, rfl⟩
theorem en_due (args : Array Value) (w : World) : (callFunc 42 args).run Try.prog w = .ok (.enter 42 args) w := by kernel_rfl
theorem own_ex {w : World} {B : Nat} {v : Value} {l : List Ex} (h : w.ownsRow B 60 2 v l.length (rX 2 (exW l) l.length)) : ExAt w v l := by
  obtain ⟨p, cap, rfl, hp⟩ := ownM_shape h
  refine ⟨p, cap, rfl, fun j x hj => ?_⟩
  have hl : j < l.length := (List.getElem?_eq_some_iff.1 hj).1
  obtain ⟨g, rfl⟩ := hp (by omega)
  have hb := (h.lt g rfl).2
  have c0 := h.cells (g := g) rfl (2 * j + 0) _ (rX_at 2 _ _ j 0 hl (by decide))
  have c1 := h.cells (g := g) rfl (2 * j + 1) _ (rX_at 2 _ _ j 1 hl (by decide))
  rw [exW_at hj] at c0 c1
  exact ⟨_, rfl, hb, c0, c1⟩
/-- Headers that lie in new memory, or nowhere. -/
def NewEx (n : Nat) (w : World) (v : Value) (l : List Ex) : Prop := ExAt w v l ∧ v.oneCell' = true ∧ (∀ k, exK v = some k → n ≤ k ∧ k < w.heap.size) ∧ ∀ k, exK v = some k → ∃ C t, w.heap[k]? = some (.cells C t (0, 0))
theorem own_new {w : World} {B : Nat} {v : Value} {l : List Ex} (h : w.ownsRow B 60 2 v l.length (rX 2 (exW l) l.length)) : NewEx B w v l := by
  have hb : ∀ k, exK v = some k → v.ownBlock = some k := fun k hk => by
    obtain ⟨p, cap, rfl, hp⟩ := ownM_shape h
    cases hl : l.length with
    | zero => rw [hl] at hk; cases p <;> cases hk
    | succ n =>
      obtain ⟨g, rfl⟩ := hp (by omega)
      rw [hl] at hk
      cases hk
      rfl
  refine ⟨own_ex h, (own_ex h).one, fun k hk => h.lt k (hb k hk), fun k hk => ?_⟩
  have h1 := hb k hk
  rcases h.2 with ⟨rfl, _⟩ | ⟨g, cap, cur, rfl, _, hg, _⟩
  · cases h1
  · cases h1
    exact ⟨_, _, hg⟩
theorem NewEx.kept {n : Nat} {w w' : World} {v : Value} {l : List Ex} (h : NewEx n w v l) (hb : Below w.heap.size w w') : NewEx n w' v l := ⟨h.1.kept hb, h.2.1, fun k hk => ⟨(h.2.2.1 k hk).1, Nat.lt_of_lt_of_le (h.2.2.1 k hk).2 hb.size⟩, fun k hk => by rw [hb.block k (h.2.2.1 k hk).2]; exact h.2.2.2 k hk⟩
theorem NewEx.only {n g : Nat} {w w' : World} {v : Value} {l : List Ex} (h : NewEx n w v l) (o : Only g w w') (hg : g < n) : NewEx n w' v l := ⟨h.1.blk (fun k hk => o.block k (by have := (h.2.2.1 k hk).1; omega)), h.2.1, fun k hk => ⟨(h.2.2.1 k hk).1, by rw [o.size]; exact (h.2.2.1 k hk).2⟩, fun k hk => by rw [o.block k (by have := (h.2.2.1 k hk).1; omega)]; exact h.2.2.2 k hk⟩
theorem NewEx.mono {n m : Nat} {w : World} {v : Value} {l : List Ex} (h : NewEx n w v l) (hm : m ≤ n) : NewEx m w v l := ⟨h.1, h.2.1, fun k hk => ⟨Nat.le_trans hm (h.2.2.1 k hk).1, (h.2.2.1 k hk).2⟩, h.2.2.2⟩
theorem run_nilX (ad : Option Addr) (n c : Nat) (w : World) : Sem.run Try.prog (binOp .eql 25 (.slice ad n c) (.slice none 0 0)) w = .ok (.bool ad.isNone) w := by
  cases ad with
  | none => kernel_rfl
  | some p => kernel_rfl
theorem run_bsE (w : World) : (Instr.buildSlice 25 0 #[]).run Try.prog w = .ok (.slice (some ⟨w.heap.size, 0, none⟩) 0 0) (w.alloc (.cells #[] 60)) := by simp [go_sem]
theorem wl_bsE {ops : Array Oper} {rest : List Oper} {o : Oper} {a : Act} {w : World} {Q : Exit → Act → World → Prop} (ho : o.op = .buildSlice 25 0 #[]) (hw : Region.wanted o (yielded ops a.tmps) = true)
    (h : ∀ g w2, w.heap.size ≤ g → w2.ownsRow w.heap.size 60 2 (.slice (some ⟨g, 0, none⟩) 0 0) 0 [] → Below w.heap.size w w2 → wpList Try.prog ops Q rest (a.put o.dst (.slice (some ⟨g, 0, none⟩) 0 0)) w2) : wpList Try.prog ops Q (o :: rest) a w := by
  have hr := run_bsE w
  refine wl_act hw ?_
  unfold Oper.wp execOp
  simp only [ho, List.map_toArray, List.map_nil, Sem.run_bind, hr, Result.andThen_ok, Sem.run_pure, Oper.upon]
  exact h _ _ (Nat.le_refl _) (World.ownsRow_lit w #[] 0 (Nat.le_refl _) (by unfold maxLen; omega) rfl) ((Below.refl _ _).alloc (Nat.le_refl _) _)
/-- append of a packet's headers to an empty slice of one's own. -/
theorem wl_apE {ops : Array Oper} {rest : List Oper} {o : Oper} {a : Act} {w : World} {Q : Exit → Act → World → Prop} (hgd : o.guard = none) {s x : Operand} {B : Nat} {u : Value} {ad : Addr} {cap : Nat} {l : List Ex}
    (ho : o.op = .call { callee := .builtin .append, args := #[s, x], argTypes := #[25, 25] }) (hs : a.eval s = u) (hx : a.eval x = .slice (some ad) l.length cap) (hu : w.ownsRow B 60 2 u 0 []) (hv : ExAt w (.slice (some ad) l.length cap) l) (hn : l.length * 24 ≤ 140737488355328) (hB : B ≤ w.heap.size)
    (h : ∀ v' w', w'.ownsRow B 60 2 v' l.length (rX 2 (exW l) l.length) → w.grownBy w' u.ownBlock → wpList Try.prog ops Q rest (a.put o.dst v') w') : wpList Try.prog ops Q (o :: rest) a w := by
  obtain ⟨i0, hi, hz0, hz1, hz2⟩ := info_parts exInfo
  obtain ⟨ad', cap', e, hc⟩ := hv
  injection e with e1 e2 e3
  subst e1 e3
  refine wpList_append_own w hgd s x 25 ho B 60 i0 _ 2 24 Try.underlying25 hi hz0 hz1 hz2 (by show (SC 2 _).size = 2; rw [SC_size]) (by decide) _ 0 [] hs hu ad l.length cap (rX 2 (exW l) l.length) hx (rX_len _ _ _) (exW_row (fun j y hj => by
      obtain ⟨ad', e, _, h1, h2⟩ := hc j y hj
      injection e with e
      subst e
      exact ⟨h1, h2⟩)) (rX_one (fun j f => exV_one _ _) _) (by unfold maxLen; omega) (by rw [Nat.zero_add]; exact hn) hB ?_
  intro v' w1 hown hg _
  rw [Nat.zero_add] at hown
  exact h v' w1 hown hg
theorem new_nil (n : Nat) (w : World) : NewEx n w (.slice none 0 0) [] := ⟨ExAt.nil w, rfl, fun k hk => (by cases hk), fun k hk => (by cases hk)⟩
set_option maxHeartbeats 4000000 in
theorem Clone_run (v : Value) (l : List Ex) (w : World) (h1 : ExAt w v l) (hn : l.length * 24 ≤ 140737488355328) : Calls Try.prog 49 #[v] w fun e w' => ∃ v', e = .returned v' ∧ NewEx w.heap.size w' v' l ∧ Below w.heap.size w w' := by
  have HX := Hid.mk h1
  have HN := Hid.mk hn
  clear hn
  obtain ⟨ad, cap, rfl, hc⟩ := h1
  cases ad with
  | none =>
    have hl0 : l = [] := by
      cases l with
      | nil => rfl
      | cons y l =>
        obtain ⟨ad, e, _⟩ := hc 0 y rfl
        cases e
    subst hl0
    clear hc
    rw [List.length_nil]
    clear HX HN
    have hnil := run_nilX none 0 cap
    go_enter Try.func49, Try.ntmps49
    go_wp2_with fail
    go_ret
    exact ⟨_, rfl, new_nil _ _, Below.refl _ _⟩
  | some ad =>
    clear hc
    go_enter Try.func49, Try.ntmps49
    have hnil := run_nilX (some ad) l.length cap
    go_wp2_with (refine wl_bsE rfl rfl ?_; intro g1 w1 hg1 own1 hB1; refine Hid.out ?_)
    refine Hid.mk ?_
    have X1 := Hid.mk (HX.out.kept hB1)
    go_wp2_with (refine wl_apE (B := w.heap.size) rfl rfl rfl rfl own1 X1.out HN.out hB1.size ?_; intro v2 w2 own2 hgr; refine Hid.out ?_)
    refine Hid.mk ?_
    go_wp2_with fail
    go_ret
    refine ⟨_, rfl, own_new own2, hB1.trans ⟨hgr.os, hgr.tape, hgr.output, hgr.size, fun k hk => hgr.block k (Nat.lt_of_lt_of_le hk hB1.size) (fun e => ?_)⟩⟩
    have e : some k = some g1 := e
    injection e with e
    omega
theorem en_Clone (args : Array Value) (w : World) : (callFunc 49 args).run Try.prog w = .ok (.enter 49 args) w := by kernel_rfl
set_option maxHeartbeats 4000000 in
theorem apart_run (P : Pk) (v : Value) (w : World) (h1 : ExAt w v P.exts) (hn : P.exts.length * 24 ≤ 140737488355328) : Calls Try.prog 27 #[.agg (SC 46 (pkV P v))] w fun e w' => ∃ v', e = .returned (.agg (SC 46 (pkV P v'))) ∧ NewEx w.heap.size w' v' P.exts ∧ Below w.heap.size w w' := by
  have HX := Hid.mk h1
  have HN := Hid.mk hn
  have ho := h1.one
  clear hn h1
  go_enter Try.func27, Try.ntmps27
  go_wp2_with (refine wl_boxO rfl rfl isPk rfl ?_; intro g1 w1 hg1 r1 hB1; refine Hid.out ?_)
  refine Hid.mk ?_
  go_wp2_with (refine wl_alO rfl rfl zeroPk ?_; intro g2 w2 hg2 s2 hB2; refine Hid.out ?_)
  refine Hid.mk ?_
  have r2 := r1.kept hB2
  have hBa := hB1.trans (hB2.mono hB1.size)
  have X2 := Hid.mk (HX.out.kept hBa)
  have hne : g2 ≠ g1 := by have := heap_lt r1; omega
  have hl1 : g1 < w2.heap.size := heap_lt r2
  have hl2 : g2 < w2.heap.size := heap_lt s2
  clear r1
  go_wp2_with (refine wl_value rfl (exec_fpk 11 (by decide) rfl rfl) ?_; refine Hid.out ?_)
  refine Hid.mk ?_
  go_wp2_with (refine wl_value rfl (exec_ld rfl rfl (ldPx (pk_exts r2))) ?_; refine Hid.out ?_)
  refine Hid.mk ?_
  go_wp2_with (go_at_call 49; refine (Clone_run v P.exts _ X2.out HN.out).mono ?_; rintro e w3 ⟨v3, rfl, hnew, hB3⟩; refine Hid.out ?_)
  refine Hid.mk ?_
  have r3 := r2.kept hB3
  have s3 := s2.kept hB3
  have hBb := hBa.trans (hB3.mono hBa.size)
  clear r2 s2
  obtain ⟨a3, c3, rfl, _⟩ := id hnew.1
  have hs3 : Hid (NewEx w2.heap.size w3 (.slice a3 P.exts.length c3) P.exts) := Hid.mk hnew
  go_wp2_with (refine wl_value rfl (exec_fpk 11 (by decide) rfl rfl) ?_; refine Hid.out ?_)
  refine Hid.mk ?_
  go_wp2_with (refine wl_stP (z := .slice a3 P.exts.length c3) (V' := pkV P (.slice a3 P.exts.length c3)) rfl rfl rfl rfl (by decide) stX r3 (pk_up43 P v _) ?_; intro w4 r4 ho4; refine Hid.out ?_)
  refine Hid.mk ?_
  have s4 := s3.only ho4 hne
  go_wp2_with (refine wl_value rfl (look_st rfl isPk r4 rfl) ?_; refine Hid.out ?_)
  refine Hid.mk ?_
  go_wp2_with (refine st_stO (V := pkV P (.slice a3 P.exts.length c3)) (g := g2) rfl rfl isPk (pkV_one rfl) s4 rfl rfl ?_; intro w5 s5 ho5; refine Hid.out ?_)
  refine Hid.mk ?_
  go_wp2_with fail
  refine bodyPost_ret (res_st rfl isPk s5 rfl) rfl ⟨_, rfl, ?_, ?_⟩
  · exact ((hs3.out.only ho4 hl1).only ho5 hl2).mono hBa.size
  · exact (hBb.trans (ho4.below hg1)).trans (ho5.below (by have := hB1.size; omega))
theorem en_apart (args : Array Value) (w : World) : (callFunc 27 args).run Try.prog w = .ok (.enter 27 args) w := by kernel_rfl
set_option maxHeartbeats 4000000 in
theorem uncut_run (P : Pk) (v : Value) (w : World) (h1 : ExAt w v P.exts) (hn : P.exts.length * 24 ≤ 140737488355328) : Calls Try.prog 36 #[.agg (SC 46 (pkV P v))] w fun e w' => ∃ v', e = .returned (.agg (SC 46 (pkV (bareP P) v'))) ∧ NewEx w.heap.size w' v' P.exts ∧ Below w.heap.size w w' := by
  have HX := Hid.mk h1
  have HN := Hid.mk hn
  have hv1 := h1.one
  obtain ⟨a0, c0, rfl, _⟩ := id h1
  clear hn h1
  go_enter Try.func36, Try.ntmps36
  go_wp2_with (refine wl_boxO rfl rfl isPk rfl ?_; intro g1 w1 hg1 r1 hB1; refine Hid.out ?_)
  refine Hid.mk ?_
  go_wp2_with (refine wl_alO rfl rfl zeroPk ?_; intro g2 w2 hg2 s2 hB2; refine Hid.out ?_)
  refine Hid.mk ?_
  have r2 := r1.kept hB2
  have hBa := hB1.trans (hB2.mono hB1.size)
  have X2 := Hid.mk (HX.out.kept hBa)
  have hne : g2 ≠ g1 := by have := heap_lt r1; omega
  have hl1 : g1 < w2.heap.size := heap_lt r2
  have hl2 : g2 < w2.heap.size := heap_lt s2
  have hxn : Hid (∀ k, exK (.slice a0 P.exts.length c0) = some k → k < w.heap.size) := Hid.mk (fun k hk => by
    obtain ⟨ad, cap, e, hc⟩ := HX.out
    injection e with e1 e2 e3
    subst e1
    cases hl : P.exts with
    | nil => rw [hl] at hk; cases a0 <;> cases hk
    | cons y r =>
      rw [hl] at hk
      obtain ⟨ad, ha, hlt, _⟩ := hc 0 y (by rw [hl]; rfl)
      subst ha
      cases hk
      exact hlt)
  clear r1
  go_wp2_with (refine wl_value rfl (exec_fpkL 6 38 (by decide) rfl rfl rfl) ?_; refine Hid.out ?_)
  refine Hid.mk ?_
  go_wp2_with (refine wl_stP (z := .int .i64 0) (V' := pkV { P with off := 0 } (.slice a0 P.exts.length c0)) rfl rfl rfl rfl (by decide) (stI 0) r2 (pk_up38 P _ 0) ?_; intro w3 r3 ho3; refine Hid.out ?_)
  refine Hid.mk ?_
  go_wp2_with (refine wl_value rfl (exec_fpkL 7 39 (by decide) rfl rfl rfl) ?_; refine Hid.out ?_)
  refine Hid.mk ?_
  go_wp2_with (refine wl_stP (z := .bool false) (V' := pkV { P with off := 0, more := false } (.slice a0 P.exts.length c0)) rfl rfl rfl rfl (by decide) (stB false) r3 (pk_up39 _ _ false) ?_; intro w4 r4 ho4; refine Hid.out ?_)
  refine Hid.mk ?_
  go_wp2_with (refine wl_value rfl (exec_fpkL 12 44 (by decide) rfl rfl rfl) ?_; refine Hid.out ?_)
  refine Hid.mk ?_
  go_wp2_with (refine wl_stP (z := .bool false) (V' := pkV { P with off := 0, more := false, cut := false } (.slice a0 P.exts.length c0)) rfl rfl rfl rfl (by decide) (stB false) r4 (pk_up44 _ _ false) ?_; intro w5 r5 ho5; refine Hid.out ?_)
  refine Hid.mk ?_
  have o25 : Only g1 w2 w5 := (ho3.trans ho4).trans ho5
  have s5 := s2.only o25 hne
  have HX5 : Hid (ExAt w5 (.slice a0 P.exts.length c0) P.exts) := Hid.mk (X2.out.blk (fun k hk => o25.block k (by have := hxn.out k hk; omega)))
  clear s2 r2 r3 r4 ho3 ho4 ho5 X2
  go_wp2_with (refine wl_value rfl (exec_fpkL 0 0 (by decide) rfl rfl rfl) ?_; refine Hid.out ?_)
  refine Hid.mk ?_
  go_wp2_with (refine wl_value rfl (exec_fad0 rfl rfl) ?_; refine Hid.out ?_)
  refine Hid.mk ?_
  rcases Bool.eq_false_or_eq_true P.sv with hsv | hsv
  · have csv : w5.cell? ⟨g1, 0, none⟩ = some (.bool true) := (pk_sv r5).trans (by show some (Value.bool P.sv) = _; rw [hsv])
    go_wp2_with (refine wl_value rfl (exec_ld rfl rfl (ldPb csv)) ?_; refine Hid.out ?_)
    refine Hid.mk ?_
    clear csv
    go_wp2_with (refine wl_value rfl (exec_fpkL 5 37 (by decide) rfl rfl rfl) ?_; refine Hid.out ?_)
    refine Hid.mk ?_
    go_wp2_with (refine wl_stP (z := .int .i64 0) (V' := pkV { P with off := 0, more := false, cut := false, id := 0 } (.slice a0 P.exts.length c0)) rfl rfl rfl rfl (by decide) (stI 0) r5 (pk_up37 _ _ 0) ?_; intro w6 r6 ho6; refine Hid.out ?_)
    refine Hid.mk ?_
    have hbp : bareP P = { P with off := 0, more := false, cut := false, id := 0 } := by unfold bareP; rw [if_pos hsv]
    rw [← hbp] at r6
    have o26 : Only g1 w2 w6 := o25.trans ho6
    have s6 := s5.only ho6 hne
    have HX6 : Hid (ExAt w6 (.slice a0 P.exts.length c0) (bareP P).exts) := Hid.mk (HX5.out.blk (fun k hk => ho6.block k (by have := hxn.out k hk; omega)))
    have HN6 : Hid ((bareP P).exts.length * 24 ≤ 140737488355328) := HN
    have hB6 : Below w.heap.size w w6 := hBa.trans (o26.below hg1)
    clear r5 s5 hbp HX5
    go_wp2_with (refine wl_value rfl (look_st rfl isPk r6 rfl) ?_; refine Hid.out ?_)
    refine Hid.mk ?_
    go_wp2_with (go_at_call 27; refine (apart_run (bareP P) _ _ HX6.out HN6.out).mono ?_; rintro e w7 ⟨v7, rfl, hnew, hB7⟩; refine Hid.out ?_)
    refine Hid.mk ?_
    have s7 := s6.kept hB7
    have hone := hnew.2.1
    go_wp2_with (refine st_stO (V := pkV (bareP P) v7) (g := g2) rfl rfl isPk (pkV_one hone) s7 rfl rfl ?_; intro w8 s8 ho8; refine Hid.out ?_)
    refine Hid.mk ?_
    go_wp2_with fail
    have hsz : w2.heap.size = w6.heap.size := o26.size.symm
    refine bodyPost_ret (res_st rfl isPk s8 rfl) rfl ⟨_, rfl, (hnew.only ho8 (by omega)).mono hB6.size, (hB6.trans (hB7.mono hB6.size)).trans (ho8.below (by have := hB1.size; omega))⟩
  · have csv : w5.cell? ⟨g1, 0, none⟩ = some (.bool false) := (pk_sv r5).trans (by show some (Value.bool P.sv) = _; rw [hsv])
    go_wp2_with (refine wl_value rfl (exec_ld rfl rfl (ldPb csv)) ?_; refine Hid.out ?_)
    refine Hid.mk ?_
    clear csv
    have hbp : bareP P = { P with off := 0, more := false, cut := false } := by unfold bareP; rw [if_neg (by rw [hsv]; decide)]
    have r6 := r5
    have ho6 : Only g1 w5 w5 := Only.refl _ _
    rw [← hbp] at r6
    have o26 : Only g1 w2 w5 := o25.trans ho6
    have s6 := s5.only ho6 hne
    have HX6 : Hid (ExAt w5 (.slice a0 P.exts.length c0) (bareP P).exts) := Hid.mk (HX5.out.blk (fun k hk => ho6.block k (by have := hxn.out k hk; omega)))
    have HN6 : Hid ((bareP P).exts.length * 24 ≤ 140737488355328) := HN
    have hB6 : Below w.heap.size w w5 := hBa.trans (o26.below hg1)
    clear r5 s5 hbp HX5
    go_wp2_with (refine wl_value rfl (look_st rfl isPk r6 rfl) ?_; refine Hid.out ?_)
    refine Hid.mk ?_
    go_wp2_with (go_at_call 27; refine (apart_run (bareP P) _ _ HX6.out HN6.out).mono ?_; rintro e w7 ⟨v7, rfl, hnew, hB7⟩; refine Hid.out ?_)
    refine Hid.mk ?_
    have s7 := s6.kept hB7
    have hone := hnew.2.1
    go_wp2_with (refine st_stO (V := pkV (bareP P) v7) (g := g2) rfl rfl isPk (pkV_one hone) s7 rfl rfl ?_; intro w8 s8 ho8; refine Hid.out ?_)
    refine Hid.mk ?_
    go_wp2_with fail
    have hsz : w2.heap.size = w5.heap.size := o26.size.symm
    refine bodyPost_ret (res_st rfl isPk s8 rfl) rfl ⟨_, rfl, (hnew.only ho8 (by omega)).mono hB6.size, (hB6.trans (hB7.mono hB6.size)).trans (ho8.below (by have := hB1.size; omega))⟩
theorem en_uncut (args : Array Value) (w : World) : (callFunc 36 args).run Try.prog w = .ok (.enter 36 args) w := by kernel_rfl
end Go.Proofs.Ythnlfjkpiohooaa
/-
  Own text. Whether a packet fits, what is told; how much a heap holds, whether its pieces reach from first to last.
-/
namespace Go.Proofs.Ythnlfjkpiohooaa
open Go.RowKit Go.Proofs
set_option maxRecDepth 100000
theorem rgt_bod {P : Pk} (h : rgtP P = true) : ∀ x ∈ P.exts, x.body.size ≤ 140737488355328 := by
  have h1 := (rgt_few h).1
  have key : ∀ (l : List Ex) x, x ∈ l → x.body.size ≤ exLen l := by
    intro l
    induction l with
    | nil => intro x hx; cases hx
    | cons y l ih =>
      intro x hx
      show _ ≤ 2 + y.body.size + exLen l
      rcases List.mem_cons.1 hx with rfl | hx
      · omega
      · have := ih x hx; omega
  intro x hx
  have := key _ x hx
  omega
theorem rgt_len {P : Pk} (h : rgtP P = true) : P.exts.length < 4611686018427387904 ∧ P.exts.length * 24 ≤ 140737488355328 := by
  have := (rgt_few h).2.1
  omega
theorem fit_size {P : Pk} (h : rgtP P = true) : fitP P = (if P.sv = true then decide ((sizeP P : Int) - 40 ≤ 65535) else decide ((sizeP P : Int) ≤ 65535)) := by
  unfold fitP sizeP
  rw [if_pos h]
  split
  · congr 1; exact propext ⟨fun h => by omega, fun h => by omega⟩
  · congr 1; exact propext ⟨fun h => by omega, fun h => by omega⟩
theorem exec_subE {a : Act} {o : Oper} {w : World} {x y : Operand} (ho : o.op = .binOp .sub 3 x y 3) {m n : Int} (hx : a.eval x = .int .i64 m) (hy : a.eval y = .int .i64 n) (h : IntKind.i64.wrap (m - n) = m - n) : (execOp a.eval o).run Try.prog w = .ok (.value (.int .i64 (m - n))) w := exec_bin2 ho hx hy rfl (by simp [go_sem]; exact h)
set_option maxHeartbeats 4000000 in
theorem fits2_run (P : Pk) (v : Value) (w : World) (hr : rgtP P = true) (h1 : ExAt w v P.exts) (hp : P.pay.size ≤ 140737488355328) : Calls Try.prog 26 #[.agg (SC 46 (pkV P v))] w fun e w' => e = .returned (.bool (fitP P)) ∧ Below w.heap.size w w' := by
  have HX := Hid.mk h1
  have HR := Hid.mk hr
  have HP := Hid.mk hp
  have hv := h1.one
  rw [fit_size hr]
  have hN : sizeP P ≤ 281474976710656 := by
    have h2 := rgt_few hr
    unfold sizeP headP
    rw [if_pos hr]
    by_cases hs : P.sv = true
    · rw [if_pos hs]
      cases P.cut <;> simp <;> omega
    · rw [if_neg hs]
      omega
  clear h1 hr hp
  have HS : ∀ u, ExAt u v P.exts → Calls Try.prog 14 #[.agg (SC 46 (pkV P v))] u fun e w' => e = .returned (.int .i64 (sizeP P : Int)) ∧ Below u.heap.size u w' := fun u hu => Size_run P v u hu (rgt_len HR.out).1 (rgt_bod HR.out) HP.out
  have HS := Hid.mk HS
  generalize hN2 : ((sizeP P : Nat) : Int) = N at *
  have hN0 : 0 ≤ N := by omega
  have hN3 : N ≤ 281474976710656 := by omega
  clear hN hN2
  generalize hrr : (if P.sv = true then decide (N - 40 ≤ 65535) else decide (N ≤ 65535)) = rr
  have HRR := Hid.mk hrr
  clear hrr
  go_enter Try.func26, Try.ntmps26
  go_wp2_with (refine wl_boxO rfl rfl isPk rfl ?_; intro g1 w1 hg1 r1 hB1; refine Hid.out ?_)
  refine Hid.mk ?_
  have X1 := Hid.mk (HX.out.kept hB1)
  go_wp2_with (refine wl_value rfl (look_st rfl isPk r1 rfl) ?_; refine Hid.out ?_)
  refine Hid.mk ?_
  go_wp2_with (go_at_call 14; refine (HS.out _ X1.out).mono ?_; rintro e w2 ⟨rfl, hB2⟩; refine Hid.out ?_)
  refine Hid.mk ?_
  have r2 := r1.kept hB2
  have hBa := hB1.trans (hB2.mono hB1.size)
  clear r1
  go_wp2_with (refine wl_value rfl (exec_fpkL 0 0 (by decide) rfl rfl rfl) ?_; refine Hid.out ?_)
  refine Hid.mk ?_
  go_wp2_with (refine wl_value rfl (exec_fad0 rfl rfl) ?_; refine Hid.out ?_)
  refine Hid.mk ?_
  rcases Bool.eq_false_or_eq_true P.sv with hsv | hsv
  · have csv : w2.cell? ⟨g1, 0, none⟩ = some (.bool true) := (pk_sv r2).trans (by rw [hsv])
    go_wp2_with (refine wl_value rfl (exec_ld rfl rfl (ldPb csv)) ?_; refine Hid.out ?_)
    refine Hid.mk ?_
    clear csv
    go_wp2_with (refine wl_value rfl (exec_subE (m := N) (n := 40) rfl rfl rfl (wrap_id (by omega) (by omega))) ?_; refine Hid.out ?_)
    refine Hid.mk ?_
    go_wp2_with (refine wl_value rfl (cmp_le (m := N - 40) (n := 65535) rfl rfl rfl) ?_; refine Hid.out ?_)
    refine Hid.mk ?_
    go_wp2_with fail
    go_ret
    exact ⟨by rw [← HRR.out, if_pos hsv]; rfl, hBa⟩
  · have csv : w2.cell? ⟨g1, 0, none⟩ = some (.bool false) := (pk_sv r2).trans (by rw [hsv])
    go_wp2_with (refine wl_value rfl (exec_ld rfl rfl (ldPb csv)) ?_; refine Hid.out ?_)
    refine Hid.mk ?_
    clear csv
    go_wp2_with (refine wl_value rfl (cmp_le (m := N) (n := 65535) rfl rfl rfl) ?_; refine Hid.out ?_)
    refine Hid.mk ?_
    go_wp2_with fail
    go_ret
    exact ⟨by rw [← HRR.out, if_neg (by rw [hsv]; decide)]; rfl, hBa⟩
theorem en_fits2 (args : Array Value) (w : World) : (callFunc 26 args).run Try.prog w = .ok (.enter 26 args) w := by kernel_rfl
/-- What a call that tells a packet, or nothing, hands back. -/
def tellV (o : Option Pk) (v : Value) : Value := match o with
  | some Q => .tuple #[.agg (SC 46 (pkV Q v)), .bool true]
  | none => .tuple #[.agg (SC 46 (pkV zeroP (.slice none 0 0))), .bool false]
set_option maxHeartbeats 4000000 in
theorem told_run (P : Pk) (v : Value) (w : World) (hr : rgtP P = true) (h1 : ExAt w v P.exts) (hp : P.pay.size ≤ 140737488355328) : Calls Try.prog 62 #[.agg (SC 46 (pkV P v))] w fun e w' => e = .returned (tellV (if fitP P = true then some P else none) v) ∧ Below w.heap.size w w' := by
  have HX := Hid.mk h1
  have hv := h1.one
  have HS := Hid.mk (fun u hu => fits2_run P v u hr hu hp)
  clear hp h1
  generalize hrr : tellV (if fitP P = true then some P else none) v = rr
  have HRR := Hid.mk hrr
  clear hrr
  go_enter Try.func62, Try.ntmps62
  go_wp2_with (refine wl_boxO rfl rfl isPk rfl ?_; intro g1 w1 hg1 r1 hB1; refine Hid.out ?_)
  refine Hid.mk ?_
  go_wp2_with (refine wl_alO rfl rfl zeroPk ?_; intro g2 w2 hg2 s2 hB2; refine Hid.out ?_)
  refine Hid.mk ?_
  have r2 := r1.kept hB2
  have hBa := hB1.trans (hB2.mono hB1.size)
  have X2 := Hid.mk (HX.out.kept hBa)
  clear r1
  go_wp2_with (refine wl_value rfl (look_st rfl isPk r2 rfl) ?_; refine Hid.out ?_)
  refine Hid.mk ?_
  go_wp2_with (go_at_call 26; refine (HS.out _ X2.out).mono ?_; rintro e w3 ⟨rfl, hB3⟩; refine Hid.out ?_)
  refine Hid.mk ?_
  have r3 := r2.kept hB3
  have s3 := s2.kept hB3
  have hBb := hBa.trans (hB3.mono hBa.size)
  have hgw : w.heap.size ≤ g2 := by have := hB1.size; omega
  clear r2 s2
  rcases Bool.eq_false_or_eq_true (fitP P) with hf | hf
  · rw [hf]
    go_wp2_with (refine wl_value rfl (look_st rfl isPk r3 rfl) ?_; refine Hid.out ?_)
    refine Hid.mk ?_
    go_wp2_with (refine st_stO (V := pkV P v) (g := g2) rfl rfl isPk (pkV_one hv) s3 rfl rfl ?_; intro w4 s4 ho4; refine Hid.out ?_)
    refine Hid.mk ?_
    go_wp2_with fail
    exact bodyPost_ret (results_cellt rfl _ _ g2 rfl rfl (SC 46 (pkV P v)) s4 (by rw [SC_size]; kernel_rfl) Try.underlying27 rfl) rfl ⟨by rw [← HRR.out, if_pos hf]; rfl, hBb.trans (ho4.below hgw)⟩
  · rw [hf]
    go_wp2_with (refine wl_value rfl (exec_pk0 rfl) ?_; refine Hid.out ?_)
    refine Hid.mk ?_
    go_wp2_with (refine st_stO (V := pkV zeroP (.slice none 0 0)) (g := g2) rfl rfl isPk (pkV_one rfl) s3 rfl rfl ?_; intro w4 s4 ho4; refine Hid.out ?_)
    refine Hid.mk ?_
    go_wp2_with fail
    exact bodyPost_ret (results_cellt rfl _ _ g2 rfl rfl (SC 46 (pkV zeroP (.slice none 0 0))) s4 (by rw [SC_size]; kernel_rfl) Try.underlying27 rfl) rfl ⟨by rw [← HRR.out, if_neg (by rw [hf]; decide)]; rfl, hBb.trans (ho4.below hgw)⟩
theorem en_told (args : Array Value) (w : World) : (callFunc 62 args).run Try.prog w = .ok (.enter 62 args) w := by kernel_rfl
theorem heldL_step : ∀ {S : List Pk} {i : Nat} {P : Pk}, S[i]? = some P → heldL (S.take (i + 1)) = heldL (S.take i) + P.pay.size
  | [], _, _, h => by simp at h
  | x :: S, 0, P, h => by
    simp at h
    subst h
    show x.pay.size + heldL [] = 0 + x.pay.size
    show x.pay.size + 0 = _
    omega
  | x :: S, i + 1, P, h => by
    have := heldL_step (S := S) (i := i) (P := P) (by simpa using h)
    show x.pay.size + heldL (S.take (i + 1)) = x.pay.size + heldL (S.take i) + P.pay.size
    omega
theorem heldL_take (S : List Pk) (i : Nat) : heldL (S.take i) ≤ heldL S := by
  induction S generalizing i with
  | nil => simp [heldL]
  | cons x S ih =>
    cases i with
    | zero => show 0 ≤ _; omega
    | succ i => have := ih i; show x.pay.size + heldL (S.take i) ≤ x.pay.size + heldL S; omega
theorem wl_alPc {ops : Array Oper} {rest : List Oper} {o : Oper} {a : Act} {w : World} {Q : Exit → Act → World → Prop} (ho : o.op = .alloc 82) (hgd : Region.wanted o (yielded ops a.tmps) = true)
    (h : ∀ g w', w.heap.size ≤ g → SAt w' g 82 3 (pcV zeroP) → Below w.heap.size w w' → wpList Try.prog ops Q rest (a.put o.dst (.pointer (some ⟨g, 0, none⟩))) w') : wpList Try.prog ops Q (o :: rest) a w := wl_alO ho hgd zeroPc h
theorem prow_kept {w w' : World} {B : Nat} {v : Value} {S : List Pk} (h : PRow w B v S) (hb : Below w.heap.size w w') : PRow w' B v S := ownT_kept h hb
theorem getD_of {S : List Pk} {i : Nat} {P : Pk} (h : S[i]? = some P) : S.getD i zeroP = P := by rw [List.getD_eq_getElem?_getD, h]; rfl
set_option maxHeartbeats 8000000 in
theorem held_run {g B : Nat} {born num : Int} {hd : Pk} {hv : Value} {p : Addr} {cap : Nat} {S : List Pk} {w : World} (h : SAt w g 89 49 (hpV born num hd hv (.slice (some p) S.length cap))) (hr : PRow w B (.slice (some p) S.length cap) S) (hl : S.length ≤ 64) (hb : heldL S ≤ 65535) : Calls Try.prog 40 #[.pointer (some ⟨g, 0, none⟩)] w fun e w' => e = .returned (.int .i64 (heldL S : Int)) ∧ Below w.heap.size w w' := by
  have HR := Hid.mk hr
  have HB := Hid.mk (fun i => Nat.le_trans (heldL_take S i) hb)
  have HE : Hid (heldL (S.take S.length) = heldL S) := Hid.mk (by rw [List.take_length])
  have hn : S.length < 4611686018427387904 := by omega
  clear hl
  obtain ⟨n, hnn⟩ : ∃ n, S.length = n := ⟨_, rfl⟩
  have HN := Hid.mk hnn
  clear hr hb
  rw [hnn] at h hn HE
  clear hnn
  go_enter Try.func40, Try.ntmps40
  go_wp2_with (refine wl_value rfl (exec_fhp 3 (by decide) rfl rfl) ?_; refine Hid.out ?_)
  refine Hid.mk ?_
  go_wp2_with (refine wl_value rfl (exec_ld rfl rfl (ldQ (hp_ps h))) ?_; refine Hid.out ?_)
  refine Hid.mk ?_
  go_wp2_with (refine wl_value rfl (exec_lenQ rfl rfl) ?_; refine Hid.out ?_)
  refine Hid.mk ?_
  go_wp2_with fail
  go_loopg [3, 11] n (fun gm s3 s11 z => ∃ i : Nat, Hid (gm + i = n) ∧ s3 = .int .i64 (heldL (S.take i) : Int) ∧ s11 = .int .i64 (i : Int) ∧ Hid (Below w.heap.size w z))
  case atStart => exact ⟨0, Hid.mk rfl, rfl, rfl, Hid.mk (Below.refl _ _)⟩
  case round =>
    obtain ⟨i, HI, rfl, rfl, HBz⟩ := hrel
    by_cases hil : i < n
    · have hili : (i : Int) < (n : Int) := by omega
      obtain ⟨P, hx⟩ : ∃ P, S[i]? = some P := ⟨_, List.getElem?_eq_getElem (by rw [HN.out]; exact hil)⟩
      have HRz := Hid.mk (prow_kept HR.out HBz.out)
      have HST := Hid.mk (heldL_step hx)
      have hbd := HB.out (i + 1)
      have HGD := Hid.mk (getD_of hx)
      clear hx
      have HLD : Hid ((Instr.loadAt 82 (.pointer (some (p.add (3 * i))))).run Try.prog wr = .ok (.agg (SC 3 (pcV P))) wr) := Hid.mk (by rw [← HGD.out]; exact row_ld HRz.out (by rw [HN.out]; exact hil))
      have HH : Hid (heldL (S.take i) + P.pay.size ≤ 65535) := Hid.mk (by rw [← HST.out]; exact hbd)
      clear hbd HRz
      generalize hq : heldL (S.take (i + 1)) = q1 at HST
      generalize heldL (S.take i) = q0 at *
      have hq1 : (q0 : Int) + (P.pay.size : Int) = (q1 : Int) := by have := HST.out; omega
      have HQ1 := Hid.mk hq1
      have HQ := Hid.mk hq
      clear hq hq1
      go_wp2_with (refine wl_value rfl (exec_ixQ (i := i) rfl rfl rfl hil) ?_; refine Hid.out ?_)
      refine Hid.mk ?_
      go_wp2_with (refine wl_value rfl (exec_ld rfl rfl HLD.out) ?_; refine Hid.out ?_)
      refine Hid.mk ?_
      go_wp2_with (refine wl_alPc rfl rfl ?_; intro g5 w5 hg5 s5 hB5; refine Hid.out ?_)
      refine Hid.mk ?_
      go_wp2_with (refine st_stO (V := pcV P) (g := g5) rfl rfl isPc (pcV_one P) s5 rfl rfl ?_; intro w6 s6 ho6; refine Hid.out ?_)
      refine Hid.mk ?_
      have HB6 : Hid (Below w.heap.size w w6) := Hid.mk ((HBz.out.trans (hB5.mono HBz.out.size)).trans (ho6.below (Nat.le_trans HBz.out.size hg5)))
      clear s5 hB5 ho6
      go_wp2_with (refine wl_value rfl (exec_fpcG 2 (by decide) rfl rfl) ?_; refine Hid.out ?_)
      refine Hid.mk ?_
      go_wp2_with (refine wl_value rfl (exec_ld rfl rfl (ldPs (pc_pay s6))) ?_; refine Hid.out ?_)
      refine Hid.mk ?_
      go_wp2_with (refine wl_value rfl (exec_lenS rfl rfl) ?_; refine Hid.out ?_)
      refine Hid.mk ?_
      go_wp2_with (refine wl_value rfl (exec_addW (i := q0) (m := P.pay.size) rfl rfl rfl rfl (by have := HH.out; omega)) ?_; refine Hid.out ?_)
      refine Hid.mk ?_
      go_wp2_with fail
      go_roundg (n - (i + 1))
      case rel => exact ⟨i + 1, Hid.mk (by omega), by rw [HQ1.out, HQ.out], by go_num, HB6⟩
      case measure => have := HI.out; omega
    · have hi2 : i = n := by have := HI.out; omega
      subst hi2
      rw [HE.out]
      go_wp2_with fail
      go_ret
      exact ⟨rfl, HBz.out⟩
theorem en_held (args : Array Value) (w : World) : (callFunc 40 args).run Try.prog w = .ok (.enter 40 args) w := by kernel_rfl
end Go.Proofs.Ythnlfjkpiohooaa
/-
  Own text. slices.Index, IndexFunc, Contains, ContainsFunc of pieces; what a heap refuses; whether it is full.
-/
namespace Go.Proofs.Ythnlfjkpiohooaa
open Go.RowKit Go.Proofs
set_option maxRecDepth 100000
theorem pc_reach {P : Pk} (h : PcOk P) : IntKind.i64.wrap (enP P) = enP P := by
  unfold PcOk at h
  unfold enP at *
  exact wrap_id (by omega) (by omega)
theorem fullS_step {S : List Pk} {i : Nat} {P : Pk} (h : S[i]? = some P) (e : Int) : fullS (S.drop i) e = (decide (P.off = e) && fullS (S.drop (i + 1)) (enP P)) := by
  have h1 := (List.getElem?_eq_some_iff.1 h)
  rw [List.drop_eq_getElem_cons h1.1, h1.2]
  rfl
theorem any_step {S : List Pk} {i : Nat} {P : Pk} (h : S[i]? = some P) (f : Pk → Bool) : (S.drop i).any f = (f P || (S.drop (i + 1)).any f) := by
  have h1 := (List.getElem?_eq_some_iff.1 h)
  rw [List.drop_eq_getElem_cons h1.1, h1.2]
  rfl
theorem fieldsP : (Try.prog.fieldsOf 82).toList.map (fun f => (f.name, f.type, f.offset)) = [("offset", 3, 0), ("more", 4, 1), ("payload", 9, 2)] := by kernel_rfl
theorem stoodP : Try.prog.stoodInHeld 82 = false := by kernel_rfl
theorem eqgP : Try.prog.eqGuardType Try.prog.depth 82 = false := by kernel_rfl
theorem partP0 (P : Pk) (w : World) : (part 3 (SC 3 (pcV P)) 0).run Try.prog w = .ok (.int .i64 P.off) w := by kernel_rfl
theorem partP1 (P : Pk) (w : World) : (part 4 (SC 3 (pcV P)) 1).run Try.prog w = .ok (.bool P.more) w := by kernel_rfl
theorem partP2 (P : Pk) (w : World) : (part 9 (SC 3 (pcV P)) 2).run Try.prog w = .ok (.string P.pay) w := by kernel_rfl
theorem three_of {α β : Type} {g : α → β} {l : List α} {x y z : β} (h : l.map g = [x, y, z]) : ∃ a b c, l = [a, b, c] ∧ g a = x ∧ g b = y ∧ g c = z := by
  match l, h with
  | [a, b, c], h => simp at h; exact ⟨a, b, c, rfl, h.1, h.2.1, h.2.2⟩
  | [], h => simp at h
  | [_], h => simp at h
  | [_, _], h => simp at h
  | _ :: _ :: _ :: _ :: _, h => simp at h
theorem equal_str (s t : ByteArray) (d : Nat) (w : World) : (Op.equalIn (d + 1) 9 (.string s) (.string t)).run Try.prog w = .ok (decide (s = t)) w := by
  have e3 : (s.toList == t.toList) = decide (s = t) := by
    by_cases hb : s = t
    · rw [hb]; simp
    · rw [decide_eq_false hb, beq_eq_false_iff_ne]
      intro h
      rw [ByteArray.toList_eq, ByteArray.toList_eq] at h
      exact hb (ByteArray.ext (Array.toList_inj.1 h))
  rw [← e3]
  exact run_equalIn_string w d 9 s t Try.underlying9
theorem equal_pc (P Q : Pk) (w : World) : (Op.equalIn 10000 82 (.agg (SC 3 (pcV P))) (.agg (SC 3 (pcV Q)))).run Try.prog w = .ok (sameQ P Q) w := by
  have hd : sameQ P Q = ((P.off == Q.off) && ((P.more == Q.more) && (decide (P.pay = Q.pay) && true))) := by
    unfold sameQ
    rw [Bool.eq_iff_iff]
    simp only [Bool.and_eq_true, decide_eq_true_eq, beq_iff_eq, and_true]
    constructor
    · rintro ⟨⟨h1, h2⟩, h3⟩; exact ⟨h1.symm, h2.symm, h3.symm⟩
    · rintro ⟨h1, h2, h3⟩; exact ⟨⟨h1.symm, h2.symm⟩, h3.symm⟩
  rw [hd, run_equalIn_struct w 9999 82 _ _ Try.underlying82 stoodP]
  obtain ⟨f0, f1, f2, hl, h0, h1, h2⟩ := three_of fieldsP
  rw [hl]
  exact eqfF h0 (by decide) (partP0 P w) (partP0 Q w) (run_equalIn_int w 9998 3 .i64 .i64 _ _ Try.underlying3) (eqfF h1 (by decide) (partP1 P w) (partP1 Q w) (run_equalIn_bool w 9998 4 _ _ Try.underlying4) (eqfF h2 (by decide) (partP2 P w) (partP2 Q w) (equal_str _ _ 9998 w) (nil_fields _ _ _ w) rfl) rfl) rfl
theorem exec_eqPc {a : Act} {o : Oper} {w : World} {x y : Operand} {t : TypeId} (ho : o.op = .binOp .eql 82 x y t) {P Q : Pk} (hx : a.eval x = .agg (SC 3 (pcV P))) (hy : a.eval y = .agg (SC 3 (pcV Q))) : (execOp a.eval o).run Try.prog w = .ok (.value (.bool (sameQ P Q))) w := by
  unfold execOp
  simp only [ho, hx, hy, Sem.run_bind, run_eqGuard_agg w .eql 82 x y _ _ eqgP, Result.andThen_ok, run_eql_struct, equal_pc P Q w, Sem.run_pure]
set_option maxHeartbeats 8000000 in
theorem Index_run {B : Nat} {p : Addr} {cap : Nat} {S : List Pk} (P : Pk) (w : World) (hr : PRow w B (.slice (some p) S.length cap) S) (hl : S.length ≤ 64) : Calls Try.prog 68 #[.slice (some p) S.length cap, .agg (SC 3 (pcV P))] w fun e w' => ∃ q : Int, e = .returned (.int .i64 q) ∧ (0 ≤ q ↔ S.any (sameQ P) = true) ∧ -1 ≤ q ∧ Below w.heap.size w w' := by
  have HR := Hid.mk hr
  obtain ⟨n, hnn⟩ : ∃ n, S.length = n := ⟨_, rfl⟩
  have HN := Hid.mk hnn
  have hn64 : n ≤ 64 := by omega
  clear hr hl
  rw [hnn]
  clear hnn
  obtain ⟨f, hf⟩ : ∃ f, f = sameQ P := ⟨_, rfl⟩
  have HF := Hid.mk hf
  rw [← hf]
  clear hf
  go_enter Try.func68, Try.ntmps68
  go_wp2_with (refine wl_boxO rfl rfl isPc rfl ?_; intro g3 w3 hg3 r3 hB3; refine Hid.out ?_)
  refine Hid.mk ?_
  have HB0 := Hid.mk hB3
  have HR3 := Hid.mk r3
  clear r3 hB3
  go_wp2_with (refine wl_value rfl (exec_lenQ rfl rfl) ?_; refine Hid.out ?_)
  refine Hid.mk ?_
  go_wp2_with fail
  go_loopg [8] n (fun gm s8 z => ∃ i : Nat, Hid (gm + i = n) ∧ s8 = .int .i64 (i : Int) ∧ Hid (S.any f = (S.drop i).any f) ∧ Hid (Below w.heap.size w z) ∧ Hid (SAt z g3 82 3 (pcV P)))
  case atStart => exact ⟨0, Hid.mk rfl, rfl, Hid.mk (by rw [List.drop_zero]), Hid.mk HB0.out, HR3⟩
  case round =>
    obtain ⟨i, HI, rfl, HA, HBz, HKP⟩ := hrel
    by_cases hil : i < n
    · have hili : (i : Int) < (n : Int) := by omega
      have HLT := Hid.mk hil
      obtain ⟨Q, hx⟩ : ∃ Q, S[i]? = some Q := ⟨_, List.getElem?_eq_getElem (by rw [HN.out]; exact hil)⟩
      have HQS := Hid.mk (List.mem_of_getElem? hx)
      have HAS := Hid.mk (any_step hx f)
      have HGD := Hid.mk (getD_of hx)
      clear hx
      have HLD : Hid (∀ z, Below wr.heap.size wr z → (Instr.loadAt 82 (.pointer (some (p.add (3 * i))))).run Try.prog z = .ok (.agg (SC 3 (pcV Q))) z) := Hid.mk (fun z hz => by rw [← HGD.out]; exact row_ld (prow_kept (prow_kept HR.out HBz.out) hz) (by rw [HN.out]; exact hil))
      have r3 := HKP.out
      go_upto_region 4 with fail
      refine wp_region3 (Below wr.heap.size wr) wr.heap.size
          ([] : List (Nat × Cont))
          [kv (.agg (SC 3 (pcV P))), kv (.slice (some p) n cap), kv (.int .i64 (i : Int)), kv (.pointer (some (p.add (3 * i)))), kv (.agg (SC 3 (pcV Q))), kv (.bool (sameQ P Q))]
          [.none, .none, .none, .none, .none, .none]
          [some 11, some 12, some 13, some 14, some 15, some 16]
          [(3, .pointer (some ⟨g3, 0, none⟩)), (0, .slice (some p) n cap), (5, .int .i64 (i : Int))]
          [[], [], [], [.slot 1, .slot 2], [.slot 3], [.slot 0, .slot 4]]
          [.slot 5] [11, 12, 13, 14, 15, 16]
          rfl (by kernel_rfl) ⟨rfl, rfl, rfl, trivial⟩ ((Below.refl _ wr).drew) (Nat.le_refl _) trivial trivial (below_GcW (Nat.le_refl _))
          ⟨
          (fun QQ aa ww own hS hBg fr kn => .inl ⟨trivial, fun K hK => wp_value (look_st rfl isPc (SAt.kept r3 hS) fr.1) (hK _ _ ⟨Touch.refl _ _, rfl⟩)⟩),
          (fun QQ aa ww own hS hBg fr kn => .inl ⟨trivial, fun K hK => wp_value (exec_move rfl fr.2.1) (hK _ _ ⟨Touch.refl _ _, rfl⟩)⟩),
          (fun QQ aa ww own hS hBg fr kn => .inl ⟨trivial, fun K hK => wp_value (exec_move rfl fr.2.2.1) (hK _ _ ⟨Touch.refl _ _, rfl⟩)⟩),
          (fun QQ aa ww own hS hBg fr kn => .inl ⟨trivial, fun K hK => wp_value (exec_ixQ (i := i) rfl kn.1 kn.2.1 HLT.out) (hK _ _ ⟨Touch.refl _ _, rfl⟩)⟩),
          (fun QQ aa ww own hS hBg fr kn => .inl ⟨trivial, fun K hK => wp_value (exec_ld rfl kn.1 (HLD.out _ hS)) (hK _ _ ⟨Touch.refl _ _, rfl⟩)⟩),
          (fun QQ aa ww own hS hBg fr kn => .inl ⟨trivial, fun K hK => wp_value (exec_eqPc rfl kn.1 kn.2.1) (hK _ _ ⟨Touch.refl _ _, rfl⟩)⟩),
          trivial⟩ ?_
      intro vs own z2 hB2 hsz kn inj
      have e16 : vs 16 = .bool (sameQ P Q) := kn.1
      clear kn inj hsz
      simp only [putAll, Act.put, List.setIfInBounds_toArray, List.set_cons_zero, List.set_cons_succ, e16]
      clear e16
      have HBy : Hid (Below w.heap.size w z2) := Hid.mk (HBz.out.trans (hB2.mono HBz.out.size))
      rcases Bool.eq_false_or_eq_true (sameQ P Q) with hq | hq
      · have hyes : S.any f = true := by rw [HA.out, HAS.out, HF.out, hq]; rfl
        rw [hq]
        go_wp2_with fail
        go_ret
        exact ⟨(i : Int), rfl, ⟨fun _ => hyes, fun _ => by omega⟩, by omega, HBy.out⟩
      · have HA2 : Hid (S.any f = (S.drop (i + 1)).any f) := Hid.mk (by rw [HA.out, HAS.out, HF.out, hq]; rfl)
        rw [hq]
        go_wp2_with fail
        go_roundg (n - (i + 1))
        case rel => exact ⟨i + 1, Hid.mk (by omega), by go_num, HA2, HBy, Hid.mk (r3.kept hB2)⟩
        case measure => have := HI.out; omega
    · have hi2 : i = n := by have := HI.out; omega
      subst hi2
      have hno : S.any f = false := by rw [HA.out, ← HN.out, List.drop_length]; rfl
      go_wp2_with fail
      go_ret
      exact ⟨-1, rfl, by rw [hno]; exact ⟨fun h => absurd h (by decide), fun h => by cases h⟩, by omega, HBz.out⟩
theorem en_Index (args : Array Value) (w : World) : (callFunc 68 args).run Try.prog w = .ok (.enter 68 args) w := by kernel_rfl
theorem exec_callV {f : FuncId} (hc : ∀ args w, (callFunc f args).run Try.prog w = .ok (.enter f args) w) {x : Operand} (xs : Array Operand) (ts : Array TypeId) {o : Oper} {a : Act} {w : World} {fi : Array Value} (ho : o.op = .call { callee := .value x, args := xs, argTypes := ts }) (hx : a.eval x = .func (.func f) fi #[]) :
    (execOp a.eval o).run Try.prog w = .ok (.enter f (fi ++ xs.map a.eval)) w := by
  unfold execOp
  rw [ho]
  simp only [resolve, Sem.run_bind, hx]
  generalize xs.map a.eval = args
  simp [Deferred.ofValue, invoke, go_sem, hc]
theorem wl_callV {ops : Array Oper} {rest : List Oper} {Q : Exit → Act → World → Prop} {f : FuncId} (hc : ∀ args w, (callFunc f args).run Try.prog w = .ok (.enter f args) w) {x : Operand} {xs : Array Operand} {ts : Array TypeId} {o : Oper} {a : Act} {w : World} {fi : Array Value} {R : Value → World → Prop} (ho : o.op = .call { callee := .value x, args := xs, argTypes := ts }) (hw : Region.wanted o (yielded ops a.tmps) = true) (hx : a.eval x = .func (.func f) fi #[])
    {vs : Array Value} (hv : fi ++ xs.map a.eval = vs) (hC : Calls Try.prog f vs w fun r w' => ∃ v, r = .returned v ∧ R v w') (h : ∀ v w', R v w' → wpList Try.prog ops Q rest (a.put o.dst v) w') : wpList Try.prog ops Q (o :: rest) a w := by
  refine wl_act hw (wp_enter (exec_callV hc xs ts ho hx) ?_)
  rw [hv]
  exact hC.mono (fun e w' ⟨v, he, hr⟩ => ⟨v, he, h v w' hr⟩)
theorem exec_mkF {a : Act} {o : Oper} {w : World} {f : FuncId} {x : Operand} (ho : o.op = .makeFunc (.func f) #[x] #[]) {v : Value} (hx : a.eval x = v) : (execOp a.eval o).run Try.prog w = .ok (.value (.func (.func f) #[v] #[])) w := by
  unfold execOp
  subst hx
  simp only [ho, List.map_toArray, List.map_cons, List.map_nil]
  generalize a.eval x = v
  simp [go_sem]
set_option maxHeartbeats 8000000 in
theorem IndexFunc_run {B : Nat} {p : Addr} {cap : Nat} {S : List Pk} (P : Pk) (w : World) (hr : PRow w B (.slice (some p) S.length cap) S) (hl : S.length ≤ 64) (hP : PcOk P) (hS : ∀ Q ∈ S, PcOk Q) : Calls Try.prog 76 #[.slice (some p) S.length cap, .func (.func 70) #[.agg (SC 3 (pcV P))] #[]] w fun e w' => ∃ q : Int, e = .returned (.int .i64 q) ∧ (0 ≤ q ↔ S.any (meetP P) = true) ∧ -1 ≤ q ∧ Below w.heap.size w w' := by
  have HR := Hid.mk hr
  obtain ⟨n, hnn⟩ : ∃ n, S.length = n := ⟨_, rfl⟩
  have HN := Hid.mk hnn
  have hn64 : n ≤ 64 := by omega
  have HME := Hid.mk (fun Q (hQ : Q ∈ S) u => meets_run P Q u (pc_reach hP) (pc_reach (hS Q hQ)))
  clear hr hl hP hS
  rw [hnn]
  clear hnn
  obtain ⟨f, hf⟩ : ∃ f, f = meetP P := ⟨_, rfl⟩
  have HF := Hid.mk hf
  rw [← hf]
  clear hf
  have HB0 := Hid.mk (Below.refl w.heap.size w)
  go_enter Try.func76, Try.ntmps76
  go_wp2_with (refine wl_value rfl (exec_lenQ rfl rfl) ?_; refine Hid.out ?_)
  refine Hid.mk ?_
  go_wp2_with fail
  go_loopg [8] n (fun gm s8 z => ∃ i : Nat, Hid (gm + i = n) ∧ s8 = .int .i64 (i : Int) ∧ Hid (S.any f = (S.drop i).any f) ∧ Hid (Below w.heap.size w z))
  case atStart => exact ⟨0, Hid.mk rfl, rfl, Hid.mk (by rw [List.drop_zero]), Hid.mk HB0.out⟩
  case round =>
    obtain ⟨i, HI, rfl, HA, HBz⟩ := hrel
    by_cases hil : i < n
    · have hili : (i : Int) < (n : Int) := by omega
      have HLT := Hid.mk hil
      obtain ⟨Q, hx⟩ : ∃ Q, S[i]? = some Q := ⟨_, List.getElem?_eq_getElem (by rw [HN.out]; exact hil)⟩
      have HQS := Hid.mk (List.mem_of_getElem? hx)
      have HAS := Hid.mk (any_step hx f)
      have HGD := Hid.mk (getD_of hx)
      clear hx
      have HLD : Hid (∀ z, Below wr.heap.size wr z → (Instr.loadAt 82 (.pointer (some (p.add (3 * i))))).run Try.prog z = .ok (.agg (SC 3 (pcV Q))) z) := Hid.mk (fun z hz => by rw [← HGD.out]; exact row_ld (prow_kept (prow_kept HR.out HBz.out) hz) (by rw [HN.out]; exact hil))
      go_wp2_with (refine wl_value rfl (exec_ixQ (i := i) rfl rfl rfl HLT.out) ?_; refine Hid.out ?_)
      refine Hid.mk ?_
      go_wp2_with (refine wl_value rfl (exec_ld rfl rfl (HLD.out _ (Below.refl _ _))) ?_; refine Hid.out ?_)
      refine Hid.mk ?_
      refine wl_callV (R := fun v w' => v = .bool (meetP P Q) ∧ Below wr.heap.size wr w') (vs := #[.agg (SC 3 (pcV P)), .agg (SC 3 (pcV Q))]) en_meets rfl rfl rfl (by rw [args1 (X := .agg (SC 3 (pcV Q))) rfl]; rfl) ((HME.out Q HQS.out wr).mono (fun e w' he => ⟨_, he.1, rfl, he.2⟩)) ?_
      rintro v2 z2 ⟨rfl, hB2⟩
      have HBy : Hid (Below w.heap.size w z2) := Hid.mk (HBz.out.trans (hB2.mono HBz.out.size))
      rcases Bool.eq_false_or_eq_true (meetP P Q) with hq | hq
      · have hyes : S.any f = true := by rw [HA.out, HAS.out, HF.out, hq]; rfl
        rw [hq]
        go_wp2_with fail
        go_ret
        exact ⟨(i : Int), rfl, ⟨fun _ => hyes, fun _ => by omega⟩, by omega, HBy.out⟩
      · have HA2 : Hid (S.any f = (S.drop (i + 1)).any f) := Hid.mk (by rw [HA.out, HAS.out, HF.out, hq]; rfl)
        rw [hq]
        go_wp2_with fail
        go_roundg (n - (i + 1))
        case rel => exact ⟨i + 1, Hid.mk (by omega), by go_num, HA2, HBy⟩
        case measure => have := HI.out; omega
    · have hi2 : i = n := by have := HI.out; omega
      subst hi2
      have hno : S.any f = false := by rw [HA.out, ← HN.out, List.drop_length]; rfl
      go_wp2_with fail
      go_ret
      exact ⟨-1, rfl, by rw [hno]; exact ⟨fun h => absurd h (by decide), fun h => by cases h⟩, by omega, HBz.out⟩
theorem en_IndexFunc (args : Array Value) (w : World) : (callFunc 76 args).run Try.prog w = .ok (.enter 76 args) w := by kernel_rfl
set_option maxHeartbeats 4000000 in
theorem Contains_run {B : Nat} {p : Addr} {cap : Nat} {S : List Pk} (P : Pk) (w : World) (hr : PRow w B (.slice (some p) S.length cap) S) (hl : S.length ≤ 64) : Calls Try.prog 58 #[.slice (some p) S.length cap, .agg (SC 3 (pcV P))] w fun e w' => e = .returned (.bool (hasSame S P)) ∧ Below w.heap.size w w' := by
  have HR := Hid.mk (fun u (hu : Below w.heap.size w u) => Index_run P u (prow_kept hr hu) hl)
  have HS : Hid (hasSame S P = S.any (sameQ P)) := Hid.mk rfl
  clear hr hl
  generalize hasSame S P = r at *
  generalize S.length = n at *
  go_enter Try.func58, Try.ntmps58
  go_wp2_with (refine wl_boxO rfl rfl isPc rfl ?_; intro g3 w3 hg3 r3 hB3; refine Hid.out ?_)
  refine Hid.mk ?_
  go_wp2_with (refine wl_value rfl (look_st rfl isPc r3 rfl) ?_; refine Hid.out ?_)
  refine Hid.mk ?_
  go_wp2_with (go_at_call 68; refine (HR.out _ hB3).mono ?_; rintro e w4 ⟨q, rfl, hq, hq1, hB4⟩; have HQ := Hid.mk hq; clear hq; refine Hid.out ?_)
  refine Hid.mk ?_
  go_wp2_with (refine wl_value rfl (cmp_ge (m := q) (n := 0) rfl rfl rfl) ?_; refine Hid.out ?_)
  refine Hid.mk ?_
  go_wp2_with fail
  go_ret
  refine ⟨?_, hB3.trans (hB4.mono hB3.size)⟩
  have e : decide (0 ≤ q) = r := by rw [HS.out, Bool.eq_iff_iff, decide_eq_true_eq]; exact HQ.out
  rw [← e]
  rfl
set_option maxHeartbeats 4000000 in
theorem ContainsFunc_run {B : Nat} {p : Addr} {cap : Nat} {S : List Pk} (P : Pk) (w : World) (hr : PRow w B (.slice (some p) S.length cap) S) (hl : S.length ≤ 64) (hP : PcOk P) (hS : ∀ Q ∈ S, PcOk Q) : Calls Try.prog 69 #[.slice (some p) S.length cap, .func (.func 70) #[.agg (SC 3 (pcV P))] #[]] w fun e w' => e = .returned (.bool (S.any (meetP P))) ∧ Below w.heap.size w w' := by
  have HR := Hid.mk (IndexFunc_run P w hr hl hP hS)
  clear hr hl hP hS
  obtain ⟨r, hrr⟩ : ∃ r, S.any (meetP P) = r := ⟨_, rfl⟩
  rw [hrr] at HR ⊢
  clear hrr
  generalize S.length = n at *
  go_enter Try.func69, Try.ntmps69
  go_wp2_with (go_at_call 76; refine HR.out.mono ?_; rintro e w4 ⟨q, rfl, hq, hq1, hB4⟩; have HQ := Hid.mk hq; clear hq; refine Hid.out ?_)
  refine Hid.mk ?_
  go_wp2_with (refine wl_value rfl (cmp_ge (m := q) (n := 0) rfl rfl rfl) ?_; refine Hid.out ?_)
  refine Hid.mk ?_
  go_wp2_with fail
  go_ret
  refine ⟨?_, hB4⟩
  have e : decide (0 ≤ q) = r := by rw [Bool.eq_iff_iff, decide_eq_true_eq]; exact HQ.out
  rw [← e]
  rfl
theorem en_Contains (args : Array Value) (w : World) : (callFunc 58 args).run Try.prog w = .ok (.enter 58 args) w := by kernel_rfl
theorem en_ContainsFunc (args : Array Value) (w : World) : (callFunc 69 args).run Try.prog w = .ok (.enter 69 args) w := by kernel_rfl
set_option maxHeartbeats 16000000 in
theorem refuses_run {g B : Nat} {born num : Int} {hd : Pk} {hv : Value} {q cap m : Nat} {S : List Pk} (P : Pk) (w : World) (h : SAt w g 89 49 (hpV born num hd hv (.slice (some ⟨q, 0, none⟩) (m + 1) cap))) (hr : PRow w B (.slice (some ⟨q, 0, none⟩) S.length cap) S) (hl : S.length = m + 1) (hm : m < 64) (hP : PcOk P) (hS : ∀ Q ∈ S, PcOk Q) : Calls Try.prog 59 #[.pointer (some ⟨g, 0, none⟩), .agg (SC 3 (pcV P))] w fun e w' => e = .returned (.bool (refS S P)) ∧ Below w.heap.size w w' := by
  have HR := Hid.mk hr
  have HL0 := Hid.mk hl
  have hne : S ≠ [] := by intro e; rw [e] at hl; cases hl
  have hgl : S.getLastD zeroP = S.getD m zeroP := by rw [List.getLastD_eq_getLast?, List.getLast?_eq_getElem?, hl, List.getD_eq_getElem?_getD]; rfl
  have HE : Hid (refS S P = ((((!(S.getD m zeroP).more && (!P.more || decide (enP (S.getD m zeroP) < enP P))) || (!P.more && decide (enP P < enP (S.getD m zeroP)))) || decide (64 ≤ ((m + 1 : Nat) : Int))) || S.any (meetP P))) := Hid.mk (by
    unfold refS
    rw [moreS_last hne, hgl, hl]
    congr 2
    congr 1
    exact propext ⟨fun h => by omega, fun h => by omega⟩)
  have HLS : Hid (S.getD m zeroP ∈ S) := Hid.mk (by rw [List.getD_eq_getElem?_getD, List.getElem?_eq_getElem (by omega)]; exact List.getElem_mem _)
  have HCF := Hid.mk (fun u (hu : Below w.heap.size w u) => ContainsFunc_run P u (prow_kept hr hu) (by omega) hP hS)
  have HP := Hid.mk (pc_reach hP)
  have HL := Hid.mk (pc_reach (hS _ HLS.out))
  clear hr hl hP hS hne hgl HLS
  rw [HL0.out] at HCF
  generalize refS S P = r at *
  go_enter Try.func59, Try.ntmps59
  go_wp2_with (refine wl_boxO rfl rfl isPc rfl ?_; intro g3 w3 hg3 r3 hB3; refine Hid.out ?_)
  refine Hid.mk ?_
  have h3 := h.kept hB3
  have R3 := prow_kept HR.out hB3
  have c48 := hp_ps h3
  have lt : m < S.length := by rw [HL0.out]; omega
  have k0 : w3.cell? ⟨q, 3 * m, none⟩ = some (.int .i64 (S.getD m zeroP).off) := by have := row_cell R3 lt (f := 0) (by decide); rwa [Addr.add_lit, Nat.zero_add] at this
  have k1 : w3.cell? ⟨q, 3 * m + 1, none⟩ = some (.bool (S.getD m zeroP).more) := by have := row_cell R3 lt (f := 1) (by decide); rwa [Addr.add_lit, Nat.zero_add] at this
  have k2 : w3.cell? ⟨q, 3 * m + 2, none⟩ = some (.string (S.getD m zeroP).pay) := by have := row_cell R3 lt (f := 2) (by decide); rwa [Addr.add_lit, Nat.zero_add] at this
  have hpl := World.block_lt_of_cell? _ _ k0
  rw [Nat.mul_comm 3 m] at k0 k1 k2
  have hgl := heap_lt h3
  have hm0 : (0 : Int) ≤ (m : Int) := Int.natCast_nonneg m
  have hm1 : (m : Int) < 64 := by omega
  generalize S.getD m zeroP = L at *
  have H3 := Hid.mk h3
  have HR3 := Hid.mk r3
  have HB3 := Hid.mk hB3
  clear R3 lt h3 r3 hB3 h
  go_upto_region 1 with fail
  go_region
  clear c48 k0 k1 k2 hpl hgl hm0 hm1
  go_upto_region 2 with fail
  refine wp_gen (fun z => SAt z w3.heap.size 82 3 (pcV L) ∧ Below w3.heap.size w3 z) (by first | exact ⟨heap_alloc_new w3 _, (Below.refl _ _).alloc (Nat.le_refl _) _⟩ | exact ⟨heap_alloc_new w3 _, Below.drew ((Below.refl _ _).alloc (Nat.le_refl _) _)⟩) ?_
  rintro w4 ⟨s4, hB4⟩
  have p4 := HR3.out.kept hB4
  refine wp_region3 (Below w4.heap.size w4) w4.heap.size
      ([] : List (Nat × Cont))
      [kv (.pointer (some ⟨w3.heap.size, 1, none⟩)), kv (.bool L.more), kv (.bool (!L.more)), kv (.bool (!L.more)), kv (gv (!L.more) (.pointer (some ⟨g3, 1, none⟩))), kv (gv (!L.more) (.bool P.more)), kv (gv (!L.more) (.bool (!P.more))), kv (gv (!L.more) (.bool (!P.more))), kv (gv ((!L.more) && (!(!P.more))) (.agg (SC 3 (pcV P)))), kv (gv ((!L.more) && (!(!P.more))) (.int .i64 (enP P))), kv (gv ((!L.more) && (!(!P.more))) (.agg (SC 3 (pcV L)))), kv (gv ((!L.more) && (!(!P.more))) (.int .i64 (enP L))), kv (gv ((!L.more) && (!(!P.more))) (.bool (decide ((enP L) < (enP P))))), kv (gv (!L.more) (.bool ((!P.more) || (decide ((enP L) < (enP P)))))), kv (.bool ((!L.more) && ((!P.more) || (decide ((enP L) < (enP P)))))), kv (.bool ((!L.more) && ((!P.more) || (decide ((enP L) < (enP P))))))]
      [.none, .none, .none, .none, .none, .none, .none, .none, .none, .none, .none, .none, .none, .none, .none, .none]
      [some 20, some 21, some 22, some 23, some 24, some 25, some 26, some 27, some 28, some 29, some 30, some 31, some 32, some 33, some 34, some 6]
      [(5, .pointer (some ⟨w3.heap.size, 0, none⟩)), (3, .pointer (some ⟨g3, 0, none⟩))]
      [[], [.slot 0], [.slot 1], [.slot 2], [.slot 3], [.slot 3, .slot 4], [.slot 3, .slot 5], [.slot 3, .slot 6], [.slot 7], [.slot 7, .slot 8], [.slot 7], [.slot 7, .slot 10], [.slot 7, .slot 9, .slot 11], [.slot 3, .slot 7, .slot 12], [.slot 3, .slot 13], [.slot 14]]
      [.slot 15] [20, 21, 22, 23, 24, 25, 26, 27, 28, 29, 30, 31, 32, 33, 34, 6]
      rfl (by kernel_rfl) ⟨rfl, rfl, trivial⟩ ((Below.refl _ w4).drew) (Nat.le_refl _) trivial trivial (below_GcW (Nat.le_refl _))
      ⟨
      (fun QQ aa ww own hS hBg fr kn => .inl ⟨trivial, fun K hK => wp_value (exec_fpcG 1 (by decide) rfl fr.1) (hK _ _ ⟨Touch.refl _ _, rfl⟩)⟩),
      (fun QQ aa ww own hS hBg fr kn => .inl ⟨trivial, fun K hK => wp_value (exec_ld rfl kn.1 (ldPb (pc_more (SAt.kept s4 hS)))) (hK _ _ ⟨Touch.refl _ _, rfl⟩)⟩),
      (fun QQ aa ww own hS hBg fr kn => .inl ⟨trivial, fun K hK => wp_value (exec_notB rfl kn.1) (hK _ _ ⟨Touch.refl _ _, rfl⟩)⟩),
      (fun QQ aa ww own hS hBg fr kn => .inl ⟨trivial, fun K hK => wp_value (exec_move rfl kn.1) (hK _ _ ⟨Touch.refl _ _, rfl⟩)⟩),
      (fun QQ aa ww own hS hBg fr kn => s3T rfl kn.1 (fun hc K hK => wp_value (exec_fpcG 1 (by decide) rfl fr.2.1) (hK _ _ ⟨Touch.refl _ _, (gv_t hc).symm⟩)) (fun h0 => ⟨Touch.refl _ _, (gv_f h0).symm⟩)),
      (fun QQ aa ww own hS hBg fr kn => s3T rfl kn.1 (fun hc K hK => wp_value (exec_ld rfl (kn.2.1.trans (gv_t hc)) (ldPb (pc_more (SAt.kept p4 hS)))) (hK _ _ ⟨Touch.refl _ _, (gv_t hc).symm⟩)) (fun h0 => ⟨Touch.refl _ _, (gv_f h0).symm⟩)),
      (fun QQ aa ww own hS hBg fr kn => s3T rfl kn.1 (fun hc K hK => wp_value (exec_notB rfl (kn.2.1.trans (gv_t hc))) (hK _ _ ⟨Touch.refl _ _, (gv_t hc).symm⟩)) (fun h0 => ⟨Touch.refl _ _, (gv_f h0).symm⟩)),
      (fun QQ aa ww own hS hBg fr kn => s3T rfl kn.1 (fun hc K hK => wp_value (exec_move rfl (kn.2.1.trans (gv_t hc))) (hK _ _ ⟨Touch.refl _ _, (gv_t hc).symm⟩)) (fun h0 => ⟨Touch.refl _ _, (gv_f h0).symm⟩)),
      (fun QQ aa ww own hS hBg fr kn => s3TF rfl kn.1 (fun hc K hK => wp_value (look_st rfl isPc (SAt.kept p4 hS) fr.2.1) (hK _ _ ⟨Touch.refl _ _, (gv_t hc).symm⟩)) (fun h0 => ⟨Touch.refl _ _, (gv_f h0).symm⟩)),
      (fun QQ aa ww own hS hBg fr kn => s3TF rfl kn.1 (fun hc K hK => stepc en_reach rfl (args1 (kn.2.1.trans (gv_t hc))) (reach_run P ww HP.out) (fun w' hb => hK _ _ ⟨touch_below hb, (gv_t hc).symm⟩)) (fun h0 => ⟨Touch.refl _ _, (gv_f h0).symm⟩)),
      (fun QQ aa ww own hS hBg fr kn => s3TF rfl kn.1 (fun hc K hK => wp_value (look_st rfl isPc (SAt.kept s4 hS) fr.1) (hK _ _ ⟨Touch.refl _ _, (gv_t hc).symm⟩)) (fun h0 => ⟨Touch.refl _ _, (gv_f h0).symm⟩)),
      (fun QQ aa ww own hS hBg fr kn => s3TF rfl kn.1 (fun hc K hK => stepc en_reach rfl (args1 (kn.2.1.trans (gv_t hc))) (reach_run L ww HL.out) (fun w' hb => hK _ _ ⟨touch_below hb, (gv_t hc).symm⟩)) (fun h0 => ⟨Touch.refl _ _, (gv_f h0).symm⟩)),
      (fun QQ aa ww own hS hBg fr kn => s3TF rfl kn.1 (fun hc K hK => wp_value (cmp_gt (m := (enP P)) (n := (enP L)) rfl (kn.2.1.trans (gv_t hc)) (kn.2.2.1.trans (gv_t hc))) (hK _ _ ⟨Touch.refl _ _, (gv_t hc).symm⟩)) (fun h0 => ⟨Touch.refl _ _, (gv_f h0).symm⟩)),
      (fun QQ aa ww own hS hBg fr kn => s3T rfl kn.1 (fun hc K hK => wp_value (exec_pickOr rfl (kn.2.1.trans (gv_t hc)) rfl (fun hx => kn.2.2.1.trans (gv_t (an_t hc (nt_t hx))))) (hK _ _ ⟨Touch.refl _ _, (gv_t hc).symm⟩)) (fun h0 => ⟨Touch.refl _ _, (gv_f h0).symm⟩)),
      (fun QQ aa ww own hS hBg fr kn => .inl ⟨trivial, fun K hK => wp_value (exec_pickAnd rfl kn.1 (fun hx => kn.2.1.trans (gv_t hx)) rfl) (hK _ _ ⟨Touch.refl _ _, rfl⟩)⟩),
      (fun QQ aa ww own hS hBg fr kn => .inl ⟨trivial, fun K hK => wp_value (exec_assign rfl kn.1) (hK _ _ ⟨Touch.refl _ _, rfl⟩)⟩),
      trivial⟩ ?_
  intro vs own w5 hB5 hsz kn inj
  have e6 : vs 6 = .bool ((!L.more) && ((!P.more) || (decide ((enP L) < (enP P))))) := kn.1
  clear kn inj hsz
  simp only [putAll, Act.put, List.setIfInBounds_toArray, List.set_cons_zero, List.set_cons_succ, e6]
  clear e6
  have s5 := s4.kept hB5
  have p5 := p4.kept hB5
  clear s4 p4
  go_upto_region 3 with fail
  refine wp_region3 (Below w5.heap.size w5) w5.heap.size
      ([] : List (Nat × Cont))
      [kv (.pointer (some ⟨g3, 1, none⟩)), kv (.bool P.more), kv (.bool (!P.more)), kv (.bool (!P.more)), kv (gv (!P.more) (.agg (SC 3 (pcV P)))), kv (gv (!P.more) (.int .i64 (enP P))), kv (gv (!P.more) (.agg (SC 3 (pcV L)))), kv (gv (!P.more) (.int .i64 (enP L))), kv (gv (!P.more) (.bool (decide ((enP P) < (enP L))))), kv (.bool ((!P.more) && (decide ((enP P) < (enP L))))), kv (.bool ((!P.more) && (decide ((enP P) < (enP L)))))]
      [.none, .none, .none, .none, .none, .none, .none, .none, .none, .none, .none]
      [some 35, some 36, some 37, some 38, some 39, some 40, some 41, some 42, some 43, some 44, some 7]
      [(3, .pointer (some ⟨g3, 0, none⟩)), (5, .pointer (some ⟨w3.heap.size, 0, none⟩))]
      [[], [.slot 0], [.slot 1], [.slot 2], [.slot 3], [.slot 3, .slot 4], [.slot 3], [.slot 3, .slot 6], [.slot 3, .slot 5, .slot 7], [.slot 3, .slot 8], [.slot 9]]
      [.slot 10] [35, 36, 37, 38, 39, 40, 41, 42, 43, 44, 7]
      rfl (by kernel_rfl) ⟨rfl, rfl, trivial⟩ ((Below.refl _ w5).drew) (Nat.le_refl _) trivial trivial (below_GcW (Nat.le_refl _))
      ⟨
      (fun QQ aa ww own hS hBg fr kn => .inl ⟨trivial, fun K hK => wp_value (exec_fpcG 1 (by decide) rfl fr.1) (hK _ _ ⟨Touch.refl _ _, rfl⟩)⟩),
      (fun QQ aa ww own hS hBg fr kn => .inl ⟨trivial, fun K hK => wp_value (exec_ld rfl kn.1 (ldPb (pc_more (SAt.kept p5 hS)))) (hK _ _ ⟨Touch.refl _ _, rfl⟩)⟩),
      (fun QQ aa ww own hS hBg fr kn => .inl ⟨trivial, fun K hK => wp_value (exec_notB rfl kn.1) (hK _ _ ⟨Touch.refl _ _, rfl⟩)⟩),
      (fun QQ aa ww own hS hBg fr kn => .inl ⟨trivial, fun K hK => wp_value (exec_move rfl kn.1) (hK _ _ ⟨Touch.refl _ _, rfl⟩)⟩),
      (fun QQ aa ww own hS hBg fr kn => s3T rfl kn.1 (fun hc K hK => wp_value (look_st rfl isPc (SAt.kept p5 hS) fr.1) (hK _ _ ⟨Touch.refl _ _, (gv_t hc).symm⟩)) (fun h0 => ⟨Touch.refl _ _, (gv_f h0).symm⟩)),
      (fun QQ aa ww own hS hBg fr kn => s3T rfl kn.1 (fun hc K hK => stepc en_reach rfl (args1 (kn.2.1.trans (gv_t hc))) (reach_run P ww HP.out) (fun w' hb => hK _ _ ⟨touch_below hb, (gv_t hc).symm⟩)) (fun h0 => ⟨Touch.refl _ _, (gv_f h0).symm⟩)),
      (fun QQ aa ww own hS hBg fr kn => s3T rfl kn.1 (fun hc K hK => wp_value (look_st rfl isPc (SAt.kept s5 hS) fr.2.1) (hK _ _ ⟨Touch.refl _ _, (gv_t hc).symm⟩)) (fun h0 => ⟨Touch.refl _ _, (gv_f h0).symm⟩)),
      (fun QQ aa ww own hS hBg fr kn => s3T rfl kn.1 (fun hc K hK => stepc en_reach rfl (args1 (kn.2.1.trans (gv_t hc))) (reach_run L ww HL.out) (fun w' hb => hK _ _ ⟨touch_below hb, (gv_t hc).symm⟩)) (fun h0 => ⟨Touch.refl _ _, (gv_f h0).symm⟩)),
      (fun QQ aa ww own hS hBg fr kn => s3T rfl kn.1 (fun hc K hK => wp_value (cmp_lt (m := (enP P)) (n := (enP L)) rfl (kn.2.1.trans (gv_t hc)) (kn.2.2.1.trans (gv_t hc))) (hK _ _ ⟨Touch.refl _ _, (gv_t hc).symm⟩)) (fun h0 => ⟨Touch.refl _ _, (gv_f h0).symm⟩)),
      (fun QQ aa ww own hS hBg fr kn => .inl ⟨trivial, fun K hK => wp_value (exec_pickAnd rfl kn.1 (fun hx => kn.2.1.trans (gv_t hx)) rfl) (hK _ _ ⟨Touch.refl _ _, rfl⟩)⟩),
      (fun QQ aa ww own hS hBg fr kn => .inl ⟨trivial, fun K hK => wp_value (exec_assign rfl kn.1) (hK _ _ ⟨Touch.refl _ _, rfl⟩)⟩),
      trivial⟩ ?_
  intro vs own w6 hB6 hsz kn inj
  have e7 : vs 7 = .bool ((!P.more) && (decide ((enP P) < (enP L)))) := kn.1
  clear kn inj hsz
  simp only [putAll, Act.put, List.setIfInBounds_toArray, List.set_cons_zero, List.set_cons_succ, e7]
  clear e7
  have p6 := p5.kept hB6
  have hB36 : Below w3.heap.size w3 w6 := (hB4.trans (hB5.mono hB4.size)).trans (hB6.mono (Nat.le_trans hB4.size hB5.size))
  have h6 := H3.out.kept hB36
  have hB06 : Below w.heap.size w w6 := HB3.out.trans (hB36.mono HB3.out.size)
  have HCF := Hid.mk (fun u (hu : Below w6.heap.size w6 u) => HCF.out u (hB06.trans (hu.mono hB06.size)))
  obtain ⟨x6, hx6⟩ : ∃ x, x = (!L.more && (!P.more || decide (enP L < enP P))) := ⟨_, rfl⟩
  obtain ⟨x7, hx7⟩ : ∃ x, x = (!P.more && decide (enP P < enP L)) := ⟨_, rfl⟩
  have HX6 := Hid.mk hx6
  have HX7 := Hid.mk hx7
  rw [← hx6, ← hx7] at HE
  rw [← hx6, ← hx7]
  clear hx6 hx7 s5 p5 hB4 hB5 hB6 HR3 H3 HX6 HX7
  go_upto_region 4 with fail
  refine wp_region3 (Below w6.heap.size w6) w6.heap.size
      ([] : List (Nat × Cont))
      [kv (.bool x6), kv (.bool x6), kv (gv (!x6) (.bool x7)), kv (.bool (x6 || x7)), kv (.bool (x6 || x7)), kv (gv (!(x6 || x7)) (.pointer (some ⟨g, 0, none⟩))), kv (gv (!(x6 || x7)) (.pointer (some ⟨g, 0, none⟩))), kv (gv (!(x6 || x7)) (.pointer (some ⟨g, 48, none⟩))), kv (gv (!(x6 || x7)) (.slice (some ⟨q, 0, none⟩) (m + 1) cap)), kv (gv (!(x6 || x7)) (.int .i64 ((m + 1 : Nat) : Int))), kv (gv (!(x6 || x7)) (.bool (decide (64 ≤ ((m + 1 : Nat) : Int))))), kv (.bool ((x6 || x7) || (decide (64 ≤ ((m + 1 : Nat) : Int))))), kv (.bool ((x6 || x7) || (decide (64 ≤ ((m + 1 : Nat) : Int))))), kv (gv (!((x6 || x7) || (decide (64 ≤ ((m + 1 : Nat) : Int))))) (.pointer (some ⟨g, 0, none⟩))), kv (gv (!((x6 || x7) || (decide (64 ≤ ((m + 1 : Nat) : Int))))) (.pointer (some ⟨g, 0, none⟩))), kv (gv (!((x6 || x7) || (decide (64 ≤ ((m + 1 : Nat) : Int))))) (.pointer (some ⟨g, 48, none⟩))), kv (gv (!((x6 || x7) || (decide (64 ≤ ((m + 1 : Nat) : Int))))) (.slice (some ⟨q, 0, none⟩) (m + 1) cap)), kv (gv (!((x6 || x7) || (decide (64 ≤ ((m + 1 : Nat) : Int))))) (.agg (SC 3 (pcV P)))), kv (gv (!((x6 || x7) || (decide (64 ≤ ((m + 1 : Nat) : Int))))) (.func (.func 70) #[.agg (SC 3 (pcV P))] #[])), kv (gv (!((x6 || x7) || (decide (64 ≤ ((m + 1 : Nat) : Int))))) (.bool (S.any (meetP P)))), kv (.bool (((x6 || x7) || (decide (64 ≤ ((m + 1 : Nat) : Int)))) || (S.any (meetP P)))), kv (.bool (((x6 || x7) || (decide (64 ≤ ((m + 1 : Nat) : Int)))) || (S.any (meetP P))))]
      [.none, .none, .none, .none, .none, .none, .none, .none, .none, .none, .none, .none, .none, .none, .none, .none, .none, .none, .none, .none, .none, .none]
      [some 45, some 46, some 47, some 48, some 49, some 50, some 51, some 52, some 53, some 54, some 55, some 56, some 57, some 58, some 59, some 60, some 61, some 62, some 63, some 64, some 65, some 4]
      [(6, .bool x6), (7, .bool x7), (0, .pointer (some ⟨g, 0, none⟩)), (3, .pointer (some ⟨g3, 0, none⟩))]
      [[], [.slot 0], [.slot 1], [.slot 1, .slot 2], [.slot 3], [.slot 4], [.slot 4, .slot 5], [.slot 4, .slot 6], [.slot 4, .slot 7], [.slot 4, .slot 8], [.slot 4, .slot 9], [.slot 4, .slot 10], [.slot 11], [.slot 12], [.slot 12, .slot 13], [.slot 12, .slot 14], [.slot 12, .slot 15], [.slot 12], [.slot 12, .slot 17], [.slot 12, .slot 16, .slot 18], [.slot 12, .slot 19], [.slot 20]]
      [.slot 21] [45, 46, 47, 48, 49, 50, 51, 52, 53, 54, 55, 56, 57, 58, 59, 60, 61, 62, 63, 64, 65, 4]
      rfl (by kernel_rfl) ⟨rfl, rfl, rfl, rfl, trivial⟩ ((Below.refl _ w6).drew) (Nat.le_refl _) trivial trivial (below_GcW (Nat.le_refl _))
      ⟨
      (fun QQ aa ww own hS hBg fr kn => .inl ⟨trivial, fun K hK => wp_value (exec_move rfl fr.1) (hK _ _ ⟨Touch.refl _ _, rfl⟩)⟩),
      (fun QQ aa ww own hS hBg fr kn => .inl ⟨trivial, fun K hK => wp_value (exec_move rfl kn.1) (hK _ _ ⟨Touch.refl _ _, rfl⟩)⟩),
      (fun QQ aa ww own hS hBg fr kn => s3F rfl kn.1 (fun hng K hK => have hc := nt_t hng; wp_value (exec_move rfl fr.2.1) (hK _ _ ⟨Touch.refl _ _, (gv_t hc).symm⟩)) (fun h0 => ⟨Touch.refl _ _, (gv_f (nt_f h0)).symm⟩)),
      (fun QQ aa ww own hS hBg fr kn => .inl ⟨trivial, fun K hK => wp_value (exec_pickOr rfl kn.1 rfl (fun hx => kn.2.1.trans (gv_t (nt_t hx)))) (hK _ _ ⟨Touch.refl _ _, rfl⟩)⟩),
      (fun QQ aa ww own hS hBg fr kn => .inl ⟨trivial, fun K hK => wp_value (exec_move rfl kn.1) (hK _ _ ⟨Touch.refl _ _, rfl⟩)⟩),
      (fun QQ aa ww own hS hBg fr kn => s3F rfl kn.1 (fun hng K hK => have hc := nt_t hng; wp_value (exec_move rfl fr.2.2.1) (hK _ _ ⟨Touch.refl _ _, (gv_t hc).symm⟩)) (fun h0 => ⟨Touch.refl _ _, (gv_f (nt_f h0)).symm⟩)),
      (fun QQ aa ww own hS hBg fr kn => s3F rfl kn.1 (fun hng K hK => have hc := nt_t hng; wp_value (exec_nilc rfl (kn.2.1.trans (gv_t hc))) (hK _ _ ⟨Touch.refl _ _, (gv_t hc).symm⟩)) (fun h0 => ⟨Touch.refl _ _, (gv_f (nt_f h0)).symm⟩)),
      (fun QQ aa ww own hS hBg fr kn => s3F rfl kn.1 (fun hng K hK => have hc := nt_t hng; wp_value (exec_fhp 3 (by decide) rfl (kn.2.1.trans (gv_t hc))) (hK _ _ ⟨Touch.refl _ _, (gv_t hc).symm⟩)) (fun h0 => ⟨Touch.refl _ _, (gv_f (nt_f h0)).symm⟩)),
      (fun QQ aa ww own hS hBg fr kn => s3F rfl kn.1 (fun hng K hK => have hc := nt_t hng; wp_value (exec_ld rfl (kn.2.1.trans (gv_t hc)) (ldQ (hp_ps (SAt.kept h6 hS)))) (hK _ _ ⟨Touch.refl _ _, (gv_t hc).symm⟩)) (fun h0 => ⟨Touch.refl _ _, (gv_f (nt_f h0)).symm⟩)),
      (fun QQ aa ww own hS hBg fr kn => s3F rfl kn.1 (fun hng K hK => have hc := nt_t hng; wp_value (exec_lenQ rfl (kn.2.1.trans (gv_t hc))) (hK _ _ ⟨Touch.refl _ _, (gv_t hc).symm⟩)) (fun h0 => ⟨Touch.refl _ _, (gv_f (nt_f h0)).symm⟩)),
      (fun QQ aa ww own hS hBg fr kn => s3F rfl kn.1 (fun hng K hK => have hc := nt_t hng; wp_value (cmp_ge (m := ((m + 1 : Nat) : Int)) (n := 64) rfl (kn.2.1.trans (gv_t hc)) rfl) (hK _ _ ⟨Touch.refl _ _, (gv_t hc).symm⟩)) (fun h0 => ⟨Touch.refl _ _, (gv_f (nt_f h0)).symm⟩)),
      (fun QQ aa ww own hS hBg fr kn => .inl ⟨trivial, fun K hK => wp_value (exec_pickOr rfl kn.1 rfl (fun hx => kn.2.1.trans (gv_t (nt_t hx)))) (hK _ _ ⟨Touch.refl _ _, rfl⟩)⟩),
      (fun QQ aa ww own hS hBg fr kn => .inl ⟨trivial, fun K hK => wp_value (exec_move rfl kn.1) (hK _ _ ⟨Touch.refl _ _, rfl⟩)⟩),
      (fun QQ aa ww own hS hBg fr kn => s3F rfl kn.1 (fun hng K hK => have hc := nt_t hng; wp_value (exec_move rfl fr.2.2.1) (hK _ _ ⟨Touch.refl _ _, (gv_t hc).symm⟩)) (fun h0 => ⟨Touch.refl _ _, (gv_f (nt_f h0)).symm⟩)),
      (fun QQ aa ww own hS hBg fr kn => s3F rfl kn.1 (fun hng K hK => have hc := nt_t hng; wp_value (exec_nilc rfl (kn.2.1.trans (gv_t hc))) (hK _ _ ⟨Touch.refl _ _, (gv_t hc).symm⟩)) (fun h0 => ⟨Touch.refl _ _, (gv_f (nt_f h0)).symm⟩)),
      (fun QQ aa ww own hS hBg fr kn => s3F rfl kn.1 (fun hng K hK => have hc := nt_t hng; wp_value (exec_fhp 3 (by decide) rfl (kn.2.1.trans (gv_t hc))) (hK _ _ ⟨Touch.refl _ _, (gv_t hc).symm⟩)) (fun h0 => ⟨Touch.refl _ _, (gv_f (nt_f h0)).symm⟩)),
      (fun QQ aa ww own hS hBg fr kn => s3F rfl kn.1 (fun hng K hK => have hc := nt_t hng; wp_value (exec_ld rfl (kn.2.1.trans (gv_t hc)) (ldQ (hp_ps (SAt.kept h6 hS)))) (hK _ _ ⟨Touch.refl _ _, (gv_t hc).symm⟩)) (fun h0 => ⟨Touch.refl _ _, (gv_f (nt_f h0)).symm⟩)),
      (fun QQ aa ww own hS hBg fr kn => s3F rfl kn.1 (fun hng K hK => have hc := nt_t hng; wp_value (look_st rfl isPc (SAt.kept p6 hS) fr.2.2.2.1) (hK _ _ ⟨Touch.refl _ _, (gv_t hc).symm⟩)) (fun h0 => ⟨Touch.refl _ _, (gv_f (nt_f h0)).symm⟩)),
      (fun QQ aa ww own hS hBg fr kn => s3F rfl kn.1 (fun hng K hK => have hc := nt_t hng; wp_value (exec_mkF rfl (kn.2.1.trans (gv_t hc))) (hK _ _ ⟨Touch.refl _ _, (gv_t hc).symm⟩)) (fun h0 => ⟨Touch.refl _ _, (gv_f (nt_f h0)).symm⟩)),
      (fun QQ aa ww own hS hBg fr kn => s3F rfl kn.1 (fun hng K hK => have hc := nt_t hng; stepc en_ContainsFunc rfl (args2 (kn.2.1.trans (gv_t hc)) (kn.2.2.1.trans (gv_t hc))) (HCF.out ww hS) (fun w' hb => hK _ _ ⟨touch_below hb, (gv_t hc).symm⟩)) (fun h0 => ⟨Touch.refl _ _, (gv_f (nt_f h0)).symm⟩)),
      (fun QQ aa ww own hS hBg fr kn => .inl ⟨trivial, fun K hK => wp_value (exec_pickOr rfl kn.1 rfl (fun hx => kn.2.1.trans (gv_t (nt_t hx)))) (hK _ _ ⟨Touch.refl _ _, rfl⟩)⟩),
      (fun QQ aa ww own hS hBg fr kn => .inl ⟨trivial, fun K hK => wp_value (exec_assign rfl kn.1) (hK _ _ ⟨Touch.refl _ _, rfl⟩)⟩),
      trivial⟩ ?_
  intro vs own w7 hB7 hsz kn inj
  have e4 : vs 4 = .bool (((x6 || x7) || (decide (64 ≤ ((m + 1 : Nat) : Int)))) || (S.any (meetP P))) := kn.1
  clear kn inj hsz
  simp only [putAll, Act.put, List.setIfInBounds_toArray, List.set_cons_zero, List.set_cons_succ, e4]
  clear e4
  have hB07 := hB06.trans (hB7.mono hB06.size)
  clear p6 h6 hB7 hB36
  rw [← HE.out]
  go_wp2_with fail
  go_ret
  exact ⟨rfl, hB07⟩
theorem en_refuses (args : Array Value) (w : World) : (callFunc 59 args).run Try.prog w = .ok (.enter 59 args) w := by kernel_rfl
end Go.Proofs.Ythnlfjkpiohooaa
/-
  Own text. The library's contracts of strings.Builder, slices.SortFunc at pieces and cmp.Compare at this program, laid by the kit's command in plain words.
-/
namespace Go.Proofs.Ythnlfjkpiohooaa
open Go.Proofs Go.Shelf
set_option maxRecDepth 100000
def lays240_ren : Go.Shelf.Ren := ⟨fun | 240 => 80 | 276 => 91 | n => n, fun | 70 => 99 | 72 => 101 | 164 => 124 | 37 => 74 | n => n, fun | n => n⟩
theorem lays240 : Go.Proofs.Lays.n240 Try.prog lays240_ren := {
  mixed := by kernel_rfl
  f240 := Try.func80.trans (congrArg some (by kernel_rfl))
  f276 := Try.func91.trans (congrArg some (by kernel_rfl))
  t0 := Try.underlying0
  a0 := Try.isAgg0
  z0 := Try.sizeOf0
  v0 := Try.zeroValue0
  t4 := Try.underlying4
  a4 := Try.isAgg4
  z4 := Try.sizeOf4
  v4 := Try.zeroValue4
  t9 := Try.underlying9
  a9 := Try.isAgg9
  z9 := Try.sizeOf9
  v9 := Try.zeroValue9
  t20 := Try.underlying20
  a20 := Try.isAgg20
  z20 := Try.sizeOf20
  v20 := Try.zeroValue20
  t70 := Try.underlying99
  a70 := Try.isAgg99
  z70 := Try.sizeOf99
  v70 := Try.zeroValue99
  t72 := Try.underlying101
  a72 := Try.isAgg101
  z72 := Try.sizeOf101
  v72 := Try.zeroValue101
  t164 := Try.underlying124
  a164 := Try.isAgg124
  z164 := Try.sizeOf124
  v164 := Try.zeroValue124 }
theorem X72_240 : Builder.X72 Try.prog lays240_ren := {
  sizeBuilder := by kernel_rfl
  liesBuilder := by kernel_rfl }
def lays166_ren : Go.Shelf.Ren := ⟨fun | 166 => 74 | 240 => 80 | 276 => 91 | n => n, fun | 70 => 99 | 72 => 101 | 164 => 124 | 37 => 74 | 75 => 103 | 80 => 106 | n => n, fun | n => n⟩
theorem lays166 : Go.Proofs.Lays.n166 Try.prog lays166_ren := {
  mixed := by kernel_rfl
  f166 := Try.func74.trans (congrArg some (by kernel_rfl))
  f240 := Try.func80.trans (congrArg some (by kernel_rfl))
  f276 := Try.func91.trans (congrArg some (by kernel_rfl))
  t0 := Try.underlying0
  a0 := Try.isAgg0
  z0 := Try.sizeOf0
  v0 := Try.zeroValue0
  t3 := Try.underlying3
  a3 := Try.isAgg3
  z3 := Try.sizeOf3
  v3 := Try.zeroValue3
  t4 := Try.underlying4
  a4 := Try.isAgg4
  z4 := Try.sizeOf4
  v4 := Try.zeroValue4
  t9 := Try.underlying9
  a9 := Try.isAgg9
  z9 := Try.sizeOf9
  v9 := Try.zeroValue9
  t20 := Try.underlying20
  a20 := Try.isAgg20
  z20 := Try.sizeOf20
  v20 := Try.zeroValue20
  t37 := Try.underlying74
  a37 := Try.isAgg74
  z37 := Try.sizeOf74
  v37 := Try.zeroValue74
  t70 := Try.underlying99
  a70 := Try.isAgg99
  z70 := Try.sizeOf99
  v70 := Try.zeroValue99
  t72 := Try.underlying101
  a72 := Try.isAgg101
  z72 := Try.sizeOf101
  v72 := Try.zeroValue101
  t75 := Try.underlying103
  a75 := Try.isAgg103
  z75 := Try.sizeOf103
  v75 := Try.zeroValue103
  t164 := Try.underlying124
  a164 := Try.isAgg124
  z164 := Try.sizeOf124
  v164 := Try.zeroValue124 }
theorem Extra_166 : Builder.Extra Try.prog lays166_ren := {
  sizeBuilder := by kernel_rfl
  liesBuilder := by kernel_rfl
  t5 := Try.underlying5
  a5 := Try.isAgg5
  z5 := Try.sizeOf5
  v5 := Try.zeroValue5
  infoByte := by kernel_rfl
  cellsByte := by kernel_rfl
  sizeByte := by kernel_rfl
  neB5 := by decide }
def lays169_ren : Go.Shelf.Ren := ⟨fun | 169 => 75 | n => n, fun | 70 => 99 | 9 => 9 | 0 => 0 | 72 => 101 | 37 => 74 | 127 => 111 | 3 => 3 | 5 => 5 | n => n, fun | n => n⟩
theorem lays169 : Go.Proofs.Lays.n169 Try.prog lays169_ren := {
  mixed := by kernel_rfl
  f169 := Try.func75.trans (congrArg some (by kernel_rfl))
  t0 := Try.underlying0
  a0 := Try.isAgg0
  z0 := Try.sizeOf0
  v0 := Try.zeroValue0
  t3 := Try.underlying3
  a3 := Try.isAgg3
  z3 := Try.sizeOf3
  v3 := Try.zeroValue3
  t9 := Try.underlying9
  a9 := Try.isAgg9
  z9 := Try.sizeOf9
  v9 := Try.zeroValue9
  t37 := Try.underlying74
  a37 := Try.isAgg74
  z37 := Try.sizeOf74
  v37 := Try.zeroValue74
  t70 := Try.underlying99
  a70 := Try.isAgg99
  z70 := Try.sizeOf99
  v70 := Try.zeroValue99
  t72 := Try.underlying101
  a72 := Try.isAgg101
  z72 := Try.sizeOf101
  v72 := Try.zeroValue101
  t127 := Try.underlying111
  a127 := Try.isAgg111
  z127 := Try.sizeOf111
  v127 := Try.zeroValue111 }
theorem Builder_Extra_169 : Builder.Extra Try.prog lays169_ren := {
  sizeBuilder := by kernel_rfl
  liesBuilder := by kernel_rfl
  t5 := Try.underlying5
  a5 := Try.isAgg5
  z5 := Try.sizeOf5
  v5 := Try.zeroValue5
  infoByte := by kernel_rfl
  cellsByte := by kernel_rfl
  sizeByte := by kernel_rfl
  neB5 := by decide }
def lays215_ren : Go.Shelf.Ren := ⟨fun | 215 => 79 | n => n, fun | 3 => 3 | 4 => 4 | n => n, fun | n => n⟩
theorem lays215 : Go.Proofs.Lays.n215 Try.prog lays215_ren := {
  mixed := by kernel_rfl
  f215 := Try.func79.trans (congrArg some (by kernel_rfl))
  t3 := Try.underlying3
  a3 := Try.isAgg3
  z3 := Try.sizeOf3
  v3 := Try.zeroValue3
  t4 := Try.underlying4
  a4 := Try.isAgg4
  z4 := Try.sizeOf4
  v4 := Try.zeroValue4 }
def lays122_ren : Go.Shelf.Ren := ⟨fun | 122 => 73 | 215 => 79 | n => n, fun | 3 => 3 | 4 => 4 | n => n, fun | n => n⟩
theorem lays122 : Go.Proofs.Lays.n122 Try.prog lays122_ren := {
  mixed := by kernel_rfl
  f122 := Try.func73.trans (congrArg some (by kernel_rfl))
  f215 := Try.func79.trans (congrArg some (by kernel_rfl))
  t3 := Try.underlying3
  a3 := Try.isAgg3
  z3 := Try.sizeOf3
  v3 := Try.zeroValue3
  t4 := Try.underlying4
  a4 := Try.isAgg4
  z4 := Try.sizeOf4
  v4 := Try.zeroValue4 }
def sortPc_ren : Go.Shelf.Ren := ⟨fun | 6 => 71 | 15 => 78 | 14 => 77 | 28 => 89 | 29 => 90 | 20 => 81 | 21 => 82 | 22 => 83 | 23 => 84 | 24 => 85 | 25 => 86 | 26 => 87 | 27 => 88 | 46 => 92 | 47 => 93 | 48 => 94 | 49 => 95 | 50 => 96 | 57 => 97 | n => n, fun | 22 => 87 | 24 => 82 | 25 => 98 | 3 => 3 | 39 => 110 | 0 => 0 | 53 => 121 | 55 => 123 | 4 => 4 | 46 => 114 | 45 => 113 | 50 => 118 | 5 => 5 | 9 => 9 | 66 => 126 | 70 => 130 | 76 => 132 | 77 => 133 | n => n, fun | n => n⟩
theorem sortPc : Go.Proofs.SlLaysF0.n6 Try.prog sortPc_ren := {
  mixed := by kernel_rfl
  f6 := ⟨Try.f71.name, by decide, Try.func71.trans (congrArg some (by kernel_rfl))⟩
  f14 := ⟨Try.f77.name, by decide, Try.func77.trans (congrArg some (by kernel_rfl))⟩
  f15 := Try.func78.trans (congrArg some (by kernel_rfl))
  f20 := ⟨Try.f81.name, by decide, Try.func81.trans (congrArg some (by kernel_rfl))⟩
  f21 := ⟨Try.f82.name, by decide, Try.func82.trans (congrArg some (by kernel_rfl))⟩
  f22 := ⟨Try.f83.name, by decide, Try.func83.trans (congrArg some (by kernel_rfl))⟩
  f23 := ⟨Try.f84.name, by decide, Try.func84.trans (congrArg some (by kernel_rfl))⟩
  f24 := ⟨Try.f85.name, by decide, Try.func85.trans (congrArg some (by kernel_rfl))⟩
  f25 := ⟨Try.f86.name, by decide, Try.func86.trans (congrArg some (by kernel_rfl))⟩
  f26 := ⟨Try.f87.name, by decide, Try.func87.trans (congrArg some (by kernel_rfl))⟩
  f27 := ⟨Try.f88.name, by decide, Try.func88.trans (congrArg some (by kernel_rfl))⟩
  f28 := Try.func89.trans (congrArg some (by kernel_rfl))
  f29 := Try.func90.trans (congrArg some (by kernel_rfl))
  f46 := ⟨Try.f92.name, by decide, Try.func92.trans (congrArg some (by kernel_rfl))⟩
  f47 := Try.func93.trans (congrArg some (by kernel_rfl))
  f48 := Try.func94.trans (congrArg some (by kernel_rfl))
  f49 := ⟨Try.f95.name, by decide, Try.func95.trans (congrArg some (by kernel_rfl))⟩
  f50 := ⟨Try.f96.name, by decide, Try.func96.trans (congrArg some (by kernel_rfl))⟩
  f57 := ⟨Try.f97.name, by decide, Try.func97.trans (congrArg some (by kernel_rfl))⟩
  t0 := Try.underlying0
  a0 := Try.isAgg0
  z0 := Try.sizeOf0
  v0 := Try.zeroValue0
  t3 := Try.underlying3
  a3 := Try.isAgg3
  z3 := Try.sizeOf3
  v3 := Try.zeroValue3
  t4 := Try.underlying4
  a4 := Try.isAgg4
  z4 := Try.sizeOf4
  v4 := Try.zeroValue4
  t5 := Try.underlying5
  a5 := Try.isAgg5
  z5 := Try.sizeOf5
  v5 := Try.zeroValue5
  t9 := Try.underlying9
  a9 := Try.isAgg9
  z9 := Try.sizeOf9
  v9 := Try.zeroValue9
  t22 := Try.underlying87
  a22 := Try.isAgg87
  z22 := Try.sizeOf87
  v22 := Try.zeroValue87
  t25 := Try.underlying98
  a25 := Try.isAgg98
  z25 := Try.sizeOf98
  v25 := Try.zeroValue98
  t39 := Try.underlying110
  a39 := Try.isAgg110
  z39 := Try.sizeOf110
  v39 := Try.zeroValue110
  t45 := Try.underlying113
  a45 := Try.isAgg113
  z45 := Try.sizeOf113
  v45 := Try.zeroValue113
  t46 := Try.underlying114
  a46 := Try.isAgg114
  z46 := Try.sizeOf114
  v46 := Try.zeroValue114
  t50 := Try.underlying118
  a50 := Try.isAgg118
  z50 := Try.sizeOf118
  v50 := Try.zeroValue118
  t53 := Try.underlying121
  a53 := Try.isAgg121
  z53 := Try.sizeOf121
  v53 := Try.zeroValue121
  t55 := Try.underlying123
  a55 := Try.isAgg123
  z55 := Try.sizeOf123
  v55 := Try.zeroValue123
  t66 := Try.underlying126
  a66 := Try.isAgg126
  z66 := Try.sizeOf126
  v66 := Try.zeroValue126
  t70 := Try.underlying130
  a70 := Try.isAgg130
  z70 := Try.sizeOf130
  v70 := Try.zeroValue130
  t76 := Try.underlying132
  a76 := Try.isAgg132
  z76 := Try.sizeOf132
  v76 := Try.zeroValue132
  t77 := Try.underlying133
  a77 := Try.isAgg133
  z77 := Try.sizeOf133
  v77 := Try.zeroValue133 }

end Go.Proofs.Ythnlfjkpiohooaa
/-
  Own text. slices.SortFunc of pieces, by their offsets: the library's contract at this program, in the words of rows of pieces.
-/
namespace Go.Proofs.Ythnlfjkpiohooaa
open Go.RowKit Go.Proofs
set_option maxRecDepth 100000
instance : Inhabited Pk := ⟨zeroP⟩
def encPc (P : Pk) : List Value := [.int .i64 P.off, .bool P.more, .string P.pay]
theorem encPc_arr (P : Pk) : (encPc P).toArray = SC 3 (pcV P) := rfl
theorem encPc_at (P : Pk) {f : Nat} (h : f < 3) : (encPc P)[f]! = pcV P f := by
  match f, h with
  | 0, _ => rfl
  | 1, _ => rfl
  | 2, _ => rfl
def cfP (P Q : Pk) : Int := Lib.compareInt P.off Q.off
theorem lt_cfP (P Q : Pk) : Go.Proofs.ltOf cfP P Q = decide (P.off < Q.off) := by
  unfold Go.Proofs.ltOf cfP Lib.compareInt
  by_cases h1 : P.off < Q.off
  · simp [h1]
  · by_cases h2 : Q.off < P.off <;> simp [h1, h2]
theorem swo_cfP : Go.Sort.SWO (Go.Proofs.ltOf cfP) where
  irrefl x := by rw [lt_cfP]; simp
  trans x y z h1 h2 := by rw [lt_cfP] at *; simp at *; omega
  ntrans x y z h1 h2 := by rw [lt_cfP] at *; simp at *; omega
theorem compare_run (x y : Int) (w : World) : Calls Try.prog 73 #[.int .i64 x, .int .i64 y] w fun e w' => e = .returned (.int .i64 (Lib.compareInt x y)) ∧ w' = w := Any.cmp_Compare_int lays122 x y w
set_option maxHeartbeats 1000000 in
theorem add1_run (P Q : Pk) (W : World) : Calls Try.prog 72 #[.agg #[.int .i64 P.off, .bool P.more, .string P.pay], .agg #[.int .i64 Q.off, .bool Q.more, .string Q.pay]] W fun e w' => e = .returned (.int .i64 (cfP P Q)) ∧ ∃ q os', w' = Go.Sort.grow (W.drewN q) os' := by
  have hcon := fun W' => compare_run P.off Q.off W'
  have e0 : cfP P Q = Lib.compareInt P.off Q.off := rfl
  rw [e0]
  generalize Lib.compareInt P.off Q.off = r at hcon ⊢
  go_enter Try.func72, Try.ntmps72
  go_wp2_with (go_at_call 73; refine (hcon _).mono ?_; rintro e w' ⟨rfl, rfl⟩)
  go_ret
  exact ⟨rfl, 0, _, by rw [Go.Sort.alloc_eq_grow, Go.Sort.alloc_eq_grow, Go.Sort.grow_grow]; rfl⟩
theorem lays_add1 (blk off size : Nat) (w : World) : Go.Proofs.CmpLays Try.prog 72 #[] encPc 3 cfP blk off size w := fun _ _ _ _ x y => add1_run x y _
theorem isAggPc (w : World) : (isAgg 82).run Try.prog w = .ok true w := by kernel_rfl
theorem sizePc (w : World) : (Go.sizeOf 82).run Try.prog w = .ok 3 w := by kernel_rfl
theorem holds_row {w : World} {B q cap : Nat} {S : List Pk} (h : PRow w B (.slice (some ⟨q, 0, none⟩) S.length cap) S) : Go.Sort.HoldsK encPc 3 w q 0 S.toArray := by
  intro j hj
  rw [Go.Sort.size_flatK, List.size_toArray] at hj
  have h1 := row_cell h (i := j / 3) (f := j % 3) (by omega) (by omega)
  rw [Addr.add_lit, show 3 * (j / 3) + j % 3 = j by omega] at h1
  refine ⟨?_, ?_⟩
  · rw [h1, Go.Sort.get_flatK _ _ _ _ (by rw [List.size_toArray]; exact hj)]
    show some _ = some (encPc S.toArray[j / 3]!)[j % 3]!
    rw [encPc_at _ (by omega)]
    congr 2
    rw [List.getD_eq_getElem?_getD, getElem!_pos S.toArray (j / 3) (by rw [List.size_toArray]; omega), List.getElem?_eq_getElem (by omega)]
    rfl
  · rcases h.2 with ⟨e, _⟩ | ⟨g, cp, cur, e, _, hg, _⟩
    · cases e
    · injection e with e _ _
      injection e with e
      injection e with e
      subst e
      exact frozen_of_row w q _ _ _ hg
theorem sort_world {w : World} {B q cap n : Nat} {S : List Pk} {d' : Array Pk} {os : Array Obj} (h : PRow w B (.slice (some ⟨q, 0, none⟩) S.length cap) S) (hs : d'.size = S.length) : PRow (Go.Proofs.sortWorldK encPc 3 w q 0 n d' os) B (.slice (some ⟨q, 0, none⟩) d'.toList.length cap) d'.toList ∧ Touch (fun k => k = q) w (Go.Proofs.sortWorldK encPc 3 w q 0 n d' os) := by
  rcases h.2 with ⟨e, _⟩ | ⟨g, cp, cur, e, hB, hg, h1, h2, h3, h4⟩
  · cases e
  · injection e with e e2 e3
    injection e with e
    injection e with e
    subst e e3
    have hlt := heap_lt hg
    have hq : (Go.Proofs.sortWorldK encPc 3 w q 0 n d' os).heap[q]? = some (.cells (Go.Sort.putCells id 0 (Go.Sort.flatK encPc 3 d') cur) 82 (0, 0)) := by
      unfold Go.Proofs.sortWorldK Go.Sort.putRowK Go.Sort.putRow Go.Sort.mapBlock Go.Sort.grow Go.Sort.ahead
      simp only
      rw [Array.getElem?_append_left (by simpa using hlt), Array.getElem?_modify, if_pos rfl, hg]
      rfl
    refine ⟨⟨by rw [rX_len], .inr ⟨q, cap, _, rfl, hB, hq, ?_, h2, ?_, ?_⟩⟩, ⟨rfl, rfl, rfl, ?_, fun k hk hn => ?_⟩⟩
    · rw [Array.length_toList, hs]; exact h1
    · unfold Go.Sort.putCells
      rw [Array.size_mapIdx]
      exact h3
    · apply List.ext_getElem?
      intro i
      by_cases hi : i < d'.toList.length * 3
      · have hi2 : i < cur.size := by
          rw [Array.length_toList, hs] at hi
          have := Nat.mul_le_mul_right 3 h1
          omega
        have hj : i / 3 < d'.size := by rw [Array.length_toList] at hi; omega
        have hr := rX_at 3 (rowS d'.toList) d'.toList.length (i / 3) (i % 3) (by omega) (by omega)
        rw [show 3 * (i / 3) + i % 3 = i by omega] at hr
        rw [hr, List.getElem?_take_of_lt hi, Array.getElem?_toList]
        unfold Go.Sort.putCells
        rw [Array.getElem?_mapIdx, Array.getElem?_eq_getElem hi2, Option.map_some, if_pos ⟨Nat.zero_le _, by rw [Go.Sort.size_flatK, Nat.zero_add]; rw [Array.length_toList] at hi; exact hi⟩, Nat.sub_zero, Go.Sort.get_flatK _ _ _ _ (by rw [Array.length_toList] at hi; exact hi)]
        show some (encPc d'[i / 3]!)[i % 3]! = _
        rw [encPc_at _ (by omega)]
        unfold rowS
        congr 2
        rw [List.getD_eq_getElem?_getD, getElem!_pos d' (i / 3) hj, Array.getElem?_toList, Array.getElem?_eq_getElem hj]
        rfl
      · rw [List.getElem?_eq_none (by rw [List.length_take]; omega), List.getElem?_eq_none (by rw [rX_len]; omega)]
    · unfold Go.Proofs.sortWorldK Go.Sort.putRowK Go.Sort.putRow Go.Sort.mapBlock Go.Sort.grow Go.Sort.ahead
      simp
    · unfold Go.Proofs.sortWorldK Go.Sort.putRowK Go.Sort.putRow Go.Sort.mapBlock Go.Sort.grow Go.Sort.ahead
      simp only
      rw [Array.getElem?_append_left (by simpa using hk), Array.getElem?_modify, if_neg (fun e => hn e.symm)]
theorem sort_run {B q cap : Nat} {S : List Pk} (w : World) (h : PRow w B (.slice (some ⟨q, 0, none⟩) S.length cap) S) (hl : S.length < 4611686018427387904) : Calls Try.prog 71 #[.slice (some ⟨q, 0, none⟩) S.length cap, .func (.func 72) #[] #[]] w fun e w' => e = .returned (.tuple #[]) ∧ ∃ S' : List Pk, S.Perm S' ∧ S'.Pairwise (fun P Q => P.off ≤ Q.off) ∧ PRow w' B (.slice (some ⟨q, 0, none⟩) S'.length cap) S' ∧ Touch (fun k => k = q) w w' := by
  have hblk : q < w.heap.size := row_lt h rfl
  have eg : ∀ args w, (callFunc 72 args).run Try.prog w = .ok (.enter 72 args) w := fun args w => by kernel_rfl
  have hcon := AnyQ.slices_SortFunc sortPc 3 isAggPc sizePc encPc (fun _ => rfl) (fun x v hv => by simp [encPc] at hv; rcases hv with rfl | rfl | rfl <;> rfl) cfP swo_cfP 72 #[] q 0 cap S.toArray w eg (lays_add1 q 0 S.toArray.size w) (holds_row h) hblk (by rw [List.size_toArray]; exact hl)
  rw [List.size_toArray] at hcon
  refine hcon.mono ?_
  rintro e w' ⟨rfl, d', n, os, hp, hs, rfl⟩
  have hsz : d'.size = S.length := by have := hp.1; rwa [List.size_toArray] at this
  obtain ⟨h1, h2⟩ := sort_world (n := n) (os := os) h hsz
  refine ⟨rfl, d'.toList, ?_, ?_, h1, h2⟩
  · have h3 := hp.2.2
    rw [Array.extract_eq_self_of_le (by omega), Array.extract_eq_self_of_le (by rw [List.size_toArray]; omega)] at h3
    exact h3.symm
  · rw [List.pairwise_iff_getElem]
    intro i j hi hj hij
    have h3 := hs i j (Nat.zero_le _) hij (by rw [Array.length_toList] at hj; omega)
    rw [lt_cfP, getElem!_pos d' i (by rw [Array.length_toList] at hi; exact hi), getElem!_pos d' j (by rw [Array.length_toList] at hj; exact hj)] at h3
    simp at h3
    simpa using h3
end Go.Proofs.Ythnlfjkpiohooaa
/-
  Own text. A region that leaves its order open, where what is known of slots and world hangs on which operations are behind. No program is named here.
-/
namespace Go.Proofs.Ythnlfjkpiohooaa
open Go
section
variable {P : Program} {ops : Array Oper} {Q : Exit → Act → World → Prop}
structure MidW (ops : Array Oper) (a0 : Act) (S : (Nat → Bool) → World → Prop) (φ : (Nat → Bool) → Nat → Value → World → Prop) (listed : Array Bool) (a : Act) (w : World) : Prop where
  lsize : listed.size = ops.size
  closed : ∀ (j : Nat) (oj : Oper), ops[j]? = some oj → listed.getD j false = true → ∀ e ∈ oj.after, Region.binds .any e = true → listed.getD e.on false = true
  size : a.tmps.size = a0.tmps.size
  defers : a.defers = a0.defers
  world : S (fun j => listed.getD j false) w
  frame : ∀ t : Nat, (∀ (i : Nat) (o : Oper), ops[i]? = some o → listed.getD i false = true → o.dst ≠ some t) → a.tmps[t]? = a0.tmps[t]?
  known : ∀ (i : Nat) (o : Oper) (d : Nat), ops[i]? = some o → o.dst = some d → listed.getD i false = true → φ (fun j => listed.getD j false) i (a.tmps.getD d undef) w
theorem any_invW {a0 : Act} {w0 : World} (S : (Nat → Bool) → World → Prop) (φ : (Nat → Bool) → Nat → Value → World → Prop) (hB : invB ops = true)
    (hS0 : S (fun _ => false) w0.drew)
    (step : ∀ (i : Nat) (o : Oper), ops[i]? = some o → ∀ (L : Nat → Bool) (a : Act) (w : World), S L w → L i = false →
      (∀ (j : Nat) (oj : Oper), ops[j]? = some oj → L j = true → ∀ k, predOf oj k = true → L k = true) → (∀ k, predOf o k = true → L k = true) →
      (∀ t : Nat, (∀ (j : Nat) (oj : Oper), ops[j]? = some oj → oj.dst ≠ some t) → a.tmps[t]? = a0.tmps[t]?) →
      (∀ (j : Nat) (oj : Oper) (d : Nat), ops[j]? = some oj → oj.dst = some d → L j = true → φ L j (a.tmps.getD d undef) w) →
      wpOp P ops Q i (fun a' w' => ∃ v, a' = a.put o.dst v ∧ S (fun j => if j = i then true else L j) w' ∧ φ (fun j => if j = i then true else L j) i v w' ∧ ∀ j v, j ≠ i → L j = true → φ L j v w → φ (fun j => if j = i then true else L j) j v w') a w)
    (fin : ∀ (vs : Nat → Value) (L : Nat → Bool) (w : World), (∀ j, j < ops.size → L j = true) → S L w → (∀ (i : Nat) (o : Oper) (d : Nat), ops[i]? = some o → o.dst = some d → φ L i (vs d) w) → Q .normal (putAll a0 vs (dsts ops)) w)
    (hsz : ∀ d ∈ dsts ops, d < a0.tmps.size) : wpAny P .any ops Q ops.size (Array.replicate ops.size false) a0 { w0 with drawn := w0.drawn + 1 } := by
  simp only [invB, Bool.and_eq_true, decide_eq_true_eq] at hB
  obtain ⟨⟨hsome, hnd⟩, hord⟩ := hB
  have hset : ∀ (listed : Array Bool) (i : Nat), i < listed.size → (fun j => (listed.setIfInBounds i true).getD j false) = fun j => if j = i then true else listed.getD j false := fun listed i hi => by
    funext j
    by_cases h : j = i
    · subst h
      simp [hi]
    · rw [if_neg h, getD_set_ne false (Ne.symm h)]
  refine (wpAny_inv (MidW ops a0 S φ) ?_ ?_ ops.size _ a0 _ ?_ ?_)
  · intro listed a w i mid hi
    obtain ⟨hun, oi, hoi, hall⟩ := mem_ready.1 hi
    have hils : i < listed.size := by
      rcases Nat.lt_or_ge i listed.size with h | h
      · exact h
      · simp [Array.getElem?_eq_none h] at hun
    have hunf : listed.getD i false = false := by simp [hils] at hun ⊢; exact hun
    have hpr : ∀ (o : Oper) (k : Nat), predOf o k = true → ∃ e ∈ o.after, Region.binds .any e = true ∧ e.on = k := fun o k h => predOf_spec h
    have hst := step i oi hoi (fun j => listed.getD j false) a w mid.world hunf
      (fun j oj hj hl k hk => by
        obtain ⟨e, he, hb, hon⟩ := hpr oj k hk
        have := mid.closed j oj hj hl e he hb
        rwa [hon] at this)
      (fun k hk => by
        obtain ⟨e, he, hb, hon⟩ := hpr oi k hk
        have := hall e he hb
        rwa [hon] at this)
      (fun t ht => mid.frame t (fun j oj hj _ => ht j oj hj))
      (fun j oj d hj hd hl => mid.known j oj d hj hd hl)
    refine wpOp_mono (fun a' w' h' => ?_) hst
    obtain ⟨v, rfl, hS', hv, hk⟩ := h'
    have hsi : oi.dst.isSome = true := List.all_eq_true.1 hsome oi (by simpa using Array.mem_of_getElem? hoi)
    obtain ⟨di, hdi⟩ := Option.isSome_iff_exists.1 hsi
    have hmem : di ∈ dsts ops := List.mem_filterMap.2 ⟨oi, by simpa using Array.mem_of_getElem? hoi, hdi⟩
    have hdlt : di < a.tmps.size := by rw [mid.size]; exact hsz di hmem
    have hself : (listed.setIfInBounds i true).getD i false = true := by simp [hils]
    rw [hdi]
    refine ⟨by simp [mid.lsize], fun j oj hj hl e he hb => ?_, by simpa [Act.put] using mid.size, mid.defers, by rw [hset listed i hils]; exact hS', fun t ht => ?_, fun j oj d hj hd hl => ?_⟩
    · rcases getD_set_false hl with rfl | hl
      · obtain rfl : oj = oi := Option.some.inj (hj.symm.trans hoi)
        have h1 := hall e he hb
        by_cases hie : j = e.on
        · rw [hie]; rw [hie] at hself; exact hself
        · rw [getD_set_ne false hie]; exact h1
      · have h1 := mid.closed j oj hj hl e he hb
        by_cases hie : i = e.on
        · rw [← hie]; exact hself
        · rw [getD_set_ne false hie]; exact h1
    · have hne : di ≠ t := fun h => ht i oi hoi hself (by rw [hdi, h])
      rw [show (a.put (some di) v).tmps[t]? = a.tmps[t]? from by simp [Act.put, hne]]
      exact mid.frame t (fun j oj hj hl => ht j oj hj (by
        by_cases hij : i = j
        · subst hij; exact hself
        · rw [getD_set_ne false hij]; exact hl))
    · rw [hset listed i hils]
      rcases getD_set_false hl with rfl | hl2
      · obtain rfl : oj = oi := Option.some.inj (hj.symm.trans hoi)
        obtain rfl : d = di := Option.some.inj (hd.symm.trans hdi)
        rw [show (a.put (some d) v).tmps.getD d undef = v from by simp [Act.put, hdlt]]
        exact hv
      · have hji : j ≠ i := fun h => by
          subst h
          rw [hunf] at hl2
          cases hl2
        have hne : di ≠ d := fun h => by
          subst h
          exact hji (nodup_dst hnd hoi hj hdi hd).symm
        rw [show (a.put (some di) v).tmps.getD d undef = a.tmps.getD d undef from by simp [Act.put, hne]]
        exact hk j _ hji hl2 (mid.known j oj d hj hd hl2)
  · intro listed a w mid hr
    have hall : ∀ n i, i < n → i < ops.size → listed.getD i false = true := by
      intro n
      induction n with
      | zero => intro i h; cases h
      | succ n ih =>
        intro i hin hil
        by_cases hlt : i < n
        · exact ih i hlt hil
        · have hin' : i = n := by omega
          subst hin'
          cases hg : listed.getD i false with
          | true => rfl
          | false =>
            have ho : ops[i]? = some ops[i] := Array.getElem?_eq_getElem hil
            have h1 := List.all_eq_true.1 hord i (List.mem_range.2 hil)
            simp only [ho] at h1
            have hin2 : i ∈ Region.ready .any ops listed := mem_ready.2 ⟨by
              have : i < listed.size := by rw [mid.lsize]; exact hil
              simp [this] at hg ⊢; exact hg, _, ho, fun e he hb => by
              have h2 := Array.all_eq_true'.1 h1 e he
              simp only [hb, Bool.not_true, Bool.false_or, decide_eq_true_eq] at h2
              exact ih e.on h2 (by omega)⟩
            rw [hr] at hin2
            cases hin2
    have hq := fin (fun d => a.tmps.getD d undef) (fun j => listed.getD j false) w (fun j hj => hall (j + 1) j (by omega) hj) mid.world (fun i o d ho hd => mid.known i o d ho hd (hall (i + 1) i (by omega) (Array.getElem?_eq_some_iff.1 ho).1))
    have ha : putAll a0 (fun d => a.tmps.getD d undef) (dsts ops) = a := by
      have h1 := putAll_defers (fun d => a.tmps.getD d undef) (dsts ops) a0
      have h2 : (putAll a0 (fun d => a.tmps.getD d undef) (dsts ops)).tmps = a.tmps := by
        apply Array.ext_getElem?
        intro t
        by_cases ht : t < a0.tmps.size
        · rw [putAll_get _ _ _ _ ht]
          by_cases hm2 : t ∈ dsts ops
          · rw [if_pos hm2]
            have : t < a.tmps.size := by rw [mid.size]; exact ht
            simp [this]
          · rw [if_neg hm2]
            exact (mid.frame t (fun i o hi _ hd => hm2 (List.mem_filterMap.2 ⟨o, by simpa using Array.mem_of_getElem? hi, hd⟩))).symm
        · rw [Array.getElem?_eq_none (by rw [putAll_size]; omega), Array.getElem?_eq_none (by rw [mid.size]; omega)]
      rw [← mid.defers] at h1
      generalize putAll a0 (fun d => a.tmps.getD d undef) (dsts ops) = b at h1 h2
      cases a; cases b
      simp only at h1 h2
      rw [h1, h2]
    rw [ha] at hq
    exact hq
  · unfold leftOf
    exact Nat.le_trans (List.length_filter_le _ _) (by simp)
  · exact ⟨by simp, fun j oj _ hl => (by rw [getD_replicate_f] at hl; cases hl), rfl, rfl, by rw [show (fun j => (Array.replicate ops.size false).getD j false) = fun _ => false from funext (fun j => getD_replicate_f _ _)]; exact hS0, fun _ _ => rfl, fun i o d _ _ hl => (by rw [getD_replicate_f] at hl; cases hl)⟩
end
end Go.Proofs.Ythnlfjkpiohooaa
/-
  Own text. A piece is added to a heap: append in a region that leaves its order open, then the sort; whether a heap is full.
-/
namespace Go.Proofs.Ythnlfjkpiohooaa
open Go.RowKit Go.Proofs
set_option maxRecDepth 100000
theorem wp_of_list {P : Program} {o : Oper} {a : Act} {w : World} {K : Act → World → Prop} {Q : Exit → Act → World → Prop} (hg : o.guard = none) (h : ∀ Q' : Exit → Act → World → Prop, (∀ a w, K a w → Q' .normal a w) → wpList P #[] Q' [o] a w) : o.wp P a w K Q := by
  have h1 := h (fun x a w => x = .normal ∧ K a w) (fun a w hk => ⟨rfl, hk⟩)
  simp only [wpList, Region.wanted, hg, if_true] at h1
  rcases h1 with h1 | ⟨_, h1⟩
  · unfold Oper.wp at h1 ⊢
    generalize (execOp a.eval o).run P w = r at h1 ⊢
    cases r with
    | ok n w' =>
      cases n with
      | value v => exact h1.2
      | skip => exact h1.2
      | defer d => exact h1.2
      | enter f args =>
        refine Calls.mono h1 ?_
        intro e w2 h2
        cases e with
        | returned v => exact h2.2
        | panicked c => exact absurd h2.1 (by simp)
        | outgrown =>
          obtain ⟨_, _, h3⟩ := h2
          exact absurd h3.1 (by simp)
      | row r args => exact Rows.mono h1 (fun v w2 h2 => h2.2)
      | _ => exact h1.elim
    | halt hh w' =>
      cases hh with
      | panic v => exact absurd h1.1 (by simp)
      | _ => exact h1.elim
  · obtain ⟨_, _, h3⟩ := h1
    exact absurd h3.1 (by simp)
theorem wpOp_of {P : Program} {ops : Array Oper} {i : Nat} {o : Oper} {a : Act} {w : World} {K : Act → World → Prop} {Q : Exit → Act → World → Prop} (h : ops[i]? = some o) (hg : o.guard = none) (h2 : o.wp P a w K Q) : wpOp P ops Q i K a w := by
  unfold wpOp
  simp only [h, Region.wanted, hg, if_true]
  exact .inl h2
def StW (St : Nat → Oper → Prop) : List Oper → Nat → Prop
  | [], _ => True
  | o :: r, i => St i o ∧ StW St r (i + 1)
theorem stW_at {St : Nat → Oper → Prop} : ∀ {l : List Oper} {k : Nat}, StW St l k → ∀ i o, l[i]? = some o → St (k + i) o
  | [], _, _, _, _, h => by simp at h
  | q :: r, k, hs, i, o, h => by
    cases i with
    | zero =>
      simp at h
      subst h
      exact hs.1
    | succ i =>
      simp at h
      have := stW_at hs.2 i o h
      rwa [show k + 1 + i = k + (i + 1) by omega] at this
theorem notDst {ops : Array Oper} {t : Nat} (h : (dsts ops).all (fun d => decide (d ≠ t)) = true) : ∀ (j : Nat) (oj : Oper), ops[j]? = some oj → oj.dst ≠ some t := fun j oj hj e => by
  have := List.all_eq_true.1 h t (List.mem_filterMap.2 ⟨oj, by simpa using Array.mem_of_getElem? hj, e⟩)
  simp at this
theorem all_dst {ops : Array Oper} {n : Nat} (h : (dsts ops).all (fun d => decide (d < n)) = true) : ∀ d ∈ dsts ops, d < n := fun d hd => of_decide_eq_true (List.all_eq_true.1 h d hd)
theorem getA_of {a : Array Value} {t : Nat} {v : Value} (h : a[t]? = some v) : a.getD t undef = v := by simp [h]
theorem fin_ds {ops : Array Oper} {a0 : Act} {S : (Nat → Bool) → World → Prop} {φ : (Nat → Bool) → Nat → Value → World → Prop} {Q : Exit → Act → World → Prop} (ds : List Nat) (h : dsts ops = ds)
    (f : ∀ (vs : Nat → Value) (L : Nat → Bool) (w : World), (∀ j, j < ops.size → L j = true) → S L w → (∀ (i : Nat) (o : Oper) (d : Nat), ops[i]? = some o → o.dst = some d → φ L i (vs d) w) → Q .normal (putAll a0 vs ds) w) :
    ∀ (vs : Nat → Value) (L : Nat → Bool) (w : World), (∀ j, j < ops.size → L j = true) → S L w → (∀ (i : Nat) (o : Oper) (d : Nat), ops[i]? = some o → o.dst = some d → φ L i (vs d) w) → Q .normal (putAll a0 vs (dsts ops)) w := by
  rw [h]
  exact f
theorem pcInfo : (Try.prog.info? 82).map (fun i => (i.zero, i.size, i.bytes)) = some (some (.agg (SC 3 (pcV zeroP))), 3, 32) := by kernel_rfl
theorem run_bsP (P : Pk) (w : World) : (Instr.buildSlice 87 1 #[(0, .agg (SC 3 (pcV P)))]).run Try.prog w = .ok (.slice (some ⟨w.heap.size, 0, none⟩) 1 1) (w.alloc (.cells (SC 3 (pcV P)) 82)) := by
  kernel_rfl
def bpN (i : Nat) (L : Nat → Bool) (j : Nat) : Bool := if j = i then true else L j
theorem bpN_8 {i : Nat} {L : Nat → Bool} (h : i ≠ 8) : bpN i L 8 = L 8 := by unfold bpN; rw [if_neg (fun e => h e.symm)]
section
variable {gh g1 B n : Nat} {VH : Nat → Value} {P : Pk} {v ps : Value} {Z : Nat → Nat → Value} {u w w' : World} {L : Nat → Bool}
def bpS (gh g1 B n : Nat) (VH : Nat → Value) (P : Pk) (v ps : Value) (Z : Nat → Nat → Value) (u : World) (L : Nat → Bool) (w : World) : Prop :=
  SAt w gh 89 49 VH ∧ SAt w g1 27 46 (pkV P v) ∧ Touch (fun k => ps.ownBlock = some k) u w ∧ (L 8 = false → w.ownsRow B 82 3 ps n (rX 3 Z n))
def bpF (gh B n : Nat) (P : Pk) (v ps : Value) (Z : Nat → Nat → Value) (u : World) (L : Nat → Bool) (i : Nat) (val : Value) (w : World) : Prop :=
  match i with
  | 0 => val = .pointer (some ⟨gh, 0, none⟩)
  | 1 => val = .pointer (some ⟨gh, 0, none⟩)
  | 2 => val = .pointer (some ⟨gh, 0, none⟩)
  | 3 => val = .pointer (some ⟨gh, 48, none⟩)
  | 4 => val = ps
  | 5 => val = .agg (SC 46 (pkV P v))
  | 6 => val = .agg (SC 3 (pcV P))
  | 7 => ∃ b, val = .slice (some ⟨b, 0, none⟩) 1 1 ∧ (L 8 = false → SAt w b 82 3 (pcV P))
  | 8 => w.ownsRow B 82 3 val (n + 1) (rX 3 (setG Z n (pcV P)) (n + 1)) ∧ (∀ q, val.ownBlock = some q → ps.ownBlock = some q ∨ u.heap.size ≤ q)
  | _ => True
theorem bpS_same {i : Nat} (h : i ≠ 8) (hS : bpS gh g1 B n VH P v ps Z u L w) : bpS gh g1 B n VH P v ps Z u (bpN i L) w := by
  unfold bpS at hS ⊢
  rw [bpN_8 h]
  exact hS
theorem bpF_same {i j : Nat} {val : Value} (h : i ≠ 8) (hF : bpF gh B n P v ps Z u L j val w) : bpF gh B n P v ps Z u (bpN i L) j val w := by
  unfold bpF at hF ⊢
  rw [bpN_8 h]
  exact hF
theorem bpS_grow {i : Nat} (h : i ≠ 8) (hS : bpS gh g1 B n VH P v ps Z u L w) (hb : Below w.heap.size w w') : bpS gh g1 B n VH P v ps Z u (bpN i L) w' := by
  unfold bpS at hS ⊢
  rw [bpN_8 h]
  obtain ⟨h1, h2, h4, h5⟩ := hS
  exact ⟨h1.kept hb, h2.kept hb, h4.bel hb h4.size, fun e => ownT_kept (h5 e) hb⟩
theorem bpF_grow {i j : Nat} {val : Value} (h : i ≠ 8) (hF : bpF gh B n P v ps Z u L j val w) (hb : Below w.heap.size w w') : bpF gh B n P v ps Z u (bpN i L) j val w' := by
  have h2 := bpF_same h hF
  generalize bpN i L = M at *
  match j, h2 with
  | 0, h2 => exact h2
  | 1, h2 => exact h2
  | 2, h2 => exact h2
  | 3, h2 => exact h2
  | 4, h2 => exact h2
  | 5, h2 => exact h2
  | 6, h2 => exact h2
  | 7, ⟨b, e, h3⟩ => exact ⟨b, e, fun hm => (h3 hm).kept hb⟩
  | 8, ⟨h3, h4⟩ => exact ⟨ownT_kept h3 hb, h4⟩
  | _ + 9, _ => trivial
def bpK (gh g1 B n : Nat) (VH : Nat → Value) (P : Pk) (v ps : Value) (Z : Nat → Nat → Value) (u : World) (L : Nat → Bool) (i : Nat) (o : Oper) (a : Act) (w : World) (a' : Act) (w' : World) : Prop :=
  ∃ val, a' = a.put o.dst val ∧ bpS gh g1 B n VH P v ps Z u (bpN i L) w' ∧ bpF gh B n P v ps Z u (bpN i L) i val w' ∧ ∀ j z, j ≠ i → L j = true → bpF gh B n P v ps Z u L j z w → bpF gh B n P v ps Z u (bpN i L) j z w'
/-- One step of the region. -/
def bpT (gh g1 B n : Nat) (VH : Nat → Value) (P : Pk) (v ps : Value) (Z : Nat → Nat → Value) (u : World) (ops : Array Oper) (i : Nat) (o : Oper) : Prop :=
  ∀ (Q : Exit → Act → World → Prop) (L : Nat → Bool) (a : Act) (w : World), bpS gh g1 B n VH P v ps Z u L w → L i = false → (∀ k, predOf o k = true → L k = true) → a.eval (.tmp 0) = .pointer (some ⟨gh, 0, none⟩) → a.eval (.tmp 3) = .pointer (some ⟨g1, 0, none⟩) →
    (∀ (j : Nat) (oj : Oper) (d : Nat), ops[j]? = some oj → oj.dst = some d → L j = true → bpF gh B n P v ps Z u L j (a.eval (.tmp d)) w) →
    wpOp Try.prog ops Q i (bpK gh g1 B n VH P v ps Z u L i o a w) a w
theorem bp_value {ops : Array Oper} {i : Nat} {o : Oper} (hi : ops[i]? = some o) (hgd : o.guard = none) (h7 : i ≠ 8) {Q : Exit → Act → World → Prop} {L : Nat → Bool} {a : Act} {w : World} (hS : bpS gh g1 B n VH P v ps Z u L w) {val : Value} (he : (execOp a.eval o).run Try.prog w = .ok (.value val) w) (hF : ∀ M, bpF gh B n P v ps Z u M i val w) :
    wpOp Try.prog ops Q i (bpK gh g1 B n VH P v ps Z u L i o a w) a w := by
  refine wpOp_of hi hgd (wp_value he ⟨val, rfl, bpS_same h7 hS, hF _, fun j z _ _ h => bpF_same h7 h⟩)
theorem bp_call {ops : Array Oper} {o : Oper} (hi : ops[6]? = some o) (hgd : o.guard = none) {Q : Exit → Act → World → Prop} {L : Nat → Bool} {a : Act} {w : World} (hS : bpS gh g1 B n VH P v ps Z u L w) {x : Operand} {ts : Array TypeId} (ho : o.op = .call { callee := .value (.func 55), args := #[x], argTypes := ts }) (hx : a.eval x = .agg (SC 46 (pkV P v))) :
    wpOp Try.prog ops Q 6 (bpK gh g1 B n VH P v ps Z u L 6 o a w) a w := by
  refine wpOp_of hi hgd (stepc en_pieceOf ho (args1 hx) (pieceOf_run P v w) (fun w' hb => ⟨_, rfl, bpS_grow (by decide) hS hb, rfl, fun j z _ _ h => bpF_grow (by decide) h hb⟩))
theorem bp_all {ops : Array Oper} {a0 : Act} {Q : Exit → Act → World → Prop} (hst : StW (bpT gh g1 B n VH P v ps Z u ops) ops.toList 0) (h1 : (dsts ops).all (fun d => decide (d ≠ 0)) = true) (h7 : (dsts ops).all (fun d => decide (d ≠ 3)) = true) (f1 : a0.tmps[0]? = some (.pointer (some ⟨gh, 0, none⟩))) (f7 : a0.tmps[3]? = some (.pointer (some ⟨g1, 0, none⟩))) :
    ∀ (i : Nat) (o : Oper), ops[i]? = some o → ∀ (L : Nat → Bool) (a : Act) (w : World), bpS gh g1 B n VH P v ps Z u L w → L i = false →
      (∀ (j : Nat) (oj : Oper), ops[j]? = some oj → L j = true → ∀ k, predOf oj k = true → L k = true) → (∀ k, predOf o k = true → L k = true) →
      (∀ t : Nat, (∀ (j : Nat) (oj : Oper), ops[j]? = some oj → oj.dst ≠ some t) → a.tmps[t]? = a0.tmps[t]?) →
      (∀ (j : Nat) (oj : Oper) (d : Nat), ops[j]? = some oj → oj.dst = some d → L j = true → bpF gh B n P v ps Z u L j (a.tmps.getD d undef) w) →
      wpOp Try.prog ops Q i (fun a' w' => ∃ v', a' = a.put o.dst v' ∧ bpS gh g1 B n VH P v ps Z u (fun j => if j = i then true else L j) w' ∧ bpF gh B n P v ps Z u (fun j => if j = i then true else L j) i v' w' ∧ ∀ j z, j ≠ i → L j = true → bpF gh B n P v ps Z u L j z w → bpF gh B n P v ps Z u (fun j => if j = i then true else L j) j z w') a w := by
  intro i o hi L a w hS hL _ hpr hfr hkn
  have h := stW_at hst i o (by rw [← hi]; simp)
  rw [Nat.zero_add] at h
  exact h _ L a w hS hL hpr (getA_of ((hfr 0 (notDst h1)).trans f1)) (getA_of ((hfr 3 (notDst h7)).trans f7)) hkn
theorem bp_seven {ops : Array Oper} {o : Oper} (hi : ops[7]? = some o) (hgd : o.guard = none) {Q : Exit → Act → World → Prop} {L : Nat → Bool} {a : Act} {w : World} (hS : bpS gh g1 B n VH P v ps Z u L w) {y : Operand} (ho : o.op = .buildSlice 87 1 #[(0, y)]) (hy : a.eval y = .agg (SC 3 (pcV P))) :
    wpOp Try.prog ops Q 7 (bpK gh g1 B n VH P v ps Z u L 7 o a w) a w := by
  have hr := run_bsP P w
  have hb : Below w.heap.size w (w.alloc (.cells (SC 3 (pcV P)) 82)) := (Below.refl _ w).alloc (Nat.le_refl _) _
  refine wpOp_of hi hgd ?_
  unfold Oper.wp execOp
  simp only [ho, List.map_toArray, List.map_cons, List.map_nil, hy, Sem.run_bind, hr, Result.andThen_ok, Sem.run_pure, Oper.upon]
  exact ⟨_, rfl, bpS_grow (by decide) hS hb, ⟨_, rfl, fun _ => heap_alloc_new w _⟩, fun j z _ _ h => bpF_grow (by decide) h hb⟩
theorem bp_eight {ops : Array Oper} {o : Oper} (hi : ops[8]? = some o) (hgd : o.guard = none) {Q : Exit → Act → World → Prop} {L : Nat → Bool} {a : Act} {w : World} (hS : bpS gh g1 B n VH P v ps Z u L w) (hL : L 8 = false) {y z : Operand} (ho : o.op = .call { callee := .builtin .append, args := #[y, z], argTypes := #[87, 87] }) (hy : a.eval y = ps) (hz : ∃ b, a.eval z = .slice (some ⟨b, 0, none⟩) 1 1 ∧ (L 8 = false → SAt w b 82 3 (pcV P)))
    (hn : n < 1000000) (hB : B ≤ u.heap.size) (hgh : ps.ownBlock ≠ some gh) (hg1 : ps.ownBlock ≠ some g1) : wpOp Try.prog ops Q 8 (bpK gh g1 B n VH P v ps Z u L 8 o a w) a w := by
  obtain ⟨b, hz, hb⟩ := hz
  obtain ⟨h1, h2, h4, h5⟩ := hS
  have hD := h5 hL
  have hN8 : bpN 8 L 8 = true := by unfold bpN; rw [if_pos rfl]
  have h4s := h4.size
  refine wpOp_of hi hgd (wp_of_list hgd (fun Q' hQ => ?_))
  refine ap_row hgd Try.underlying87 pcInfo (by decide) (by decide) ho (pcV_one P) hy hz hD (hb hL) hn (Nat.le_trans hB h4s) (fun v' w' q1 q2 q3 => hQ _ _ ⟨v', rfl, ?_, ?_, ?_⟩)
  · have bl : ∀ k, k < w.heap.size → ps.ownBlock ≠ some k → w'.heap[k]? = w.heap[k]? := fun k hk hn => q2.block k hk (fun e => hn e.symm)
    refine ⟨(bl gh (heap_lt h1) hgh).trans h1, (bl g1 (heap_lt h2) hg1).trans h2, ?_, fun e => by rw [hN8] at e; cases e⟩
    exact ⟨q2.os.trans h4.os, q2.tape.trans h4.tape, q2.output.trans h4.output, Nat.le_trans h4.size q2.size, fun k hk hn => (bl k (by omega) hn).trans (h4.block k hk hn)⟩
  · refine ⟨q1, fun q hq => ?_⟩
    rcases q3 q hq with e | e
    · exact .inl e
    · exact .inr (Nat.le_trans h4s e)
  · intro j z' hj _ hF
    match j, hj, hF with
    | 0, _, h => exact h
    | 1, _, h => exact h
    | 2, _, h => exact h
    | 3, _, h => exact h
    | 4, _, h => exact h
    | 5, _, h => exact h
    | 6, _, h => exact h
    | 7, _, ⟨b, e, _⟩ => exact ⟨b, e, fun e => by rw [hN8] at e; cases e⟩
    | 8, h, _ => exact absurd rfl h
    | _ + 9, _, _ => trivial
end
theorem wl_stG {ops : Array Oper} {rest : List Oper} {o : Oper} {a : Act} {w : World} {x y : Operand} {Q : Exit → Act → World → Prop} {t ty : TypeId} {g f n : Nat} {V V' : Nat → Value} {z : Value} (ho : o.op = .store t x y) (hw : Region.wanted o (yielded ops a.tmps) = true) (hx : a.eval x = .pointer (some ⟨g, f, none⟩)) (hy : a.eval y = z) (hf : f < n)
    (hr : ∀ w : World, w.cell? ⟨g, f, none⟩ = some (V f) → w.frozen? ⟨g, f, none⟩ = false → (Instr.storeAt t (.pointer (some ⟨g, f, none⟩)) z).run Try.prog w = .ok () (w.setCell ⟨g, f, none⟩ z)) (hg : SAt w g ty n V) (hV : ∀ i, i < n → (if i = f then z else V i) = V' i)
    (h : ∀ w', SAt w' g ty n V' → Only g w w' → wpList Try.prog ops Q rest (a.put o.dst undef) w') : wpList Try.prog ops Q (o :: rest) a w := by
  refine wl_act hw ?_
  have hr' := hr w (hg.at f hf) (frozen_of_row w _ f _ _ hg)
  unfold Oper.wp execOp
  simp only [ho, hx, hy, Sem.run_bind, hr', Result.andThen_ok, Sem.run_pure, Oper.upon]
  exact h _ ((hg.set f z hf).congr hV) only_set
theorem stQ {g f : Nat} {c : Value} {ad : Option Addr} {n m : Nat} : ∀ w : World, w.cell? ⟨g, f, none⟩ = some c → w.frozen? ⟨g, f, none⟩ = false → (Instr.storeAt 87 (.pointer (some ⟨g, f, none⟩)) (.slice ad n m)).run Try.prog w = .ok () (w.setCell ⟨g, f, none⟩ (.slice ad n m)) := fun w h1 h2 => by simp [go_sem, h1, h2]
theorem hp_up48 (born num : Int) (hd : Pk) (hv ps z : Value) : ∀ i, i < 49 → (if i = 48 then z else hpV born num hd hv ps i) = hpV born num hd hv z i := by
  intro i hi
  unfold hpV
  by_cases e : i = 48
  · subst e; simp
  · rw [if_neg e]
    by_cases h1 : i < 1
    · rw [if_pos h1, if_pos h1]
    · rw [if_neg h1, if_neg h1]
      by_cases h2 : i < 2
      · rw [if_pos h2, if_pos h2]
      · rw [if_neg h2, if_neg h2, if_pos (by omega), if_pos (by omega)]
theorem hp_uphd (born num : Int) (hd hd' : Pk) (hv hv' ps : Value) : ∀ i, i < 49 → (if 2 ≤ i ∧ i < 2 + 46 then pkV hd' hv' (i - 2) else hpV born num hd hv ps i) = hpV born num hd' hv' ps i := by
  intro i hi
  unfold hpV
  by_cases e : 2 ≤ i ∧ i < 2 + 46
  · rw [if_pos e, if_neg (by omega), if_neg (by omega), if_pos (by omega)]
  · rw [if_neg e]
    by_cases h1 : i < 1
    · rw [if_pos h1, if_pos h1]
    · rw [if_neg h1, if_neg h1]
      by_cases h2 : i < 2
      · rw [if_pos h2, if_pos h2]
      · rw [if_neg h2, if_neg h2, if_neg (by omega), if_neg (by omega)]
theorem wl_stH {ops : Array Oper} {rest : List Oper} {o : Oper} {a : Act} {w : World} {x y : Operand} {Q : Exit → Act → World → Prop} {g : Nat} {born num : Int} {hd hd' : Pk} {hv hv' ps : Value} (ho : o.op = .store 27 x y) (hw : Region.wanted o (yielded ops a.tmps) = true) (hx : a.eval x = .pointer (some ⟨g, 2, none⟩)) (hy : a.eval y = .agg (SC 46 (pkV hd' hv'))) (h1 : hv'.oneCell' = true) (hg : SAt w g 89 49 (hpV born num hd hv ps))
    (h : ∀ w', SAt w' g 89 49 (hpV born num hd' hv' ps) → Only g w w' → wpList Try.prog ops Q rest (a.put o.dst undef) w') : wpList Try.prog ops Q (o :: rest) a w := by
  refine wl_act hw ?_
  obtain ⟨m1, m2⟩ := hg.mid (pkV hd' hv') 2 46 (by decide)
  have hr := run_storeAt_mid (P := Try.prog) w g 2 27 (SC 46 (pkV hd' hv')) (by rw [SC_size]; exact hg.there 2 46 (by decide)) (by rw [SC_size]; kernel_rfl) (SC_one (pkV_one h1))
  unfold Oper.wp execOp
  simp only [ho, hx, hy, Sem.run_bind, hr, Result.andThen_ok, Sem.run_pure, Oper.upon]
  exact h _ (m1.congr (hp_uphd born num hd hd' hv hv' ps)) m2
theorem NewEx.tou {n : Nat} {T : Nat → Prop} {w w' : World} {v : Value} {l : List Ex} (h : NewEx n w v l) (t : Touch T w w') (hT : ∀ k, n ≤ k → k < w.heap.size → ¬ T k) : NewEx n w' v l := ⟨h.1.blk (fun k hk => t.block k (h.2.2.1 k hk).2 (hT k (h.2.2.1 k hk).1 (h.2.2.1 k hk).2)), h.2.1, fun k hk => ⟨(h.2.2.1 k hk).1, Nat.lt_of_lt_of_le (h.2.2.1 k hk).2 t.size⟩, fun k hk => by rw [t.block k (h.2.2.1 k hk).2 (hT k (h.2.2.1 k hk).1 (h.2.2.1 k hk).2)]; exact h.2.2.2 k hk⟩
theorem rowS_more (S : List Pk) (P : Pk) : rX 3 (setG (rowS S) S.length (pcV P)) (S.length + 1) = rX 3 (rowS (S ++ [P])) (S.length + 1) := by
  refine rX_congr _ (fun j f hj hf => ?_)
  unfold rowS
  by_cases e : j = S.length
  · subst e
    rw [gE, List.getD_eq_getElem?_getD, List.getElem?_append_right (Nat.le_refl _), Nat.sub_self]
    rfl
  · rw [gD _ _ _ e, List.getD_eq_getElem?_getD, List.getD_eq_getElem?_getD, List.getElem?_append_left (by omega)]
set_option maxHeartbeats 16000000 in
theorem add_run {g B : Nat} {born num : Int} {hd : Pk} {hv ps : Value} {S : List Pk} (P : Pk) (v : Value) (w : World) (h : SAt w g 89 49 (hpV born num hd hv ps)) (hr : PRow w B ps S) (hl : S.length < 64) (hx : ExAt w v P.exts) (hn : P.exts.length * 24 ≤ 140737488355328) (hB : B ≤ w.heap.size) (hap : ps.ownBlock ≠ some g) (hex : ∀ k, exK hv = some k → k < w.heap.size ∧ ps.ownBlock ≠ some k ∧ k ≠ g) : Calls Try.prog 60 #[.pointer (some ⟨g, 0, none⟩), .agg (SC 46 (pkV P v))] w fun e w' => e = .returned (.tuple #[]) ∧ ∃ S' hd' hv' ps', SAt w' g 89 49 (hpV born num hd' hv' ps') ∧ PRow w' B ps' S' ∧ (S ++ [P]).Perm S' ∧ S'.Pairwise (fun P Q => P.off ≤ Q.off) ∧ Touch (fun k => k = g ∨ ps.ownBlock = some k) w w' ∧ (∀ q, ps'.ownBlock = some q → ps.ownBlock = some q ∨ w.heap.size ≤ q) ∧ ((P.off = 0 ∧ hd' = bareP P ∧ NewEx w.heap.size w' hv' P.exts) ∨ (P.off ≠ 0 ∧ hd' = hd ∧ hv' = hv)) ∧ (∀ k, exK hv' = some k → ps'.ownBlock ≠ some k ∧ k ≠ g) := by
  have HEX := Hid.mk hex
  clear hex
  have HX := Hid.mk hx
  have HN := Hid.mk hn
  have HR := Hid.mk hr
  have HL := Hid.mk hl
  have hvo := hx.one
  have hgl := heap_lt h
  have hpl : ∀ k, ps.ownBlock = some k → k < w.heap.size := fun k hk => row_lt hr hk
  have HPL := Hid.mk hpl
  obtain ⟨ad0, cap0, hps, _⟩ := row_shape hr
  have HAP := Hid.mk hap
  clear hx hn hr hl hpl hap
  obtain ⟨n, hnn⟩ : ∃ n, S.length = n := ⟨_, rfl⟩
  have HNN := Hid.mk hnn
  rw [hnn] at HL hps
  have HPS := Hid.mk hps
  clear hnn
  subst hps
  go_enter Try.func60, Try.ntmps60
  go_wp2_with (refine wl_boxO rfl rfl isPk rfl ?_; intro g1 w1 hg1 r1 hB1; refine Hid.out ?_)
  refine Hid.mk ?_
  have h1 := h.kept hB1
  have X1 := Hid.mk (HX.out.kept hB1)
  have hg1n : g1 ≠ g := by omega
  have hg1l := heap_lt r1
  clear h
  go_wp2_with (refine wl_value rfl (exec_fpkL 6 38 (by decide) rfl rfl rfl) ?_; refine Hid.out ?_)
  refine Hid.mk ?_
  go_wp2_with (refine wl_value rfl (exec_ld rfl rfl (ldP (pk_off r1))) ?_; refine Hid.out ?_)
  refine Hid.mk ?_
  go_wp2_with (refine wl_value rfl (cmp_eq (m := P.off) (n := 0) rfl rfl rfl) ?_; refine Hid.out ?_)
  refine Hid.mk ?_
  by_cases h0 : P.off = 0
  · rw [decide_eq_true h0]
    go_wp2_with (refine wl_value rfl (look_st rfl isPk r1 rfl) ?_; refine Hid.out ?_)
    refine Hid.mk ?_
    go_wp2_with (go_at_call 36; refine (uncut_run P v _ X1.out HN.out).mono ?_; rintro e w2 ⟨v2, rfl, hnew, hB2⟩; refine Hid.out ?_)
    refine Hid.mk ?_
    have h2 := h1.kept hB2
    have r2 := r1.kept hB2
    have hv2o := hnew.2.1
    have HNW := Hid.mk hnew
    clear h1 r1 hnew
    go_wp2_with (refine wl_value rfl (exec_fhp 2 (by decide) rfl rfl) ?_; refine Hid.out ?_)
    refine Hid.mk ?_
    go_wp2_with (refine wl_stH (hd' := bareP P) (hv' := v2) rfl rfl rfl rfl hv2o h2 ?_; intro w3 hA ho3; refine Hid.out ?_)
    refine Hid.mk ?_
    have p2 := r2.only ho3 hg1n
    have hBz : Below w.heap.size w w2 := hB1.trans (hB2.mono hB1.size)
    have tB : Touch (fun k => k = g ∨ (Value.slice ad0 n cap0).ownBlock = some k) w w3 := ((touch_below hBz).mono (fun _ _ e => e.elim)).tr ((tou_only ho3).mono (fun _ _ e => .inl e))
    have R2 : w3.ownsRow B 82 3 (.slice ad0 n cap0) n (rX 3 (rowS S) n) := by
      have h9 := HR.out
      unfold PRow at h9
      rw [HNN.out] at h9
      exact ownM_block (ownT_kept h9 hBz) (fun k hk => ho3.block k (fun e => HAP.out (e ▸ hk)))
    have HNW3 : Hid (NewEx w.heap.size w3 v2 P.exts) := Hid.mk ((HNW.out.only ho3 (by have := hB1.size; omega)).mono hB1.size)
    have HWL : Hid (w1.heap.size ≤ w3.heap.size) := Hid.mk (by rw [ho3.size]; exact hB2.size)
    clear h2 r2 ho3 hB2 hBz HNW
    have hw2 := tB.size
    have hwl := HWL.out
    have hg1o : (Value.slice ad0 n cap0).ownBlock ≠ some g1 := fun e => by have := HPL.out g1 e; omega
    go_upto_region 3 with fail
    refine wp_region_cut 9 rfl (by kernel_rfl) (any_invW (bpS g g1 B n (hpV born num (bareP P) v2 (.slice ad0 n cap0)) P v (.slice ad0 n cap0) (rowS S) w3) (bpF g B n P v (.slice ad0 n cap0) (rowS S) w3) (by kernel_rfl) ⟨hA, p2, (Touch.refl _ _).drew, fun _ => R2⟩ (bp_all ⟨
        fun Q L a w hS hL hpr f1 f7 kn => bp_value rfl rfl (by decide) hS (exec_move rfl f1) (fun M => rfl),
        fun Q L a w hS hL hpr f1 f7 kn => bp_value rfl rfl (by decide) hS (exec_move rfl f1) (fun M => rfl),
        fun Q L a w hS hL hpr f1 f7 kn => bp_value rfl rfl (by decide) hS (exec_nilc rfl (kn 1 _ 13 rfl rfl (hpr 1 (by kernel_rfl)))) (fun M => rfl),
        fun Q L a w hS hL hpr f1 f7 kn => bp_value rfl rfl (by decide) hS (exec_fhp 3 (by decide) rfl (kn 2 _ 14 rfl rfl (hpr 2 (by kernel_rfl)))) (fun M => rfl),
        fun Q L a w hS hL hpr f1 f7 kn => bp_value rfl rfl (by decide) hS (exec_ld rfl (kn 3 _ 15 rfl rfl (hpr 3 (by kernel_rfl))) (ldQ (hp_ps hS.1))) (fun M => rfl),
        fun Q L a w hS hL hpr f1 f7 kn => bp_value rfl rfl (by decide) hS (look_st rfl isPk hS.2.1 f7) (fun M => rfl),
        fun Q L a w hS hL hpr f1 f7 kn => bp_call rfl rfl hS rfl (kn 5 _ 17 rfl rfl (hpr 5 (by kernel_rfl))),
        fun Q L a w hS hL hpr f1 f7 kn => bp_seven rfl rfl hS rfl (kn 6 _ 18 rfl rfl (hpr 6 (by kernel_rfl))),
        fun Q L a w hS hL hpr f1 f7 kn => bp_eight rfl rfl hS hL rfl (kn 4 _ 16 rfl rfl (hpr 4 (by kernel_rfl))) (kn 7 _ 19 rfl rfl (hpr 7 (by kernel_rfl))) (by have := HL.out; omega) (by omega) HAP.out hg1o,
        trivial⟩ (by kernel_rfl) (by kernel_rfl) rfl rfl) (fin_ds [12, 13, 14, 15, 16, 17, 18, 19, 20] (by kernel_rfl) (fun vs L z hall hS hk => ?_)) (all_dst (by kernel_rfl)))
    have e12 : vs 12 = _ := hk 0 _ 12 rfl rfl
    have e20 := hk 8 _ 20 rfl rfl
    obtain ⟨a8, p8, t8, _⟩ := hS
    obtain ⟨ow8, hq8⟩ : z.ownsRow B 82 3 (vs 20) (n + 1) (rX 3 (setG (rowS S) n (pcV P)) (n + 1)) ∧ _ := e20
    obtain ⟨ad2, cap2, hv2, hq2⟩ := ownM_shape ow8
    rw [hv2] at ow8 hq8
    show wpList Try.prog _ _ (_ :: _ :: _ :: []) _ _
    simp only [putAll, Act.put, List.setIfInBounds_toArray, List.set_cons_zero, List.set_cons_succ, e12, hv2]
    clear e12 hv2 hk hall p8 p2 hA
    obtain ⟨q, rfl⟩ := hq2 (Nat.succ_pos n)
    have hqg : q ≠ g := by
      intro e
      subst e
      rcases hq8 q rfl with e2 | e2
      · exact HAP.out e2
      · omega
    go_wp2_with (refine wl_value rfl (exec_fhp 3 (by decide) rfl rfl) ?_; refine Hid.out ?_)
    refine Hid.mk ?_
    go_wp2_with (refine wl_stG (z := .slice (some ⟨q, 0, none⟩) (n + 1) cap2) rfl rfl rfl rfl (by decide) stQ a8 (hp_up48 _ _ _ _ _ _) ?_; intro w9 a9 o9; refine Hid.out ?_)
    refine Hid.mk ?_
    have ow9 : PRow w9 B (.slice (some ⟨q, 0, none⟩) (S ++ [P]).length cap2) (S ++ [P]) := by
      have h9 := ownM_block ow8 (fun k hk => o9.block k (fun e => by have hk : some q = some k := hk; injection hk with hk; omega))
      have hrow := rowS_more S P
      rw [HNN.out] at hrow
      rw [hrow] at h9
      unfold PRow
      rw [List.length_append, List.length_singleton, HNN.out]
      exact h9
    have HSR := Hid.mk (sort_run w9 ow9 (by rw [List.length_append, List.length_singleton, HNN.out]; have := HL.out; omega))
    rw [show (S ++ [P]).length = n + 1 by rw [List.length_append, List.length_singleton, HNN.out]] at HSR
    go_wp2_with (refine wl_value rfl (exec_fhp 3 (by decide) rfl rfl) ?_; refine Hid.out ?_)
    refine Hid.mk ?_
    go_wp2_with (refine wl_value rfl (exec_ld rfl rfl (ldQ (hp_ps a9))) ?_; refine Hid.out ?_)
    refine Hid.mk ?_
    go_wp2_with (go_at_call 71; refine HSR.out.mono ?_; rintro e w10 ⟨rfl, S', hpm, hsr, hr10, t10⟩; refine Hid.out ?_)
    refine Hid.mk ?_
    go_wp2_with fail
    have hlen : S'.length = n + 1 := by rw [← hpm.length_eq, List.length_append, List.length_singleton, HNN.out]
    have a10 := a9.block (t10.block g (heap_lt a9) (fun e => hqg e.symm))
    have ta : Touch (fun k => k = g ∨ k = q) z w9 := (tou_only o9).mono (fun _ _ e => .inl e)
    have t8a : Touch (fun k => (Value.slice ad0 n cap0).ownBlock = some k) w3 z := t8
    have t10 : Touch (fun k => k = g ∨ k = q) w9 w10 := t10.mono (fun _ _ e => .inr e)
    have tW : Touch (fun k => k = g ∨ (Value.slice ad0 n cap0).ownBlock = some k ∨ k = q) w3 w10 := ((t8a.mono (fun _ _ e => .inr (.inl e))).tr (ta.mono (fun _ _ e => e.elim .inl (fun e => .inr (.inr e))))).tr (t10.mono (fun _ _ e => e.elim .inl (fun e => .inr (.inr e))))
    have hTW : ∀ k, w.heap.size ≤ k → k < w3.heap.size → ¬ (k = g ∨ (Value.slice ad0 n cap0).ownBlock = some k ∨ k = q) := fun k hk hk2 e => by
      rcases e with e | e | e
      · omega
      · have := HPL.out k e; omega
      · subst e
        rcases hq8 k rfl with e2 | e2
        · have := HPL.out k e2; omega
        · omega
    have tAll : Touch (fun k => k = g ∨ (Value.slice ad0 n cap0).ownBlock = some k) w w10 := ⟨t10.os.trans (ta.os.trans (t8.os.trans tB.os)), t10.tape.trans (ta.tape.trans (t8.tape.trans tB.tape)), t10.output.trans (ta.output.trans (t8.output.trans tB.output)), Nat.le_trans hw2 (Nat.le_trans t8.size (Nat.le_trans ta.size t10.size)), fun j hj hn => by
      have hjq : ¬ (j = g ∨ j = q) := fun e => by
        rcases e with e | e
        · exact hn (.inl e)
        · subst e
          rcases hq8 j rfl with e2 | e2
          · exact hn (.inr e2)
          · omega
      have b1 := t8.size
      have b2 := ta.size
      exact ((t10.block j (by omega) hjq).trans (ta.block j (by omega) hjq)).trans ((t8.block j (by omega) (fun e => hn (.inr e))).trans (tB.block j hj hn))⟩
    exact bodyPost_end (results_none rfl _ _ _) rfl ⟨rfl, S', bareP P, v2, .slice (some ⟨q, 0, none⟩) (n + 1) cap2, a10, by rw [hlen] at hr10; exact hr10, hpm, hsr, tAll, fun j hj => by
      rcases hq8 j hj with e | e
      · exact .inl e
      · exact .inr (Nat.le_trans hw2 e), .inl ⟨h0, rfl, HNW3.out.tou tW hTW⟩, fun k hk => ⟨fun e => hTW k (HNW3.out.2.2.1 k hk).1 (HNW3.out.2.2.1 k hk).2 (.inr (.inr (by injection e with e; exact e.symm))), fun e => hTW k (HNW3.out.2.2.1 k hk).1 (HNW3.out.2.2.1 k hk).2 (.inl e)⟩⟩
  · rw [decide_eq_false h0]
    have p2 := r1
    have hA := h1
    have tB : Touch (fun k => k = g ∨ (Value.slice ad0 n cap0).ownBlock = some k) w w1 := (touch_below hB1).mono (fun _ _ e => e.elim)
    have R2 : w1.ownsRow B 82 3 (.slice ad0 n cap0) n (rX 3 (rowS S) n) := by
      have h9 := HR.out
      unfold PRow at h9
      rw [HNN.out] at h9
      exact ownT_kept h9 hB1
    have HWL : Hid (w1.heap.size ≤ w1.heap.size) := Hid.mk (Nat.le_refl _)
    clear h1 r1
    have hw2 := tB.size
    have hwl := HWL.out
    have hg1o : (Value.slice ad0 n cap0).ownBlock ≠ some g1 := fun e => by have := HPL.out g1 e; omega
    go_upto_region 3 with fail
    refine wp_region_cut 9 rfl (by kernel_rfl) (any_invW (bpS g g1 B n (hpV born num (hd) hv (.slice ad0 n cap0)) P v (.slice ad0 n cap0) (rowS S) w1) (bpF g B n P v (.slice ad0 n cap0) (rowS S) w1) (by kernel_rfl) ⟨hA, p2, (Touch.refl _ _).drew, fun _ => R2⟩ (bp_all ⟨
        fun Q L a w hS hL hpr f1 f7 kn => bp_value rfl rfl (by decide) hS (exec_move rfl f1) (fun M => rfl),
        fun Q L a w hS hL hpr f1 f7 kn => bp_value rfl rfl (by decide) hS (exec_move rfl f1) (fun M => rfl),
        fun Q L a w hS hL hpr f1 f7 kn => bp_value rfl rfl (by decide) hS (exec_nilc rfl (kn 1 _ 13 rfl rfl (hpr 1 (by kernel_rfl)))) (fun M => rfl),
        fun Q L a w hS hL hpr f1 f7 kn => bp_value rfl rfl (by decide) hS (exec_fhp 3 (by decide) rfl (kn 2 _ 14 rfl rfl (hpr 2 (by kernel_rfl)))) (fun M => rfl),
        fun Q L a w hS hL hpr f1 f7 kn => bp_value rfl rfl (by decide) hS (exec_ld rfl (kn 3 _ 15 rfl rfl (hpr 3 (by kernel_rfl))) (ldQ (hp_ps hS.1))) (fun M => rfl),
        fun Q L a w hS hL hpr f1 f7 kn => bp_value rfl rfl (by decide) hS (look_st rfl isPk hS.2.1 f7) (fun M => rfl),
        fun Q L a w hS hL hpr f1 f7 kn => bp_call rfl rfl hS rfl (kn 5 _ 17 rfl rfl (hpr 5 (by kernel_rfl))),
        fun Q L a w hS hL hpr f1 f7 kn => bp_seven rfl rfl hS rfl (kn 6 _ 18 rfl rfl (hpr 6 (by kernel_rfl))),
        fun Q L a w hS hL hpr f1 f7 kn => bp_eight rfl rfl hS hL rfl (kn 4 _ 16 rfl rfl (hpr 4 (by kernel_rfl))) (kn 7 _ 19 rfl rfl (hpr 7 (by kernel_rfl))) (by have := HL.out; omega) (by omega) HAP.out hg1o,
        trivial⟩ (by kernel_rfl) (by kernel_rfl) rfl rfl) (fin_ds [12, 13, 14, 15, 16, 17, 18, 19, 20] (by kernel_rfl) (fun vs L z hall hS hk => ?_)) (all_dst (by kernel_rfl)))
    have e12 : vs 12 = _ := hk 0 _ 12 rfl rfl
    have e20 := hk 8 _ 20 rfl rfl
    obtain ⟨a8, p8, t8, _⟩ := hS
    obtain ⟨ow8, hq8⟩ : z.ownsRow B 82 3 (vs 20) (n + 1) (rX 3 (setG (rowS S) n (pcV P)) (n + 1)) ∧ _ := e20
    obtain ⟨ad2, cap2, hv2, hq2⟩ := ownM_shape ow8
    rw [hv2] at ow8 hq8
    show wpList Try.prog _ _ (_ :: _ :: _ :: []) _ _
    simp only [putAll, Act.put, List.setIfInBounds_toArray, List.set_cons_zero, List.set_cons_succ, e12, hv2]
    clear e12 hv2 hk hall p8 p2 hA
    obtain ⟨q, rfl⟩ := hq2 (Nat.succ_pos n)
    have hqg : q ≠ g := by
      intro e
      subst e
      rcases hq8 q rfl with e2 | e2
      · exact HAP.out e2
      · omega
    go_wp2_with (refine wl_value rfl (exec_fhp 3 (by decide) rfl rfl) ?_; refine Hid.out ?_)
    refine Hid.mk ?_
    go_wp2_with (refine wl_stG (z := .slice (some ⟨q, 0, none⟩) (n + 1) cap2) rfl rfl rfl rfl (by decide) stQ a8 (hp_up48 _ _ _ _ _ _) ?_; intro w9 a9 o9; refine Hid.out ?_)
    refine Hid.mk ?_
    have ow9 : PRow w9 B (.slice (some ⟨q, 0, none⟩) (S ++ [P]).length cap2) (S ++ [P]) := by
      have h9 := ownM_block ow8 (fun k hk => o9.block k (fun e => by have hk : some q = some k := hk; injection hk with hk; omega))
      have hrow := rowS_more S P
      rw [HNN.out] at hrow
      rw [hrow] at h9
      unfold PRow
      rw [List.length_append, List.length_singleton, HNN.out]
      exact h9
    have HSR := Hid.mk (sort_run w9 ow9 (by rw [List.length_append, List.length_singleton, HNN.out]; have := HL.out; omega))
    rw [show (S ++ [P]).length = n + 1 by rw [List.length_append, List.length_singleton, HNN.out]] at HSR
    go_wp2_with (refine wl_value rfl (exec_fhp 3 (by decide) rfl rfl) ?_; refine Hid.out ?_)
    refine Hid.mk ?_
    go_wp2_with (refine wl_value rfl (exec_ld rfl rfl (ldQ (hp_ps a9))) ?_; refine Hid.out ?_)
    refine Hid.mk ?_
    go_wp2_with (go_at_call 71; refine HSR.out.mono ?_; rintro e w10 ⟨rfl, S', hpm, hsr, hr10, t10⟩; refine Hid.out ?_)
    refine Hid.mk ?_
    go_wp2_with fail
    have hlen : S'.length = n + 1 := by rw [← hpm.length_eq, List.length_append, List.length_singleton, HNN.out]
    have a10 := a9.block (t10.block g (heap_lt a9) (fun e => hqg e.symm))
    have ta : Touch (fun k => k = g ∨ k = q) z w9 := (tou_only o9).mono (fun _ _ e => .inl e)
    have t8a : Touch (fun k => (Value.slice ad0 n cap0).ownBlock = some k) w1 z := t8
    have t10 : Touch (fun k => k = g ∨ k = q) w9 w10 := t10.mono (fun _ _ e => .inr e)
    have tW : Touch (fun k => k = g ∨ (Value.slice ad0 n cap0).ownBlock = some k ∨ k = q) w1 w10 := ((t8a.mono (fun _ _ e => .inr (.inl e))).tr (ta.mono (fun _ _ e => e.elim .inl (fun e => .inr (.inr e))))).tr (t10.mono (fun _ _ e => e.elim .inl (fun e => .inr (.inr e))))
    have hTW : ∀ k, w.heap.size ≤ k → k < w1.heap.size → ¬ (k = g ∨ (Value.slice ad0 n cap0).ownBlock = some k ∨ k = q) := fun k hk hk2 e => by
      rcases e with e | e | e
      · omega
      · have := HPL.out k e; omega
      · subst e
        rcases hq8 k rfl with e2 | e2
        · have := HPL.out k e2; omega
        · omega
    have tAll : Touch (fun k => k = g ∨ (Value.slice ad0 n cap0).ownBlock = some k) w w10 := ⟨t10.os.trans (ta.os.trans (t8.os.trans tB.os)), t10.tape.trans (ta.tape.trans (t8.tape.trans tB.tape)), t10.output.trans (ta.output.trans (t8.output.trans tB.output)), Nat.le_trans hw2 (Nat.le_trans t8.size (Nat.le_trans ta.size t10.size)), fun j hj hn => by
      have hjq : ¬ (j = g ∨ j = q) := fun e => by
        rcases e with e | e
        · exact hn (.inl e)
        · subst e
          rcases hq8 j rfl with e2 | e2
          · exact hn (.inr e2)
          · omega
      have b1 := t8.size
      have b2 := ta.size
      exact ((t10.block j (by omega) hjq).trans (ta.block j (by omega) hjq)).trans ((t8.block j (by omega) (fun e => hn (.inr e))).trans (tB.block j hj hn))⟩
    exact bodyPost_end (results_none rfl _ _ _) rfl ⟨rfl, S', hd, hv, .slice (some ⟨q, 0, none⟩) (n + 1) cap2, a10, by rw [hlen] at hr10; exact hr10, hpm, hsr, tAll, fun j hj => by
      rcases hq8 j hj with e | e
      · exact .inl e
      · exact .inr (Nat.le_trans hw2 e), .inr ⟨h0, rfl, rfl⟩, fun k hk => ⟨fun e => (hq8 k (by injection e with e; rw [← e]; rfl)).elim (HEX.out k hk).2.1 (fun h => by have := (HEX.out k hk).1; omega), (HEX.out k hk).2.2⟩⟩
end Go.Proofs.Ythnlfjkpiohooaa
