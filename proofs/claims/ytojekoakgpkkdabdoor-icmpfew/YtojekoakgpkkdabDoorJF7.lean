/-
  Own text. Paths that are late deleted: maps.DeleteFunc. (After our own text of heaps that are late.)
-/
import Derived.Test.YtojekoakgpkkdabDoorJF5
import Derived.Test.YtojekoakgpkkdabDoorJF6
import Derived.Test.YtojekoakgpkkdabDoorRows
import Derived.ChangeSlices
import Derived.Deep.Slices
import Derived.Deep.SlicePairs
import Derived.ChangeSame
import Derived.OpenShut
import Derived.ProofKit
import Derived.SizedLaws
import Derived.Stop.Joined
namespace Go.Proofs.YtojekoakgpkkdabDoor
open Go.RowKit Go.Proofs
set_option maxRecDepth 100000
theorem wrap_id {n : Int} (h0 : -9223372036854775808 ≤ n) (h1 : n < 9223372036854775808) : IntKind.i64.wrap n = n := by
  have := IntKind.wrap_i64 n
  rw [this]
  omega
theorem cell_blk {w w' : World} {p : Addr} (e : w'.heap[p.block]? = w.heap[p.block]?) : w'.cell? p = w.cell? p := by unfold World.cell?; rw [e]
/-- The cells of the paths. -/
def ptV (mv : Value) (time count : Int) (j : Nat) : Value := if j < 1 then mv else if j < 2 then .int .i64 time else .int .i64 count
theorem isPt : IsSt 49 3 := ⟨_, Tryd.underlying49, rfl, by kernel_rfl⟩
section
variable {a : Act} {o : Oper} {w : World} {x y : Operand} {g : Nat} {mv : Value} {time count : Int}
theorem pt_map (h : SAt w g 49 3 (ptV mv time count)) : w.cell? ⟨g, 0, none⟩ = some mv := h.at 0 (by decide)
theorem pt_time (h : SAt w g 49 3 (ptV mv time count)) : w.cell? ⟨g, 1, none⟩ = some (.int .i64 time) := h.at 1 (by decide)
theorem pt_count (h : SAt w g 49 3 (ptV mv time count)) : w.cell? ⟨g, 2, none⟩ = some (.int .i64 count) := h.at 2 (by decide)
theorem ldM {p : Addr} {x : Value} (h : w.cell? p = some x) : (Instr.loadAt 47 (.pointer (some p))).run Tryd.prog w = .ok x w := by simp [go_sem, h]
theorem ldPp {p : Addr} {x : Value} (h : w.cell? p = some x) : (Instr.loadAt 31 (.pointer (some p))).run Tryd.prog w = .ok x w := by simp [go_sem, h]
theorem exec_fpt (k : Nat) (hk : k < 3) (ho : o.op = .fieldAddr 49 x k) (hx : a.eval x = .pointer (some ⟨g, 0, none⟩)) : (execOp a.eval o).run Tryd.prog w = .ok (.value (.pointer (some ⟨g, k, none⟩))) w := by
  have h : (Instr.fieldAt 49 (.pointer (some ⟨g, 0, none⟩)) k).run Tryd.prog w = .ok (.pointer (some ⟨g, k, none⟩)) w := by
    match k, hk with
    | 0, _ => simp [go_sem]
    | 1, _ => simp [go_sem]
    | 2, _ => simp [go_sem]
  unfold execOp
  simp only [ho, hx, Sem.run_bind, h, Result.andThen_ok, Sem.run_pure]
theorem exec_fpa (k : Nat) (hk : k < 3) (ho : o.op = .fieldAddr 58 x k) (hx : a.eval x = .pointer (some ⟨g, 0, none⟩)) : (execOp a.eval o).run Tryd.prog w = .ok (.value (.pointer (some ⟨g, k, none⟩))) w := by
  have h : (Instr.fieldAt 58 (.pointer (some ⟨g, 0, none⟩)) k).run Tryd.prog w = .ok (.pointer (some ⟨g, k, none⟩)) w := by
    match k, hk with
    | 0, _ => simp [go_sem]
    | 1, _ => simp [go_sem]
    | 2, _ => simp [go_sem]
  unfold execOp
  simp only [ho, hx, Sem.run_bind, h, Result.andThen_ok, Sem.run_pure]
theorem exec_sbI (ho : o.op = .binOp .sub 3 x y 3) {m n : Int} (hx : a.eval x = .int .i64 m) (hy : a.eval y = .int .i64 n) (h0 : -9223372036854775808 ≤ m - n) (h1 : m - n < 9223372036854775808) : (execOp a.eval o).run Tryd.prog w = .ok (.value (.int .i64 (m - n))) w := by
  have e : IntKind.i64.wrap (m - n) = m - n := wrap_id h0 h1
  refine exec_bin2 ho hx hy rfl ?_
  simp [go_sem, e]
theorem exec_maxI (ho : o.op = .call { callee := .builtin .max, args := #[x, y], argTypes := #[3, 3] }) {m n r : Int} (hx : a.eval x = .int .i64 m) (hy : a.eval y = .int .i64 n) (hr : max m n = r) : (execOp a.eval o).run Tryd.prog w = .ok (.value (.int .i64 r)) w := by
  have hr' : (Builtin.max_ #[3, 3] o.type #[.int .i64 m, .int .i64 n]).run Tryd.prog w = .ok (.int .i64 r) w := by
    subst hr
    by_cases h : m ≤ n
    · rw [Int.max_eq_right h]; simp [go_sem]; omega
    · rw [Int.max_eq_left (by omega)]; simp [go_sem]; omega
  simp [execOp, ho, resolve, invoke, builtin, hx, hy, hr']
end
theorem key_form {k : Value} {F : Ad} (h : KeyIs k F) : ∃ V : Nat → Value, k = .agg (SC 17 V) ∧ ∀ j, (V j).oneCell' = true := by
  obtain ⟨v, b, rfl, _⟩ := h
  exact ⟨_, rfl, fun j => adV_one _ _ j⟩
theorem exec_entryQ {a : Act} {o : Oper} {w : World} {x : Operand} {r : Nat} {p : Pth} {key : Value} (ho : o.op = .entry x) (hx : a.eval x = .pointer (some ⟨r, 0, none⟩)) (he : EntryIs w r key p) : (execOp a.eval o).run Tryd.prog w = .ok (.value (.tuple #[key, .agg (SC 3 (paV p))])) w := exec_entry ho hx he
theorem wl_rangeN {ops : Array Oper} {rest : List Oper} {o : Oper} {a : Act} {w : World} {Q : Exit → Act → World → Prop} {x : Operand} (ho : o.op = .range 47 x) (hw : Region.wanted o (yielded ops a.tmps) = true) (hx : a.eval x = .map none)
    (h : ∀ r w', (∀ ty, (Instr.next (.pointer (some ⟨r, 0, none⟩)) false ty).run Tryd.prog w' = .ok (.tuple #[.bool false]) w') → Below w.heap.size w w' → wpList Tryd.prog ops Q rest (a.put o.dst (.pointer (some ⟨r, 0, none⟩))) w') : wpList Tryd.prog ops Q (o :: rest) a w := by
  have hr := run_range_nilMap (P := Tryd.prog) w _ _ _ Tryd.underlying47
  refine wl_act hw ?_
  unfold Oper.wp execOp
  simp only [ho, hx, Sem.run_bind, hr, Result.andThen_ok, Sem.run_pure, Oper.upon]
  exact h _ _ (fun ty => run_next_nilMap w ty _ _ _) ((Below.refl _ _).alloc (Nat.le_refl _) _)
theorem exec_nextN {a : Act} {o : Oper} {w : World} {x : Operand} {r : Nat} (ho : o.op = .next x false) (hx : a.eval x = .pointer (some ⟨r, 0, none⟩)) (h : ∀ ty, (Instr.next (.pointer (some ⟨r, 0, none⟩)) false ty).run Tryd.prog w = .ok (.tuple #[.bool false]) w) : (execOp a.eval o).run Tryd.prog w = .ok (.value (.tuple #[.bool false])) w := by
  unfold execOp
  simp only [ho, hx, Sem.run_bind, h, Result.andThen_ok, Sem.run_pure]
theorem wl_nextE {ops : Array Oper} {rest : List Oper} {o : Oper} {a : Act} {w : World} {Q : Exit → Act → World → Prop} {x : Operand} {m r : Nat} {L : List (Ad × Pth)} (ho : o.op = .next x false) (hw : Region.wanted o (yielded ops a.tmps) = true) (hx : a.eval x = .pointer (some ⟨r, 0, none⟩)) (hm : RangeAt w m r L [])
    (h : wpList Tryd.prog ops Q rest (a.put o.dst (.tuple #[.bool false])) w) : wpList Tryd.prog ops Q (o :: rest) a w :=
  wl_next ho hw hx hm (fun _ => h) (fun _ _ _ _ hp => nomatch hp.length_eq)
theorem wl_nextC {ops : Array Oper} {rest : List Oper} {o : Oper} {a : Act} {w : World} {Q : Exit → Act → World → Prop} {x : Operand} {m r : Nat} {L left : List (Ad × Pth)} (ho : o.op = .next x false) (hw : Region.wanted o (yielded ops a.tmps) = true) (hx : a.eval x = .pointer (some ⟨r, 0, none⟩)) (hm : RangeAt w m r L left) (hne : left ≠ [])
    (h : ∀ c left' key w', left.Perm (c :: left') → c ∈ L → KeyIs key c.1 → RangeAt w' m r L left' → Only r w w' → EntryIs w' r key c.2 → wpList Tryd.prog ops Q rest (a.put o.dst (.tuple #[.bool true, key, .agg (SC 3 (paV c.2))])) w') : wpList Tryd.prog ops Q (o :: rest) a w :=
  wl_next ho hw hx hm (fun e => absurd e hne) h
/-- A path that stays at a time. -/
def stayP (t : Int) (d : Ad × Pth) : Bool := !decide (600000 ≤ t - d.2.born)
/-- Behind some rounds: what is still to come, or stays. -/
def midP (L : List (Ad × Pth)) (t : Int) (left : List (Ad × Pth)) : List (Ad × Pth) := L.filter (fun d => decide (d.1 ∈ left.map (·.1)) || stayP t d)
theorem mid_all (L : List (Ad × Pth)) (t : Int) : midP L t L = L := List.filter_eq_self.2 (fun d hd => by
  have : d.1 ∈ L.map (·.1) := List.mem_map_of_mem hd
  simp only [this, decide_true, Bool.true_or])
theorem mid_none (L : List (Ad × Pth)) (t : Int) : midP L t [] = L.filter (stayP t) := List.filter_congr (fun d _ => by simp)
theorem nodup_fst {L : List (Ad × Pth)} (h : (L.map (·.1)).Nodup) {c d : Ad × Pth} (hc : c ∈ L) (hd : d ∈ L) (e : c.1 = d.1) : c = d := by
  induction L with
  | nil => cases hc
  | cons x L ih =>
    rw [List.map_cons, List.nodup_cons] at h
    rcases List.mem_cons.1 hc with h1 | h1 <;> rcases List.mem_cons.1 hd with h2 | h2
    · rw [h1, h2]
    · subst h1; exact absurd (by rw [e]; exact List.mem_map_of_mem h2) h.1
    · subst h2; exact absurd (by rw [← e]; exact List.mem_map_of_mem h1) h.1
    · exact ih h.2 h1 h2
theorem mid_keep {L : List (Ad × Pth)} {t : Int} {left left' : List (Ad × Pth)} {c : Ad × Pth} (hn : (L.map (·.1)).Nodup) (hc : c ∈ L) (hp : left.Perm (c :: left')) (hs : stayP t c = true) : midP L t left = midP L t left' := by
  refine List.filter_congr (fun d hd => ?_)
  by_cases e : d.1 = c.1
  · have := nodup_fst hn hd hc e
    subst this
    rw [hs, Bool.or_true, Bool.or_true]
  · congr 1
    rw [decide_eq_decide, (hp.map (·.1)).mem_iff, List.map_cons, List.mem_cons]
    exact ⟨fun h => h.resolve_left e, .inr⟩
theorem mid_drop {L : List (Ad × Pth)} {t : Int} {left left' : List (Ad × Pth)} {c : Ad × Pth} (hn : (L.map (·.1)).Nodup) (hc : c ∈ L) (hp : left.Perm (c :: left')) (hl : c.1 ∉ left'.map (·.1)) (hs : stayP t c = false) : (midP L t left).filter (fun d => !decide (d.1 = c.1)) = midP L t left' := by
  unfold midP
  rw [List.filter_filter]
  refine List.filter_congr (fun d hd => ?_)
  by_cases e : d.1 = c.1
  · have := nodup_fst hn hd hc e
    subst this
    simp only [hs, hl, decide_true, decide_false, Bool.not_true, Bool.false_and, Bool.or_false]
  · simp only [e, decide_false, Bool.not_false, Bool.true_and]
    congr 1
    rw [decide_eq_decide, (hp.map (·.1)).mem_iff, List.map_cons, List.mem_cons]
    exact ⟨fun h => h.resolve_left e, .inr⟩
theorem exec_callC {f : FuncId} (hc : ∀ args w, (callFunc f args).run Tryd.prog w = .ok (.enter f args) w) {x : Operand} (xs : Array Operand) (ts : Array TypeId) {o : Oper} {a : Act} {w : World} {fr : Array Value} (ho : o.op = .call { callee := .value x, args := xs, argTypes := ts }) (hx : a.eval x = .func (.func f) #[] fr) :
    (execOp a.eval o).run Tryd.prog w = .ok (.enter f (xs.map a.eval ++ fr)) w := by
  unfold execOp
  rw [ho]
  simp only [resolve, Sem.run_bind, hx]
  generalize xs.map a.eval = args
  simp [Deferred.ofValue, invoke, go_sem, hc]
theorem wl_callC {ops : Array Oper} {rest : List Oper} {Q : Exit → Act → World → Prop} {f : FuncId} (hc : ∀ args w, (callFunc f args).run Tryd.prog w = .ok (.enter f args) w) {x : Operand} {xs : Array Operand} {ts : Array TypeId} {o : Oper} {a : Act} {w : World} {fr : Array Value} {R : Value → World → Prop} (ho : o.op = .call { callee := .value x, args := xs, argTypes := ts }) (hw : Region.wanted o (yielded ops a.tmps) = true) (hx : a.eval x = .func (.func f) #[] fr)
    {us vs : Array Value} (hu : xs.map a.eval = us) (hv : us ++ fr = vs) (hC : Calls Tryd.prog f vs w fun r w' => ∃ v, r = .returned v ∧ R v w') (h : ∀ v w', R v w' → wpList Tryd.prog ops Q rest (a.put o.dst v) w') : wpList Tryd.prog ops Q (o :: rest) a w := by
  refine wl_act hw (wp_enter (exec_callC hc xs ts ho hx) ?_)
  rw [hu, hv]
  exact hC.mono (fun e w' ⟨v, he, hr⟩ => ⟨v, he, h v w' hr⟩)
theorem exec_mkC {a : Act} {o : Oper} {w : World} {f : FuncId} {x : Operand} (ho : o.op = .makeFunc (.func f) #[] #[x]) {v : Value} (hx : a.eval x = v) : (execOp a.eval o).run Tryd.prog w = .ok (.value (.func (.func f) #[] #[v])) w := by
  unfold execOp
  subst hx
  simp only [ho, List.map_toArray, List.map_cons, List.map_nil]
  generalize a.eval x = v
  simp [go_sem]
theorem en_late (args : Array Value) (w : World) : (callFunc 29 args).run Tryd.prog w = .ok (.enter 29 args) w := by kernel_rfl
set_option maxHeartbeats 4000000 in
theorem late_run {w : World} {g1 g : Nat} {mv : Value} {time count : Int} {p : Pth} {V : Nat → Value} (c1 : w.cell? ⟨g1, 0, none⟩ = some (.pointer (some ⟨g, 0, none⟩))) (hb : SAt w g 49 3 (ptV mv time count)) (hw : 0 ≤ p.born ∧ p.born ≤ time ∧ time < 9223372036854775808) : Calls Tryd.prog 29 #[.agg (SC 17 V), .agg (SC 3 (paV p)), .pointer (some ⟨g1, 0, none⟩)] w fun e w' => e = .returned (.bool (decide (600000 ≤ time - p.born))) ∧ Below w.heap.size w w' := by
  have HW := Hid.mk hw
  have ct := pt_time hb
  have hgl := heap_lt hb
  have hgl1 := World.block_lt_of_cell? _ _ c1
  clear hw
  go_enter Tryd.func29, Tryd.ntmps29
  go_wp2_with (refine wl_boxO (V := V) rfl rfl isAddr rfl ?_; intro g3 w3 hg3 r3 hB3; refine Hid.out ?_)
  refine Hid.mk ?_
  go_wp2_with (refine wl_boxO (V := paV p) rfl rfl isPa rfl ?_; intro g4 w4 hg4 r4 hB4; refine Hid.out ?_)
  refine Hid.mk ?_
  have hB4' := hB3.trans (hB4.mono hB3.size)
  have c1 := (hB4'.cell (p := ⟨g1, 0, none⟩) hgl1).trans c1
  have ct := (hB4'.cell (p := ⟨g, 1, none⟩) hgl).trans ct
  have l1 := Nat.lt_of_lt_of_le hgl1 hB4'.size
  have l2 := Nat.lt_of_lt_of_le hgl hB4'.size
  go_upto_region 1 with fail
  refine wp_region3 (Below w4.heap.size w4) (w4.heap.size)
      ([] : List (Nat × Cont))
      [kv (.pointer (some ⟨g, 0, none⟩)), kv (.pointer (some ⟨g, 0, none⟩)), kv (.pointer (some ⟨g, 1, none⟩)), kv (.int .i64 time), kv (.pointer (some ⟨g4, 1, none⟩)), kv (.int .i64 p.born), kv (.int .i64 (time - p.born)), kv (.bool (decide (600000 ≤ time - p.born))), kv (.bool (decide (600000 ≤ time - p.born)))]
      [.none, .none, .none, .none, .none, .none, .none, .none, .none]
      [some 6, some 7, some 8, some 9, some 10, some 11, some 12, some 13, some 5]
      [(2, .pointer (some ⟨g1, 0, none⟩)), (4, .pointer (some ⟨g4, 0, none⟩))]
      [[], [.slot 0], [.slot 1], [.slot 2], [], [.slot 4], [.slot 3, .slot 5], [.slot 6], [.slot 7]]
      [.slot 8] [6, 7, 8, 9, 10, 11, 12, 13, 5]
      rfl (by kernel_rfl) ⟨rfl, rfl, trivial⟩ ((Below.refl _ w4).drew) (Nat.le_refl _) trivial trivial (below_GcW (Nat.le_refl _))
      ⟨
      (fun QQ aa ww own hS hBg fr kn => .inl ⟨trivial, fun K hK => wp_value (exec_ld rfl fr.1 (ldPp ((hS.cell (p := ⟨g1, 0, none⟩) l1).trans c1))) (hK _ _ ⟨Touch.refl _ _, rfl⟩)⟩),
      (fun QQ aa ww own hS hBg fr kn => .inl ⟨trivial, fun K hK => wp_value (exec_nilc rfl kn.1) (hK _ _ ⟨Touch.refl _ _, rfl⟩)⟩),
      (fun QQ aa ww own hS hBg fr kn => .inl ⟨trivial, fun K hK => wp_value (exec_fpt 1 (by decide) rfl kn.1) (hK _ _ ⟨Touch.refl _ _, rfl⟩)⟩),
      (fun QQ aa ww own hS hBg fr kn => .inl ⟨trivial, fun K hK => wp_value (exec_ld rfl kn.1 (ldP ((hS.cell (p := ⟨g, 1, none⟩) l2).trans ct))) (hK _ _ ⟨Touch.refl _ _, rfl⟩)⟩),
      (fun QQ aa ww own hS hBg fr kn => .inl ⟨trivial, fun K hK => wp_value (exec_fpa 1 (by decide) rfl fr.2.1) (hK _ _ ⟨Touch.refl _ _, rfl⟩)⟩),
      (fun QQ aa ww own hS hBg fr kn => .inl ⟨trivial, fun K hK => wp_value (exec_ld rfl kn.1 (ldI ((r4.kept hS).at 1 (by decide)))) (hK _ _ ⟨Touch.refl _ _, rfl⟩)⟩),
      (fun QQ aa ww own hS hBg fr kn => .inl ⟨trivial, fun K hK => wp_value (exec_sbI rfl kn.1 kn.2.1 (by have := HW.out; omega) (by have := HW.out; omega)) (hK _ _ ⟨Touch.refl _ _, rfl⟩)⟩),
      (fun QQ aa ww own hS hBg fr kn => .inl ⟨trivial, fun K hK => wp_value (cmp_ge rfl kn.1 rfl) (hK _ _ ⟨Touch.refl _ _, rfl⟩)⟩),
      (fun QQ aa ww own hS hBg fr kn => .inl ⟨trivial, fun K hK => wp_value (exec_assign rfl kn.1) (hK _ _ ⟨Touch.refl _ _, rfl⟩)⟩),
      trivial⟩ ?_
  intro vs own z2 hB2 hsz kn inj
  have e5 : vs 5 = .bool (decide (600000 ≤ time - p.born)) := kn.1
  clear kn inj hsz
  simp only [putAll, Act.put, List.setIfInBounds_toArray, List.set_cons_zero, List.set_cons_succ, e5]
  go_wp2_with fail
  go_ret
  exact ⟨rfl, hB4'.trans (hB2.mono hB4'.size)⟩
theorem touch_on {m : Nat} {T : Nat → Prop} {w z z' : World} (h : Touch (fun k => k = m) w z) (h2 : Touch T z z') (hT : ∀ k, k < w.heap.size → T k → k = m) : Touch (fun k => k = m) w z' :=
  ⟨h2.os.trans h.os, h2.tape.trans h.tape, h2.output.trans h.output, Nat.le_trans h.size h2.size, fun k hk hn => (h2.block k (Nat.lt_of_lt_of_le hk h.size) (fun ht => hn (hT k hk ht))).trans (h.block k hk hn)⟩
theorem touch_fresh {m : Nat} {w z z' : World} (h : Touch (fun k => k = m) w z) (h2 : Below z.heap.size z z') : Touch (fun k => k = m) w z' := touch_on h (touch_below h2) (fun _ _ h => h.elim)
theorem touch_only2 {m r : Nat} {w z z' : World} (h : Touch (fun k => k = m) w z) (h2 : Only r z z') (hr : r = m ∨ w.heap.size ≤ r) : Touch (fun k => k = m) w z' := touch_on h (touch_only h2) (fun k hk e => by
  have e : k = r := e
  rcases hr with h | h
  · rw [e, h]
  · omega)
theorem MapAt.ne {w : World} {m b : Nat} {L : List (Ad × Pth)} {ty n : Nat} {V : Nat → Value} (h : MapAt w m L) (hs : SAt w b ty n V) : b ≠ m := by
  obtain ⟨es, cl, h1, _⟩ := h
  intro e
  subst e
  have hs : w.heap[b]? = some (.cells (SC n V) ty (0, 0)) := hs
  rw [hs] at h1
  cases h1
theorem MapAt.neC {w : World} {m : Nat} {L : List (Ad × Pth)} {b o : Nat} {v : Value} (h : MapAt w m L) (hc : w.cell? ⟨b, o, none⟩ = some v) : b ≠ m := by
  obtain ⟨es, cl, h1, _⟩ := h
  intro e
  subst e
  unfold World.cell? at hc
  simp [h1] at hc
theorem cell_tou {w z : World} {m b o : Nat} {v : Value} (h : Touch (fun k => k = m) w z) (hb : b ≠ m) (hc : w.cell? ⟨b, o, none⟩ = some v) : z.cell? ⟨b, o, none⟩ = some v := by
  rw [cell_blk (p := ⟨b, o, none⟩) (h.block b (World.block_lt_of_cell? _ _ hc) hb)]
  exact hc
set_option maxHeartbeats 16000000 in
theorem DeleteFunc_run {w : World} {g g1 m : Nat} {time count : Int} {L : List (Ad × Pth)} (hp : SAt w g 49 3 (ptV (.map (some m)) time count)) (hma : MapAt w m L) (hnd : (L.map (·.1)).Nodup) (hbd : ∀ d ∈ L, 0 ≤ d.2.born ∧ d.2.born ≤ time) (ht : time < 9223372036854775808) (c1 : w.cell? ⟨g1, 0, none⟩ = some (.pointer (some ⟨g, 0, none⟩))) : Calls Tryd.prog 28 #[.map (some m), .func (.func 29) #[] #[.pointer (some ⟨g1, 0, none⟩)]] w fun e w' => e = .returned (.tuple #[]) ∧ MapAt w' m (L.filter (stayP time)) ∧ Touch (fun k => k = m) w w' := by
  have hgm : g ≠ m := hma.ne hp
  have hg1m : g1 ≠ m := hma.neC c1
  have hml := hma.lt
  have HP := Hid.mk hp
  have HMA := Hid.mk hma
  have HND := Hid.mk hnd
  have HBD := Hid.mk hbd
  have HC1 := Hid.mk c1
  clear hp hma hnd hbd c1
  go_enter Tryd.func28, Tryd.ntmps28
  go_wp2_with (refine wl_range rfl rfl rfl HMA.out ?_; intro r w1 hr1 hrg hB1; refine Hid.out ?_)
  refine Hid.mk ?_
  have HRG := Hid.mk hrg
  have HB1 := Hid.mk hB1
  clear hrg hB1
  go_wp2_with fail
  go_loopg [] L.length (fun gm z => ∃ (left : List (Ad × Pth)), Hid (gm = left.length) ∧ Hid (RangeAt z m r (midP L time left) left) ∧ Hid ((left.map (·.1)).Nodup ∧ ∀ d ∈ left, d ∈ L) ∧ Hid (Touch (fun k => k = m) w z))
  case atStart => exact ⟨L, Hid.mk rfl, Hid.mk (by rw [mid_all]; exact HRG.out), Hid.mk ⟨HND.out, fun d hd => hd⟩, Hid.mk ((touch_below HB1.out).mono (fun _ _ h => h.elim))⟩
  case round =>
    obtain ⟨left, HL0, HR, HN, HT⟩ := hrel
    by_cases he : left = []
    · subst he
      go_wp2_with (refine wl_nextE rfl rfl rfl HR.out ?_; refine Hid.out ?_)
      refine Hid.mk ?_
      go_wp2_with fail
      exact bodyPost_end (results_none rfl _ _ _) rfl ⟨rfl, by have := HR.out.map; rwa [mid_none] at this, HT.out⟩
    · have HE := Hid.mk he
      go_wp2_with (refine wl_nextC rfl rfl rfl HR.out HE.out ?_; intro d left' key w4 hpm hdm hkey hrg2 ho2 hen; refine Hid.out ?_)
      refine Hid.mk ?_
      have hdp : d ∈ L := HN.out.2 d (hpm.mem_iff.2 (by simp))
      have HDM := Hid.mk hdm
      obtain ⟨V, rfl, hV1⟩ := key_form hkey
      have hN' : (d :: left').map (·.1) |>.Nodup := (hpm.map (·.1)).nodup_iff.1 HN.out.1
      rw [List.map_cons, List.nodup_cons] at hN'
      have HN' : Hid ((left'.map (·.1)).Nodup ∧ ∀ d ∈ left', d ∈ L) := Hid.mk ⟨hN'.2, fun d hd => HN.out.2 d (hpm.mem_iff.2 (List.mem_cons_of_mem _ hd))⟩
      have HNI : Hid (∀ e ∈ left', e.1 ≠ d.1) := Hid.mk (fun e he h => hN'.1 (by rw [← h]; exact List.mem_map_of_mem (f := fun x : Ad × Pth => x.1) he))
      have HKP := Hid.mk (fun hs => mid_keep (t := time) HND.out hdp hpm hs)
      have HDR := Hid.mk (fun hs => mid_drop (t := time) HND.out hdp hpm hN'.1 hs)
      have HT4 := Hid.mk (touch_only2 HT.out ho2 (.inr hr1))
      have HK := Hid.mk hkey
      have HEN := Hid.mk hen
      have HRG2 := Hid.mk hrg2
      have HLE := Hid.mk hpm.length_eq
      have HBN := Hid.mk (HBD.out d hdp)
      clear HR hkey hen hrg2 hpm hdm hdp hN'
      go_wp2_with (refine wl_value rfl (exec_entryQ rfl rfl HEN.out) ?_; refine Hid.out ?_)
      refine Hid.mk ?_
      go_wp2_with (refine wl_alO rfl rfl zeroAddr ?_; intro g5 w5 hg5 s5 hB5; refine Hid.out ?_)
      refine Hid.mk ?_
      have HT5 := Hid.mk (touch_fresh HT4.out hB5)
      have hgs : w.heap.size ≤ g5 := Nat.le_trans HT4.out.size hg5
      have hr4 : r < g5 := Nat.lt_of_lt_of_le HRG2.out.lt.2 hg5
      have HRG2 := Hid.mk (HRG2.out.kept hB5)
      clear hB5 hg5
      go_wp2_with (refine wl_alO rfl rfl zeroPa ?_; intro g6 w6 hg6 s6 hB6; refine Hid.out ?_)
      refine Hid.mk ?_
      have HT6 := Hid.mk (touch_fresh HT5.out hB6)
      have hgs6 : w.heap.size ≤ g6 := Nat.le_trans HT5.out.size hg6
      have hr6 : r < g6 := Nat.lt_of_lt_of_le HRG2.out.lt.2 hg6
      have h56 : g5 ≠ g6 := by have := s5.lt; omega
      have HRG2 := Hid.mk (HRG2.out.kept hB6)
      have s5 := s5.kept hB6
      clear hB6 hg6
      go_wp2_with (refine st_stO (V := V) (g := g5) rfl rfl isAddr hV1 s5 rfl rfl ?_; intro w7 s7 ho7; refine Hid.out ?_)
      refine Hid.mk ?_
      have HT7 := Hid.mk (touch_only2 HT6.out ho7 (.inr hgs))
      have HRG2 := Hid.mk (HRG2.out.block (ho7.block m (by omega)) (ho7.block r (by omega)))
      have s6 := s6.only ho7 h56.symm
      clear s5 ho7
      go_wp2_with (refine st_stO (V := paV d.2) (g := g6) rfl rfl isPa (paV_one _) s6 rfl rfl ?_; intro w8 s8 ho8; refine Hid.out ?_)
      refine Hid.mk ?_
      have HT8 := Hid.mk (touch_only2 HT7.out ho8 (.inr hgs6))
      have HRG2 := Hid.mk (HRG2.out.block (ho8.block m (by omega)) (ho8.block r (by omega)))
      have s7 := s7.only ho8 h56
      clear s6 ho8
      have HLT := Hid.mk (late_run (w := w8) (V := V) (p := d.2) (cell_tou HT8.out hg1m HC1.out) (HP.out.tou HT8.out hgm) (by have := HBN.out; omega))
      go_wp2_with (refine wl_value rfl (look_st rfl isAddr s7 rfl) ?_; refine Hid.out ?_)
      refine Hid.mk ?_
      go_wp2_with (refine wl_value rfl (look_st rfl isPa s8 rfl) ?_; refine Hid.out ?_)
      refine Hid.mk ?_
      have hlq : decide (600000 ≤ time - d.2.born) = !stayP time d := by unfold stayP; rw [Bool.not_not]
      rw [hlq] at HLT
      clear hlq
      by_cases hs : stayP time d = true
      · have HKP := Hid.mk (HKP.out hs)
        rw [hs] at HLT
        clear hs
        go_wp2_with (refine wl_callC en_late rfl rfl rfl (vs := #[.agg (SC 17 V), .agg (SC 3 (paV d.2)), .pointer (some ⟨g1, 0, none⟩)]) (args2 (X := .agg (SC 17 V)) (Y := .agg (SC 3 (paV d.2))) rfl rfl) rfl (HLT.out.mono (fun e w' he => ⟨_, he.1, rfl, he.2⟩)) (R := fun v w' => v = .bool false ∧ Below w8.heap.size w8 w') ?_; rintro v w9 ⟨rfl, hB9⟩; refine Hid.out ?_)
        refine Hid.mk ?_
        have HT9 := Hid.mk (touch_fresh HT8.out hB9)
        have HRG3 := Hid.mk (HRG2.out.kept hB9)
        clear hB9
        go_wp2_with fail
        go_roundg left'.length
        case rel => exact ⟨left', Hid.mk rfl, Hid.mk (by rw [← HKP.out]; exact HRG3.out), HN', HT9⟩
        case measure => have h1 := HLE.out; have h2 := HL0.out; simp at h1; omega
      · have hs : stayP time d = false := by simpa using hs
        have HDR := Hid.mk (HDR.out hs)
        rw [hs] at HLT
        clear hs
        go_wp2_with (refine wl_callC en_late rfl rfl rfl (vs := #[.agg (SC 17 V), .agg (SC 3 (paV d.2)), .pointer (some ⟨g1, 0, none⟩)]) (args2 (X := .agg (SC 17 V)) (Y := .agg (SC 3 (paV d.2))) rfl rfl) rfl (HLT.out.mono (fun e w' he => ⟨_, he.1, rfl, he.2⟩)) (R := fun v w' => v = .bool true ∧ Below w8.heap.size w8 w') ?_; rintro v w9 ⟨rfl, hB9⟩; refine Hid.out ?_)
        refine Hid.mk ?_
        have HT9 := Hid.mk (touch_fresh HT8.out hB9)
        have HRG3 := Hid.mk (HRG2.out.kept hB9)
        have s9 := s7.kept hB9
        have HND2 : Hid (((midP L time left).map (·.1)).Nodup) := Hid.mk (List.Nodup.sublist (List.Sublist.map _ List.filter_sublist) HND.out)
        clear hB9 s7
        go_wp2_with (refine wl_value rfl (look_st rfl isAddr s9 rfl) ?_; refine Hid.out ?_)
        refine Hid.mk ?_
        go_wp2_with (refine wl_delR rfl rfl rfl rfl HRG3.out HND2.out HDM.out HNI.out HK.out ?_; intro w10 hrg10 ho10; refine Hid.out ?_)
        refine Hid.mk ?_
        have HRG10 := Hid.mk hrg10
        have HT10 := Hid.mk (touch_only2 HT9.out ho10 (.inl rfl))
        clear hrg10 ho10
        go_wp2_with fail
        go_roundg left'.length
        case rel => exact ⟨left', Hid.mk rfl, Hid.mk (by rw [← HDR.out]; exact HRG10.out), HN', HT10⟩
        case measure => have h1 := HLE.out; have h2 := HL0.out; simp at h1; omega
set_option maxHeartbeats 4000000 in
theorem DeleteFuncN_run {w : World} {f : Value} : Calls Tryd.prog 28 #[.map none, f] w fun e w' => e = .returned (.tuple #[]) ∧ Below w.heap.size w w' := by
  go_enter Tryd.func28, Tryd.ntmps28
  go_wp2_with (refine wl_rangeN rfl rfl rfl ?_; intro r w1 hnx hB1; refine Hid.out ?_)
  refine Hid.mk ?_
  have HNX := Hid.mk hnx
  clear hnx
  go_wp2_with fail
  go_loopg [] 1 (fun gm z => z = w1)
  case atStart => exact rfl
  case round =>
    subst hrel
    go_wp2_with (refine wl_value rfl (exec_nextN rfl rfl HNX.out) ?_; refine Hid.out ?_)
    refine Hid.mk ?_
    go_wp2_with fail
    exact bodyPost_end (results_none rfl _ _ _) rfl ⟨rfl, hB1⟩
end Go.Proofs.YtojekoakgpkkdabDoor

/-
  Own text. What is known of paths: the time told, one kept, learned, asked.
-/
namespace Go.Proofs.YtojekoakgpkkdabDoor
open Go.RowKit Go.Proofs
set_option maxRecDepth 100000
/-- What is known of paths, in the order in which it was learned. -/
structure PtS where
  t : Int
  c : Int
  L : List (Ad × Pth)
def tellP (S : PtS) (now : Int) : PtS := ⟨max S.t now, S.c, S.L.filter (stayP (max S.t now))⟩
def outP (L : List (Ad × Pth)) (k : Ad) : List (Ad × Pth) := L.filter (fun d => !decide (d.1 = k))
def roomP (L : List (Ad × Pth)) : List (Ad × Pth) := if L.length = 16 then L.drop 1 else L
def keepP (S : PtS) (k : Ad) (m : Int) : PtS := ⟨S.t, S.c + 1, roomP (outP S.L k) ++ [(k, ⟨m, S.t, S.c⟩)]⟩
structure InvP (S : PtS) : Prop where
  t0 : 0 ≤ S.t
  t1 : S.t < 9223372036854775808
  c0 : 0 ≤ S.c
  nodup : (S.L.map (·.1)).Nodup
  born : ∀ d ∈ S.L, 0 ≤ d.2.born ∧ d.2.born ≤ S.t
  num : ∀ d ∈ S.L, d.2.num < S.c
  rise : S.L.Pairwise (fun d e => d.2.num < e.2.num)
theorem InvP.tell {S : PtS} (h : InvP S) {now : Int} (hn : now < 9223372036854775808) : InvP (tellP S now) := by
  have hm : S.t ≤ max S.t now := Int.le_max_left _ _
  have hsub : ∀ d ∈ (tellP S now).L, d ∈ S.L := fun d hd => (List.mem_filter.1 hd).1
  refine ⟨Int.le_trans h.t0 hm, ?_, h.c0, ?_, fun d hd => ⟨(h.born d (hsub d hd)).1, Int.le_trans (h.born d (hsub d hd)).2 hm⟩, fun d hd => h.num d (hsub d hd), h.rise.filter _⟩
  · have := h.t1
    show max S.t now < _
    omega
  · exact List.Nodup.sublist (List.Sublist.map _ List.filter_sublist) h.nodup
theorem mem_room {L : List (Ad × Pth)} {k : Ad} {d : Ad × Pth} (h : d ∈ roomP (outP L k)) : d ∈ L ∧ d.1 ≠ k := by
  have : d ∈ outP L k := by
    unfold roomP at h
    split at h
    · exact List.mem_of_mem_drop h
    · exact h
  have := List.mem_filter.1 this
  exact ⟨this.1, by simpa using this.2⟩
theorem sub_room (L : List (Ad × Pth)) (k : Ad) : List.Sublist (roomP (outP L k)) L := by
  unfold roomP
  split
  · exact (List.drop_sublist _ _).trans List.filter_sublist
  · exact List.filter_sublist
theorem InvP.keep {S : PtS} (h : InvP S) (k : Ad) (m : Int) : InvP (keepP S k m) := by
  refine ⟨h.t0, h.t1, ?_, ?_, fun d hd => ?_, fun d hd => ?_, ?_⟩
  · have := h.c0
    show 0 ≤ S.c + 1
    omega
  · show ((roomP (outP S.L k) ++ [(k, _)]).map (fun d : Ad × Pth => d.1)).Nodup
    rw [List.map_append, List.nodup_append]
    refine ⟨List.Nodup.sublist (List.Sublist.map _ (sub_room _ _)) h.nodup, by simp, fun x hx y hy e => ?_⟩
    simp at hy
    obtain ⟨d, hd, rfl⟩ := List.mem_map.1 hx
    exact (mem_room hd).2 (e.trans hy)
  · rcases List.mem_append.1 hd with hd | hd
    · exact h.born d (mem_room hd).1
    · simp at hd
      subst hd
      exact ⟨h.t0, Int.le_refl _⟩
  · show d.2.num < S.c + 1
    rcases List.mem_append.1 hd with hd | hd
    · have := h.num d (mem_room hd).1; omega
    · simp at hd
      subst hd
      show S.c < S.c + 1
      omega
  · show (roomP (outP S.L k) ++ [(k, _)]).Pairwise _
    rw [List.pairwise_append]
    refine ⟨h.rise.sublist (sub_room _ _), by simp, fun d hd e he => ?_⟩
    simp at he
    subst he
    exact h.num d (mem_room hd).1
/-- What the blocks of the paths do not include stays. -/
def Spares (N : Nat → Prop) (w w' : World) : Prop := Touch (fun k => ¬ N k) w w'
theorem Spares.trans {N : Nat → Prop} {u v w : World} (h : Spares N u v) (k : Spares N v w) : Spares N u w := ⟨k.os.trans h.os, k.tape.trans h.tape, k.output.trans h.output, Nat.le_trans h.size k.size, fun j hj hn => (k.block j (Nat.lt_of_lt_of_le hj h.size) hn).trans (h.block j hj hn)⟩
theorem spares_below {N : Nat → Prop} {w w' : World} (h : Below w.heap.size w w') : Spares N w w' := (touch_below h).mono (fun _ _ h => h.elim)
theorem spares_only {N : Nat → Prop} {g : Nat} {w w' : World} (h : Only g w w') (hg : ¬ N g) : Spares N w w' := (touch_only h).mono (fun k _ (e : k = g) => e ▸ hg)
theorem spares_touch {N : Nat → Prop} {g : Nat} {w w' : World} (h : Touch (fun k => k = g) w w') (hg : ¬ N g) : Spares N w w' := h.mono (fun k _ (e : k = g) => e ▸ hg)
/-- The map of the paths: none yet, or a block. -/
def MvAt (w : World) (mv : Value) (L : List (Ad × Pth)) : Prop := (mv = .map none ∧ L = []) ∨ ∃ m, mv = .map (some m) ∧ MapAt w m L
theorem MvAt.kept {w w' : World} {mv : Value} {L : List (Ad × Pth)} (h : MvAt w mv L) (hb : Below w.heap.size w w') : MvAt w' mv L := by
  rcases h with h | ⟨m, e, hm⟩
  · exact .inl h
  · exact .inr ⟨m, e, hm.kept hb⟩
structure PtAt (w : World) (B : Nat) (N : Nat → Prop) (g : Nat) (mv : Value) (S : PtS) : Prop where
  inv : InvP S
  at_ : SAt w g 49 3 (ptV mv S.t S.c)
  map : MvAt w mv S.L
  gN : ¬ N g
  mN : ∀ m, mv = .map (some m) → ¬ N m
  nB : ∀ k, N k → k < B
  bw : B ≤ w.heap.size
theorem PtAt.kept {w w' : World} {B : Nat} {N : Nat → Prop} {g : Nat} {mv : Value} {S : PtS} (h : PtAt w B N g mv S) (hb : Below w.heap.size w w') : PtAt w' B N g mv S := { h with at_ := h.at_.kept hb, map := h.map.kept hb, bw := Nat.le_trans h.bw hb.size }
theorem PtAt.mapS {w : World} {B : Nat} {N : Nat → Prop} {g m : Nat} {S : PtS} (h : PtAt w B N g (.map (some m)) S) : MapAt w m S.L := by
  rcases h.map with ⟨e, _⟩ | ⟨m', e, hm⟩
  · cases e
  · cases e; exact hm
theorem run_nilPt (p : Addr) (w : World) : Sem.run Tryd.prog (binOp .eql 31 (.pointer (some p)) (.pointer none)) w = .ok (.bool false) w := by kernel_rfl
theorem wl_boxPt {ops : Array Oper} {rest : List Oper} {o : Oper} {x : Operand} {a : Act} {w : World} {Q : Exit → Act → World → Prop} {ad : Addr} (ho : o.op = .box 31 x) (hw : Region.wanted o (yielded ops a.tmps) = true) (hx : a.eval x = .pointer (some ad))
    (h : ∀ g w', w.heap.size ≤ g → w'.cell? ⟨g, 0, none⟩ = some (.pointer (some ad)) → Below w.heap.size w w' → wpList Tryd.prog ops Q rest (a.put o.dst (.pointer (some ⟨g, 0, none⟩))) w') : wpList Tryd.prog ops Q (o :: rest) a w := by
  refine wl_act hw ?_
  unfold Oper.wp execOp
  simp only [ho, hx]
  simp [go_sem]
  refine h _ _ (Nat.le_refl _) ?_ ((Below.refl _ _).alloc (Nat.le_refl _) _)
  unfold World.cell?
  rw [heap_alloc_new]
  rfl
set_option maxHeartbeats 8000000 in
theorem tellS_run {w : World} {B : Nat} {N : Nat → Prop} {g m : Nat} {S : PtS} {now : Int} (h : PtAt w B N g (.map (some m)) S) (hn : now < 9223372036854775808) : Calls Tryd.prog 16 #[.pointer (some ⟨g, 0, none⟩), .int .i64 now] w fun e w' => e = .returned (.tuple #[]) ∧ PtAt w' B N g (.map (some m)) (tellP S now) ∧ Spares N w w' := by
  have HP := Hid.mk h
  have HI := Hid.mk (h.inv.tell hn)
  have hat := h.at_
  have hgl := heap_lt h.at_
  clear h
  obtain ⟨t', ht'⟩ : ∃ x, max S.t now = x := ⟨_, rfl⟩
  have HT := Hid.mk ht'
  clear ht'
  go_enter Tryd.func16, Tryd.ntmps16
  go_wp2_with (refine wl_boxPt rfl rfl rfl ?_; intro g1 w1 hg1 c1 hB1; refine Hid.out ?_)
  refine Hid.mk ?_
  have s1 := hat.kept hB1
  have l1 := World.block_lt_of_cell? _ _ c1
  have l2 := heap_lt s1
  have hne : g ≠ g1 := by omega
  clear hat
  go_upto_region 1 with fail
  refine wp_region_cut 9 rfl (by kernel_rfl) (any_region3 (Below w1.heap.size w1) (w1.heap.size)
      ([] : List (Nat × Cont))
      [kv (.pointer (some ⟨g, 0, none⟩)), kv (.pointer (some ⟨g, 0, none⟩)), kv (.pointer (some ⟨g, 0, none⟩)), kv (.pointer (some ⟨g, 1, none⟩)), kv (.int .i64 S.t), kv (.int .i64 now), kv (.int .i64 t'), kv (.pointer (some ⟨g, 0, none⟩)), kv (.pointer (some ⟨g, 1, none⟩))]
      [.none, .none, .none, .none, .none, .none, .none, .none, .none]
      [some 4, some 5, some 6, some 7, some 8, some 9, some 10, some 11, some 12]
      [(1, .int .i64 now), (2, .pointer (some ⟨g1, 0, none⟩))]
      [[], [], [.slot 1], [.slot 2], [.slot 3], [], [.slot 4, .slot 5], [.slot 0], [.slot 7]]
      [.slot 6, .slot 8] [4, 5, 6, 7, 8, 9, 10, 11, 12]
      (by kernel_rfl) ⟨rfl, rfl, trivial⟩ ((Below.refl _ w1).drew) (Nat.le_refl _) trivial trivial (below_GcW (Nat.le_refl _))
      ⟨
      (fun QQ aa ww own hS hBg fr kn => .inl ⟨trivial, fun K hK => wp_value (exec_ld rfl fr.2.1 (ldPp ((hS.cell (p := ⟨g1, 0, none⟩) l1).trans c1))) (hK _ _ ⟨Touch.refl _ _, rfl⟩)⟩),
      (fun QQ aa ww own hS hBg fr kn => .inl ⟨trivial, fun K hK => wp_value (exec_ld rfl fr.2.1 (ldPp ((hS.cell (p := ⟨g1, 0, none⟩) l1).trans c1))) (hK _ _ ⟨Touch.refl _ _, rfl⟩)⟩),
      (fun QQ aa ww own hS hBg fr kn => .inl ⟨trivial, fun K hK => wp_value (exec_nilc rfl kn.1) (hK _ _ ⟨Touch.refl _ _, rfl⟩)⟩),
      (fun QQ aa ww own hS hBg fr kn => .inl ⟨trivial, fun K hK => wp_value (exec_fpt 1 (by decide) rfl kn.1) (hK _ _ ⟨Touch.refl _ _, rfl⟩)⟩),
      (fun QQ aa ww own hS hBg fr kn => .inl ⟨trivial, fun K hK => wp_value (exec_ld rfl kn.1 (ldP (pt_time (s1.kept hS)))) (hK _ _ ⟨Touch.refl _ _, rfl⟩)⟩),
      (fun QQ aa ww own hS hBg fr kn => .inl ⟨trivial, fun K hK => wp_value (exec_move rfl fr.1) (hK _ _ ⟨Touch.refl _ _, rfl⟩)⟩),
      (fun QQ aa ww own hS hBg fr kn => .inl ⟨trivial, fun K hK => wp_value (exec_maxI rfl kn.1 kn.2.1 HT.out) (hK _ _ ⟨Touch.refl _ _, rfl⟩)⟩),
      (fun QQ aa ww own hS hBg fr kn => .inl ⟨trivial, fun K hK => wp_value (exec_nilc rfl kn.1) (hK _ _ ⟨Touch.refl _ _, rfl⟩)⟩),
      (fun QQ aa ww own hS hBg fr kn => .inl ⟨trivial, fun K hK => wp_value (exec_fpt 1 (by decide) rfl kn.1) (hK _ _ ⟨Touch.refl _ _, rfl⟩)⟩),
      trivial⟩ ?_)
  intro vs own w2 hB2 hsz kn inj
  have e10 : vs 10 = .int .i64 t' := kn.1
  have e12 : vs 12 = .pointer (some ⟨g, 1, none⟩) := kn.2.1
  clear kn inj hsz
  show wpList Tryd.prog _ _ (_ :: []) _ _
  simp only [putAll, Act.put, List.setIfInBounds_toArray, List.set_cons_zero, List.set_cons_succ, e10, e12]
  clear e10 e12
  have s2 := s1.kept hB2
  have c1 := (hB2.cell (p := ⟨g1, 0, none⟩) l1).trans c1
  go_wp2_with (refine wl_sF (n := 3) (z := .int .i64 t') (V' := ptV (.map (some m)) t' S.c) rfl rfl rfl rfl (by decide) (sI t') s2 (up3 ⟨rfl, rfl, rfl⟩) ?_; intro w3 s3 ho3; refine Hid.out ?_)
  refine Hid.mk ?_
  have c1 := (cell_blk (p := ⟨g1, 0, none⟩) (ho3.block g1 hne.symm)).trans c1
  have hS3 : Spares N w w3 := ((spares_below hB1).trans (spares_below hB2)).trans (spares_only ho3 HP.out.gN)
  have hm3 : MapAt w3 m S.L := ((HP.out.mapS.kept hB1).kept hB2).block (ho3.block m (fun e => HP.out.mapS.ne HP.out.at_ e.symm))
  have HDF := Hid.mk (DeleteFunc_run s3 hm3 HP.out.inv.nodup (fun d hd => ⟨(HP.out.inv.born d hd).1, by have h1 := (HP.out.inv.born d hd).2; have h2 := Int.le_max_left S.t now; rw [HT.out] at h2; omega⟩) (by have := HI.out.t1; rw [← HT.out]; exact this) c1)
  have HM3 := Hid.mk hm3
  clear hm3
  go_wp2_with (refine wl_value rfl (exec_ld rfl rfl (ldPp c1)) ?_; refine Hid.out ?_)
  refine Hid.mk ?_
  go_wp2_with (refine wl_value rfl (exec_fpt 0 (by decide) rfl rfl) ?_; refine Hid.out ?_)
  refine Hid.mk ?_
  go_wp2_with (refine wl_value rfl (exec_ld rfl rfl (ldM (pt_map s3))) ?_; refine Hid.out ?_)
  refine Hid.mk ?_
  go_wp2_with (refine wl_value rfl (exec_mkC rfl rfl) ?_; refine Hid.out ?_)
  refine Hid.mk ?_
  go_wp2_with (go_at_call 28; refine HDF.out.mono ?_; rintro e w4 ⟨rfl, hm4, hT4⟩; refine Hid.out ?_)
  refine Hid.mk ?_
  go_wp2_with fail
  have s4 := s3.tou hT4 (HM3.out.ne s3)
  have hS4 := hS3.trans (spares_touch hT4 (HP.out.mN m rfl))
  exact bodyPost_end (results_none rfl _ _ _) rfl ⟨rfl, ⟨HI.out, by show SAt w4 g _ 3 (ptV _ (max S.t now) S.c); rw [HT.out]; exact s4, .inr ⟨m, rfl, by show MapAt w4 m (S.L.filter (stayP (max S.t now))); rw [HT.out]; exact hm4⟩, HP.out.gN, HP.out.mN, HP.out.nB, Nat.le_trans HP.out.bw hS4.size⟩, hS4⟩
set_option maxHeartbeats 8000000 in
theorem tellN_run {w : World} {B : Nat} {N : Nat → Prop} {g : Nat} {S : PtS} {now : Int} (h : PtAt w B N g (.map none) S) (hn : now < 9223372036854775808) : Calls Tryd.prog 16 #[.pointer (some ⟨g, 0, none⟩), .int .i64 now] w fun e w' => e = .returned (.tuple #[]) ∧ PtAt w' B N g (.map none) (tellP S now) ∧ Spares N w w' := by
  have HP := Hid.mk h
  have HI := Hid.mk (h.inv.tell hn)
  have hat := h.at_
  have hgl := heap_lt h.at_
  clear h
  obtain ⟨t', ht'⟩ : ∃ x, max S.t now = x := ⟨_, rfl⟩
  have HT := Hid.mk ht'
  clear ht'
  go_enter Tryd.func16, Tryd.ntmps16
  go_wp2_with (refine wl_boxPt rfl rfl rfl ?_; intro g1 w1 hg1 c1 hB1; refine Hid.out ?_)
  refine Hid.mk ?_
  have s1 := hat.kept hB1
  have l1 := World.block_lt_of_cell? _ _ c1
  have l2 := heap_lt s1
  have hne : g ≠ g1 := by omega
  clear hat
  go_upto_region 1 with fail
  refine wp_region_cut 9 rfl (by kernel_rfl) (any_region3 (Below w1.heap.size w1) (w1.heap.size)
      ([] : List (Nat × Cont))
      [kv (.pointer (some ⟨g, 0, none⟩)), kv (.pointer (some ⟨g, 0, none⟩)), kv (.pointer (some ⟨g, 0, none⟩)), kv (.pointer (some ⟨g, 1, none⟩)), kv (.int .i64 S.t), kv (.int .i64 now), kv (.int .i64 t'), kv (.pointer (some ⟨g, 0, none⟩)), kv (.pointer (some ⟨g, 1, none⟩))]
      [.none, .none, .none, .none, .none, .none, .none, .none, .none]
      [some 4, some 5, some 6, some 7, some 8, some 9, some 10, some 11, some 12]
      [(1, .int .i64 now), (2, .pointer (some ⟨g1, 0, none⟩))]
      [[], [], [.slot 1], [.slot 2], [.slot 3], [], [.slot 4, .slot 5], [.slot 0], [.slot 7]]
      [.slot 6, .slot 8] [4, 5, 6, 7, 8, 9, 10, 11, 12]
      (by kernel_rfl) ⟨rfl, rfl, trivial⟩ ((Below.refl _ w1).drew) (Nat.le_refl _) trivial trivial (below_GcW (Nat.le_refl _))
      ⟨
      (fun QQ aa ww own hS hBg fr kn => .inl ⟨trivial, fun K hK => wp_value (exec_ld rfl fr.2.1 (ldPp ((hS.cell (p := ⟨g1, 0, none⟩) l1).trans c1))) (hK _ _ ⟨Touch.refl _ _, rfl⟩)⟩),
      (fun QQ aa ww own hS hBg fr kn => .inl ⟨trivial, fun K hK => wp_value (exec_ld rfl fr.2.1 (ldPp ((hS.cell (p := ⟨g1, 0, none⟩) l1).trans c1))) (hK _ _ ⟨Touch.refl _ _, rfl⟩)⟩),
      (fun QQ aa ww own hS hBg fr kn => .inl ⟨trivial, fun K hK => wp_value (exec_nilc rfl kn.1) (hK _ _ ⟨Touch.refl _ _, rfl⟩)⟩),
      (fun QQ aa ww own hS hBg fr kn => .inl ⟨trivial, fun K hK => wp_value (exec_fpt 1 (by decide) rfl kn.1) (hK _ _ ⟨Touch.refl _ _, rfl⟩)⟩),
      (fun QQ aa ww own hS hBg fr kn => .inl ⟨trivial, fun K hK => wp_value (exec_ld rfl kn.1 (ldP (pt_time (s1.kept hS)))) (hK _ _ ⟨Touch.refl _ _, rfl⟩)⟩),
      (fun QQ aa ww own hS hBg fr kn => .inl ⟨trivial, fun K hK => wp_value (exec_move rfl fr.1) (hK _ _ ⟨Touch.refl _ _, rfl⟩)⟩),
      (fun QQ aa ww own hS hBg fr kn => .inl ⟨trivial, fun K hK => wp_value (exec_maxI rfl kn.1 kn.2.1 HT.out) (hK _ _ ⟨Touch.refl _ _, rfl⟩)⟩),
      (fun QQ aa ww own hS hBg fr kn => .inl ⟨trivial, fun K hK => wp_value (exec_nilc rfl kn.1) (hK _ _ ⟨Touch.refl _ _, rfl⟩)⟩),
      (fun QQ aa ww own hS hBg fr kn => .inl ⟨trivial, fun K hK => wp_value (exec_fpt 1 (by decide) rfl kn.1) (hK _ _ ⟨Touch.refl _ _, rfl⟩)⟩),
      trivial⟩ ?_)
  intro vs own w2 hB2 hsz kn inj
  have e10 : vs 10 = .int .i64 t' := kn.1
  have e12 : vs 12 = .pointer (some ⟨g, 1, none⟩) := kn.2.1
  clear kn inj hsz
  show wpList Tryd.prog _ _ (_ :: []) _ _
  simp only [putAll, Act.put, List.setIfInBounds_toArray, List.set_cons_zero, List.set_cons_succ, e10, e12]
  clear e10 e12
  have s2 := s1.kept hB2
  have c1 := (hB2.cell (p := ⟨g1, 0, none⟩) l1).trans c1
  go_wp2_with (refine wl_sF (n := 3) (z := .int .i64 t') (V' := ptV (.map none) t' S.c) rfl rfl rfl rfl (by decide) (sI t') s2 (up3 ⟨rfl, rfl, rfl⟩) ?_; intro w3 s3 ho3; refine Hid.out ?_)
  refine Hid.mk ?_
  have c1 := (cell_blk (p := ⟨g1, 0, none⟩) (ho3.block g1 hne.symm)).trans c1
  have hS3 : Spares N w w3 := ((spares_below hB1).trans (spares_below hB2)).trans (spares_only ho3 HP.out.gN)
  go_wp2_with (refine wl_value rfl (exec_ld rfl rfl (ldPp c1)) ?_; refine Hid.out ?_)
  refine Hid.mk ?_
  go_wp2_with (refine wl_value rfl (exec_fpt 0 (by decide) rfl rfl) ?_; refine Hid.out ?_)
  refine Hid.mk ?_
  go_wp2_with (refine wl_value rfl (exec_ld rfl rfl (ldM (pt_map s3))) ?_; refine Hid.out ?_)
  refine Hid.mk ?_
  go_wp2_with (refine wl_value rfl (exec_mkC rfl rfl) ?_; refine Hid.out ?_)
  refine Hid.mk ?_
  go_wp2_with (go_at_call 28; refine DeleteFuncN_run.mono ?_; rintro e w4 ⟨rfl, hB4⟩; refine Hid.out ?_)
  refine Hid.mk ?_
  go_wp2_with fail
  have s4 := s3.kept hB4
  have hS4 := hS3.trans (spares_below hB4)
  have hL : S.L = [] := by
    rcases HP.out.map with ⟨_, e⟩ | ⟨m, e, _⟩
    · exact e
    · cases e
  exact bodyPost_end (results_none rfl _ _ _) rfl ⟨rfl, ⟨HI.out, by show SAt w4 g _ 3 (ptV _ (max S.t now) S.c); rw [HT.out]; exact s4, .inl ⟨rfl, by show S.L.filter _ = []; rw [hL]; rfl⟩, HP.out.gN, HP.out.mN, HP.out.nB, Nat.le_trans HP.out.bw hS4.size⟩, hS4⟩
theorem tell_run {w : World} {B : Nat} {N : Nat → Prop} {g : Nat} {mv : Value} {S : PtS} {now : Int} (h : PtAt w B N g mv S) (hn : now < 9223372036854775808) : Calls Tryd.prog 16 #[.pointer (some ⟨g, 0, none⟩), .int .i64 now] w fun e w' => e = .returned (.tuple #[]) ∧ PtAt w' B N g mv (tellP S now) ∧ Spares N w w' := by
  rcases h.map with ⟨rfl, _⟩ | ⟨m, rfl, _⟩
  · exact tellN_run h hn
  · exact tellS_run h hn
end Go.Proofs.YtojekoakgpkkdabDoor

/-
  Own text. A path kept, learned, asked; new paths.
-/
namespace Go.Proofs.YtojekoakgpkkdabDoor
open Go.RowKit Go.Proofs
set_option maxRecDepth 100000
theorem run_nilM (m : Nat) (w : World) : Sem.run Tryd.prog (binOp .eql 47 (.map (some m)) (.map none)) w = .ok (.bool false) w := by kernel_rfl
theorem run_nilM0 (w : World) : Sem.run Tryd.prog (binOp .eql 47 (.map none) (.map none)) w = .ok (.bool true) w := by kernel_rfl
section
variable {ops : Array Oper} {rest : List Oper} {o : Oper} {a : Act} {w : World} {Q : Exit → Act → World → Prop}
theorem exec_nilM {x : Operand} (ho : o.op = .binOp .eql 47 x (.const (.map none)) 47) {m : Nat} (hx : a.eval x = .map (some m)) : (execOp a.eval o).run Tryd.prog w = .ok (.value (.bool false)) w := exec_bin2 ho hx rfl rfl (run_nilM m w)
theorem exec_nilM0 {x : Operand} (ho : o.op = .binOp .eql 47 x (.const (.map none)) 47) (hx : a.eval x = .map none) : (execOp a.eval o).run Tryd.prog w = .ok (.value (.bool true)) w := exec_bin2 ho hx rfl rfl (run_nilM0 w)
theorem wl_mkM (ho : o.op = .makeMap 47 none) (hw : Region.wanted o (yielded ops a.tmps) = true)
    (h : ∀ m w', w.heap.size ≤ m → MapAt w' m [] → Below w.heap.size w w' → wpList Tryd.prog ops Q rest (a.put o.dst (.map (some m))) w') : wpList Tryd.prog ops Q (o :: rest) a w := by
  refine wl_act hw ?_
  unfold Oper.wp execOp
  simp only [ho, Option.map_none, Sem.run_bind, run_makeMap, Result.andThen_ok, Sem.run_pure, Oper.upon]
  exact h _ _ (Nat.le_refl _) ⟨#[], 0, heap_alloc_new _ _, trivial, List.nodup_nil, fun x hx => (by cases hx)⟩ ((Below.refl _ _).alloc (Nat.le_refl _) _)
theorem wl_newF {x y z : Operand} {m : Nat} {p : Pth} {L : List (Ad × Pth)} {k : Value} {F : Ad} (ho : o.op = .mapUpdate 47 x y z) (hw : Region.wanted o (yielded ops a.tmps) = true) (hx : a.eval x = .map (some m)) (hy : a.eval y = k) (hz : a.eval z = .agg (SC 3 (paV p))) (hm : MapAt w m L) (hk : KeyIs k F) (hno : ∀ c ∈ L, c.1 ≠ F)
    (h : ∀ w', MapAt w' m (L ++ [(F, p)]) → Only m w w' → wpList Tryd.prog ops Q rest (a.put o.dst undef) w') : wpList Tryd.prog ops Q (o :: rest) a w := by
  obtain ⟨w', hr, h1, h2⟩ := run_newF hm hk hno p
  have hr : (Instr.mapUpdate 47 (.map (some m)) k (.agg (SC 3 (paV p)))).run Tryd.prog w = .ok () w' := hr
  refine wl_act hw ?_
  unfold Oper.wp execOp
  simp only [ho, hx, hy, hz, Sem.run_bind, hr, Result.andThen_ok, Sem.run_pure, Oper.upon]
  exact h _ h1 h2
theorem exec_lenM {x : Operand} (ho : o.op = .call { callee := .builtin .len, args := #[x], argTypes := #[47] }) {m : Nat} {L : List (Ad × Pth)} (hm : MapAt w m L) (hx : a.eval x = .map (some m)) : (execOp a.eval o).run Tryd.prog w = .ok (.value (.int .i64 (L.length : Int))) w := by
  have hr := run_lenF hm o.type
  simp [execOp, ho, resolve, invoke, builtin, hx, hr]
end
theorem stM {g f : Nat} {c : Value} (n : Option Nat) : ∀ w : World, w.cell? ⟨g, f, none⟩ = some c → w.frozen? ⟨g, f, none⟩ = false → (Instr.storeAt 47 (.pointer (some ⟨g, f, none⟩)) (.map n)).run Tryd.prog w = .ok () (w.setCell ⟨g, f, none⟩ (.map n)) := fun w h1 h2 => by simp [go_sem, h1, h2]
theorem run_bdPa (p : Pth) (w : World) : (Instr.build 58 #[(0, .int .i64 p.mtu), (1, .int .i64 p.born), (2, .int .i64 p.num)]).run Tryd.prog w = .ok (.agg (SC 3 (paV p))) w := by kernel_rfl
theorem exec_bdPa {a : Act} {o : Oper} {w : World} {x y z : Operand} {m n q : Int} (ho : o.op = .build 58 #[(0, x), (1, y), (2, z)]) (hx : a.eval x = .int .i64 m) (hy : a.eval y = .int .i64 n) (hz : a.eval z = .int .i64 q) : (execOp a.eval o).run Tryd.prog w = .ok (.value (.agg (SC 3 (paV ⟨m, n, q⟩)))) w := by
  have := run_bdPa ⟨m, n, q⟩ w
  unfold execOp
  simp only [ho, List.map_toArray, List.map_cons, List.map_nil, hx, hy, hz, Sem.run_bind, this, Result.andThen_ok, Sem.run_pure]
theorem run_look0 {k : Value} {F : Ad} (hk : KeyIs k F) (w : World) : (Instr.lookup 47 (.map none) k true).run Tryd.prog w = .ok (.tuple #[.agg (SC 3 (paV ⟨0, 0, 0⟩)), .bool false]) w := by
  unfold Instr.lookup
  simp only [Sem.run_bind, run_underlying Tryd.underlying47 w, Result.andThen_ok]
  simp [chk_key hk]
  rfl
def lookP (L : List (Ad × Pth)) (k : Ad) : Pth := match hasK L k with | some c => c.2 | none => ⟨0, 0, 0⟩
theorem exec_lookA {a : Act} {o : Oper} {w : World} {x y : Operand} {mv : Value} {L : List (Ad × Pth)} {k : Value} {F : Ad} (ho : o.op = .lookup 47 x y true) (hx : a.eval x = mv) (hy : a.eval y = k) (hk : KeyIs k F) (hm : MvAt w mv L) : (execOp a.eval o).run Tryd.prog w = .ok (.value (.tuple #[.agg (SC 3 (paV (lookP L F))), .bool (hasK L F).isSome])) w := by
  rcases hm with ⟨rfl, rfl⟩ | ⟨m, rfl, hm⟩
  · have hr := run_look0 hk w
    unfold execOp
    simp only [ho, hx, hy, Sem.run_bind, hr, Result.andThen_ok, Sem.run_pure]
    rfl
  · have hr := run_lookF hm hk true
    have e : lookV L F = .agg (SC 3 (paV (lookP L F))) := by
      unfold lookV lookP
      cases hasK L F <;> rfl
    rw [if_pos rfl, e] at hr
    unfold execOp
    simp only [ho, hx, hy, Sem.run_bind, hr, Result.andThen_ok, Sem.run_pure]
theorem keyA (v : Bool) (b : Nat → Int) : KeyIs (.agg (SC 17 (adV v b))) (adK v b) := ⟨v, b, rfl, rfl⟩
set_option maxHeartbeats 16000000 in
theorem keepS_run {w : World} {B : Nat} {N : Nat → Prop} {g m : Nat} {S : PtS} {v : Bool} {b : Nat → Int} {mtu : Int} (h : PtAt w B N g (.map (some m)) S) (hc : S.c < 9223372036854775807) (hf : (outP S.L (adK v b)).length ≠ 16) : Calls Tryd.prog 18 #[.pointer (some ⟨g, 0, none⟩), .agg (SC 17 (adV v b)), .int .i64 mtu] w fun e w' => e = .returned (.tuple #[]) ∧ (∃ mv', PtAt w' B N g mv' (keepP S (adK v b) mtu)) ∧ Spares N w w' := by
  have HP := Hid.mk h
  have hat := h.at_
  have HC := Hid.mk hc
  have HI := Hid.mk (h.inv.keep (adK v b) mtu)
  have HF : Hid (decide (((outP S.L (adK v b)).length : Int) = 16) = false) := Hid.mk (decide_eq_false (by omega))
  have HR : Hid (roomP (outP S.L (adK v b)) = outP S.L (adK v b)) := Hid.mk (by unfold roomP; rw [if_neg hf])
  clear h hc hf
  go_enter Tryd.func18, Tryd.ntmps18
  go_wp2_with (refine wl_boxO (V := adV v b) rfl rfl isAddr rfl ?_; intro g4 w1 hg4 k1 hB1; refine Hid.out ?_)
  refine Hid.mk ?_
  have s1 := hat.kept hB1
  have hne : g ≠ g4 := by have := heap_lt hat; omega
  clear hat
  have hm1 := HP.out.mapS.kept hB1
  have hS1 : Spares N w w1 := spares_below hB1
  have hmN := HP.out.mN m rfl
  have hgm : g ≠ m := HP.out.mapS.ne HP.out.at_
  go_wp2_with (refine wl_value rfl (exec_fpt 0 (by decide) rfl rfl) ?_; refine Hid.out ?_)
  refine Hid.mk ?_
  go_wp2_with (refine wl_value rfl (exec_ld rfl rfl (ldM (pt_map s1))) ?_; refine Hid.out ?_)
  refine Hid.mk ?_
  go_wp2_with (refine wl_value rfl (exec_nilM rfl rfl) ?_; refine Hid.out ?_)
  refine Hid.mk ?_
  have HM1 := Hid.mk hm1
  clear hm1
  go_upto_region 3 with fail
  refine wp_region_cut 5 rfl (by kernel_rfl) (any_region3 (Below w1.heap.size w1) (w1.heap.size)
      ([] : List (Nat × Cont))
      [kv (.pointer (some ⟨g, 0, none⟩)), kv (.pointer (some ⟨g, 0, none⟩)), kv (.pointer (some ⟨g, 0, none⟩)), kv (.map (some m)), kv (.agg (SC 17 (adV v b)))]
      [.none, .none, .none, .none, .none]
      [some 15, some 16, some 17, some 18, some 19]
      [(0, .pointer (some ⟨g, 0, none⟩)), (4, .pointer (some ⟨g4, 0, none⟩))]
      [[], [.slot 0], [.slot 1], [.slot 2], []]
      [.slot 3, .slot 4] [15, 16, 17, 18, 19]
      (by kernel_rfl) ⟨rfl, rfl, trivial⟩ ((Below.refl _ w1).drew) (Nat.le_refl _) trivial trivial (below_GcW (Nat.le_refl _))
      ⟨
      (fun QQ aa ww own hS hBg fr kn => .inl ⟨trivial, fun K hK => wp_value (exec_move rfl fr.1) (hK _ _ ⟨Touch.refl _ _, rfl⟩)⟩),
      (fun QQ aa ww own hS hBg fr kn => .inl ⟨trivial, fun K hK => wp_value (exec_nilc rfl kn.1) (hK _ _ ⟨Touch.refl _ _, rfl⟩)⟩),
      (fun QQ aa ww own hS hBg fr kn => .inl ⟨trivial, fun K hK => wp_value (exec_fpt 0 (by decide) rfl kn.1) (hK _ _ ⟨Touch.refl _ _, rfl⟩)⟩),
      (fun QQ aa ww own hS hBg fr kn => .inl ⟨trivial, fun K hK => wp_value (exec_ld rfl kn.1 (ldM (pt_map (s1.kept hS)))) (hK _ _ ⟨Touch.refl _ _, rfl⟩)⟩),
      (fun QQ aa ww own hS hBg fr kn => .inl ⟨trivial, fun K hK => wp_value (look_st rfl isAddr (k1.kept hS) fr.2.1) (hK _ _ ⟨Touch.refl _ _, rfl⟩)⟩),
      trivial⟩ ?_)
  intro vs own w5 hB5 hsz kn inj
  have e18 : vs 18 = .map (some m) := kn.1
  have e19 : vs 19 = .agg (SC 17 (adV v b)) := kn.2.1
  clear kn inj hsz
  show wpList Tryd.prog _ _ (_ :: []) _ _
  simp only [putAll, Act.put, List.setIfInBounds_toArray, List.set_cons_zero, List.set_cons_succ, e18, e19]
  clear e18 e19
  have s5 := s1.kept hB5
  have k5 := k1.kept hB5
  have hS5 := hS1.trans (spares_below hB5)
  have HM5 := Hid.mk (HM1.out.kept hB5)
  have hkm : g4 ≠ m := HM5.out.ne k5
  clear s1 k1
  go_wp2_with (refine wl_del rfl rfl rfl rfl HM5.out HP.out.inv.nodup (keyA v b) ?_; intro w6 hm6 ho6; refine Hid.out ?_)
  refine Hid.mk ?_
  have s6 := s5.only ho6 hgm
  have k6 := k5.only ho6 hkm
  have hS6 := hS5.trans (spares_only ho6 hmN)
  have HM6 : Hid (MapAt w6 m (outP S.L (adK v b))) := Hid.mk hm6
  clear s5 k5 hm6
  go_wp2_with (refine wl_value rfl (exec_fpt 0 (by decide) rfl rfl) ?_; refine Hid.out ?_)
  refine Hid.mk ?_
  go_wp2_with (refine wl_value rfl (exec_ld rfl rfl (ldM (pt_map s6))) ?_; refine Hid.out ?_)
  refine Hid.mk ?_
  go_wp2_with (refine wl_value rfl (exec_lenM rfl HM6.out rfl) ?_; refine Hid.out ?_)
  refine Hid.mk ?_
  go_wp2_with (refine wl_value rfl (kn_ (c := false) HF (cmp_eq (m := ((outP S.L (adK v b)).length : Int)) (n := 16) rfl rfl rfl)) ?_; refine Hid.out ?_)
  refine Hid.mk ?_
  go_upto_region 6 with fail
  refine wp_region_cut 15 rfl (by kernel_rfl) (any_region3 (Below w6.heap.size w6) (w6.heap.size)
      ([] : List (Nat × Cont))
      [kv (.pointer (some ⟨g, 0, none⟩)), kv (.pointer (some ⟨g, 0, none⟩)), kv (.pointer (some ⟨g, 0, none⟩)), kv (.map (some m)), kv (.agg (SC 17 (adV v b))), kv (.int .i64 mtu), kv (.pointer (some ⟨g, 0, none⟩)), kv (.pointer (some ⟨g, 0, none⟩)), kv (.pointer (some ⟨g, 1, none⟩)), kv (.int .i64 S.t), kv (.pointer (some ⟨g, 0, none⟩)), kv (.pointer (some ⟨g, 0, none⟩)), kv (.pointer (some ⟨g, 2, none⟩)), kv (.int .i64 S.c), kv (.agg (SC 3 (paV ⟨mtu, S.t, S.c⟩)))]
      [.none, .none, .none, .none, .none, .none, .none, .none, .none, .none, .none, .none, .none, .none, .none]
      [some 32, some 33, some 34, some 35, some 36, some 37, some 38, some 39, some 40, some 41, some 42, some 43, some 44, some 45, some 46]
      [(0, .pointer (some ⟨g, 0, none⟩)), (2, .int .i64 mtu), (4, .pointer (some ⟨g4, 0, none⟩))]
      [[], [.slot 0], [.slot 1], [.slot 2], [], [], [], [.slot 6], [.slot 7], [.slot 8], [], [.slot 10], [.slot 11], [.slot 12], [.slot 5, .slot 9, .slot 13]]
      [.slot 3, .slot 4, .slot 14] [32, 33, 34, 35, 36, 37, 38, 39, 40, 41, 42, 43, 44, 45, 46]
      (by kernel_rfl) ⟨rfl, rfl, rfl, trivial⟩ ((Below.refl _ w6).drew) (Nat.le_refl _) trivial trivial (below_GcW (Nat.le_refl _))
      ⟨
      (fun QQ aa ww own hS hBg fr kn => .inl ⟨trivial, fun K hK => wp_value (exec_move rfl fr.1) (hK _ _ ⟨Touch.refl _ _, rfl⟩)⟩),
      (fun QQ aa ww own hS hBg fr kn => .inl ⟨trivial, fun K hK => wp_value (exec_nilc rfl kn.1) (hK _ _ ⟨Touch.refl _ _, rfl⟩)⟩),
      (fun QQ aa ww own hS hBg fr kn => .inl ⟨trivial, fun K hK => wp_value (exec_fpt 0 (by decide) rfl kn.1) (hK _ _ ⟨Touch.refl _ _, rfl⟩)⟩),
      (fun QQ aa ww own hS hBg fr kn => .inl ⟨trivial, fun K hK => wp_value (exec_ld rfl kn.1 (ldM (pt_map (s6.kept hS)))) (hK _ _ ⟨Touch.refl _ _, rfl⟩)⟩),
      (fun QQ aa ww own hS hBg fr kn => .inl ⟨trivial, fun K hK => wp_value (look_st rfl isAddr (k6.kept hS) fr.2.2.1) (hK _ _ ⟨Touch.refl _ _, rfl⟩)⟩),
      (fun QQ aa ww own hS hBg fr kn => .inl ⟨trivial, fun K hK => wp_value (exec_move rfl fr.2.1) (hK _ _ ⟨Touch.refl _ _, rfl⟩)⟩),
      (fun QQ aa ww own hS hBg fr kn => .inl ⟨trivial, fun K hK => wp_value (exec_move rfl fr.1) (hK _ _ ⟨Touch.refl _ _, rfl⟩)⟩),
      (fun QQ aa ww own hS hBg fr kn => .inl ⟨trivial, fun K hK => wp_value (exec_nilc rfl kn.1) (hK _ _ ⟨Touch.refl _ _, rfl⟩)⟩),
      (fun QQ aa ww own hS hBg fr kn => .inl ⟨trivial, fun K hK => wp_value (exec_fpt 1 (by decide) rfl kn.1) (hK _ _ ⟨Touch.refl _ _, rfl⟩)⟩),
      (fun QQ aa ww own hS hBg fr kn => .inl ⟨trivial, fun K hK => wp_value (exec_ld rfl kn.1 (ldP (pt_time (s6.kept hS)))) (hK _ _ ⟨Touch.refl _ _, rfl⟩)⟩),
      (fun QQ aa ww own hS hBg fr kn => .inl ⟨trivial, fun K hK => wp_value (exec_move rfl fr.1) (hK _ _ ⟨Touch.refl _ _, rfl⟩)⟩),
      (fun QQ aa ww own hS hBg fr kn => .inl ⟨trivial, fun K hK => wp_value (exec_nilc rfl kn.1) (hK _ _ ⟨Touch.refl _ _, rfl⟩)⟩),
      (fun QQ aa ww own hS hBg fr kn => .inl ⟨trivial, fun K hK => wp_value (exec_fpt 2 (by decide) rfl kn.1) (hK _ _ ⟨Touch.refl _ _, rfl⟩)⟩),
      (fun QQ aa ww own hS hBg fr kn => .inl ⟨trivial, fun K hK => wp_value (exec_ld rfl kn.1 (ldP (pt_count (s6.kept hS)))) (hK _ _ ⟨Touch.refl _ _, rfl⟩)⟩),
      (fun QQ aa ww own hS hBg fr kn => .inl ⟨trivial, fun K hK => wp_value (exec_bdPa rfl kn.1 kn.2.1 kn.2.2.1) (hK _ _ ⟨Touch.refl _ _, rfl⟩)⟩),
      trivial⟩ ?_)
  intro vs own w7 hB7 hsz kn inj
  have e35 : vs 35 = .map (some m) := kn.1
  have e36 : vs 36 = .agg (SC 17 (adV v b)) := kn.2.1
  have e46 : vs 46 = .agg (SC 3 (paV ⟨mtu, S.t, S.c⟩)) := kn.2.2.1
  clear kn inj hsz
  show wpList Tryd.prog _ _ (_ :: []) _ _
  simp only [putAll, Act.put, List.setIfInBounds_toArray, List.set_cons_zero, List.set_cons_succ, e35, e36, e46]
  clear e35 e36 e46
  have s7 := s6.kept hB7
  have hS7 := hS6.trans (spares_below hB7)
  have HM7 := Hid.mk (HM6.out.kept hB7)
  clear s6 k6
  go_wp2_with (refine wl_newF rfl rfl rfl rfl rfl HM7.out (keyA v b) (fun c hc => by simpa using (List.mem_filter.1 hc).2) ?_; intro w8 hm8 ho8; refine Hid.out ?_)
  refine Hid.mk ?_
  have s8 := s7.only ho8 hgm
  have hS8 := hS7.trans (spares_only ho8 hmN)
  have HM8 : Hid (MapAt w8 m (keepP S (adK v b) mtu).L) := Hid.mk (by show MapAt w8 m (roomP (outP S.L (adK v b)) ++ [(adK v b, _)]); rw [HR.out]; exact hm8)
  clear s7 hm8
  go_wp2_with (refine wl_value rfl (exec_fpt 2 (by decide) rfl rfl) ?_; refine Hid.out ?_)
  refine Hid.mk ?_
  go_wp2_with (refine wl_value rfl (exec_ld rfl rfl (ldP (pt_count s8))) ?_; refine Hid.out ?_)
  refine Hid.mk ?_
  go_wp2_with (refine wl_value rfl (exec_add (m := S.c) (n := 1) rfl rfl rfl (by have := HC.out; have := HP.out.inv.c0; omega) (by have := HC.out; omega)) ?_; refine Hid.out ?_)
  refine Hid.mk ?_
  go_wp2_with (refine wl_value rfl (exec_fpt 2 (by decide) rfl rfl) ?_; refine Hid.out ?_)
  refine Hid.mk ?_
  go_wp2_with (refine wl_sF (n := 3) (z := .int .i64 (S.c + 1)) (V' := ptV (.map (some m)) S.t (S.c + 1)) rfl rfl rfl rfl (by decide) (sI (S.c + 1)) s8 (up3 ⟨rfl, rfl, rfl⟩) ?_; intro w9 s9 ho9; refine Hid.out ?_)
  refine Hid.mk ?_
  have hS9 := hS8.trans (spares_only ho9 HP.out.gN)
  go_wp2_with fail
  exact bodyPost_end (results_none rfl _ _ _) rfl ⟨rfl, ⟨_, ⟨HI.out, s9, .inr ⟨m, rfl, HM8.out.block (ho9.block m hgm.symm)⟩, HP.out.gN, fun m' e => by cases e; exact hmN, HP.out.nB, Nat.le_trans HP.out.bw hS9.size⟩⟩, hS9⟩
set_option maxHeartbeats 16000000 in
theorem keepN_run {w : World} {B : Nat} {N : Nat → Prop} {g : Nat} {S : PtS} {v : Bool} {b : Nat → Int} {mtu : Int} (h : PtAt w B N g (.map none) S) (hc : S.c < 9223372036854775807) (hf : (outP S.L (adK v b)).length ≠ 16) : Calls Tryd.prog 18 #[.pointer (some ⟨g, 0, none⟩), .agg (SC 17 (adV v b)), .int .i64 mtu] w fun e w' => e = .returned (.tuple #[]) ∧ (∃ mv', PtAt w' B N g mv' (keepP S (adK v b) mtu)) ∧ Spares N w w' := by
  have HP := Hid.mk h
  have hat := h.at_
  have HC := Hid.mk hc
  have HI := Hid.mk (h.inv.keep (adK v b) mtu)
  have HF : Hid (decide (((outP S.L (adK v b)).length : Int) = 16) = false) := Hid.mk (decide_eq_false (by omega))
  have HR : Hid (roomP (outP S.L (adK v b)) = outP S.L (adK v b)) := Hid.mk (by unfold roomP; rw [if_neg hf])
  clear h hc hf
  go_enter Tryd.func18, Tryd.ntmps18
  go_wp2_with (refine wl_boxO (V := adV v b) rfl rfl isAddr rfl ?_; intro g4 w1 hg4 k1 hB1; refine Hid.out ?_)
  refine Hid.mk ?_
  have s1 := hat.kept hB1
  have hne : g ≠ g4 := by have := heap_lt hat; omega
  clear hat
  go_wp2_with (refine wl_value rfl (exec_fpt 0 (by decide) rfl rfl) ?_; refine Hid.out ?_)
  refine Hid.mk ?_
  go_wp2_with (refine wl_value rfl (exec_ld rfl rfl (ldM (pt_map s1))) ?_; refine Hid.out ?_)
  refine Hid.mk ?_
  go_wp2_with (refine wl_value rfl (exec_nilM0 rfl rfl) ?_; refine Hid.out ?_)
  refine Hid.mk ?_
  go_wp2_with (refine wl_mkM rfl rfl ?_; intro m w2 hm2 hma hB2; refine Hid.out ?_)
  refine Hid.mk ?_
  have s2 := s1.kept hB2
  have k2 := k1.kept hB2
  have hgm : g ≠ m := by have := heap_lt s1; omega
  have hmN : ¬ N m := fun hN => by have h1 := HP.out.nB m hN; have h2 := HP.out.bw; have h3 := hB1.size; omega
  have hgk : g4 ≠ m := by have := heap_lt k1; omega
  have hL : S.L = [] := by
    rcases HP.out.map with ⟨_, e⟩ | ⟨m', e, _⟩
    · exact e
    · cases e
  clear s1 k1
  go_wp2_with (refine wl_value rfl (exec_fpt 0 (by decide) rfl rfl) ?_; refine Hid.out ?_)
  refine Hid.mk ?_
  go_wp2_with (refine wl_sF (n := 3) (z := .map (some m)) (V' := ptV (.map (some m)) S.t S.c) rfl rfl rfl rfl (by decide) (stM (some m)) s2 (up3 ⟨rfl, rfl, rfl⟩) ?_; intro w3 s3 ho3; refine Hid.out ?_)
  refine Hid.mk ?_
  have k3 := k2.only ho3 hne.symm
  have hm1 : MapAt w3 m S.L := by rw [hL]; exact hma.block (ho3.block m hgm.symm)
  have hS1 : Spares N w w3 := ((spares_below hB1).trans (spares_below hB2)).trans (spares_only ho3 HP.out.gN)
  clear hma s2 k2
  have HM1 := Hid.mk hm1
  clear hm1
  go_upto_region 3 with fail
  refine wp_region_cut 5 rfl (by kernel_rfl) (any_region3 (Below w3.heap.size w3) (w3.heap.size)
      ([] : List (Nat × Cont))
      [kv (.pointer (some ⟨g, 0, none⟩)), kv (.pointer (some ⟨g, 0, none⟩)), kv (.pointer (some ⟨g, 0, none⟩)), kv (.map (some m)), kv (.agg (SC 17 (adV v b)))]
      [.none, .none, .none, .none, .none]
      [some 15, some 16, some 17, some 18, some 19]
      [(0, .pointer (some ⟨g, 0, none⟩)), (4, .pointer (some ⟨g4, 0, none⟩))]
      [[], [.slot 0], [.slot 1], [.slot 2], []]
      [.slot 3, .slot 4] [15, 16, 17, 18, 19]
      (by kernel_rfl) ⟨rfl, rfl, trivial⟩ ((Below.refl _ w3).drew) (Nat.le_refl _) trivial trivial (below_GcW (Nat.le_refl _))
      ⟨
      (fun QQ aa ww own hS hBg fr kn => .inl ⟨trivial, fun K hK => wp_value (exec_move rfl fr.1) (hK _ _ ⟨Touch.refl _ _, rfl⟩)⟩),
      (fun QQ aa ww own hS hBg fr kn => .inl ⟨trivial, fun K hK => wp_value (exec_nilc rfl kn.1) (hK _ _ ⟨Touch.refl _ _, rfl⟩)⟩),
      (fun QQ aa ww own hS hBg fr kn => .inl ⟨trivial, fun K hK => wp_value (exec_fpt 0 (by decide) rfl kn.1) (hK _ _ ⟨Touch.refl _ _, rfl⟩)⟩),
      (fun QQ aa ww own hS hBg fr kn => .inl ⟨trivial, fun K hK => wp_value (exec_ld rfl kn.1 (ldM (pt_map (s3.kept hS)))) (hK _ _ ⟨Touch.refl _ _, rfl⟩)⟩),
      (fun QQ aa ww own hS hBg fr kn => .inl ⟨trivial, fun K hK => wp_value (look_st rfl isAddr (k3.kept hS) fr.2.1) (hK _ _ ⟨Touch.refl _ _, rfl⟩)⟩),
      trivial⟩ ?_)
  intro vs own w5 hB5 hsz kn inj
  have e18 : vs 18 = .map (some m) := kn.1
  have e19 : vs 19 = .agg (SC 17 (adV v b)) := kn.2.1
  clear kn inj hsz
  show wpList Tryd.prog _ _ (_ :: []) _ _
  simp only [putAll, Act.put, List.setIfInBounds_toArray, List.set_cons_zero, List.set_cons_succ, e18, e19]
  clear e18 e19
  have s5 := s3.kept hB5
  have k5 := k3.kept hB5
  have hS5 := hS1.trans (spares_below hB5)
  have HM5 := Hid.mk (HM1.out.kept hB5)
  have hkm : g4 ≠ m := HM5.out.ne k5
  clear s3 k3
  go_wp2_with (refine wl_del rfl rfl rfl rfl HM5.out HP.out.inv.nodup (keyA v b) ?_; intro w6 hm6 ho6; refine Hid.out ?_)
  refine Hid.mk ?_
  have s6 := s5.only ho6 hgm
  have k6 := k5.only ho6 hkm
  have hS6 := hS5.trans (spares_only ho6 hmN)
  have HM6 : Hid (MapAt w6 m (outP S.L (adK v b))) := Hid.mk hm6
  clear s5 k5 hm6
  go_wp2_with (refine wl_value rfl (exec_fpt 0 (by decide) rfl rfl) ?_; refine Hid.out ?_)
  refine Hid.mk ?_
  go_wp2_with (refine wl_value rfl (exec_ld rfl rfl (ldM (pt_map s6))) ?_; refine Hid.out ?_)
  refine Hid.mk ?_
  go_wp2_with (refine wl_value rfl (exec_lenM rfl HM6.out rfl) ?_; refine Hid.out ?_)
  refine Hid.mk ?_
  go_wp2_with (refine wl_value rfl (kn_ (c := false) HF (cmp_eq (m := ((outP S.L (adK v b)).length : Int)) (n := 16) rfl rfl rfl)) ?_; refine Hid.out ?_)
  refine Hid.mk ?_
  go_upto_region 6 with fail
  refine wp_region_cut 15 rfl (by kernel_rfl) (any_region3 (Below w6.heap.size w6) (w6.heap.size)
      ([] : List (Nat × Cont))
      [kv (.pointer (some ⟨g, 0, none⟩)), kv (.pointer (some ⟨g, 0, none⟩)), kv (.pointer (some ⟨g, 0, none⟩)), kv (.map (some m)), kv (.agg (SC 17 (adV v b))), kv (.int .i64 mtu), kv (.pointer (some ⟨g, 0, none⟩)), kv (.pointer (some ⟨g, 0, none⟩)), kv (.pointer (some ⟨g, 1, none⟩)), kv (.int .i64 S.t), kv (.pointer (some ⟨g, 0, none⟩)), kv (.pointer (some ⟨g, 0, none⟩)), kv (.pointer (some ⟨g, 2, none⟩)), kv (.int .i64 S.c), kv (.agg (SC 3 (paV ⟨mtu, S.t, S.c⟩)))]
      [.none, .none, .none, .none, .none, .none, .none, .none, .none, .none, .none, .none, .none, .none, .none]
      [some 32, some 33, some 34, some 35, some 36, some 37, some 38, some 39, some 40, some 41, some 42, some 43, some 44, some 45, some 46]
      [(0, .pointer (some ⟨g, 0, none⟩)), (2, .int .i64 mtu), (4, .pointer (some ⟨g4, 0, none⟩))]
      [[], [.slot 0], [.slot 1], [.slot 2], [], [], [], [.slot 6], [.slot 7], [.slot 8], [], [.slot 10], [.slot 11], [.slot 12], [.slot 5, .slot 9, .slot 13]]
      [.slot 3, .slot 4, .slot 14] [32, 33, 34, 35, 36, 37, 38, 39, 40, 41, 42, 43, 44, 45, 46]
      (by kernel_rfl) ⟨rfl, rfl, rfl, trivial⟩ ((Below.refl _ w6).drew) (Nat.le_refl _) trivial trivial (below_GcW (Nat.le_refl _))
      ⟨
      (fun QQ aa ww own hS hBg fr kn => .inl ⟨trivial, fun K hK => wp_value (exec_move rfl fr.1) (hK _ _ ⟨Touch.refl _ _, rfl⟩)⟩),
      (fun QQ aa ww own hS hBg fr kn => .inl ⟨trivial, fun K hK => wp_value (exec_nilc rfl kn.1) (hK _ _ ⟨Touch.refl _ _, rfl⟩)⟩),
      (fun QQ aa ww own hS hBg fr kn => .inl ⟨trivial, fun K hK => wp_value (exec_fpt 0 (by decide) rfl kn.1) (hK _ _ ⟨Touch.refl _ _, rfl⟩)⟩),
      (fun QQ aa ww own hS hBg fr kn => .inl ⟨trivial, fun K hK => wp_value (exec_ld rfl kn.1 (ldM (pt_map (s6.kept hS)))) (hK _ _ ⟨Touch.refl _ _, rfl⟩)⟩),
      (fun QQ aa ww own hS hBg fr kn => .inl ⟨trivial, fun K hK => wp_value (look_st rfl isAddr (k6.kept hS) fr.2.2.1) (hK _ _ ⟨Touch.refl _ _, rfl⟩)⟩),
      (fun QQ aa ww own hS hBg fr kn => .inl ⟨trivial, fun K hK => wp_value (exec_move rfl fr.2.1) (hK _ _ ⟨Touch.refl _ _, rfl⟩)⟩),
      (fun QQ aa ww own hS hBg fr kn => .inl ⟨trivial, fun K hK => wp_value (exec_move rfl fr.1) (hK _ _ ⟨Touch.refl _ _, rfl⟩)⟩),
      (fun QQ aa ww own hS hBg fr kn => .inl ⟨trivial, fun K hK => wp_value (exec_nilc rfl kn.1) (hK _ _ ⟨Touch.refl _ _, rfl⟩)⟩),
      (fun QQ aa ww own hS hBg fr kn => .inl ⟨trivial, fun K hK => wp_value (exec_fpt 1 (by decide) rfl kn.1) (hK _ _ ⟨Touch.refl _ _, rfl⟩)⟩),
      (fun QQ aa ww own hS hBg fr kn => .inl ⟨trivial, fun K hK => wp_value (exec_ld rfl kn.1 (ldP (pt_time (s6.kept hS)))) (hK _ _ ⟨Touch.refl _ _, rfl⟩)⟩),
      (fun QQ aa ww own hS hBg fr kn => .inl ⟨trivial, fun K hK => wp_value (exec_move rfl fr.1) (hK _ _ ⟨Touch.refl _ _, rfl⟩)⟩),
      (fun QQ aa ww own hS hBg fr kn => .inl ⟨trivial, fun K hK => wp_value (exec_nilc rfl kn.1) (hK _ _ ⟨Touch.refl _ _, rfl⟩)⟩),
      (fun QQ aa ww own hS hBg fr kn => .inl ⟨trivial, fun K hK => wp_value (exec_fpt 2 (by decide) rfl kn.1) (hK _ _ ⟨Touch.refl _ _, rfl⟩)⟩),
      (fun QQ aa ww own hS hBg fr kn => .inl ⟨trivial, fun K hK => wp_value (exec_ld rfl kn.1 (ldP (pt_count (s6.kept hS)))) (hK _ _ ⟨Touch.refl _ _, rfl⟩)⟩),
      (fun QQ aa ww own hS hBg fr kn => .inl ⟨trivial, fun K hK => wp_value (exec_bdPa rfl kn.1 kn.2.1 kn.2.2.1) (hK _ _ ⟨Touch.refl _ _, rfl⟩)⟩),
      trivial⟩ ?_)
  intro vs own w7 hB7 hsz kn inj
  have e35 : vs 35 = .map (some m) := kn.1
  have e36 : vs 36 = .agg (SC 17 (adV v b)) := kn.2.1
  have e46 : vs 46 = .agg (SC 3 (paV ⟨mtu, S.t, S.c⟩)) := kn.2.2.1
  clear kn inj hsz
  show wpList Tryd.prog _ _ (_ :: []) _ _
  simp only [putAll, Act.put, List.setIfInBounds_toArray, List.set_cons_zero, List.set_cons_succ, e35, e36, e46]
  clear e35 e36 e46
  have s7 := s6.kept hB7
  have hS7 := hS6.trans (spares_below hB7)
  have HM7 := Hid.mk (HM6.out.kept hB7)
  clear s6 k6
  go_wp2_with (refine wl_newF rfl rfl rfl rfl rfl HM7.out (keyA v b) (fun c hc => by simpa using (List.mem_filter.1 hc).2) ?_; intro w8 hm8 ho8; refine Hid.out ?_)
  refine Hid.mk ?_
  have s8 := s7.only ho8 hgm
  have hS8 := hS7.trans (spares_only ho8 hmN)
  have HM8 : Hid (MapAt w8 m (keepP S (adK v b) mtu).L) := Hid.mk (by show MapAt w8 m (roomP (outP S.L (adK v b)) ++ [(adK v b, _)]); rw [HR.out]; exact hm8)
  clear s7 hm8
  go_wp2_with (refine wl_value rfl (exec_fpt 2 (by decide) rfl rfl) ?_; refine Hid.out ?_)
  refine Hid.mk ?_
  go_wp2_with (refine wl_value rfl (exec_ld rfl rfl (ldP (pt_count s8))) ?_; refine Hid.out ?_)
  refine Hid.mk ?_
  go_wp2_with (refine wl_value rfl (exec_add (m := S.c) (n := 1) rfl rfl rfl (by have := HC.out; have := HP.out.inv.c0; omega) (by have := HC.out; omega)) ?_; refine Hid.out ?_)
  refine Hid.mk ?_
  go_wp2_with (refine wl_value rfl (exec_fpt 2 (by decide) rfl rfl) ?_; refine Hid.out ?_)
  refine Hid.mk ?_
  go_wp2_with (refine wl_sF (n := 3) (z := .int .i64 (S.c + 1)) (V' := ptV (.map (some m)) S.t (S.c + 1)) rfl rfl rfl rfl (by decide) (sI (S.c + 1)) s8 (up3 ⟨rfl, rfl, rfl⟩) ?_; intro w9 s9 ho9; refine Hid.out ?_)
  refine Hid.mk ?_
  have hS9 := hS8.trans (spares_only ho9 HP.out.gN)
  go_wp2_with fail
  exact bodyPost_end (results_none rfl _ _ _) rfl ⟨rfl, ⟨_, ⟨HI.out, s9, .inr ⟨m, rfl, HM8.out.block (ho9.block m hgm.symm)⟩, HP.out.gN, fun m' e => by cases e; exact hmN, HP.out.nB, Nat.le_trans HP.out.bw hS9.size⟩⟩, hS9⟩
theorem keep_run {w : World} {B : Nat} {N : Nat → Prop} {g : Nat} {mv : Value} {S : PtS} {v : Bool} {b : Nat → Int} {mtu : Int} (h : PtAt w B N g mv S) (hc : S.c < 9223372036854775807) (hf : (outP S.L (adK v b)).length ≠ 16) : Calls Tryd.prog 18 #[.pointer (some ⟨g, 0, none⟩), .agg (SC 17 (adV v b)), .int .i64 mtu] w fun e w' => e = .returned (.tuple #[]) ∧ (∃ mv', PtAt w' B N g mv' (keepP S (adK v b) mtu)) ∧ Spares N w w' := by
  rcases h.map with ⟨rfl, _⟩ | ⟨m, rfl, _⟩
  · exact keepN_run h hc hf
  · exact keepS_run h hc hf
end Go.Proofs.YtojekoakgpkkdabDoor

/-
  Own text. A path learned and asked; how many are known; new paths.
-/
namespace Go.Proofs.YtojekoakgpkkdabDoor
open Go.RowKit Go.Proofs
set_option maxRecDepth 100000
theorem SAt.spares {N : Nat → Prop} {w w' : World} {k ty n : Nat} {V : Nat → Value} (h : SAt w k ty n V) (hs : Spares N w w') (hk : N k) : SAt w' k ty n V := h.block (hs.block k h.lt (fun hn => hn hk))
theorem Spares.weak {N N' : Nat → Prop} {w w' : World} (h : Spares N' w w') (hN : ∀ k, N k → N' k) : Spares N w w' := Touch.mono h (fun k _ hn h => hn (hN k h))
theorem PtAt.wide {w : World} {B : Nat} {N : Nat → Prop} {g : Nat} {mv : Value} {S : PtS} (h : PtAt w B N g mv S) {k : Nat} (hk : k < w.heap.size) (hg : k ≠ g) (hm : mv ≠ .map (some k)) : PtAt w w.heap.size (fun j => N j ∨ j = k) g mv S :=
  { h with gN := fun e => e.elim h.gN (fun e => hg e.symm), mN := fun m em e => e.elim (h.mN m em) (fun e => hm (by rw [em, e])), nB := fun j e => e.elim (fun e => Nat.lt_of_lt_of_le (h.nB j e) h.bw) (fun e => by rw [e]; exact hk), bw := Nat.le_refl _ }
theorem PtAt.narrow {w : World} {B B' : Nat} {N N' : Nat → Prop} {g : Nat} {mv : Value} {S : PtS} (h : PtAt w B' N' g mv S) (hN : ∀ k, N k → N' k) (hB : ∀ k, N k → k < B) (hb : B ≤ w.heap.size) : PtAt w B N g mv S :=
  { h with gN := fun e => h.gN (hN _ e), mN := fun m em e => h.mN m em (hN _ e), nB := hB, bw := hb }
theorem PtAt.new {w w' : World} {B : Nat} {N : Nat → Prop} {g : Nat} {mv : Value} {S : PtS} (h : PtAt w B N g mv S) {k : Nat} (hk : w.heap.size ≤ k) : k ≠ g ∧ mv ≠ .map (some k) := by
  have _ := w'
  refine ⟨fun e => ?_, fun e => ?_⟩
  · have := h.at_.lt; omega
  · subst e
    have := h.mapS.lt; omega
/-- The package's variables are spared. -/
def GlobN (N : Nat → Prop) : Prop := N 1 ∧ N 0 ∧ N 2
theorem Env.spares {N : Nat → Prop} {w w' : World} (h : Env w) (hs : Spares N w w') (hN : GlobN N) : Env w' := by
  have h4 : 1 < w.heap.size := World.block_lt_of_cell? w _ (h.1 0 (by decide))
  have h6 : 0 < w.heap.size := World.block_lt_of_cell? w _ (h.2.1 0 (by decide))
  have h5 : 2 < w.heap.size := World.block_lt_of_cell? w _ (h.2.2 0 (by decide))
  exact ⟨fun j hj => (World.cell?_of_block (hs.block _ h4 (fun e => e hN.1))).trans (h.1 j hj), fun j hj => (World.cell?_of_block (hs.block _ h6 (fun e => e hN.2.1))).trans (h.2.1 j hj), fun j hj => (World.cell?_of_block (hs.block _ h5 (fun e => e hN.2.2))).trans (h.2.2 j hj)⟩
def learnB (S : PtS) (now : Int) (v : Bool) (b : Nat → Int) (mtu : Int) : Bool := validF v b && !decide (mtu < 0) && !((hasK (tellP S now).L (adK v b)).isSome && decide ((lookP (tellP S now).L (adK v b)).mtu ≤ max mtu (leastK v)))
def learnP (S : PtS) (now : Int) (v : Bool) (b : Nat → Int) (mtu : Int) : PtS := if learnB S now v b mtu = true then keepP (tellP S now) (adK v b) (max mtu (leastK v)) else tellP S now
def mtuF (S : PtS) (now : Int) (v : Bool) (b : Nat → Int) (most : Int) : Int := if (hasK (tellP S now).L (adK v b)).isSome = true then min (lookP (tellP S now).L (adK v b)).mtu most else most
theorem cell_int {V : Nat → Value} {w : World} {g ty n f : Nat} {m : Int} (h : SAt w g ty n V) (hf : f < n) (e : V f = .int .i64 m) : w.cell? ⟨g, f, none⟩ = some (.int .i64 m) := e ▸ h.at f hf
theorem exec_minZ {a : Act} {o : Oper} {w : World} {x y : Operand} (ho : o.op = .call { callee := .builtin .min, args := #[x, y], argTypes := #[3, 3] }) {m n r : Int} (hx : a.eval x = .int .i64 m) (hy : a.eval y = .int .i64 n) (hr : min m n = r) : (execOp a.eval o).run Tryd.prog w = .ok (.value (.int .i64 r)) w := by
  have hr' : (Builtin.min_ #[3, 3] o.type #[.int .i64 m, .int .i64 n]).run Tryd.prog w = .ok (.int .i64 r) w := by
    subst hr
    by_cases h : m ≤ n
    · rw [Int.min_eq_left h]; simp [go_sem]; omega
    · rw [Int.min_eq_right (by omega)]; simp [go_sem]; omega
  simp [execOp, ho, resolve, invoke, builtin, hx, hy, hr']
set_option maxHeartbeats 16000000 in
theorem Learn_run {w : World} {B : Nat} {N : Nat → Prop} {g : Nat} {mv : Value} {S : PtS} {v : Bool} {b : Nat → Int} {now mtu : Int} (h : PtAt w B N g mv S) (he : Env w) (hG : GlobN N) (hc : S.c < 9223372036854775807) (hn : now < 9223372036854775808) (hf : (outP (tellP S now).L (adK v b)).length ≠ 16) : Calls Tryd.prog 9 #[.pointer (some ⟨g, 0, none⟩), .int .i64 now, .agg (SC 17 (adV v b)), .int .i64 mtu] w fun e w' => e = .returned (.bool (learnB S now v b mtu)) ∧ (∃ mv', PtAt w' B N g mv' (learnP S now v b mtu)) ∧ Spares N w w' := by
  have hat := h.at_
  have HP := Hid.mk h
  have HE := Hid.mk he
  have HC := Hid.mk hc
  have HF := Hid.mk hf
  have hnil := run_nilPt ⟨g, 0, none⟩
  clear h he hc hf
  obtain ⟨M, hM⟩ : ∃ x, max mtu (leastK v) = x := ⟨_, rfl⟩
  have HM := Hid.mk hM
  clear hM
  obtain ⟨z, hz⟩ : ∃ x, (hasK (tellP S now).L (adK v b)).isSome = x := ⟨_, rfl⟩
  have HZ := Hid.mk hz
  clear hz
  obtain ⟨Q, hQ⟩ : ∃ x, lookP (tellP S now).L (adK v b) = x := ⟨_, rfl⟩
  have HQ := Hid.mk hQ
  clear hQ
  obtain ⟨rv, hrv⟩ : ∃ x, learnB S now v b mtu = x := ⟨_, rfl⟩
  have HB : Hid (rv = (validF v b && !decide (mtu < 0) && !(z && decide (Q.mtu ≤ M)))) := Hid.mk (by rw [← hrv]; unfold learnB; rw [HM.out, HZ.out, HQ.out])
  have HS : Hid (learnP S now v b mtu = if rv = true then keepP (tellP S now) (adK v b) M else tellP S now) := Hid.mk (by unfold learnP; rw [hrv, HM.out])
  rw [hrv]
  clear hrv
  go_enter Tryd.func9, Tryd.ntmps9
  go_wp2_with (refine wl_boxO (V := adV v b) rfl rfl isAddr rfl ?_; intro g6 w1 hg6 k1 hB1; refine Hid.out ?_)
  refine Hid.mk ?_
  have hnw := HP.out.new (w' := w1) hg6
  have HP1 := Hid.mk ((HP.out.kept hB1).wide k1.lt hnw.1 hnw.2)
  have HN1 : Hid (∀ k, N k → N k ∨ k = g6) := Hid.mk (fun k h => .inl h)
  have hS1 : Spares N w w1 := spares_below hB1
  have HE1 := Hid.mk (HE.out.kept hB1)
  have HG1 : Hid (GlobN (fun k => N k ∨ k = g6)) := Hid.mk ⟨.inl hG.1, .inl hG.2.1, .inl hG.2.2⟩
  clear hnw hat
  go_wp2_with (go_at_call 16; refine (tell_run HP1.out hn).mono ?_; rintro e w2 ⟨rfl, hp2, hs2⟩; refine Hid.out ?_)
  refine Hid.mk ?_
  have k2 := k1.spares hs2 (.inr rfl)
  have HE2 := Hid.mk (HE1.out.spares hs2 HG1.out)
  have HP2 := Hid.mk hp2
  have hS2 := hS1.trans (hs2.weak HN1.out)
  clear k1 hp2 hs2
  go_wp2_with (refine wl_value rfl (look_st rfl isAddr k2 rfl) ?_; refine Hid.out ?_)
  refine Hid.mk ?_
  have HV := Hid.mk (Valid_run v b w2)
  have hEND : ∀ (w' : World), Below w2.heap.size w2 w' → rv = false → ((∃ mv', PtAt w' B N g mv' (learnP S now v b mtu)) ∧ Spares N w w') := fun w' hb e => by
    have hS' := hS2.trans (spares_below hb)
    rw [HS.out, e, if_neg (by decide)]
    exact ⟨⟨mv, (HP2.out.kept hb).narrow HN1.out HP.out.nB (Nat.le_trans HP.out.bw hS'.size)⟩, hS'⟩
  have HEND := Hid.mk hEND
  clear hEND
  rcases Bool.eq_false_or_eq_true (validF v b) with hv | hv
  rotate_left
  · have hr : rv = false := by rw [HB.out, hv]; rfl
    rw [hv] at HV
    go_wp2_with (refine wl_cal en_wire_Valid HV rfl rfl (args1 rfl) ?_; intro w3 hB3; refine Hid.out ?_)
    refine Hid.mk ?_
    go_wp2_with fail
    go_ret
    have := HEND.out _ hB3 hr
    exact ⟨by rw [hr]; rfl, this.1, this.2⟩
  · rw [hv] at HV
    go_wp2_with (refine wl_cal en_wire_Valid HV rfl rfl (args1 rfl) ?_; intro w3 hB3; refine Hid.out ?_)
    refine Hid.mk ?_
    have k3 := k2.kept hB3
    have HB' : Hid (rv = (!decide (mtu < 0) && !(z && decide (Q.mtu ≤ M)))) := Hid.mk (by rw [HB.out, hv, Bool.true_and])
    clear hv
    rcases Bool.eq_false_or_eq_true (decide (mtu < 0)) with hm | hm
    · have Hm := Hid.mk hm
      have hr : rv = false := by rw [HB'.out, hm]; rfl
      clear hm
      go_wp2_with (refine wl_value rfl (kn_ (c := true) Hm (cmp_lt (m := mtu) (n := 0) rfl rfl rfl)) ?_; refine Hid.out ?_)
      refine Hid.mk ?_
      go_wp2_with fail
      go_ret
      have := HEND.out _ hB3 hr
      exact ⟨by rw [hr]; rfl, this.1, this.2⟩
    · have Hm := Hid.mk hm
      have HB' : Hid (rv = !(z && decide (Q.mtu ≤ M))) := Hid.mk (by rw [HB'.out, hm]; rfl)
      clear hm
      go_wp2_with (refine wl_value rfl (kn_ (c := false) Hm (cmp_lt (m := mtu) (n := 0) rfl rfl rfl)) ?_; refine Hid.out ?_)
      refine Hid.mk ?_
      have HE3 := Hid.mk (HE2.out.kept hB3)
      go_wp2_with (refine wl_value rfl (look_st rfl isAddr k3 rfl) ?_; refine Hid.out ?_)
      refine Hid.mk ?_
      have HVO := Hid.mk (versionOf_run v b w3 HE3.out)
      go_wp2_with (refine wl_cal en_icmp_versionOf HVO rfl rfl (args1 rfl) ?_; intro w4 hB4; refine Hid.out ?_)
      refine Hid.mk ?_
      have k4 := k3.kept hB4
      have hB24 := hB3.trans (hB4.mono hB3.size)
      have HP4 := Hid.mk (HP2.out.kept hB24)
      have s4 := HP4.out.at_
      clear k3 hB3 hB4
      go_wp2_with (refine wl_value rfl (exec_fv4 rfl rfl) ?_; refine Hid.out ?_)
      refine Hid.mk ?_
      go_wp2_with (refine wl_value rfl (exec_maxI rfl rfl rfl HM.out) ?_; refine Hid.out ?_)
      refine Hid.mk ?_
      have HLK : Hid (∀ {ww : World} {a : Act} {o : Oper} {x y : Operand}, Below w4.heap.size w4 ww → o.op = .lookup 47 x y true → a.eval x = mv → a.eval y = .agg (SC 17 (adV v b)) → (execOp a.eval o).run Tryd.prog ww = .ok (.value (.tuple #[.agg (SC 3 (paV Q)), .bool z])) ww) := Hid.mk (fun hS ho hx hy => by
        have := exec_lookA ho hx hy (keyA v b) (HP4.out.map.kept hS)
        rw [HQ.out, HZ.out] at this
        exact this)
      go_upto_region 7 with fail
      refine wp_region3 (Below w4.heap.size w4) (w4.heap.size)
          ([] : List (Nat × Cont))
          [kv (.pointer (some ⟨g, 0, none⟩)), kv (.pointer (some ⟨g, 0, none⟩)), kv (.pointer (some ⟨g, 0, none⟩)), kv (mv), kv (.agg (SC 17 (adV v b))), kv (.tuple #[.agg (SC 3 (paV Q)), .bool z]), kv (.tuple #[.agg (SC 3 (paV Q)), .bool z]), kv (.agg (SC 3 (paV Q))), kv (.bool z), kp (SC 3 (paV ⟨0, 0, 0⟩)) 58 10 (SC 3 (paV Q)), .val fun _ => True, kv (.bool z)]
          [.none, .none, .none, .none, .none, .none, .none, .none, .none, .none, .own 9 1, .none]
          [some 29, some 30, some 31, some 32, some 33, some 34, some 28, some 35, some 36, some 9, none, some 10]
          [(0, .pointer (some ⟨g, 0, none⟩)), (6, .pointer (some ⟨g6, 0, none⟩))]
          [[], [.slot 0], [.slot 1], [.slot 2], [], [.slot 3, .slot 4], [.slot 5], [.slot 6], [.slot 6], [], [.slot 9, .cont 9 0, .slot 7], [.slot 8]]
          [.slot 9, .cont 9 1, .slot 11] [29, 30, 31, 32, 33, 34, 28, 35, 36, 9, 10]
          rfl (by kernel_rfl) ⟨rfl, rfl, trivial⟩ ((Below.refl _ w4).drew) (Nat.le_refl _) trivial trivial (below_GcW (Nat.le_refl _))
          ⟨
          (fun QQ aa ww own hS hBg fr kn => .inl ⟨trivial, fun K hK => wp_value (exec_move rfl fr.1) (hK _ _ ⟨Touch.refl _ _, rfl⟩)⟩),
          (fun QQ aa ww own hS hBg fr kn => .inl ⟨trivial, fun K hK => wp_value (exec_nilc rfl kn.1) (hK _ _ ⟨Touch.refl _ _, rfl⟩)⟩),
          (fun QQ aa ww own hS hBg fr kn => .inl ⟨trivial, fun K hK => wp_value (exec_fpt 0 (by decide) rfl kn.1) (hK _ _ ⟨Touch.refl _ _, rfl⟩)⟩),
          (fun QQ aa ww own hS hBg fr kn => .inl ⟨trivial, fun K hK => wp_value (exec_ld rfl kn.1 (ldM (pt_map (s4.kept hS)))) (hK _ _ ⟨Touch.refl _ _, rfl⟩)⟩),
          (fun QQ aa ww own hS hBg fr kn => .inl ⟨trivial, fun K hK => wp_value (look_st rfl isAddr (k4.kept hS) fr.2.1) (hK _ _ ⟨Touch.refl _ _, rfl⟩)⟩),
          (fun QQ aa ww own hS hBg fr kn => .inl ⟨trivial, fun K hK => wp_value (HLK.out hS rfl kn.1 kn.2.1) (hK _ _ ⟨Touch.refl _ _, rfl⟩)⟩),
          (fun QQ aa ww own hS hBg fr kn => .inl ⟨trivial, fun K hK => wp_value (exec_move rfl kn.1) (hK _ _ ⟨Touch.refl _ _, rfl⟩)⟩),
          (fun QQ aa ww own hS hBg fr kn => .inl ⟨trivial, fun K hK => wp_value (exec_ext rfl kn.1 rfl) (hK _ _ ⟨Touch.refl _ _, rfl⟩)⟩),
          (fun QQ aa ww own hS hBg fr kn => .inl ⟨trivial, fun K hK => wp_value (exec_ext rfl kn.1 rfl) (hK _ _ ⟨Touch.refl _ _, rfl⟩)⟩),
          (fun QQ aa ww own hS hBg fr kn => .inl ⟨trivial, fun K hK => act_alloc zeroPa rfl (fun w' hb hg => hK _ _ ⟨touch_below hb, _, Nat.le_refl _, rfl, obIn hg⟩)⟩),
          (fun QQ aa ww own hS hBg fr kn => .inl ⟨trivial, fun K hK => act_st7 rfl isPa (paV_one _) kn.1.1 kn.2.2.1 (obAt kn.2.1) (fun w2 hg ho => hK _ _ ⟨touch_only ho, obIn hg, trivial⟩)⟩),
          (fun QQ aa ww own hS hBg fr kn => .inl ⟨trivial, fun K hK => wp_value (exec_assign rfl kn.1) (hK _ _ ⟨Touch.refl _ _, rfl⟩)⟩),
          trivial⟩ ?_
      intro vs own w5 hBw5 hsz kn inj
      obtain ⟨e9, hg9, -⟩ := kn.1
      change vs 9 = .pointer (some ⟨own 9, 0, none⟩) at e9
      have s9 : SAt w5 (own 9) 58 3 (paV Q) := obAt kn.2.1
      have e10 : vs 10 = .bool z := kn.2.2.1
      clear kn inj hsz
      simp only [putAll, Act.put, List.setIfInBounds_toArray, List.set_cons_zero, List.set_cons_succ, e9, e10]
      clear e9 e10 hg9
      generalize own 9 = g9 at s9 ⊢
      have hB25 := hB24.trans (hBw5.mono hB24.size)
      have k5 := k4.kept hBw5
      clear k4 s4 hB24 HLK
      cases z
      · have hr : rv = true := by rw [HB'.out]; rfl
        have HP5 := Hid.mk (HP2.out.kept hB25)
        go_wp2_with (refine wl_value rfl (look_st rfl isAddr k5 rfl) ?_; refine Hid.out ?_)
        refine Hid.mk ?_
        go_wp2_with (go_at_call 18; refine (keep_run HP5.out HC.out HF.out).mono ?_; rintro e w6 ⟨rfl, ⟨mv6, hp6⟩, hs6⟩; refine Hid.out ?_)
        refine Hid.mk ?_
        go_wp2_with fail
        go_ret
        have hS6 := (hS2.trans (spares_below hB25)).trans (hs6.weak HN1.out)
        refine ⟨by rw [hr]; rfl, ⟨mv6, ?_⟩, hS6⟩
        rw [HS.out, hr, if_pos rfl]
        exact hp6.narrow HN1.out HP.out.nB (Nat.le_trans HP.out.bw hS6.size)
      · rcases Bool.eq_false_or_eq_true (decide (Q.mtu ≤ M)) with hq | hq
        · have Hq := Hid.mk hq
          have hr : rv = false := by rw [HB'.out, hq]; rfl
          clear hq
          go_wp2_with (refine wl_value rfl (exec_fpa 0 (by decide) rfl rfl) ?_; refine Hid.out ?_)
          refine Hid.mk ?_
          go_wp2_with (refine wl_value rfl (exec_ld rfl rfl (ldI (cell_int s9 (by decide) rfl))) ?_; refine Hid.out ?_)
          refine Hid.mk ?_
          go_wp2_with (refine wl_value rfl (kn_ (c := true) Hq (cmp_ge (m := M) (n := Q.mtu) rfl rfl rfl)) ?_; refine Hid.out ?_)
          refine Hid.mk ?_
          go_wp2_with fail
          go_ret
          have := HEND.out _ hB25 hr
          exact ⟨by rw [hr]; rfl, this.1, this.2⟩
        · have Hq := Hid.mk hq
          have hr : rv = true := by rw [HB'.out, hq]; rfl
          clear hq
          go_wp2_with (refine wl_value rfl (exec_fpa 0 (by decide) rfl rfl) ?_; refine Hid.out ?_)
          refine Hid.mk ?_
          go_wp2_with (refine wl_value rfl (exec_ld rfl rfl (ldI (cell_int s9 (by decide) rfl))) ?_; refine Hid.out ?_)
          refine Hid.mk ?_
          go_wp2_with (refine wl_value rfl (kn_ (c := false) Hq (cmp_ge (m := M) (n := Q.mtu) rfl rfl rfl)) ?_; refine Hid.out ?_)
          refine Hid.mk ?_
          have HP5 := Hid.mk (HP2.out.kept hB25)
          go_wp2_with (refine wl_value rfl (look_st rfl isAddr k5 rfl) ?_; refine Hid.out ?_)
          refine Hid.mk ?_
          go_wp2_with (go_at_call 18; refine (keep_run HP5.out HC.out HF.out).mono ?_; rintro e w6 ⟨rfl, ⟨mv6, hp6⟩, hs6⟩; refine Hid.out ?_)
          refine Hid.mk ?_
          go_wp2_with fail
          go_ret
          have hS6 := (hS2.trans (spares_below hB25)).trans (hs6.weak HN1.out)
          refine ⟨by rw [hr]; rfl, ⟨mv6, ?_⟩, hS6⟩
          rw [HS.out, hr, if_pos rfl]
          exact hp6.narrow HN1.out HP.out.nB (Nat.le_trans HP.out.bw hS6.size)
set_option maxHeartbeats 16000000 in
theorem MTU_run {w : World} {B : Nat} {N : Nat → Prop} {g : Nat} {mv : Value} {S : PtS} {v : Bool} {b : Nat → Int} {now most : Int} (h : PtAt w B N g mv S) (hn : now < 9223372036854775808) : Calls Tryd.prog 11 #[.pointer (some ⟨g, 0, none⟩), .int .i64 now, .agg (SC 17 (adV v b)), .int .i64 most] w fun e w' => e = .returned (.int .i64 (mtuF S now v b most)) ∧ PtAt w' B N g mv (tellP S now) ∧ Spares N w w' := by
  have HP := Hid.mk h
  have hnil := run_nilPt ⟨g, 0, none⟩
  clear h
  obtain ⟨z, hz⟩ : ∃ x, (hasK (tellP S now).L (adK v b)).isSome = x := ⟨_, rfl⟩
  have HZ := Hid.mk hz
  clear hz
  obtain ⟨Q, hQ⟩ : ∃ x, lookP (tellP S now).L (adK v b) = x := ⟨_, rfl⟩
  have HQ := Hid.mk hQ
  clear hQ
  obtain ⟨M, hM⟩ : ∃ x, min Q.mtu most = x := ⟨_, rfl⟩
  have HM := Hid.mk hM
  clear hM
  obtain ⟨rv, hrv⟩ : ∃ x, mtuF S now v b most = x := ⟨_, rfl⟩
  have HB : Hid (rv = if z = true then M else most) := Hid.mk (by rw [← hrv]; unfold mtuF; rw [HZ.out, HQ.out, HM.out])
  rw [hrv]
  clear hrv
  go_enter Tryd.func11, Tryd.ntmps11
  go_wp2_with (refine wl_boxO (V := adV v b) rfl rfl isAddr rfl ?_; intro g6 w1 hg6 k1 hB1; refine Hid.out ?_)
  refine Hid.mk ?_
  have hnw := HP.out.new (w' := w1) hg6
  have HP1 := Hid.mk ((HP.out.kept hB1).wide k1.lt hnw.1 hnw.2)
  have HN1 : Hid (∀ k, N k → N k ∨ k = g6) := Hid.mk (fun k h => .inl h)
  have hS1 : Spares N w w1 := spares_below hB1
  clear hnw
  go_wp2_with (go_at_call 16; refine (tell_run HP1.out hn).mono ?_; rintro e w2 ⟨rfl, hp2, hs2⟩; refine Hid.out ?_)
  refine Hid.mk ?_
  have k2 := k1.spares hs2 (.inr rfl)
  have HP2 := Hid.mk hp2
  have s2 := hp2.at_
  have hS2 := hS1.trans (hs2.weak HN1.out)
  clear k1 hp2 hs2
  have HLK : Hid (∀ {ww : World} {a : Act} {o : Oper} {x y : Operand}, Below w2.heap.size w2 ww → o.op = .lookup 47 x y true → a.eval x = mv → a.eval y = .agg (SC 17 (adV v b)) → (execOp a.eval o).run Tryd.prog ww = .ok (.value (.tuple #[.agg (SC 3 (paV Q)), .bool z])) ww) := Hid.mk (fun hS ho hx hy => by
    have := exec_lookA ho hx hy (keyA v b) (HP2.out.map.kept hS)
    rw [HQ.out, HZ.out] at this
    exact this)
  go_upto_region 4 with fail
  refine wp_region3 (Below w2.heap.size w2) (w2.heap.size)
      ([] : List (Nat × Cont))
      [kv (.pointer (some ⟨g, 0, none⟩)), kv (.pointer (some ⟨g, 0, none⟩)), kv (.pointer (some ⟨g, 0, none⟩)), kv (mv), kv (.agg (SC 17 (adV v b))), kv (.tuple #[.agg (SC 3 (paV Q)), .bool z]), kv (.tuple #[.agg (SC 3 (paV Q)), .bool z]), kv (.agg (SC 3 (paV Q))), kv (.bool z), kp (SC 3 (paV ⟨0, 0, 0⟩)) 58 10 (SC 3 (paV Q)), .val fun _ => True, kv (.bool z)]
      [.none, .none, .none, .none, .none, .none, .none, .none, .none, .none, .own 9 1, .none]
      [some 17, some 18, some 19, some 20, some 21, some 22, some 16, some 23, some 24, some 9, none, some 10]
      [(0, .pointer (some ⟨g, 0, none⟩)), (6, .pointer (some ⟨g6, 0, none⟩))]
      [[], [.slot 0], [.slot 1], [.slot 2], [], [.slot 3, .slot 4], [.slot 5], [.slot 6], [.slot 6], [], [.slot 9, .cont 9 0, .slot 7], [.slot 8]]
      [.slot 9, .cont 9 1, .slot 11] [17, 18, 19, 20, 21, 22, 16, 23, 24, 9, 10]
      rfl (by kernel_rfl) ⟨rfl, rfl, trivial⟩ ((Below.refl _ w2).drew) (Nat.le_refl _) trivial trivial (below_GcW (Nat.le_refl _))
      ⟨
      (fun QQ aa ww own hS hBg fr kn => .inl ⟨trivial, fun K hK => wp_value (exec_move rfl fr.1) (hK _ _ ⟨Touch.refl _ _, rfl⟩)⟩),
      (fun QQ aa ww own hS hBg fr kn => .inl ⟨trivial, fun K hK => wp_value (exec_nilc rfl kn.1) (hK _ _ ⟨Touch.refl _ _, rfl⟩)⟩),
      (fun QQ aa ww own hS hBg fr kn => .inl ⟨trivial, fun K hK => wp_value (exec_fpt 0 (by decide) rfl kn.1) (hK _ _ ⟨Touch.refl _ _, rfl⟩)⟩),
      (fun QQ aa ww own hS hBg fr kn => .inl ⟨trivial, fun K hK => wp_value (exec_ld rfl kn.1 (ldM (pt_map (s2.kept hS)))) (hK _ _ ⟨Touch.refl _ _, rfl⟩)⟩),
      (fun QQ aa ww own hS hBg fr kn => .inl ⟨trivial, fun K hK => wp_value (look_st rfl isAddr (k2.kept hS) fr.2.1) (hK _ _ ⟨Touch.refl _ _, rfl⟩)⟩),
      (fun QQ aa ww own hS hBg fr kn => .inl ⟨trivial, fun K hK => wp_value (HLK.out hS rfl kn.1 kn.2.1) (hK _ _ ⟨Touch.refl _ _, rfl⟩)⟩),
      (fun QQ aa ww own hS hBg fr kn => .inl ⟨trivial, fun K hK => wp_value (exec_move rfl kn.1) (hK _ _ ⟨Touch.refl _ _, rfl⟩)⟩),
      (fun QQ aa ww own hS hBg fr kn => .inl ⟨trivial, fun K hK => wp_value (exec_ext rfl kn.1 rfl) (hK _ _ ⟨Touch.refl _ _, rfl⟩)⟩),
      (fun QQ aa ww own hS hBg fr kn => .inl ⟨trivial, fun K hK => wp_value (exec_ext rfl kn.1 rfl) (hK _ _ ⟨Touch.refl _ _, rfl⟩)⟩),
      (fun QQ aa ww own hS hBg fr kn => .inl ⟨trivial, fun K hK => act_alloc zeroPa rfl (fun w' hb hg => hK _ _ ⟨touch_below hb, _, Nat.le_refl _, rfl, obIn hg⟩)⟩),
      (fun QQ aa ww own hS hBg fr kn => .inl ⟨trivial, fun K hK => act_st7 rfl isPa (paV_one _) kn.1.1 kn.2.2.1 (obAt kn.2.1) (fun w2 hg ho => hK _ _ ⟨touch_only ho, obIn hg, trivial⟩)⟩),
      (fun QQ aa ww own hS hBg fr kn => .inl ⟨trivial, fun K hK => wp_value (exec_assign rfl kn.1) (hK _ _ ⟨Touch.refl _ _, rfl⟩)⟩),
      trivial⟩ ?_
  intro vs own w5 hBw5 hsz kn inj
  obtain ⟨e9, hg9, -⟩ := kn.1
  change vs 9 = .pointer (some ⟨own 9, 0, none⟩) at e9
  have s9 : SAt w5 (own 9) 58 3 (paV Q) := obAt kn.2.1
  have e10 : vs 10 = .bool z := kn.2.2.1
  clear kn inj hsz
  simp only [putAll, Act.put, List.setIfInBounds_toArray, List.set_cons_zero, List.set_cons_succ, e9, e10]
  clear e9 e10 hg9
  generalize own 9 = g9 at s9 ⊢
  have hS5 := hS2.trans (spares_below hBw5)
  have HP5 := Hid.mk ((HP2.out.kept hBw5).narrow HN1.out HP.out.nB (Nat.le_trans HP.out.bw hS5.size))
  clear k2 s2 HLK
  cases z
  · have hr : rv = most := by rw [HB.out]; rfl
    go_wp2_with fail
    go_ret
    exact ⟨by rw [hr]; rfl, HP5.out, hS5⟩
  · have hr : rv = M := by rw [HB.out]; rfl
    go_wp2_with (refine wl_value rfl (exec_fpa 0 (by decide) rfl rfl) ?_; refine Hid.out ?_)
    refine Hid.mk ?_
    go_wp2_with (refine wl_value rfl (exec_ld rfl rfl (ldI (cell_int s9 (by decide) rfl))) ?_; refine Hid.out ?_)
    refine Hid.mk ?_
    go_wp2_with (refine wl_value rfl (exec_minZ rfl rfl rfl HM.out) ?_; refine Hid.out ?_)
    refine Hid.mk ?_
    go_wp2_with fail
    go_ret
    exact ⟨by rw [hr]; rfl, HP5.out, hS5⟩
theorem run_bdPt0 (w : World) : (Instr.build 49 #[]).run Tryd.prog w = .ok (.agg (SC 3 (ptV (.map none) 0 0))) w := by kernel_rfl
theorem exec_bdPt0 {a : Act} {o : Oper} {w : World} (ho : o.op = .build 49 #[]) : (execOp a.eval o).run Tryd.prog w = .ok (.value (.agg (SC 3 (ptV (.map none) 0 0)))) w := by
  unfold execOp
  simp only [ho, List.map_toArray, List.map_nil, Sem.run_bind, run_bdPt0, Result.andThen_ok, Sem.run_pure]
set_option maxHeartbeats 4000000 in
theorem NewPaths_run (w : World) : Calls Tryd.prog 8 #[] w fun e w' => ∃ g, e = .returned (.pointer (some ⟨g, 0, none⟩)) ∧ w.heap.size ≤ g ∧ SAt w' g 49 3 (ptV (.map none) 0 0) ∧ Below w.heap.size w w' := by
  go_enter Tryd.func8, Tryd.ntmps8
  go_wp2_with (refine wl_value rfl (exec_bdPt0 rfl) ?_; refine Hid.out ?_)
  refine Hid.mk ?_
  go_wp2_with (refine wl_boxO (V := ptV (.map none) 0 0) rfl rfl isPt rfl ?_; intro g w1 hg s1 hB1; refine Hid.out ?_)
  refine Hid.mk ?_
  go_wp2_with fail
  go_ret
  exact ⟨g, rfl, hg, s1, hB1⟩
theorem newP_at {w : World} {g : Nat} (h : SAt w g 49 3 (ptV (.map none) 0 0)) {B : Nat} (hg : B ≤ g) : PtAt w B (fun k => k < B) g (.map none) ⟨0, 0, []⟩ :=
  ⟨⟨by decide, by decide, by decide, List.nodup_nil, fun d hd => (by cases hd), fun d hd => (by cases hd), List.Pairwise.nil⟩, h, .inl ⟨rfl, rfl⟩, by omega, fun m e => (by cases e), fun k hk => hk, by have := h.lt; omega⟩
theorem spares_bel {B : Nat} {w w' : World} (h : Spares (fun k => k < B) w w') (hB : B ≤ w.heap.size) : Below B w w' := ⟨h.os, h.tape, h.output, h.size, fun k hk => h.block k (Nat.lt_of_lt_of_le hk hB) (fun hn => hn hk)⟩
end Go.Proofs.YtojekoakgpkkdabDoor

/-
  Own text. The bucket of tokens; what each statement asks at first.
-/
namespace Go.Proofs.YtojekoakgpkkdabDoor
open Go.RowKit Go.Proofs
set_option maxRecDepth 100000
def buV (sp tm : Int) : Nat → Value
  | 0 => .int .i64 sp
  | _ => .int .i64 tm
theorem isBu : IsSt 45 2 := ⟨_, Tryd.underlying45, rfl, by kernel_rfl⟩
section
variable {a : Act} {o : Oper} {w : World} {x y : Operand} {g : Nat}
theorem exec_fbu (k : Nat) (hk : k < 2) (ho : o.op = .fieldAddr 45 x k) (hx : a.eval x = .pointer (some ⟨g, 0, none⟩)) : (execOp a.eval o).run Tryd.prog w = .ok (.value (.pointer (some ⟨g, k, none⟩))) w := by
  have h : (Instr.fieldAt 45 (.pointer (some ⟨g, 0, none⟩)) k).run Tryd.prog w = .ok (.pointer (some ⟨g, k, none⟩)) w := by
    match k, hk with
    | 0, _ => simp [go_sem]
    | 1, _ => simp [go_sem]
  unfold execOp
  simp only [ho, hx, Sem.run_bind, h, Result.andThen_ok, Sem.run_pure]
theorem exec_quI (ho : o.op = .binOp .quo 3 x y 3) {m n : Int} (hx : a.eval x = .int .i64 m) (hy : a.eval y = .int .i64 n) (h0 : 0 ≤ m) (h1 : 0 < n) (h2 : m < 9223372036854775808) : (execOp a.eval o).run Tryd.prog w = .ok (.value (.int .i64 (m / n))) w := by
  have hne : ¬ n = 0 := by omega
  have hd : m / n ≤ m := Int.ediv_le_self _ h0
  have hd0 : 0 ≤ m / n := Int.ediv_nonneg h0 (by omega)
  have e : IntKind.i64.wrap (m.tdiv n) = m / n := by rw [Int.tdiv_eq_ediv_of_nonneg h0]; exact wrap_id (by omega) (by omega)
  refine exec_bin2 ho hx hy rfl ?_
  simp [go_sem, hne, e]
theorem run_bdBu0 (w : World) : (Instr.build 45 #[]).run Tryd.prog w = .ok (.agg (SC 2 (buV 0 0))) w := by kernel_rfl
theorem exec_bdBu0 (ho : o.op = .build 45 #[]) : (execOp a.eval o).run Tryd.prog w = .ok (.value (.agg (SC 2 (buV 0 0)))) w := by
  unfold execOp
  simp only [ho, List.map_toArray, List.map_nil, Sem.run_bind, run_bdBu0, Result.andThen_ok, Sem.run_pure]
end
theorem run_nilBu (p : Addr) (w : World) : Sem.run Tryd.prog (binOp .eql 24 (.pointer (some p)) (.pointer none)) w = .ok (.bool false) w := by kernel_rfl
/-- Tokens that are missing, and the time, behind a time told. -/
def spF (sp tm now : Int) : Int := if now ≤ tm then sp else max (sp - (now / 100 - tm / 100)) 0
def tmF (tm now : Int) : Int := if now ≤ tm then tm else now
def allowB (sp tm now : Int) : Bool := !decide (spF sp tm now = 10)
def allowF (sp tm now : Int) : Int := if spF sp tm now = 10 then 10 else spF sp tm now + 1
structure BuI (sp tm : Int) : Prop where
  s0 : 0 ≤ sp
  s1 : sp ≤ 10
  t0 : 0 ≤ tm
  t1 : tm < 9223372036854775808
theorem BuI.tell {sp tm now : Int} (h : BuI sp tm) (hn : now < 9223372036854775808) : BuI (spF sp tm now) (tmF tm now) := by
  have hs := h.s0; have hs1 := h.s1; have ht := h.t0; have ht1 := h.t1
  unfold spF tmF
  constructor <;> split <;> omega
theorem BuI.allow {sp tm now : Int} (h : BuI sp tm) (hn : now < 9223372036854775808) : BuI (allowF sp tm now) (tmF tm now) := by
  have := h.tell hn
  have h1 := this.s0; have h2 := this.s1
  refine ⟨?_, ?_, this.t0, this.t1⟩ <;> unfold allowF <;> split <;> omega
theorem vN {a : Act} {o : Oper} {w : World} {m d : Int} {k : IntKind} (h : Hid (m = d)) (h2 : (execOp a.eval o).run Tryd.prog w = .ok (.value (.int k m)) w) : (execOp a.eval o).run Tryd.prog w = .ok (.value (.int k d)) w := by rw [h2, h.out]
set_option maxHeartbeats 8000000 in
theorem btell_run {w : World} {g : Nat} {sp tm now : Int} (hg : SAt w g 45 2 (buV sp tm)) (h : BuI sp tm) (hn : now < 9223372036854775808) : Calls Tryd.prog 15 #[.pointer (some ⟨g, 0, none⟩), .int .i64 now] w fun e w' => e = .returned (.tuple #[]) ∧ SAt w' g 45 2 (buV (spF sp tm now) (tmF tm now)) ∧ Touch (fun k => k = g) w w' := by
  have HH := Hid.mk h
  have HN := Hid.mk hn
  clear h hn
  by_cases hle : now ≤ tm
  · have HL : Hid (decide (now ≤ tm) = true) := Hid.mk (decide_eq_true hle)
    have H1 : Hid (spF sp tm now = sp ∧ tmF tm now = tm) := Hid.mk ⟨by unfold spF; rw [if_pos hle], by unfold tmF; rw [if_pos hle]⟩
    clear hle
    go_enter Tryd.func15, Tryd.ntmps15
    go_wp2_with (refine wl_value rfl (exec_fbu 1 (by decide) rfl rfl) ?_; refine Hid.out ?_)
    refine Hid.mk ?_
    go_wp2_with (refine wl_value rfl (exec_ld rfl rfl (ldI (cell_int hg (by decide) rfl))) ?_; refine Hid.out ?_)
    refine Hid.mk ?_
    go_wp2_with (refine wl_value rfl (kn_ (c := true) HL (cmp_le (m := now) (n := tm) rfl rfl rfl)) ?_; refine Hid.out ?_)
    refine Hid.mk ?_
    go_wp2_with fail
    exact bodyPost_ret (results_none rfl _ _ _) rfl ⟨rfl, by rw [H1.out.1, H1.out.2]; exact hg, Touch.refl _ _⟩
  · have HL : Hid (decide (now ≤ tm) = false) := Hid.mk (decide_eq_false hle)
    have HG : Hid (tm < now) := Hid.mk (by omega)
    have H1 : Hid (spF sp tm now = max (sp - (now / 100 - tm / 100)) 0 ∧ tmF tm now = now) := Hid.mk ⟨by unfold spF; rw [if_neg hle], by unfold tmF; rw [if_neg hle]⟩
    clear hle
    obtain ⟨d, hd⟩ : ∃ d, now / 100 - tm / 100 = d := ⟨_, rfl⟩
    obtain ⟨r, hr⟩ : ∃ r, max (sp - d) 0 = r := ⟨_, rfl⟩
    have HD := Hid.mk hd
    have HR := Hid.mk hr
    have HB : Hid (0 ≤ d ∧ d < 9223372036854775808 ∧ 0 ≤ now / 100 ∧ 0 ≤ tm / 100 ∧ now / 100 < 9223372036854775808) := Hid.mk (by have := HH.out.t0; have := HG.out; have := HN.out; omega)
    clear hd hr
    go_enter Tryd.func15, Tryd.ntmps15
    go_wp2_with (refine wl_value rfl (exec_fbu 1 (by decide) rfl rfl) ?_; refine Hid.out ?_)
    refine Hid.mk ?_
    go_wp2_with (refine wl_value rfl (exec_ld rfl rfl (ldI (cell_int hg (by decide) rfl))) ?_; refine Hid.out ?_)
    refine Hid.mk ?_
    go_wp2_with (refine wl_value rfl (kn_ (c := false) HL (cmp_le (m := now) (n := tm) rfl rfl rfl)) ?_; refine Hid.out ?_)
    refine Hid.mk ?_
    go_wp2_with (refine wl_value rfl (exec_quI (m := now) (n := 100) rfl rfl rfl (by have := HH.out.t0; have := HG.out; omega) (by decide) HN.out) ?_; refine Hid.out ?_)
    refine Hid.mk ?_
    go_wp2_with (refine wl_value rfl (exec_fbu 1 (by decide) rfl rfl) ?_; refine Hid.out ?_)
    refine Hid.mk ?_
    go_wp2_with (refine wl_value rfl (exec_ld rfl rfl (ldI (cell_int hg (by decide) rfl))) ?_; refine Hid.out ?_)
    refine Hid.mk ?_
    go_wp2_with (refine wl_value rfl (exec_quI (m := tm) (n := 100) rfl rfl rfl HH.out.t0 (by decide) HH.out.t1) ?_; refine Hid.out ?_)
    refine Hid.mk ?_
    go_wp2_with (refine wl_value rfl (vN HD (exec_sbI (m := now / 100) (n := tm / 100) rfl rfl rfl (by have := HB.out; have := HD.out; omega) (by have := HB.out; have := HD.out; omega))) ?_; refine Hid.out ?_)
    refine Hid.mk ?_
    go_wp2_with (refine wl_value rfl (exec_fbu 0 (by decide) rfl rfl) ?_; refine Hid.out ?_)
    refine Hid.mk ?_
    go_wp2_with (refine wl_value rfl (exec_ld rfl rfl (ldI (cell_int hg (by decide) rfl))) ?_; refine Hid.out ?_)
    refine Hid.mk ?_
    go_wp2_with (refine wl_value rfl (exec_sbI (m := sp) (n := d) rfl rfl rfl (by have := HB.out; have := HH.out.s0; omega) (by have := HB.out; have := HH.out.s1; omega)) ?_; refine Hid.out ?_)
    refine Hid.mk ?_
    go_wp2_with (refine wl_value rfl (exec_maxI (m := sp - d) (n := 0) rfl rfl rfl HR.out) ?_; refine Hid.out ?_)
    refine Hid.mk ?_
    go_wp2_with (refine wl_value rfl (exec_fbu 0 (by decide) rfl rfl) ?_; refine Hid.out ?_)
    refine Hid.mk ?_
    go_wp2_with (refine wl_sF (n := 2) (z := .int .i64 r) (V' := buV r tm) rfl rfl rfl rfl (by decide) (sI r) hg (up2 ⟨rfl, rfl⟩) ?_; intro w3 s3 ho3; refine Hid.out ?_)
    refine Hid.mk ?_
    go_wp2_with (refine wl_value rfl (exec_fbu 1 (by decide) rfl rfl) ?_; refine Hid.out ?_)
    refine Hid.mk ?_
    go_wp2_with (refine wl_sF (n := 2) (z := .int .i64 now) (V' := buV r now) rfl rfl rfl rfl (by decide) (sI now) s3 (up2 ⟨rfl, rfl⟩) ?_; intro w4 s4 ho4; refine Hid.out ?_)
    refine Hid.mk ?_
    go_wp2_with fail
    exact bodyPost_end (results_none rfl _ _ _) rfl ⟨rfl, by rw [H1.out.1, H1.out.2, HD.out, HR.out]; exact s4, touch_only2 (touch_only ho3) ho4 (.inl rfl)⟩
set_option maxHeartbeats 8000000 in
theorem Allow_run {w : World} {g : Nat} {sp tm now : Int} (hg : SAt w g 45 2 (buV sp tm)) (h : BuI sp tm) (hn : now < 9223372036854775808) : Calls Tryd.prog 7 #[.pointer (some ⟨g, 0, none⟩), .int .i64 now] w fun e w' => e = .returned (.bool (allowB sp tm now)) ∧ SAt w' g 45 2 (buV (allowF sp tm now) (tmF tm now)) ∧ Touch (fun k => k = g) w w' := by
  have HT := Hid.mk (btell_run hg h hn)
  have HI := Hid.mk (h.tell hn)
  have hnil := run_nilBu ⟨g, 0, none⟩
  have HA : Hid (allowB sp tm now = !decide (spF sp tm now = 10)) := Hid.mk rfl
  have HF : Hid (allowF sp tm now = if spF sp tm now = 10 then 10 else spF sp tm now + 1) := Hid.mk rfl
  clear hg h hn
  generalize allowB sp tm now = rb at *
  generalize allowF sp tm now = rf at *
  generalize spF sp tm now = s' at *
  generalize tmF tm now = t' at *
  go_enter Tryd.func7, Tryd.ntmps7
  go_wp2_with (go_at_call 15; refine HT.out.mono ?_; rintro e w2 ⟨rfl, s2, ht2⟩; refine Hid.out ?_)
  refine Hid.mk ?_
  by_cases he : s' = 10
  · have HE : Hid (decide (s' = 10) = true) := Hid.mk (decide_eq_true he)
    have H1 : Hid (rb = false ∧ rf = 10 ∧ s' = 10) := Hid.mk ⟨by rw [HA.out, HE.out]; rfl, by rw [HF.out, if_pos he], he⟩
    clear he
    go_wp2_with (refine wl_value rfl (exec_fbu 0 (by decide) rfl rfl) ?_; refine Hid.out ?_)
    refine Hid.mk ?_
    go_wp2_with (refine wl_value rfl (exec_ld rfl rfl (ldI (cell_int s2 (by decide) rfl))) ?_; refine Hid.out ?_)
    refine Hid.mk ?_
    go_wp2_with (refine wl_value rfl (kn_ (c := true) HE (cmp_eq (m := s') (n := 10) rfl rfl rfl)) ?_; refine Hid.out ?_)
    refine Hid.mk ?_
    go_wp2_with fail
    go_ret
    exact ⟨by rw [H1.out.1]; rfl, by rw [H1.out.2.1]; have := H1.out.2.2; subst this; exact s2, ht2⟩
  · have HE : Hid (decide (s' = 10) = false) := Hid.mk (decide_eq_false he)
    have H1 : Hid (rb = true ∧ rf = s' + 1) := Hid.mk ⟨by rw [HA.out, HE.out]; rfl, by rw [HF.out, if_neg he]⟩
    clear he
    go_wp2_with (refine wl_value rfl (exec_fbu 0 (by decide) rfl rfl) ?_; refine Hid.out ?_)
    refine Hid.mk ?_
    go_wp2_with (refine wl_value rfl (exec_ld rfl rfl (ldI (cell_int s2 (by decide) rfl))) ?_; refine Hid.out ?_)
    refine Hid.mk ?_
    go_wp2_with (refine wl_value rfl (kn_ (c := false) HE (cmp_eq (m := s') (n := 10) rfl rfl rfl)) ?_; refine Hid.out ?_)
    refine Hid.mk ?_
    go_wp2_with (refine wl_value rfl (exec_fbu 0 (by decide) rfl rfl) ?_; refine Hid.out ?_)
    refine Hid.mk ?_
    go_wp2_with (refine wl_value rfl (exec_ld rfl rfl (ldI (cell_int s2 (by decide) rfl))) ?_; refine Hid.out ?_)
    refine Hid.mk ?_
    go_wp2_with (refine wl_value rfl (exec_add (m := s') (n := 1) rfl rfl rfl (by have := HI.out.s0; omega) (by have := HI.out.s1; omega)) ?_; refine Hid.out ?_)
    refine Hid.mk ?_
    go_wp2_with (refine wl_value rfl (exec_fbu 0 (by decide) rfl rfl) ?_; refine Hid.out ?_)
    refine Hid.mk ?_
    go_wp2_with (refine wl_sF (n := 2) (z := .int .i64 (s' + 1)) (V' := buV (s' + 1) t') rfl rfl rfl rfl (by decide) (sI (s' + 1)) s2 (up2 ⟨rfl, rfl⟩) ?_; intro w3 s3 ho3; refine Hid.out ?_)
    refine Hid.mk ?_
    go_wp2_with fail
    go_ret
    exact ⟨by rw [H1.out.1]; rfl, by rw [H1.out.2]; exact s3, touch_only2 ht2 ho3 (.inl rfl)⟩
set_option maxHeartbeats 4000000 in
theorem NewBucket_run (w : World) : Calls Tryd.prog 6 #[] w fun e w' => ∃ g, e = .returned (.pointer (some ⟨g, 0, none⟩)) ∧ w.heap.size ≤ g ∧ SAt w' g 45 2 (buV 0 0) ∧ Below w.heap.size w w' := by
  go_enter Tryd.func6, Tryd.ntmps6
  go_wp2_with (refine wl_value rfl (exec_bdBu0 rfl) ?_; refine Hid.out ?_)
  refine Hid.mk ?_
  go_wp2_with (refine wl_boxO (V := buV 0 0) rfl rfl isBu rfl ?_; intro g w1 hg s1 hB1; refine Hid.out ?_)
  refine Hid.mk ?_
  go_wp2_with fail
  go_ret
  exact ⟨g, rfl, hg, s1, hB1⟩
end Go.Proofs.YtojekoakgpkkdabDoor

/-
  Own text. What each statement asks at first.
-/
namespace Go.Proofs.YtojekoakgpkkdabDoor
open Go.RowKit Go.Proofs
set_option maxRecDepth 100000
theorem run_bdMsA (n : Int) (r : Nat) (s : ByteArray) (w : World) : (Instr.build 66 #[(0, .int .i64 n), (2, .int .u32 (r : Int)), (3, .string s)]).run Tryd.prog w = .ok (.agg (SC 4 (msV ⟨n, 0, r, s⟩))) w := by kernel_rfl
theorem exec_bdMsA {a : Act} {o : Oper} {w : World} {x0 x2 x3 : Operand} (ho : o.op = .build 66 #[(0, x0), (2, x2), (3, x3)]) {n : Int} {r : Nat} {s : ByteArray} (h0 : a.eval x0 = .int .i64 n) (h2 : a.eval x2 = .int .u32 (r : Int)) (h3 : a.eval x3 = .string s) : (execOp a.eval o).run Tryd.prog w = .ok (.value (.agg (SC 4 (msV ⟨n, 0, r, s⟩)))) w := by
  have := run_bdMsA n r s w
  unfold execOp
  simp only [ho, List.map_toArray, List.map_cons, List.map_nil, h0, h2, h3, Sem.run_bind, this, Result.andThen_ok, Sem.run_pure]
theorem run_bdPw (v1 : Bool) (b1 : Nat → Int) (v2 : Bool) (b2 : Nat → Int) (n h : Int) (s : ByteArray) (w : World) : (Instr.build 39 #[(0, .agg (SC 17 (adV v1 b1))), (1, .agg (SC 17 (adV v2 b2))), (2, .int .i64 n), (3, .int .i64 h), (13, .string s)]).run Tryd.prog w = .ok (.agg (SC 46 (pkV ⟨v1, b1, v2, b2, n, h, 0, 0, 0, false, false, ByteArray.empty, 0, [], false, s⟩ (.slice none 0 0)))) w := by kernel_rfl
theorem exec_bdPw {a : Act} {o : Oper} {w : World} {x0 x1 x2 x3 x13 : Operand} (ho : o.op = .build 39 #[(0, x0), (1, x1), (2, x2), (3, x3), (13, x13)]) {v1 : Bool} {b1 : Nat → Int} {v2 : Bool} {b2 : Nat → Int} {n h : Int} {s : ByteArray} (h0 : a.eval x0 = .agg (SC 17 (adV v1 b1))) (h1 : a.eval x1 = .agg (SC 17 (adV v2 b2))) (h2 : a.eval x2 = .int .i64 n) (h3 : a.eval x3 = .int .i64 h) (h13 : a.eval x13 = .string s) :
    (execOp a.eval o).run Tryd.prog w = .ok (.value (.agg (SC 46 (pkV ⟨v1, b1, v2, b2, n, h, 0, 0, 0, false, false, ByteArray.empty, 0, [], false, s⟩ (.slice none 0 0))))) w := by
  have := run_bdPw v1 b1 v2 b2 n h s w
  unfold execOp
  simp only [ho, List.map_toArray, List.map_cons, List.map_nil, h0, h1, h2, h3, h13, Sem.run_bind, this, Result.andThen_ok, Sem.run_pure]
theorem en_wire_V4 (args : Array Value) (w : World) : (callFunc 19 args).run Tryd.prog w = .ok (.enter 19 args) w := by kernel_rfl
theorem en_aditlaw15_ask (args : Array Value) (w : World) : (callFunc 12 args).run Tryd.prog w = .ok (.enter 12 args) w := by kernel_rfl
theorem en_icmp_Echo (args : Array Value) (w : World) : (callFunc 13 args).run Tryd.prog w = .ok (.enter 13 args) w := by kernel_rfl
theorem en_icmp_Problem (args : Array Value) (w : World) : (callFunc 14 args).run Tryd.prog w = .ok (.enter 14 args) w := by kernel_rfl
def a1 : Nat → Int := v4B 10 0 0 1
def a2 : Nat → Int := v4B 10 0 0 2
def askM : Ms := ⟨8, 0, 1, ⟨#[97, 98]⟩⟩
def askP : Pk := pkOf false a1 false a2 askM
theorem a1_b : Byts 16 a1 := fun i hi => by
  have : ∀ i, i < 16 → 0 ≤ a1 i ∧ a1 i < 256 := by decide
  exact this i hi
theorem a2_b : Byts 16 a2 := fun i hi => by
  have : ∀ i, i < 16 → 0 ≤ a2 i ∧ a2 i < 256 := by decide
  exact this i hi
theorem a1_v : validF false a1 = true := by decide
theorem a2_v : validF false a2 = true := by decide
theorem ask_pk : rgtP askP = true ∧ msgB askP = true ∧ msgM askP = askM ∧ askP.pay.size = 10 := pkOf_ok (m := askM) a1_v a2_v (by decide) (by decide) (by decide)
theorem ask_pkb : PkB askP := ⟨⟨a1_b, a2_b⟩, by decide, fun x hx => (by cases hx), by rw [ask_pk.2.2.2]; decide⟩
theorem ask_echo : echoB askP = true := by
  unfold echoB
  rw [ask_pk.2.1, ask_pk.2.2.1]
  decide
theorem echo_exts (P : Pk) : (echoP P).exts = [] := by unfold echoP; split <;> rfl
theorem pkb_of {v1 : Bool} {b1 : Nat → Int} {v2 : Bool} {b2 : Nat → Int} {m : Ms} (h1 : Byts 16 b1) (h2 : Byts 16 b2) (hm : m.body.size ≤ 65515) : PkB (pkOf v1 b1 v2 b2 m) := ⟨⟨h1, h2⟩, by show (0 : Nat) < _; decide, fun x hx => (by cases hx), by
  show (mBldT v1 b1 v2 b2 m).size ≤ _
  unfold mBldT
  split
  · rw [laid_size, msA_size, msR_size]; omega
  · decide⟩
theorem pkb_zero : PkB zeroP := ⟨⟨fun _ _ => by show (0 : Int) ≤ 0 ∧ (0 : Int) < 256; decide, fun _ _ => by show (0 : Int) ≤ 0 ∧ (0 : Int) < 256; decide⟩, by decide, fun x hx => (by cases hx), by decide⟩
theorem echo_pkb {P : Pk} (h : PkB P) : PkB (echoP P) := by
  unfold echoP
  split
  · rename_i he
    refine pkb_of h.ok.db h.ok.sb ?_
    unfold echoB at he
    simp only [Bool.and_eq_true] at he
    exact msg_body he.1.1.1.1
  · exact pkb_zero
theorem ask_dst : eqAF (echoP askP).dv (echoP askP).db askP.sv askP.sb = true := by
  rw [(echo_ok ask_echo).2.2.2]
  exact eqAF_iff.2 ⟨rfl, fun _ _ => rfl⟩
theorem ask_pay : decide (askP.pay = (⟨#[8, 0, 150, 156, 0, 0, 0, 1, 97, 98]⟩ : ByteArray)) = true := by
  refine decide_eq_true ?_
  exact of_decide_eq_true rfl
def lostP : Pk := ⟨askP.sv, askP.sb, askP.dv, askP.db, 17, 1, 0, 0, 0, false, false, ByteArray.empty, 0, [], false, ⟨#[49, 50, 51, 52, 53, 54, 55, 56, 57, 48]⟩⟩
theorem lost_pkb : PkB lostP := ⟨⟨a1_b, a2_b⟩, by decide, fun x hx => (by cases hx), by decide⟩
theorem lost_prob : probB 1 askP.dv askP.db lostP 0 = true := by decide
theorem prob_size {k : Int} {fv : Bool} {fb : Nat → Int} {P : Pk} {mtu : Int} (h : probB k fv fb P mtu = true) : (probP k fv fb P mtu).pay.size = 8 + (quoT P).size := by
  have hp := prob_ok h
  have hm := hp.2.2.2
  have hb := msgM_ok hp.2.2.1
  rw [hm] at hb
  have h2 : (probM k P mtu).body.size = (probP k fv fb P mtu).pay.size - 8 := by
    rw [hb.1]
    exact cutP_size _ 8 _ (Nat.le_refl _)
  have h3 : (probM k P mtu).body = quoT P := rfl
  rw [h3] at h2
  have := hb.2.2.2.1
  omega
theorem lost_size : (probP 1 askP.dv askP.db lostP 0).pay.size = 36 := by
  have hk := prob_is lost_prob
  rw [prob_size lost_prob, quoT_size, bldT_of hk.2.2.2.1 hk.2.2.2.2.1, if_neg (show ¬ lostP.sv = true by decide), four_size hk.2.2.2.1 rfl]
  rfl
theorem learn_0 : learnB ⟨0, 0, []⟩ 0 askP.dv askP.db 1000 = true := by
  show (validF false a2 && true && true) = true
  rw [a2_v]
  rfl
theorem mtu_0 : mtuF (learnP ⟨0, 0, []⟩ 0 askP.dv askP.db 1000) 0 askP.dv askP.db 1500 = 1000 := by
  unfold learnP
  rw [if_pos learn_0]
  have e : (tellP (keepP (tellP ⟨0, 0, []⟩ 0) (adK askP.dv askP.db) (max 1000 (leastK askP.dv))) 0).L = [(adK askP.dv askP.db, ⟨1000, 0, 0⟩)] := rfl
  have hh : hasK [(adK askP.dv askP.db, (⟨1000, 0, 0⟩ : Pth))] (adK askP.dv askP.db) = some (adK askP.dv askP.db, ⟨1000, 0, 0⟩) := by
    unfold hasK
    rw [List.find?_cons_of_pos (by simp)]
  unfold mtuF lookP
  rw [e, hh]
  rfl
theorem allow_0 : allowB 0 0 0 = true := by decide
theorem bu_0 : BuI 0 0 := ⟨by decide, by decide, by decide, by decide⟩
theorem env_glob {w : World} (h : Env w) {B : Nat} (hB : w.heap.size ≤ B) : GlobN (fun k => k < B) := by
  have h4 : 1 < w.heap.size := World.block_lt_of_cell? w _ (h.1 0 (by decide))
  have h6 : 0 < w.heap.size := World.block_lt_of_cell? w _ (h.2.1 0 (by decide))
  have h5 : 2 < w.heap.size := World.block_lt_of_cell? w _ (h.2.2 0 (by decide))
  exact ⟨Nat.lt_of_lt_of_le h4 hB, Nat.lt_of_lt_of_le h6 hB, Nat.lt_of_lt_of_le h5 hB⟩
theorem PtAt.spare {w w' : World} {B b : Nat} {N : Nat → Prop} {g : Nat} {mv : Value} {S : PtS} (h : PtAt w B N g mv S) (t : Touch (fun k => k = b) w w') (hb : N b) : PtAt w' B N g mv S := by
  refine { h with at_ := h.at_.tou t (fun e => h.gN (e ▸ hb)), map := ?_, bw := Nat.le_trans h.bw t.size }
  rcases h.map with h1 | ⟨m, e, hm⟩
  · exact .inl h1
  · exact .inr ⟨m, e, hm.block (t.block m hm.lt (fun e2 => h.mN m e (e2 ▸ hb)))⟩
theorem run_neBu (p : Addr) (w : World) : Sem.run Tryd.prog (binOp .neq 24 (.pointer (some p)) (.pointer none)) w = .ok (.bool true) w := by kernel_rfl
theorem run_nePt (p : Addr) (w : World) : Sem.run Tryd.prog (binOp .neq 31 (.pointer (some p)) (.pointer none)) w = .ok (.bool true) w := by kernel_rfl
theorem exec_neBu {a : Act} {o : Oper} {w : World} {x y : Operand} {t : TypeId} (ho : o.op = .binOp .neq 24 x y t) {p : Addr} (hx : a.eval x = .pointer (some p)) (hy : a.eval y = .pointer none) : (execOp a.eval o).run Tryd.prog w = .ok (.value (.bool true)) w := exec_bin2 ho hx hy rfl (run_neBu p w)
theorem exec_nePt {a : Act} {o : Oper} {w : World} {x y : Operand} {t : TypeId} (ho : o.op = .binOp .neq 31 x y t) {p : Addr} (hx : a.eval x = .pointer (some p)) (hy : a.eval y = .pointer none) : (execOp a.eval o).run Tryd.prog w = .ok (.value (.bool true)) w := exec_bin2 ho hx hy rfl (run_nePt p w)
set_option linter.unusedSimpArgs false in
set_option maxHeartbeats 4000000 in
theorem ask_run (w : World) : Calls Tryd.prog 12 #[] w fun e w' => e = .returned (.agg (SC 46 (pkV askP (.slice none 0 0)))) ∧ Below w.heap.size w w' := by
  generalize hRV : (.agg (SC 46 (pkV askP (.slice none 0 0))) : Value) = RV
  have HRV := Hid.mk hRV
  clear hRV
  have hb1 := a1_b
  have hb2 := a2_b
  have HR : Hid ((1 : Nat) < 4294967296) := Hid.mk (by decide)
  go_enter Tryd.func12, Tryd.ntmps12
  go_wp2_with (refine wl_alO (V := pkV zeroP (.slice none 0 0)) rfl rfl zeroPk ?_; intro g1 w1 hg1 s1 hB1; refine Hid.out ?_)
  refine Hid.mk ?_
  have hz2 : w.heap.size ≤ g1 := by omega
  have hbt3 := hB1
  clear hB1 hg1
  have HC4 : Hid (Calls Tryd.prog 19 #[.int .u8 10, .int .u8 0, .int .u8 0, .int .u8 1] w1 fun e w' => e = .returned (.agg (SC 17 (adV false a1))) ∧ Below w1.heap.size w1 w') := Hid.mk (V4_run 10 0 0 1 w1)
  go_wp2_with (refine wl_cal en_wire_V4 HC4 rfl rfl (args4 rfl rfl rfl rfl) ?_; intro w5 hB5; refine Hid.out ?_)
  refine Hid.mk ?_
  clear HC4
  have s6 := s1.kept hB5
  clear s1
  have hbt7 := hbt3.trans (hB5.mono hbt3.size)
  clear hbt3
  clear hB5
  go_wp2_with (refine wl_alO (V := adV false (fun _ => 0)) rfl rfl zeroAddr ?_; intro g8 w8 hg8 s8 hB8; refine Hid.out ?_)
  refine Hid.mk ?_
  have hn9 : g1 ≠ g8 := by have := s6.lt; omega
  have hz10 : w.heap.size ≤ g8 := by have := hbt7.size; omega
  have s11 := s6.kept hB8
  clear s6
  have hbt12 := hbt7.trans (hB8.mono hbt7.size)
  clear hbt7
  clear hB8 hg8
  go_wp2_with (refine st_stO (V := adV false a1) (g := g8) rfl rfl isAddr (adV_one _ _) s8 rfl rfl ?_; intro w13 s13 ho13; refine Hid.out ?_)
  refine Hid.mk ?_
  clear s8
  have s14 := s11.only ho13 hn9
  clear s11
  have hbt15 := hbt12.trans (ho13.below hz10)
  clear hbt12
  clear ho13
  have HC16 : Hid (Calls Tryd.prog 19 #[.int .u8 10, .int .u8 0, .int .u8 0, .int .u8 2] w13 fun e w' => e = .returned (.agg (SC 17 (adV false a2))) ∧ Below w13.heap.size w13 w') := Hid.mk (V4_run 10 0 0 2 w13)
  go_wp2_with (refine wl_cal en_wire_V4 HC16 rfl rfl (args4 rfl rfl rfl rfl) ?_; intro w17 hB17; refine Hid.out ?_)
  refine Hid.mk ?_
  clear HC16
  have s18 := s14.kept hB17
  clear s14
  have s19 := s13.kept hB17
  clear s13
  have hbt20 := hbt15.trans (hB17.mono hbt15.size)
  clear hbt15
  clear hB17
  go_wp2_with (refine wl_alO (V := adV false (fun _ => 0)) rfl rfl zeroAddr ?_; intro g21 w21 hg21 s21 hB21; refine Hid.out ?_)
  refine Hid.mk ?_
  have hn22 : g1 ≠ g21 := by have := s18.lt; omega
  have hn23 : g8 ≠ g21 := by have := s19.lt; omega
  have hz24 : w.heap.size ≤ g21 := by have := hbt20.size; omega
  have s25 := s18.kept hB21
  clear s18
  have s26 := s19.kept hB21
  clear s19
  have hbt27 := hbt20.trans (hB21.mono hbt20.size)
  clear hbt20
  clear hB21 hg21
  go_wp2_with (refine st_stO (V := adV false a2) (g := g21) rfl rfl isAddr (adV_one _ _) s21 rfl rfl ?_; intro w28 s28 ho28; refine Hid.out ?_)
  refine Hid.mk ?_
  clear s21
  have s29 := s25.only ho28 hn22
  clear s25
  have s30 := s26.only ho28 hn23
  clear s26
  have hbt31 := hbt27.trans (ho28.below hz24)
  clear hbt27
  clear ho28
  go_wp2_with (refine wl_value rfl (look_st rfl isAddr s30 rfl) ?_; refine Hid.out ?_)
  refine Hid.mk ?_
  go_wp2_with (refine wl_value rfl (look_st rfl isAddr s28 rfl) ?_; refine Hid.out ?_)
  refine Hid.mk ?_
  go_wp2_with (refine wl_value rfl (exec_bdMsA (n := 8) (r := 1) (s := ⟨#[97, 98]⟩) rfl rfl rfl rfl) ?_; refine Hid.out ?_)
  refine Hid.mk ?_
  have HC32 : Hid (Calls Tryd.prog 20 #[.agg (SC 17 (adV false a1)), .agg (SC 17 (adV false a2)), .agg (SC 4 (msV (⟨8, 0, 1, ⟨#[97, 98]⟩⟩)))] w28 fun e w' => e = .returned (.tuple #[.string (mBldT false a1 false a2 (⟨8, 0, 1, ⟨#[97, 98]⟩⟩)), .int .i64 (mBldE false a1 false a2 (⟨8, 0, 1, ⟨#[97, 98]⟩⟩))]) ∧ Below w28.heap.size w28 w') := Hid.mk (iBuild_run false a1 false a2 (⟨8, 0, 1, ⟨#[97, 98]⟩⟩) w28 hb1 hb2 HR.out)
  go_wp2_with (refine wl_cal en_icmp_Build HC32 rfl rfl (args3 rfl rfl rfl) ?_; intro w33 hB33; refine Hid.out ?_)
  refine Hid.mk ?_
  clear HC32
  have s34 := s29.kept hB33
  clear s29
  have s35 := s30.kept hB33
  clear s30
  have s36 := s28.kept hB33
  clear s28
  have hbt37 := hbt31.trans (hB33.mono hbt31.size)
  clear hbt31
  clear hB33
  go_wp2_with (refine wl_value rfl (look_st rfl isAddr s35 rfl) ?_; refine Hid.out ?_)
  refine Hid.mk ?_
  go_wp2_with (refine wl_value rfl (look_st rfl isAddr s36 rfl) ?_; refine Hid.out ?_)
  refine Hid.mk ?_
  go_wp2_with (refine wl_value rfl (exec_bdPk rfl rfl rfl rfl rfl rfl) ?_; refine Hid.out ?_)
  refine Hid.mk ?_
  go_wp2_with (refine st_stO (V := pkV (⟨false, a1, false, a2, 1, 64, 0, 0, 0, false, false, ByteArray.empty, 0, [], false, mBldT false a1 false a2 (⟨8, 0, 1, ⟨#[97, 98]⟩⟩)⟩) (.slice none 0 0)) (g := g1) rfl rfl isPk (pkV_one rfl) s34 rfl rfl ?_; intro w38 s38 ho38; refine Hid.out ?_)
  refine Hid.mk ?_
  clear s34
  have s39 := s35.only ho38 hn9.symm
  clear s35
  have s40 := s36.only ho38 hn22.symm
  clear s36
  have hbt41 := hbt37.trans (ho38.below hz2)
  clear hbt37
  clear ho38
  go_wp2_with fail
  refine bodyPost_ret (res_st rfl isPk s38 (by rfl)) rfl ?_
  exact ⟨Eq.trans (rfl : _ = Ending.returned (.agg (SC 46 (pkV (⟨false, a1, false, a2, 1, 64, 0, 0, 0, false, false, ByteArray.empty, 0, [], false, mBldT false a1 false a2 (⟨8, 0, 1, ⟨#[97, 98]⟩⟩)⟩) (.slice none 0 0))))) (by rw [← HRV.out] <;> rfl), hbt41⟩
set_option linter.unusedSimpArgs false in
set_option maxHeartbeats 8000000 in
theorem awake_run (w : World) (he : Env w) : Calls Tryd.prog 5 #[] w fun e w' => e = .returned (.bool true) ∧ Below w.heap.size w w' := by
  generalize hRV : (.bool true : Value) = RV
  have HRV := Hid.mk hRV
  clear hRV
  have HE := Hid.mk he
  clear he
  have HK1 : Hid ((echoB askP) = true) := Hid.mk ask_echo
  have HK2 : Hid ((echoB (echoP askP)) = false) := Hid.mk (echo_ok ask_echo).2.1
  have HK3 : Hid ((probB 1 askP.dv askP.db lostP 0) = true) := Hid.mk lost_prob
  have HK4 : Hid ((decide (askP.pay = ⟨#[8, 0, 150, 156, 0, 0, 0, 1, 97, 98]⟩)) = true) := Hid.mk ask_pay
  have HK5 : Hid ((eqAF ((echoP askP).dv) ((echoP askP).db) askP.sv askP.sb) = true) := Hid.mk ask_dst
  have HK6 : Hid ((decide ((((probP 1 askP.dv askP.db lostP 0).pay).size : Int) = 36)) = true) := Hid.mk (decide_eq_true (by rw [lost_size]; rfl))
  go_enter Tryd.func5, Tryd.ntmps5
  have HC1 : Hid (Calls Tryd.prog 12 #[] w fun e w' => e = .returned (.agg (SC 46 (pkV askP (.slice none 0 0)))) ∧ Below w.heap.size w w') := Hid.mk (ask_run w)
  go_wp2_with (refine wl_cal en_aditlaw15_ask HC1 rfl rfl (args0) ?_; intro w2 hB2; refine Hid.out ?_)
  refine Hid.mk ?_
  clear HC1
  have hbt3 := hB2
  clear hB2
  go_wp2_with (refine wl_alO (V := pkV zeroP (.slice none 0 0)) rfl rfl zeroPk ?_; intro g4 w4 hg4 s4 hB4; refine Hid.out ?_)
  refine Hid.mk ?_
  have hz5 : w.heap.size ≤ g4 := by have := hbt3.size; omega
  have hbt6 := hbt3.trans (hB4.mono hbt3.size)
  clear hbt3
  clear hB4 hg4
  go_wp2_with (refine st_stO (V := pkV askP (.slice none 0 0)) (g := g4) rfl rfl isPk (pkV_one rfl) s4 rfl rfl ?_; intro w7 s7 ho7; refine Hid.out ?_)
  refine Hid.mk ?_
  clear s4
  have hbt8 := hbt6.trans (ho7.below hz5)
  clear hbt6
  clear ho7
  go_wp2_with (refine wl_value rfl (look_st rfl isPk s7 rfl) ?_; refine Hid.out ?_)
  refine Hid.mk ?_
  have HC9 : Hid (Calls Tryd.prog 13 #[.agg (SC 46 (pkV askP (.slice none 0 0)))] w7 fun e w' => e = .returned (.tuple #[.agg (SC 46 (pkV (echoP askP) (.slice none 0 0))), .bool true]) ∧ Below w7.heap.size w7 w') := Hid.mk (by have h := Echo_run askP (.slice none 0 0) w7 (Env.kept HE.out hbt8) (ExAt.nil w7) ask_pkb; rw [HK1.out] at h; exact h)
  go_wp2_with (refine wl_cal en_icmp_Echo HC9 rfl rfl (args1 rfl) ?_; intro w10 hB10; refine Hid.out ?_)
  refine Hid.mk ?_
  clear HC9
  have s11 := s7.kept hB10
  clear s7
  have hbt12 := hbt8.trans (hB10.mono hbt8.size)
  clear hbt8
  clear hB10
  go_wp2_with (refine wl_alO (V := pkV zeroP (.slice none 0 0)) rfl rfl zeroPk ?_; intro g13 w13 hg13 s13 hB13; refine Hid.out ?_)
  refine Hid.mk ?_
  have hn14 : g4 ≠ g13 := by have := s11.lt; omega
  have hz15 : w.heap.size ≤ g13 := by have := hbt12.size; omega
  have s16 := s11.kept hB13
  clear s11
  have hbt17 := hbt12.trans (hB13.mono hbt12.size)
  clear hbt12
  clear hB13 hg13
  go_wp2_with (refine st_stO (V := pkV (echoP askP) (.slice none 0 0)) (g := g13) rfl rfl isPk (pkV_one rfl) s13 rfl rfl ?_; intro w18 s18 ho18; refine Hid.out ?_)
  refine Hid.mk ?_
  clear s13
  have s19 := s16.only ho18 hn14
  clear s16
  have hbt20 := hbt17.trans (ho18.below hz15)
  clear hbt17
  clear ho18
  go_wp2_with (refine wl_value rfl (look_st rfl isPk s18 rfl) ?_; refine Hid.out ?_)
  refine Hid.mk ?_
  have HC21 : Hid (Calls Tryd.prog 13 #[.agg (SC 46 (pkV (echoP askP) (.slice none 0 0)))] w18 fun e w' => e = .returned (.tuple #[.agg (SC 46 (pkV (echoP (echoP askP)) (.slice none 0 0))), .bool false]) ∧ Below w18.heap.size w18 w') := Hid.mk (by have h := Echo_run (echoP askP) (.slice none 0 0) w18 (Env.kept HE.out hbt20) (by rw [echo_exts]; exact ExAt.nil w18) (echo_pkb ask_pkb); rw [HK2.out] at h; exact h)
  go_wp2_with (refine wl_cal en_icmp_Echo HC21 rfl rfl (args1 rfl) ?_; intro w22 hB22; refine Hid.out ?_)
  refine Hid.mk ?_
  clear HC21
  have s23 := s19.kept hB22
  clear s19
  have s24 := s18.kept hB22
  clear s18
  have hbt25 := hbt20.trans (hB22.mono hbt20.size)
  clear hbt20
  clear hB22
  go_wp2_with (refine wl_alO (V := pkV zeroP (.slice none 0 0)) rfl rfl zeroPk ?_; intro g26 w26 hg26 s26 hB26; refine Hid.out ?_)
  refine Hid.mk ?_
  have hn27 : g4 ≠ g26 := by have := s23.lt; omega
  have hn28 : g13 ≠ g26 := by have := s24.lt; omega
  have hz29 : w.heap.size ≤ g26 := by have := hbt25.size; omega
  have s30 := s23.kept hB26
  clear s23
  have s31 := s24.kept hB26
  clear s24
  have hbt32 := hbt25.trans (hB26.mono hbt25.size)
  clear hbt25
  clear hB26 hg26
  go_wp2_with (refine st_stO (V := pkV (echoP (echoP askP)) (.slice none 0 0)) (g := g26) rfl rfl isPk (pkV_one rfl) s26 rfl rfl ?_; intro w33 s33 ho33; refine Hid.out ?_)
  refine Hid.mk ?_
  clear s26
  have s34 := s30.only ho33 hn27
  clear s30
  have s35 := s31.only ho33 hn28
  clear s31
  have hbt36 := hbt32.trans (ho33.below hz29)
  clear hbt32
  clear ho33
  go_wp2_with (refine wl_value rfl (exec_fpk 1 (by decide) rfl rfl) ?_; refine Hid.out ?_)
  refine Hid.mk ?_
  go_wp2_with (refine wl_value rfl (exec_ld rfl rfl (ld_dst s34)) ?_; refine Hid.out ?_)
  refine Hid.mk ?_
  go_wp2_with (refine wl_value rfl (exec_fpk 0 (by decide) rfl rfl) ?_; refine Hid.out ?_)
  refine Hid.mk ?_
  go_wp2_with (refine wl_value rfl (exec_ld rfl rfl (ld_src s34)) ?_; refine Hid.out ?_)
  refine Hid.mk ?_
  go_wp2_with (refine wl_value rfl (exec_fpk 1 (by decide) rfl rfl) ?_; refine Hid.out ?_)
  refine Hid.mk ?_
  go_wp2_with (refine wl_value rfl (exec_ld rfl rfl (ld_dst s34)) ?_; refine Hid.out ?_)
  refine Hid.mk ?_
  go_wp2_with (refine wl_value rfl (exec_bdPw rfl rfl rfl rfl rfl rfl) ?_; refine Hid.out ?_)
  refine Hid.mk ?_
  have HC37 : Hid (Calls Tryd.prog 14 #[.int .i64 1, .agg (SC 17 (adV askP.dv askP.db)), .agg (SC 46 (pkV (⟨askP.sv, askP.sb, askP.dv, askP.db, 17, 1, 0, 0, 0, false, false, ByteArray.empty, 0, [], false, ⟨#[49, 50, 51, 52, 53, 54, 55, 56, 57, 48]⟩⟩) (.slice none 0 0))), .int .i64 0] w33 fun e w' => e = .returned (.tuple #[.agg (SC 46 (pkV (probP 1 askP.dv askP.db lostP 0) (.slice none 0 0))), .bool true]) ∧ Below w33.heap.size w33 w') := Hid.mk (by have h := Problem_run 1 askP.dv askP.db lostP (.slice none 0 0) 0 w33 (Env.kept HE.out hbt36) (ExAt.nil w33) lost_pkb a2_b; rw [HK3.out] at h; exact h)
  go_wp2_with (refine wl_cal en_icmp_Problem HC37 rfl rfl (args4 rfl rfl rfl rfl) ?_; intro w38 hB38; refine Hid.out ?_)
  refine Hid.mk ?_
  clear HC37
  have s39 := s34.kept hB38
  clear s34
  have s40 := s35.kept hB38
  clear s35
  have s41 := s33.kept hB38
  clear s33
  have hbt42 := hbt36.trans (hB38.mono hbt36.size)
  clear hbt36
  clear hB38
  go_wp2_with (refine wl_alO (V := pkV zeroP (.slice none 0 0)) rfl rfl zeroPk ?_; intro g43 w43 hg43 s43 hB43; refine Hid.out ?_)
  refine Hid.mk ?_
  have hn44 : g4 ≠ g43 := by have := s39.lt; omega
  have hn45 : g13 ≠ g43 := by have := s40.lt; omega
  have hn46 : g26 ≠ g43 := by have := s41.lt; omega
  have hz47 : w.heap.size ≤ g43 := by have := hbt42.size; omega
  have s48 := s39.kept hB43
  clear s39
  have s49 := s40.kept hB43
  clear s40
  have s50 := s41.kept hB43
  clear s41
  have hbt51 := hbt42.trans (hB43.mono hbt42.size)
  clear hbt42
  clear hB43 hg43
  go_wp2_with (refine st_stO (V := pkV (probP 1 askP.dv askP.db lostP 0) (.slice none 0 0)) (g := g43) rfl rfl isPk (pkV_one rfl) s43 rfl rfl ?_; intro w52 s52 ho52; refine Hid.out ?_)
  refine Hid.mk ?_
  clear s43
  have s53 := s48.only ho52 hn44
  clear s48
  have s54 := s49.only ho52 hn45
  clear s49
  have s55 := s50.only ho52 hn46
  clear s50
  have hbt56 := hbt51.trans (ho52.below hz47)
  clear hbt51
  clear ho52
  go_wp2_with (go_at_call 6; refine (NewBucket_run w52).mono ?_; rintro e w57 ⟨g57, rfl, hg57, s57, hB57⟩; refine Hid.out ?_)
  refine Hid.mk ?_
  have hn58 : g4 ≠ g57 := by have := s53.lt; omega
  have hn59 : g13 ≠ g57 := by have := s54.lt; omega
  have hn60 : g26 ≠ g57 := by have := s55.lt; omega
  have hn61 : g43 ≠ g57 := by have := s52.lt; omega
  have hz62 : w.heap.size ≤ g57 := by have := hbt56.size; omega
  have s63 := s53.kept hB57
  clear s53
  have s64 := s54.kept hB57
  clear s54
  have s65 := s55.kept hB57
  clear s55
  have s66 := s52.kept hB57
  clear s52
  have hbt67 := hbt56.trans (hB57.mono hbt56.size)
  clear hbt56
  clear hB57 hg57
  go_wp2_with (go_at_call 8; refine (NewPaths_run w57).mono ?_; rintro e w68 ⟨g68, rfl, hg68, s68, hB68⟩; refine Hid.out ?_)
  refine Hid.mk ?_
  obtain ⟨B0, hB0⟩ : ∃ B, B = w57.heap.size := ⟨_, rfl⟩
  have HB0 := Hid.mk hB0
  clear hB0
  have hl69 : g4 < B0 := by have := s63.lt; have := HB0.out; omega
  have hl70 : g13 < B0 := by have := s64.lt; have := HB0.out; omega
  have hl71 : g26 < B0 := by have := s65.lt; have := HB0.out; omega
  have hl72 : g43 < B0 := by have := s66.lt; have := HB0.out; omega
  have hl73 : g57 < B0 := by have := s57.lt; have := HB0.out; omega
  have hle0 : w.heap.size ≤ B0 := by have := HB0.out; have := hbt67.size; omega
  have HPT74 := Hid.mk (newP_at s68 (B := B0) (by have := HB0.out; omega))
  have s75 := s63.kept hB68
  clear s63
  have s76 := s64.kept hB68
  clear s64
  have s77 := s65.kept hB68
  clear s65
  have s78 := s66.kept hB68
  clear s66
  have s79 := s57.kept hB68
  clear s57
  have hbt80 := hbt67.trans (hB68.mono hbt67.size)
  clear hbt67
  clear hB68 hg68 s68
  go_wp2_with (refine wl_value rfl (exec_fpk 13 (by decide) rfl rfl) ?_; refine Hid.out ?_)
  refine Hid.mk ?_
  go_wp2_with (refine wl_value rfl (exec_ld rfl rfl (ldPs (pk_pay s75))) ?_; refine Hid.out ?_)
  refine Hid.mk ?_
  go_wp2_with (refine wl_value rfl (kn_ (c := true) HK4 (exec_eqSd (s := askP.pay) (t := ⟨#[8, 0, 150, 156, 0, 0, 0, 1, 97, 98]⟩) rfl rfl rfl)) ?_; refine Hid.out ?_)
  refine Hid.mk ?_
  go_wp2_with (refine wl_value rfl (exec_fpk 1 (by decide) rfl rfl) ?_; refine Hid.out ?_)
  refine Hid.mk ?_
  go_wp2_with (refine wl_value rfl (exec_ld rfl rfl (ld_dst s76)) ?_; refine Hid.out ?_)
  refine Hid.mk ?_
  go_wp2_with (refine wl_value rfl (exec_fpk 0 (by decide) rfl rfl) ?_; refine Hid.out ?_)
  refine Hid.mk ?_
  go_wp2_with (refine wl_value rfl (exec_ld rfl rfl (ld_src s75)) ?_; refine Hid.out ?_)
  refine Hid.mk ?_
  go_wp2_with (refine wl_value rfl (kn_ (c := true) HK5 (exec_eqA rfl rfl rfl)) ?_; refine Hid.out ?_)
  refine Hid.mk ?_
  go_wp2_with (refine wl_value rfl (exec_fpk 13 (by decide) rfl rfl) ?_; refine Hid.out ?_)
  refine Hid.mk ?_
  go_wp2_with (refine wl_value rfl (exec_ld rfl rfl (ldPs (pk_pay s78))) ?_; refine Hid.out ?_)
  refine Hid.mk ?_
  go_wp2_with (refine wl_value rfl (exec_lenS rfl rfl) ?_; refine Hid.out ?_)
  refine Hid.mk ?_
  go_wp2_with (refine wl_value rfl (kn_ (c := true) HK6 (cmp_eq (m := (((probP 1 askP.dv askP.db lostP 0).pay).size : Int)) (n := 36) rfl rfl rfl)) ?_; refine Hid.out ?_)
  refine Hid.mk ?_
  go_wp2_with (refine wl_value rfl (exec_neBu rfl rfl rfl) ?_; refine Hid.out ?_)
  refine Hid.mk ?_
  go_wp2_with (refine wl_value rfl (exec_nePt rfl rfl rfl) ?_; refine Hid.out ?_)
  refine Hid.mk ?_
  have HC81 := Hid.mk (by have h := Allow_run (now := 0) s79 bu_0 (by decide); rw [allow_0] at h; exact h)
  go_wp2_with (go_at_call 7; refine HC81.out.mono ?_; rintro e w82 ⟨rfl, s82, hT82⟩; refine Hid.out ?_)
  refine Hid.mk ?_
  clear HC81
  have s83 := s75.tou hT82 hn58
  clear s75
  have s84 := s76.tou hT82 hn59
  clear s76
  have s85 := s77.tou hT82 hn60
  clear s77
  have s86 := s78.tou hT82 hn61
  clear s78
  have HPT87 := Hid.mk (HPT74.out.spare hT82 hl73)
  clear HPT74
  have hB88 := tou_bel hT82 hz62 hbt80.size
  have hbt89 := hbt80.trans hB88
  clear hbt80
  clear hB88 hT82 s79
  go_wp2_with (refine wl_value rfl (exec_fpk 1 (by decide) rfl rfl) ?_; refine Hid.out ?_)
  refine Hid.mk ?_
  go_wp2_with (refine wl_value rfl (exec_ld rfl rfl (ld_dst s83)) ?_; refine Hid.out ?_)
  refine Hid.mk ?_
  have HC90 := Hid.mk (by have h := Learn_run (v := askP.dv) (b := askP.db) (now := 0) (mtu := 1000) HPT87.out (Env.kept HE.out hbt89) (env_glob HE.out hle0) (by decide) (by decide) (by show (0 : Nat) ≠ 16; decide); rw [learn_0] at h; exact h)
  go_wp2_with (go_at_call 9; refine HC90.out.mono ?_; rintro e w91 ⟨rfl, ⟨mvL, hpL⟩, hs91⟩; refine Hid.out ?_)
  refine Hid.mk ?_
  clear HC90
  have s92 := s83.spares hs91 hl69
  clear s83
  have s93 := s84.spares hs91 hl70
  clear s84
  have s94 := s85.spares hs91 hl71
  clear s85
  have s95 := s86.spares hs91 hl72
  clear s86
  have s96 := s82.spares hs91 hl73
  clear s82
  have hB97 := (spares_bel hs91 HPT87.out.bw).mono hle0
  have hbt98 := hbt89.trans hB97
  clear hbt89
  clear hB97 hs91 HPT87
  have HPT99 := Hid.mk hpL
  clear hpL
  go_wp2_with (refine wl_value rfl (exec_fpk 1 (by decide) rfl rfl) ?_; refine Hid.out ?_)
  refine Hid.mk ?_
  go_wp2_with (refine wl_value rfl (exec_ld rfl rfl (ld_dst s92)) ?_; refine Hid.out ?_)
  refine Hid.mk ?_
  have HC100 := Hid.mk (by have h := MTU_run (v := askP.dv) (b := askP.db) (now := 0) (most := 1500) HPT99.out (by decide); rw [mtu_0] at h; exact h)
  go_wp2_with (go_at_call 11; refine HC100.out.mono ?_; rintro e w101 ⟨rfl, hpM, hs101⟩; refine Hid.out ?_)
  refine Hid.mk ?_
  clear HC100
  have s102 := s92.spares hs101 hl69
  clear s92
  have s103 := s93.spares hs101 hl70
  clear s93
  have s104 := s94.spares hs101 hl71
  clear s94
  have s105 := s95.spares hs101 hl72
  clear s95
  have s106 := s96.spares hs101 hl73
  clear s96
  have hB107 := (spares_bel hs101 HPT99.out.bw).mono hle0
  have hbt108 := hbt98.trans hB107
  clear hbt98
  clear hB107 hs101 HPT99
  have HPT109 := Hid.mk hpM
  clear hpM
  have HK110 : Hid (decide (1000 = 1000) = true) := Hid.mk (by decide)
  go_wp2_with (refine wl_value rfl (kn_ (c := true) HK110 (cmp_eq (m := 1000) (n := 1000) rfl rfl rfl)) ?_; refine Hid.out ?_)
  refine Hid.mk ?_
  go_wp2_with fail
  go_ret
  exact ⟨Eq.trans (rfl : _ = Ending.returned (.bool true)) (by rw [← HRV.out]), hbt108⟩
end Go.Proofs.YtojekoakgpkkdabDoor

/-
  Own text. Packets, and what is lost, as arguments. (After our own text of a packet as an argument.)
-/
namespace Go.Proofs.YtojekoakgpkkdabDoor
open Go.ChangeShapes Go.WideShapes Go.ChangeAt Go.WideMaps Go.WideElems Go.RowKit Go.Proofs
set_option maxRecDepth 100000
theorem laid13 : laidOutB Tryd.prog = true := by kernel_rfl
section
variable {H : Type} {enc : TypeId × Value → H} {w : World} {base : Nat} {sp : Nat → Bool} {held : Bool} {fuel : Nat} {cs : List Value} {x : DataW H × List MemPlace}
theorem cIn : Tryd.prog.cellsOf 3 = 1 := by kernel_rfl
end
section
variable {H : Type} {enc : TypeId × Value → H} {W : World} {base : Nat} {sp : Nat → Bool} {v : Value} {d : DataW H} {p : List MemPlace}
end
end Go.Proofs.YtojekoakgpkkdabDoor

