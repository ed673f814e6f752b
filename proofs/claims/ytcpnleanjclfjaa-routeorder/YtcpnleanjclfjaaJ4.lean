/-
  Own text. The law's four: a prefix of version 4.
-/
import Derived.Test.YtcpnleanjclfjaaJ3
import Derived.Test.YtcpnleanjclfjaaJ2
import Derived.RangeFuncRecord
import Derived.RangeFuncSeq
import Derived.TacticsIn
namespace Go.Proofs.Ytcpnleanjclfjaa
open Go.RowKit Go.Proofs
set_option maxRecDepth 100000
def fourB (a b : Int) (i : Nat) : Int := if i = 0 then a else if i = 1 then b else 0
set_option maxHeartbeats 4000000 in
theorem four_run (x y n : Int) (w : World) : Calls Try.prog 24 #[.int .u8 x, .int .u8 y, .int .i64 n] w fun e w' => e = .returned (.agg (SC 18 (prV false (fourB x y) n))) ∧ Below w.heap.size w w' := by
  go_enter Try.func24, Try.ntmps24
  go_wp2_with (refine wl_alO rfl rfl zeroPfx ?_; intro g2 w2 hg2 q2 hB2; refine Hid.out ?_)
  refine Hid.mk ?_
  go_wp2_with (first | (refine wl_value rfl (exec_px1 rfl (by rfl)) ?_) | (refine wl_alO rfl rfl zeroPfx ?_; intro g3 w3 hg3 q3 hB3; refine Hid.out ?_))
  refine Hid.mk ?_
  have l2 := SAt.lt q2
  have q23 := SAt.kept q2 hB3
  have hBb : Below w.heap.size w w3 := hB2.trans (hB3.mono hB2.size)
  go_wp2_with (refine st_stO rfl rfl isPfx (prV_one _ _ _) q3 (by rfl) (by rfl) ?_; intro w4 q4 o4; refine Hid.out ?_)
  refine Hid.mk ?_
  have q24 := q23.only o4 (by omega)
  have hBc := hBb.trans (o4.below (show w.heap.size ≤ g3 by have := hB2.size; omega))
  have c0 : w4.cell? ⟨g3, 1, none⟩ = some (.int .u8 0) := pr_b q4 0 (by omega)
  have c1 : w4.cell? ⟨g3, 2, none⟩ = some (.int .u8 0) := pr_b q4 1 (by omega)
  have f1 : ∀ i, w4.frozen? ⟨g3, i, none⟩ = false := fun i => frozen_of_row w4 g3 i _ _ q4
  have q5 : SAt ((w4.setCell ⟨g3, 1, none⟩ (.int .u8 x)).setCell ⟨g3, 2, none⟩ (.int .u8 y)) g3 37 18 (prV false (fourB x y) n) := ((q4.set 1 (.int .u8 x) (by omega)).set 2 (.int .u8 y) (by omega)).congr (fun i hi => by
    show (if i = 2 then _ else if i = 1 then _ else _) = _
    unfold prV adV fourB
    by_cases h2 : i = 2
    · subst h2; rfl
    · rw [if_neg h2]
      by_cases h1 : i = 1
      · subst h1; rfl
      · rw [if_neg h1]
        by_cases h17 : i < 17
        · rw [if_pos h17, if_pos h17]
          by_cases h0 : i < 1
          · rw [if_pos h0, if_pos h0]
          · rw [if_neg h0, if_neg h0, if_neg (by omega), if_neg (by omega)]
        · rw [if_neg h17, if_neg h17])
  have hne : g2 ≠ g3 := by omega
  have q6 : SAt ((w4.setCell ⟨g3, 1, none⟩ (.int .u8 x)).setCell ⟨g3, 2, none⟩ (.int .u8 y)) g2 37 18 (prV false (fun _ => 0) 0) := (q24.only only_set hne).only only_set hne
  have hg3w : w.heap.size ≤ g3 := by have := hB2.size; omega
  have hBd : Below w.heap.size w ((w4.setCell ⟨g3, 1, none⟩ (.int .u8 x)).setCell ⟨g3, 2, none⟩ (.int .u8 y)) := (hBc.trans (only_set.below hg3w)).trans (only_set.below hg3w)
  go_wp2_with (first | (refine wl_value rfl (look_st rfl isPfx q5 (by rfl)) ?_) | (refine st_stO rfl rfl isPfx (prV_one _ _ _) q6 (by rfl) (by rfl) ?_; intro w8 q8 o8; refine Hid.out ?_))
  refine Hid.mk ?_
  go_wp2_with fail
  exact bodyPost_ret (res_st rfl isPfx q8 (by rfl)) rfl ⟨rfl, hBd.trans (o8.below hg2)⟩
end Go.Proofs.Ytcpnleanjclfjaa
/-
  Own text. Ranges over functions, without a fence: what a function that is ranged over gives (Gives), the law of the statement, a call of yield, and how the plain laws go on within a round. No program is named here.
-/
namespace Go.Proofs.Ytcpnleanjclfjaa
open Go Go.RowKit
section
variable {P : Program} {ops : Array Oper} {Q : Exit → Act → World → Prop} {ro : Option Nat}
/-- No fence, within a round or not. -/
def Wd (ro : Option Nat) : Fence := { Fence.wide with round := ro }
theorem callsWd {n : Nat} {f : FuncId} {args : Array Value} {w : World} {R : Ending → World → Prop} : CallsIn (Wd ro) n P f args w R ↔ Calls P f args w R := callsIn_wide (n := n)
theorem Wd_depth {p : Prop} (h : (Wd ro).depth.isSome = true) : p := by cases h
theorem upon_in {n : Nat} {o : Oper} {a : Act} {K : Act → World → Prop} {r : Result Next} (h : o.upon P a K Q r) : o.uponIn (Wd ro) n P a K Q r := by
  cases r with
  | ok x w =>
    cases x with
    | enter f args => exact ⟨fun hd => Wd_depth hd, callsWd.2 h⟩
    | row r args => exact ⟨fun hd => Wd_depth hd, fun c cs _ => by obtain ⟨v, w', hr, hs⟩ := h c cs; exact ⟨v, w', hr, stepsIn_wide.2 hs⟩⟩
    | value v => exact h
    | skip => exact h
    | defer d => exact h
    | _ => exact h.elim
  | halt x w => cases x <;> first | exact h | exact h.elim
def noDef (o : Oper) : Bool := match o.op with | .defer _ => false | _ => true
theorem noDef_ne {o : Oper} (h : noDef o = true) (c : Call) : o.op ≠ .defer c := fun e => by unfold noDef at h; rw [e] at h; cases h
theorem wp_in {n : Nat} {o : Oper} {a : Act} {w : World} {K : Act → World → Prop} (hnd : noDef o = true) (h : o.wp P a w K Q) : o.wpIn (Wd ro) n P a w K Q :=
  ⟨fun _ _ => trivial, by
    show o.uponIn (Wd ro) n P a K Q ((o.semAt ro a.eval).run P w)
    rw [Oper.semAt_eq ro _ _ (noDef_ne hnd)]
    exact upon_in h⟩
/-- A list of operations, cut: the first by the plain laws, then the others. -/
def splQ (Q : Exit → Act → World → Prop) (K : Act → World → Prop) : Exit → Act → World → Prop
  | .normal, a, w => K a w
  | e, a, w => Q e a w
theorem spl_mk {K : Act → World → Prop} {a : Act} {w : World} (h : K a w) : splQ Q K .normal a w := h
theorem upon_spl {o : Oper} {a : Act} {K K' : Act → World → Prop} {r : Result Next} : o.upon P a K (splQ Q K') r = o.upon P a K Q r := by
  cases r with
  | ok n w => cases n <;> rfl
  | halt x w => cases x <;> rfl
theorem list_in {n : Nat} (hQ : ¬ LetsOut Q) (rest : List Oper) : ∀ (pre : List Oper) (a : Act) (w : World), pre.all noDef = true → wpList P ops (splQ Q (wpListIn (Wd ro) n P ops Q rest)) pre a w → wpListIn (Wd ro) n P ops Q (pre ++ rest) a w
  | [], a, w, _, h => h
  | o :: pre, a, w, hnd, h => by
    simp only [List.all_cons, Bool.and_eq_true] at hnd
    simp only [List.cons_append, wpListIn]
    simp only [wpList] at h
    by_cases hw : Region.wanted o (yielded ops a.tmps) = true
    · rw [if_pos hw] at h ⊢
      rcases h with h | h
      · refine wp_in hnd.1 ?_
        unfold Oper.wp at h
        rw [upon_spl] at h
        exact Oper.wp_mono (fun a w hh => list_in hQ rest pre a w hnd.2 hh) h
      · exact (hQ h.2).elim
    · rw [if_neg hw] at h ⊢
      exact ⟨fun _ _ => trivial, list_in hQ rest pre _ w hnd.2 h⟩
theorem all_in {n : Nat} (hQ : ¬ LetsOut Q) (l : List Oper) (a : Act) (w : World) (hnd : l.all noDef = true) (h : wpList P ops Q l a w) : wpListIn (Wd ro) n P ops Q l a w := by
  have := list_in (ro := ro) (n := n) hQ [] l a w hnd (by
    have e : splQ Q (wpListIn (Wd ro) n P ops Q []) = Q := by funext e a w; cases e <;> rfl
    rw [e]
    exact h)
  rwa [List.append_nil] at this
/-- A region in its order, within a round. -/
theorem regIn {n id : Nat} {l : List Oper} {a : Act} {w : World} (hQ : ¬ LetsOut Q) (hnd : l.all noDef = true) (h : wpList P l.toArray Q l a w) : (Code.region id l.toArray false).wpIn (Wd ro) n P Q a w :=
  wpIn_region_lit (all_in hQ l a w hnd h)
/-- .. of which the first operations go by the plain laws, the others as they stand. -/
theorem regIn_split {n id : Nat} {pre rest : List Oper} {a : Act} {w : World} (hQ : ¬ LetsOut Q) (hnd : pre.all noDef = true) (h : wpList P (pre ++ rest).toArray (splQ Q (wpListIn (Wd ro) n P (pre ++ rest).toArray Q rest)) pre a w) : (Code.region id (pre ++ rest).toArray false).wpIn (Wd ro) n P Q a w :=
  wpIn_region_lit (list_in hQ rest pre a w hnd h)
theorem regIn_at {n id : Nat} {l : List Oper} {a : Act} {w : World} (m : Nat) (hQ : ¬ LetsOut Q) (hnd : (l.take m).all noDef = true) (h : wpList P l.toArray (splQ Q (wpListIn (Wd ro) n P l.toArray Q (l.drop m))) (l.take m) a w) : (Code.region id l.toArray false).wpIn (Wd ro) n P Q a w := by
  refine wpIn_region_lit ?_
  have := list_in (ro := ro) (n := n) hQ (l.drop m) (l.take m) a w hnd h
  rwa [List.take_append_drop] at this
/-- wpOps in a round. -/
theorem ops_in {n : Nat} (hQ : ¬ LetsOut Q) (hnd : ops.toList.all noDef = true) : ∀ (l : List Nat) (a : Act) (w : World), wpOps P ops Q l a w → wpOpsIn (Wd ro) n P ops Q l a w
  | [], a, w, h => h
  | i :: rest, a, w, h => by
    simp only [wpOps] at h
    simp only [wpOpsIn]
    cases ho : ops[i]? with
    | none => simp only [ho] at h ⊢; exact ops_in hQ hnd rest a w h
    | some o =>
      simp only [ho] at h ⊢
      by_cases hw : Region.wanted o (yielded ops a.tmps) = true
      · rw [if_pos hw] at h ⊢
        rcases h with h | h
        · refine wp_in (List.all_eq_true.1 hnd o (by obtain ⟨hi, e⟩ := Array.getElem?_eq_some_iff.1 ho; rw [← e]; simp)) (Oper.wp_mono (fun a w hh => ops_in hQ hnd rest a w hh) h)
        · exact (hQ h.2).elim
      · rw [if_neg hw] at h ⊢
        exact ⟨fun _ _ => trivial, ops_in hQ hnd rest _ w h⟩
/-- A region that leaves its order open, within a round. -/
theorem regIn_any {n id : Nat} {a : Act} {w : World} (hm : P.follows .mixedOrders = true) (hQ : ¬ LetsOut Q) (hnd : ops.toList.all noDef = true)
    (h : wpAny P .any ops Q ops.size (Array.replicate ops.size false) a { w with drawn := w.drawn + 1 }) : (Code.region id ops true).wpIn (Wd ro) n P Q a w :=
  wpIn_region_draw fun t => by
    simp only [Region.schedule, hm, Bool.true_or, if_true]
    exact ops_in hQ hnd _ _ _ (wpAny_sound ops.size t _ a _ h)
/-- A call of yield. -/
theorem exec_yield {ro : Option Nat} {o : Oper} {a : Act} {w : World} {fx : Operand} {xs : Array Operand} {ts : Array TypeId} {l : Nat} {vs : Array Value} {x : Next} (ho : o.op = .call { callee := .value fx, args := xs, argTypes := ts }) (hf : a.eval fx = .func (.yield l) #[] #[]) (hx : xs.map a.eval = vs)
    (hy : (Instr.yield l vs).run P w = .ok x w) : (o.semAt ro a.eval).run P w = .ok x w := by
  rw [Oper.semAt_eq ro _ _ (fun c e => by rw [ho] at e; cases e)]
  unfold execOp
  rw [ho]
  simp only [resolve, Sem.run_bind, hf, hx]
  simp [Deferred.ofValue, invoke, go_sem, hy]
theorem li_yield {o : Oper} {rest : List Oper} {a : Act} {w : World} {fx : Operand} {xs : Array Operand} {ts : Array TypeId} {l : Nat} {vs : Array Value} {R : Ending → World → Prop} (ho : o.op = .call { callee := .value fx, args := xs, argTypes := ts }) (hw : Region.wanted o (yielded ops a.tmps) = true) (hf : a.eval fx = .func (.yield l) #[] #[]) (hx : xs.map a.eval = vs)
    (hY : YieldAt Fence.wide 0 P l vs w R) (h : ∀ e w', R e w' → ∃ v, e = .returned v ∧ wpListIn (Wd ro) 0 P ops Q rest (a.put o.dst v) w') : wpListIn (Wd ro) 0 P ops Q (o :: rest) a w := by
  obtain ⟨fn, tmps, assign, body, hy, hR⟩ := hY
  unfold wpListIn
  rw [if_pos hw]
  refine ⟨fun _ _ => trivial, ?_⟩
  show o.uponIn (Wd ro) 0 P a _ Q ((o.semAt ro a.eval).run P w)
  rw [exec_yield ho hf hx hy]
  refine ⟨fun hd => Wd_depth hd, ?_⟩
  refine RoundIn.mono (show RoundIn (Wd ro) 0 P l fn tmps assign body w R from hR) (fun e w' he => ?_)
  obtain ⟨v, rfl, hh⟩ := h e w' he
  exact hh
end
section
variable {P : Program}
theorem Touch.tr {T : Nat → Prop} {w w' w'' : World} (h : Touch T w w') (k : Touch T w' w'') : Touch T w w'' :=
  ⟨k.os.trans h.os, k.tape.trans h.tape, k.output.trans h.output, Nat.le_trans h.size k.size, fun i hi hn => (k.block i (Nat.lt_of_lt_of_le hi h.size) hn).trans (h.block i hi hn)⟩
/-- Below a bound, all but some blocks. -/
theorem Touch.bel {T : Nat → Prop} {B : Nat} {w w' w'' : World} (h : Touch T w w') (k : Below B w' w'') (hB : w.heap.size ≤ B) : Touch T w w'' :=
  ⟨k.os.trans h.os, k.tape.trans h.tape, k.output.trans h.output, Nat.le_trans h.size k.size, fun i hi hn => (k.block i (Nat.lt_of_lt_of_le hi hB)).trans (h.block i hi hn)⟩
theorem Below.tou {B : Nat} {T : Nat → Prop} {w w' : World} (h : Below B w w') (hB : w.heap.size ≤ B) : Touch T w w' := ⟨h.os, h.tape, h.output, h.size, fun i hi _ => h.block i (Nat.lt_of_lt_of_le hi hB)⟩
theorem put_below {w : World} {l B : Nat} (o : Obj) (hl : B ≤ l) : Below B w (w.putObj l o) := ⟨rfl, rfl, rfl, by simp, fun k hk => World.putObj_heap_other (by omega)⟩
theorem put_only {w : World} {l : Nat} (o : Obj) : Touch (fun k => k = l) w (w.putObj l o) := ⟨rfl, rfl, rfl, by simp, fun k _ hk => World.putObj_heap_other hk⟩
/-- What a function value that is ranged over gives: the values of xs, one by one, to whatever loop. The loop's rounds touch the blocks of T alone, and what is new; the function touches nothing that was there when it began; it reads the blocks of A. -/
def Gives {α : Type} (P : Program) (gf : Nat) (lb : Array Value) (encs : α → Array Value) (xs : List α) (A : Nat → Prop) (W0 : World) : Prop :=
  ∀ (l : Nat) (T : Nat → Prop) (J : Nat → World → Prop) (Jx : World → Prop) (W : World),
    Below W0.heap.size W0 W → (∀ k, T k → k < W.heap.size ∧ ¬ A k) →
    (∀ i X Y, J i X → Below W.heap.size X Y → J i Y) → (∀ X Y, Jx X → Below W.heap.size X Y → Jx Y) →
    (∀ (i : Nat) (x : α) (X : World), xs[i]? = some x → J i X → YieldAt Fence.wide 0 P l (encs x) X fun e Y => (e = .returned (.bool true) ∧ J (i + 1) Y ∧ Touch T X Y) ∨ (e = .returned (.bool false) ∧ Jx Y ∧ Touch T X Y)) →
    J 0 W →
    Calls P gf (#[.func (.yield l) #[] #[]] ++ lb) W fun e Y => (∃ v, e = .returned v) ∧ Touch T W Y ∧ (J xs.length Y ∨ Jx Y)
theorem Gives.later {α : Type} {gf : Nat} {lb : Array Value} {encs : α → Array Value} {xs : List α} {A : Nat → Prop} {W0 W1 : World} (h : Gives P gf lb encs xs A W0) (hb : Below W0.heap.size W0 W1) : Gives P gf lb encs xs A W1 :=
  fun l T J Jx W hW => h l T J Jx W (hb.trans (hW.mono hb.size))
/-- How a round's body may be left. -/
def rPost (T : Nat → Prop) (J : Nat → World → Prop) (Jx : Code → World → Prop) (i : Nat) (X : World) : Exit → Act → World → Prop
  | .normal, _, Y => J (i + 1) Y ∧ Touch T X Y
  | .ret, _, Y => Jx .ret Y ∧ Touch T X Y
  | .exit id, _, Y => Jx (.exit id) Y ∧ Touch T X Y
  | .goto t, _, Y => Jx (.goto t) Y ∧ Touch T X Y
  | .panic _, _, _ => False
  | .outgrown, _, _ => False
def mark (D : Nat) : Deferred := { target := .collected D, args := #[] }
def setPs (ps : Array Tmp) (vs : Array Value) (t : Array Value) : Array Value := (ps.zip vs).foldl (fun t (p, v) => t.setIfInBounds p v) t
/-- THE LAW of the statement (outside of any round). -/
theorem wp_rangeT {α : Type} {g : Operand} {ps : Array Tmp} {assign body : Code} {Q : Exit → Act → World → Prop} {a : Act} {w : World} {gf : Nat} {lb : Array Value}
    (hg : a.eval g = .func (.func gf) #[] lb) (eg : ∀ args w, (callFunc gf args).run P w = .ok (.enter gf args) w)
    {encs : α → Array Value} {xs : List α} {A : Nat → Prop} {W0 : World} (hit : Gives P gf lb encs xs A W0) (hb0 : Below W0.heap.size W0 w) (hps : ∀ x, (encs x).size = ps.size)
    (hA : ∀ k, A k → k < w.heap.size) (T : Nat → Prop) (hT : ∀ k, T k → k < w.heap.size ∧ ¬ A k)
    (J : Nat → World → Prop) (Jx : Code → World → Prop) (hJ : ∀ i X Y, J i X → Below w.heap.size X Y → J i Y) (hJx : ∀ c X Y, Jx c X → Below w.heap.size X Y → Jx c Y) (h0 : J 0 w)
    (round : ∀ (l i : Nat) (x : α) (X : World), w.heap.size ≤ l → l < X.heap.size → xs[i]? = some x → Touch T w X → J i X →
      assign.wpIn (Wd (some l)) 0 P (Exit.then (fun a1 X1 => Below X.heap.size X X1 ∧ ∀ X2, Touch (fun k => k = l) X1 X2 → Touch T w X2 → J i X2 → body.wpIn (Wd (some l)) 0 P (rPost T J Jx i X2) a1 X2) (fun _ _ _ => False)) { tmps := setPs ps (encs x) a.tmps, defers := [] } X)
    (done : ∀ (D : Nat) (Y : World), w.heap.size ≤ D → J xs.length Y → Touch T w Y → Y.heap[D]? = some (.deferred (some [])) → Q .normal { a with defers := mark D :: a.defers } Y)
    (stop : ∀ (D : Nat) (c : Code) (Y : World), w.heap.size ≤ D → Jx c Y → Touch T w Y → Y.heap[D]? = some (.deferred (some [])) → c.wp P Q { a with defers := mark D :: a.defers } Y) :
    (Code.rangeFunc g ps assign body).wp P Q a w := by
  refine (wpIn_wide (n := 0)).1 (wpIn_rangeFunc ?_)
  intro fn _
  obtain ⟨rec, hrec⟩ : ∃ rec : LoopState → Option Code → Loop, rec = fun st pe => { state := st, pending := pe, fn, tmps := a.tmps, params := ps, assign, body, defers := w.heap.size } := ⟨_, rfl⟩
  obtain ⟨W1, hW1⟩ : ∃ W1, (w.alloc (.deferred (some []))).alloc (.loop (rec .ready none)) = W1 := ⟨_, rfl⟩
  obtain ⟨l, hl⟩ : ∃ l, w.heap.size + 1 = l := ⟨_, rfl⟩
  have hL1 : W1.heap[l]? = some (.loop (rec .ready none)) := by
    rw [← hW1, ← hl]
    have := World.alloc_heap_new (w.alloc (.deferred (some []))) (.loop (rec .ready none))
    rwa [World.size_alloc] at this
  have hD1 : W1.heap[w.heap.size]? = some (.deferred (some [])) := by
    rw [← hW1]
    exact (Below.heap_alloc _ _ _ (by simp)).trans (World.alloc_heap_new w _)
  have hBw : Below w.heap.size w W1 := by
    rw [← hW1]
    exact ((Below.refl _ w).alloc (Nat.le_refl _) _).alloc (by simp) _
  have hS1 : W1.heap.size = w.heap.size + 2 := by rw [← hW1]; simp
  refine ⟨l, [mark w.heap.size], W1, { target := .fn (.func gf) lb, args := #[.func (.yield l) #[] #[]] }, W1, gf, #[.func (.yield l) #[] #[]] ++ lb, W1, ?_, ?_, fun _ _ => trivial, ?_, (fun hd => by cases hd), ?_⟩
  · rw [← hW1, hrec, ← hl]
    exact run_enterLoop_outer _ _ _ _ _
  · simp only [resolve, hg]
    simp [go_sem]
  · simp [invoke, go_sem, eg]
  · have hTl : ∀ k, T k → k ≠ l ∧ k ≠ w.heap.size := fun k hk => by have := (hT k hk).1; omega
    have bk : ∀ {X Y : World} {o : Obj} (k : Nat), w.heap.size ≤ k → Touch T X Y → X.heap[k]? = some o → Y.heap[k]? = some o := fun {X Y o} k hk ht h => (ht.block k (Array.getElem?_eq_some_iff.1 h).1 (fun e => by have := (hT k e).1; omega)).trans h
    refine (callsIn_wide.2 (hit l (fun k => T k ∨ k = l)
      (fun i X => J i X ∧ Touch T w X ∧ X.heap[l]? = some (.loop (rec .ready none)) ∧ X.heap[w.heap.size]? = some (.deferred (some [])))
      (fun X => ∃ c, Jx c X ∧ Touch T w X ∧ X.heap[l]? = some (.loop (rec .done (some c))) ∧ X.heap[w.heap.size]? = some (.deferred (some [])))
      W1 (hb0.trans (hBw.mono hb0.size)) (fun k hk => ?_) (fun i X Y h hb => ?_) (fun X Y h hb => ?_) (fun i x X hx hh => ?_) ⟨hJ 0 w W1 h0 hBw, Below.tou hBw (Nat.le_refl _), hL1, hD1⟩)).mono ?_
    · rcases hk with hk | rfl
      · exact ⟨by have := (hT k hk).1; omega, (hT k hk).2⟩
      · exact ⟨by omega, fun e => by have := hA _ e; omega⟩
    · exact ⟨hJ i X Y h.1 (hb.mono (by omega)), h.2.1.bel hb (by omega), (hb.block l (by omega)).trans h.2.2.1, (hb.block _ (by omega)).trans h.2.2.2⟩
    · obtain ⟨c, h1, h2, h3, h4⟩ := h
      exact ⟨c, hJx c X Y h1 (hb.mono (by omega)), h2.bel hb (by omega), (hb.block l (by omega)).trans h3, (hb.block _ (by omega)).trans h4⟩
    · obtain ⟨hj, ht, hlx, hdx⟩ := hh
      have hlt : l < X.heap.size := (Array.getElem?_eq_some_iff.1 hlx).1
      have hy := run_yield (P := P) (args := encs x) hlx (by rw [hrec]; exact hps x)
      rw [hrec] at hy
      refine ⟨fn, _, assign, body, hy, roundIn_of_wpIn trivial ?_⟩
      clear hy
      refine wpIn_mono (show assign.wpIn (Wd (some l)) 0 P _ _ X from round l i x X (by omega) hlt hx ht hj) ?_
      rintro e a1 X1 hq
      cases e with
      | normal =>
        obtain ⟨hb1, hbody⟩ := hq
        have hl1 : X1.heap[l]? = some (.loop (rec .ready none)) := (hb1.block l hlt).trans hlx
        have hd1 : X1.heap[w.heap.size]? = some (.deferred (some [])) := (hb1.block _ (Array.getElem?_eq_some_iff.1 hdx).1).trans hdx
        have ht1 : Touch T w X1 := ht.bel hb1 ht.size
        have hlt1 : l < X1.heap.size := (Array.getElem?_eq_some_iff.1 hl1).1
        have hps2 : Below w.heap.size X1 (X1.putObj l (.loop { rec .ready none with state := .busy })) := put_below _ (by omega)
        have hj1 : J i (X1.putObj l (.loop { rec .ready none with state := .busy })) := hJ i _ _ (hJ i X X1 hj (hb1.mono ht.size)) hps2
        refine ⟨_, run_beginRound hl1 (by rw [hrec]), ?_⟩
        have hl2 : (X1.putObj l (.loop { rec .ready none with state := .busy })).heap[l]? = some (.loop { rec .ready none with state := .busy }) := World.putObj_heap_same hlt1
        have hd2 : (X1.putObj l (.loop { rec .ready none with state := .busy })).heap[w.heap.size]? = some (.deferred (some [])) := (World.putObj_heap_other (by omega)).trans hd1
        refine wpIn_mono (show body.wpIn (Wd (some l)) 0 P _ _ _ from hbody _ (put_only _) (ht1.bel hps2 (Nat.le_refl _)) hj1) ?_
        have fin : ∀ (jump : Option Code) (Y : World), Touch T (X1.putObj l (.loop { rec .ready none with state := .busy })) Y →
            (Instr.endRound l jump).run P Y = .ok (.bool jump.isNone) (Y.putObj l (.loop (rec (if jump.isNone then .ready else .done) jump))) ∧
            (Y.putObj l (.loop (rec (if jump.isNone then .ready else .done) jump))).heap[l]? = some (.loop (rec (if jump.isNone then .ready else .done) jump)) ∧
            (Y.putObj l (.loop (rec (if jump.isNone then .ready else .done) jump))).heap[w.heap.size]? = some (.deferred (some [])) ∧ Touch T w (Y.putObj l (.loop (rec (if jump.isNone then .ready else .done) jump))) ∧
            Below w.heap.size Y (Y.putObj l (.loop (rec (if jump.isNone then .ready else .done) jump))) ∧ Touch (fun k => T k ∨ k = l) X (Y.putObj l (.loop (rec (if jump.isNone then .ready else .done) jump))) := fun jump Y hty => by
          have hl3 := bk l (by omega) hty hl2
          have hd3 := bk w.heap.size (Nat.le_refl _) hty hd2
          have h5 := run_endRound (P := P) jump hl3
          have hb5 : Below w.heap.size Y (Y.putObj l (.loop (rec (if jump.isNone then .ready else .done) jump))) := put_below _ (by omega)
          have h7 : Touch (fun k => T k ∨ k = l) X (Y.putObj l (.loop (rec (if jump.isNone then .ready else .done) jump))) :=
            (((Below.tou hb1 (Nat.le_refl _)).tr ((put_only _).mono (fun k _ e => .inr e))).tr (hty.mono (fun k _ e => .inl e))).tr ((put_only _).mono (fun k _ e => .inr e))
          refine ⟨by rw [hrec] at h5 ⊢; exact h5, World.putObj_heap_same (Array.getElem?_eq_some_iff.1 hl3).1, (World.putObj_heap_other (by omega)).trans hd3, ?_, hb5, h7⟩
          exact ((ht1.bel hps2 (Nat.le_refl _)).tr hty).bel hb5 (Nat.le_refl _)
        rintro e a3 Y hp
        cases e with
        | normal =>
          obtain ⟨h6, h7, h8, h9, h10, h11⟩ := fin none Y hp.2
          exact ⟨_, _, h6, .inl ⟨rfl, ⟨hJ _ _ _ hp.1 h10, h9, h7, h8⟩, h11⟩⟩
        | ret =>
          obtain ⟨h6, h7, h8, h9, h10, h11⟩ := fin (some .ret) Y hp.2
          exact ⟨_, _, h6, .inr ⟨rfl, ⟨_, hJx _ _ _ hp.1 h10, h9, h7, h8⟩, h11⟩⟩
        | exit id =>
          obtain ⟨h6, h7, h8, h9, h10, h11⟩ := fin (some (.exit id)) Y hp.2
          exact ⟨_, _, h6, .inr ⟨rfl, ⟨_, hJx _ _ _ hp.1 h10, h9, h7, h8⟩, h11⟩⟩
        | goto t =>
          obtain ⟨h6, h7, h8, h9, h10, h11⟩ := fin (some (.goto t)) Y hp.2
          exact ⟨_, _, h6, .inr ⟨rfl, ⟨_, hJx _ _ _ hp.1 h10, h9, h7, h8⟩, h11⟩⟩
        | panic ch => exact hp.elim
        | outgrown => exact hp.elim
      | exit id => exact hq.elim
      | goto t => exact hq.elim
      | ret => exact hq.elim
      | panic ch => exact hq.elim
      | outgrown => exact hq.elim
    · rintro e Y ⟨⟨v, rfl⟩, _, (⟨hj, ht, hl3, hd3⟩ | ⟨c, hj, ht, hl3, hd3⟩)⟩
      · refine ⟨none, _, by have := run_endLoop (P := P) hl3 (by rw [hrec]; simp); rw [hrec] at this; exact this, ?_⟩
        have hb5 : Below w.heap.size Y (Y.putObj l (.loop { rec .ready none with state := .exhausted })) := put_below _ (by omega)
        rw [hrec] at hb5
        exact done w.heap.size _ (Nat.le_refl _) (hJ _ _ _ hj hb5) (ht.bel hb5 (Nat.le_refl _)) ((World.putObj_heap_other (by omega)).trans hd3)
      · refine ⟨some c, _, by have := run_endLoop (P := P) hl3 (by rw [hrec]; simp); rw [hrec] at this; exact this, ?_⟩
        have hb5 : Below w.heap.size Y (Y.putObj l (.loop { rec .done (some c) with state := .exhausted })) := put_below _ (by omega)
        rw [hrec] at hb5
        exact wpIn_wide.2 (stop w.heap.size c _ (Nat.le_refl _) (hJx _ _ _ hj hb5) (ht.bel hb5 (Nat.le_refl _)) ((World.putObj_heap_other (by omega)).trans hd3))
/-- A function that holds such statements: its marks. -/
def postM (P : Program) (fn : Func) (R : Ending → World → Prop) : Exit → Act → World → Prop := bodyPostM Fence.wide 0 P fn R
theorem calls_of_wpM {f : FuncId} {fn : Func} {c : Code} {args : Array Value} {w : World} {R : Ending → World → Prop} (hf : P.funcs[f]? = some fn) (hb : fn.body = some c)
    (h : c.wp P (postM P fn R) { tmps := args ++ Array.replicate (fn.ntmps - args.size) undef, defers := [] } w) : Calls P f args w R :=
  (callsIn_wide (n := 0)).1 (callsIn_of_wp_marks hf hb trivial ((wpIn_wide (n := 0)).2 h) rfl)
theorem leavesM {fn : Func} {tmps : Array Value} {R : Ending → World → Prop} : ∀ (ds : List Nat) (w : World), (∀ D ∈ ds, w.heap[D]? = some (.deferred (some []))) → ds.Nodup →
    (∀ w', Touch (fun k => k ∈ ds) w w' → w'.heap.size = w.heap.size → ∃ v, (results fn tmps).run P w' = .ok v w' ∧ R (.returned v) w') → LeavesInM Fence.wide 0 P fn tmps R (ds.map mark) .returning w
  | [], w, _, _, h => h w (Touch.refl _ _) rfl
  | D :: ds, w, hd, hn, h => by
    obtain ⟨hn1, hn2⟩ := List.nodup_cons.1 hn
    refine ⟨by simp, .inl ⟨D, _, rfl, run_takeDeferred (hd D (by simp)), ?_⟩⟩
    refine leavesM ds _ (fun E hE => (World.putObj_heap_other (fun e => hn1 (by rw [← e]; exact hE))).trans (hd E (by simp [hE]))) hn2 (fun w' ht hs => h w' ?_ (by rw [hs]; simp))
    exact ((put_only _).mono (fun k _ e => by simp [e])).tr (ht.mono (fun k _ e => by simp [e]))
theorem postM_ret {fn : Func} {tmps : Array Value} {R : Ending → World → Prop} {dfs : List Deferred} (ds : List Nat) {w : World} (hds : dfs = ds.map mark) (hd : ∀ D ∈ ds, w.heap[D]? = some (.deferred (some []))) (hn : ds.Nodup)
    (h : ∀ w', Touch (fun k => k ∈ ds) w w' → w'.heap.size = w.heap.size → ∃ v, (results fn tmps).run P w' = .ok v w' ∧ R (.returned v) w') : postM P fn R .ret { tmps := tmps, defers := dfs } w := by
  subst hds
  exact leavesM ds w hd hn h
theorem postM_end {fn : Func} {tmps : Array Value} {R : Ending → World → Prop} {dfs : List Deferred} (ds : List Nat) {w : World} (hds : dfs = ds.map mark) (hd : ∀ D ∈ ds, w.heap[D]? = some (.deferred (some []))) (hn : ds.Nodup)
    (h : ∀ w', Touch (fun k => k ∈ ds) w w' → w'.heap.size = w.heap.size → ∃ v, (results fn tmps).run P w' = .ok v w' ∧ R (.returned v) w') : postM P fn R .normal { tmps := tmps, defers := dfs } w := by
  subst hds
  exact leavesM ds w hd hn h
end
end Go.Proofs.Ytcpnleanjclfjaa
/-
  Own text. A region that leaves its order open, cut (Cut), within a round or with a call of yield in it; guards are allowed. No program is named here.
-/
namespace Go.Proofs.Ytcpnleanjclfjaa
open Go Go.RowKit
section
variable {P : Program} {ops : Array Oper} {Q : Exit → Act → World → Prop} {ro : Option Nat}
def cutG (ops : Array Oper) (m : Nat) : Bool :=
  decide (m < ops.size) &&
  (List.range ops.size).all (fun i => match ops[i]? with | some o => o.after.all (fun e => !Region.binds .any e || decide (e.on < i)) | none => true) &&
  (List.range m).all (fun j => (List.range (m + 1)).any (fun i => decide (j < i) && (match ops[i]? with | some o => waits o j | none => false))) &&
  (List.range ops.size).all (fun i => decide (i ≤ m) || (match ops[i]? with | some o => waits o (i - 1) | none => false)) &&
  (List.range m).all (fun i => match ops[i]? with | some o => (match o.guard with | some (j, _) => decide (j < m) | none => true) | none => true)
structure CutG (ops : Array Oper) (m : Nat) : Prop where
  lt : m < ops.size
  down : ∀ (i : Nat) (o : Oper), ops[i]? = some o → ∀ e ∈ o.after, Region.binds .any e = true → e.on < i
  succ : ∀ j, j < m → ∃ (i : Nat) (o : Oper), j < i ∧ i ≤ m ∧ ops[i]? = some o ∧ ∃ e ∈ o.after, Region.binds .any e = true ∧ e.on = j
  chain : ∀ (i : Nat) (o : Oper), ops[i]? = some o → m < i → ∃ e ∈ o.after, Region.binds .any e = true ∧ e.on = i - 1
  guard : ∀ (i : Nat) (o : Oper), i < m → ops[i]? = some o → ∀ j b, o.guard = some (j, b) → j < m
theorem cutG_of {m : Nat} (hc : cutG ops m = true) : CutG ops m := by
  simp only [cutG, Bool.and_eq_true, decide_eq_true_eq] at hc
  obtain ⟨⟨⟨⟨hlt, hdn⟩, hwt⟩, hch⟩, hgd⟩ := hc
  refine ⟨hlt, fun i o ho e he hbb => ?_, fun j hj => ?_, fun i o ho hi => ?_, fun i o hi ho j b hg => ?_⟩
  · have h1 := List.all_eq_true.1 hdn i (List.mem_range.2 (Array.getElem?_eq_some_iff.1 ho).1)
    simp only [ho] at h1
    have h2 := Array.all_eq_true_iff_forall_mem.1 h1 e he
    rw [hbb] at h2
    simpa using h2
  · have h1 := List.all_eq_true.1 hwt j (List.mem_range.2 hj)
    obtain ⟨i, hi, hh⟩ := List.any_eq_true.1 h1
    simp only [Bool.and_eq_true, decide_eq_true_eq] at hh
    obtain ⟨hji, hw⟩ := hh
    cases ho : ops[i]? with
    | none => simp only [ho] at hw; cases hw
    | some o =>
      simp only [ho] at hw
      unfold waits at hw
      obtain ⟨e, he, hh⟩ := any_mem hw
      simp only [Bool.and_eq_true, beq_iff_eq] at hh
      exact ⟨i, o, hji, by have := List.mem_range.1 hi; omega, ho, e, he, hh.1, hh.2⟩
  · have h1 := List.all_eq_true.1 hch i (List.mem_range.2 (Array.getElem?_eq_some_iff.1 ho).1)
    simp only [ho, Bool.or_eq_true, decide_eq_true_eq] at h1
    rcases h1 with h1 | h1
    · omega
    · unfold waits at h1
      obtain ⟨e, he, hh⟩ := any_mem h1
      simp only [Bool.and_eq_true, beq_iff_eq] at hh
      exact ⟨e, he, hh.1, hh.2⟩
  · have h1 := List.all_eq_true.1 hgd i (List.mem_range.2 hi)
    simp only [ho, hg, decide_eq_true_eq] at h1
    exact h1
def Ls (ops : Array Oper) (fuel t : Nat) (listed : Array Bool) : List Nat := Region.linearise.go .any ops fuel t listed []
theorem Ls_succ (fuel t : Nat) (listed : Array Bool) : Ls ops (fuel + 1) t listed = match (Region.ready .any ops listed)[t % (Region.ready .any ops listed).length]? with
    | some i => i :: Ls ops fuel (t / (Region.ready .any ops listed).length) (listed.setIfInBounds i true)
    | none => [] := by
  unfold Ls
  simp only [Region.linearise.go]
  show (match (Region.ready .any ops listed)[t % (Region.ready .any ops listed).length]? with
    | some i => Region.linearise.go .any ops fuel (t / (Region.ready .any ops listed).length) (listed.setIfInBounds i true) [i]
    | none => [].reverse) = _
  cases (Region.ready .any ops listed)[t % (Region.ready .any ops listed).length]? with
  | none => rfl
  | some i => simp only []; rw [linearise_go_acc]; rfl
theorem Ls_nil (fuel t : Nat) {listed : Array Bool} (h : Region.ready .any ops listed = []) : Ls ops fuel t listed = [] := by
  cases fuel with
  | zero => rfl
  | succ fuel => rw [Ls_succ, h]; rfl
theorem filter_none {l : List Nat} {p : Nat → Bool} (h : ∀ x ∈ l, p x = false) : l.filter p = [] := by
  induction l with
  | nil => rfl
  | cons x l ih => rw [List.filter_cons, h x (by simp)]; exact ih (fun y hy => h y (by simp [hy]))
/-- Behind the head: one by one. -/
theorem Ls_tail {m : Nat} (C : CutG ops m) : ∀ (k s fuel t : Nat) (listed : Array Bool), listed.size = ops.size → m + s + k = ops.size → k ≤ fuel → (∀ j, j < ops.size → (listed.getD j false = true ↔ j < m + s)) → Ls ops fuel t listed = List.range' (m + s) k
  | 0, s, fuel, t, listed, hsz, hk, hf, hl => by
    refine Ls_nil fuel t ?_
    cases hr : Region.ready .any ops listed with
    | nil => rfl
    | cons x l =>
      have hx : x ∈ Region.ready .any ops listed := by rw [hr]; simp
      obtain ⟨h1, o, ho, _⟩ := mem_ready.1 hx
      have hxs := (Array.getElem?_eq_some_iff.1 ho).1
      rw [getD_both (by omega)] at h1
      have := (hl x hxs).2 (by omega)
      rw [h1] at this
      cases this
  | k + 1, s, fuel + 1, t, listed, hsz, hk, hf, hl => by
    have hr : Region.ready .any ops listed = [m + s] := by
      unfold Region.ready
      have e : List.range ops.size = List.range (m + s) ++ ([m + s] ++ (List.range k).map (fun i => m + s + 1 + i)) := by
        rw [← hk, show m + s + (k + 1) = m + s + 1 + k by omega, List.range_add, List.range_succ, List.append_assoc]
      rw [e, List.filter_append, List.filter_append]
      have hms : m + s < ops.size := by omega
      rw [filter_none (l := List.range (m + s)), filter_none (l := (List.range k).map _)]
      · have ho : ops[m + s]? = some (ops[m + s]'hms) := Array.getElem?_eq_getElem hms
        have hmem : m + s ∈ Region.ready .any ops listed := mem_ready.2 ⟨by
            rw [getD_both (by omega)]
            rcases Bool.eq_false_or_eq_true (listed.getD (m + s) false) with h1 | h1
            · have := (hl _ hms).1 h1; omega
            · exact h1, _, ho, fun e he hb => (hl _ (by have := C.down _ _ ho e he hb; omega)).2 (C.down _ _ ho e he hb)⟩
        unfold Region.ready at hmem
        rw [List.mem_filter] at hmem
        simp only [List.filter_cons, List.filter_nil, hmem.2, if_true]
        rfl
      · intro x hx
        obtain ⟨i, hi, rfl⟩ := List.mem_map.1 hx
        rcases Bool.eq_false_or_eq_true ((fun i => !listed.getD i true && ((ops[i]?).map (·.after.all fun e => !Region.binds .any e || listed.getD e.on false)).getD false) (m + s + 1 + i)) with h1 | h1
        · exfalso
          have hxs : m + s + 1 + i < ops.size := by have := List.mem_range.1 hi; omega
          have hmem : m + s + 1 + i ∈ Region.ready .any ops listed := by
            unfold Region.ready
            exact List.mem_filter.2 ⟨List.mem_range.2 hxs, h1⟩
          obtain ⟨_, o, ho, hall⟩ := mem_ready.1 hmem
          obtain ⟨e, he, hb, hon⟩ := C.chain _ o ho (by omega)
          have h2 := hall e he hb
          rw [hon] at h2
          have := (hl _ (by omega)).1 h2
          omega
        · exact h1
      · intro x hx
        have hxm := List.mem_range.1 hx
        have h1 := (hl x (by omega)).2 hxm
        show (!listed.getD x true && _) = false
        rw [getD_both (by omega), h1]
        rfl
    rw [Ls_succ, hr]
    simp only [List.length_singleton, Nat.mod_one, List.getElem?_cons_zero, Nat.div_one]
    rw [Ls_tail C k (s + 1) fuel t _ (by simp [hsz]) (by omega) (by omega) (fun j hj => ?_), List.range'_succ]
    · rfl
    · by_cases e : m + s = j
      · subst e
        simp [show m + s < listed.size by omega]
      · rw [getD_set_ne false e, hl j hj]
        omega
theorem Ls_cut {m : Nat} (C : CutG ops m) : ∀ (r t : Nat) (listed lh : Array Bool), Closed ops listed → lh.size = m → (∀ j, j < m → lh.getD j false = listed.getD j false) → (∀ j, m ≤ j → listed.getD j false = false) → leftOf (headOps ops m) lh ≤ r →
    Ls ops (r + (ops.size - m)) t listed = Ls (headOps ops m) r t lh ++ List.range' m (ops.size - m) := by
  have hhs : (headOps ops m).size = m := by simp [headOps]; have := C.lt; omega
  intro r
  induction r with
  | zero =>
    intro t listed lh hcl hsz heq hta hle
    have hall : ∀ j, j < m → listed.getD j false = true := fun j hj => by
      rcases Bool.eq_false_or_eq_true (listed.getD j false) with h1 | h1
      · exact h1
      · exfalso
        have : j ∈ (List.range (headOps ops m).size).filter fun j => !lh.getD j true := List.mem_filter.2 ⟨List.mem_range.2 (by omega), by rw [getD_both (by omega), heq j hj, h1]; rfl⟩
        have h2 : 0 < leftOf (headOps ops m) lh := by unfold leftOf; exact List.length_pos_of_mem this
        omega
    rw [Ls_tail C (ops.size - m) 0 _ t listed hcl.size (by have := C.lt; omega) (by omega) (fun j hj => ?_)]
    · rfl
    · constructor
      · intro h1
        rcases Nat.lt_or_ge j m with h2 | h2
        · omega
        · rw [hta j h2] at h1; cases h1
      · intro h1; exact hall j (by omega)
  | succ r ih =>
    intro t listed lh hcl hsz heq hta hle
    by_cases hall : ∀ j, j < m → listed.getD j false = true
    · rw [Ls_tail C (ops.size - m) 0 _ t listed hcl.size (by have := C.lt; omega) (by omega) (fun j hj => ?_), Ls_nil (ops := headOps ops m)]
      · rfl
      · cases hr : Region.ready .any (headOps ops m) lh with
        | nil => rfl
        | cons x l =>
          exfalso
          have hx : x ∈ Region.ready .any (headOps ops m) lh := by rw [hr]; simp
          obtain ⟨h1, ox, hox, _⟩ := mem_ready.1 hx
          have hxs := (Array.getElem?_eq_some_iff.1 hox).1
          rw [hhs] at hxs
          rw [getD_both (by omega), heq x hxs, hall x hxs] at h1
          cases h1
      · constructor
        · intro h1
          rcases Nat.lt_or_ge j m with h2 | h2
          · omega
          · rw [hta j h2] at h1; cases h1
        · intro h1; exact hall j (by omega)
    · have hready : Region.ready .any ops listed = Region.ready .any (headOps ops m) lh := by
        have hms := C.lt
        unfold Region.ready
        rw [hhs, show ops.size = m + (ops.size - m) by omega, List.range_add, List.filter_append, filter_none (l := (List.range (ops.size - m)).map _), List.append_nil]
        · refine List.filter_congr (fun i hi => ?_)
          have him := List.mem_range.1 hi
          rw [getD_both (show i < listed.size by rw [hcl.size]; omega), getD_both (show i < lh.size by omega), heq i him, head_at him]
          cases ho : ops[i]? with
          | none => rfl
          | some o =>
            simp only [Option.map_some, Option.getD_some]
            congr 1
            rcases Bool.eq_false_or_eq_true (o.after.all fun e => !Region.binds .any e || lh.getD e.on false) with h1 | h1
            · rw [h1]
              refine Array.all_eq_true_iff_forall_mem.2 (fun e he => ?_)
              have h2 := Array.all_eq_true_iff_forall_mem.1 h1 e he
              by_cases hb : Region.binds .any e = true
              · rw [heq _ (by have := C.down i o ho e he hb; omega)] at h2; exact h2
              · simp [hb]
            · rw [h1]
              rcases Bool.eq_false_or_eq_true (o.after.all fun e => !Region.binds .any e || listed.getD e.on false) with h3 | h3
              · exfalso
                rw [Array.all_eq_true_iff_forall_mem.2 (fun e he => ?_)] at h1
                · cases h1
                · have h2 := Array.all_eq_true_iff_forall_mem.1 h3 e he
                  by_cases hb : Region.binds .any e = true
                  · rw [heq _ (by have := C.down i o ho e he hb; omega)]; exact h2
                  · simp [hb]
              · exact h3
        · intro x hx
          obtain ⟨i, hi, rfl⟩ := List.mem_map.1 hx
          rcases Bool.eq_false_or_eq_true ((fun i => !listed.getD i true && ((ops[i]?).map (·.after.all fun e => !Region.binds .any e || listed.getD e.on false)).getD false) (m + i)) with h1 | h1
          · exfalso
            have hmem : m + i ∈ Region.ready .any ops listed := by
              unfold Region.ready
              exact List.mem_filter.2 ⟨List.mem_range.2 (by have := List.mem_range.1 hi; omega), h1⟩
            obtain ⟨_, om, hom, hal⟩ := mem_ready.1 hmem
            by_cases h0 : i = 0
            · subst h0
              refine hall ?_
              have key : ∀ d j, j < m → m - j ≤ d → listed.getD j false = true := by
                intro d
                induction d with
                | zero => intro j hj hd; omega
                | succ d ih2 =>
                  intro j hj hd
                  obtain ⟨i, o, hji, him, ho, e, he, hb, hon⟩ := C.succ j hj
                  by_cases e1 : i = m
                  · subst e1
                    rw [Nat.add_zero, ho] at hom
                    obtain rfl := Option.some.inj hom
                    rw [← hon]
                    exact hal e he hb
                  · rw [← hon]
                    exact hcl.down i o (ih2 i (by omega) (by omega)) ho e he hb
              exact fun j hj => key m j hj (by omega)
            · obtain ⟨e, he, hb, hon⟩ := C.chain _ om hom (by omega)
              have h2 := hal e he hb
              rw [hon, hta _ (by omega)] at h2
              cases h2
          · exact h1
      rw [show r + 1 + (ops.size - m) = r + (ops.size - m) + 1 by omega, Ls_succ, Ls_succ (ops := headOps ops m), ← hready]
      cases hi : (Region.ready .any ops listed)[t % (Region.ready .any ops listed).length]? with
      | none =>
        exfalso
        have hnil : Region.ready .any ops listed = [] := by
          cases hr : Region.ready .any ops listed with
          | nil => rfl
          | cons x xs =>
            rw [hr] at hi
            have hlt : t % (x :: xs).length < (x :: xs).length := Nat.mod_lt _ (by simp)
            rw [List.getElem?_eq_getElem hlt] at hi
            cases hi
        refine hall (fun j => ?_)
        induction j using Nat.strongRecOn with
        | _ j ihj =>
          intro hj
          rcases Bool.eq_false_or_eq_true (listed.getD j false) with h1 | h1
          · exact h1
          · exfalso
            have hjs : j < ops.size := by have := C.lt; omega
            have ho : ops[j]? = some (ops[j]'hjs) := Array.getElem?_eq_getElem hjs
            have : j ∈ Region.ready .any ops listed := mem_ready.2 ⟨by rw [getD_both (by rw [hcl.size]; exact hjs)]; exact h1, _, ho, fun e he hbb => by have := C.down j _ ho e he hbb; exact ihj e.on (by omega) (by omega)⟩
            rw [hnil] at this
            cases this
      | some i =>
        have him : i ∈ Region.ready .any ops listed := List.mem_of_getElem? hi
        have him2 := him
        rw [hready] at him2
        have hih : i < m := by
          obtain ⟨_, o, ho, _⟩ := mem_ready.1 him2
          have := (Array.getElem?_eq_some_iff.1 ho).1
          omega
        simp only [List.cons_append]
        congr 1
        have hls : i < listed.size := by rw [hcl.size]; have := C.lt; omega
        refine ih _ _ _ (hcl.set him) (by simp [hsz]) (fun j hj => ?_) (fun j hj => ?_) ?_
        · by_cases hij : i = j
          · subst hij
            simp [hls, hsz, hih]
          · rw [getD_set_ne false hij, getD_set_ne false hij]
            exact heq j hj
        · rw [getD_set_ne false (by omega)]
          exact hta j hj
        · have := leftOf_set him2
          omega
theorem opsIn_append {n : Nat} : ∀ (l l' : List Nat) (a : Act) (w : World), wpOpsIn (Wd ro) n P ops (splQ Q (wpOpsIn (Wd ro) n P ops Q l')) l a w → wpOpsIn (Wd ro) n P ops Q (l ++ l') a w
  | [], l', a, w, h => h
  | i :: l, l', a, w, h => by
    simp only [List.cons_append, wpOpsIn] at h ⊢
    cases ho : ops[i]? with
    | none => simp only [ho] at h ⊢; exact opsIn_append l l' a w h
    | some o =>
      simp only [ho] at h ⊢
      by_cases hw : Region.wanted o (yielded ops a.tmps) = true
      · rw [if_pos hw] at h ⊢
        obtain ⟨h1, h2⟩ := h
        refine ⟨h1, ?_⟩
        revert h2
        generalize (o.semAt (Wd ro).round a.eval).run P w = r
        intro h2
        cases r with
        | ok x w1 =>
          cases x with
          | value v => exact opsIn_append l l' _ _ h2
          | skip => exact opsIn_append l l' _ _ h2
          | defer d => exact opsIn_append l l' _ _ h2
          | enter f args => exact ⟨h2.1, h2.2.mono (fun e w' he => by cases e <;> first | exact opsIn_append l l' _ _ he | exact he)⟩
          | row r args => exact ⟨h2.1, h2.2.mono (fun v w' he => opsIn_append l l' _ _ he)⟩
          | round => exact ⟨h2.1, h2.2.mono (fun e w' he => by cases e <;> first | exact opsIn_append l l' _ _ he | exact he)⟩
          | _ => exact h2.elim
        | halt x w1 => cases x <;> first | exact h2 | exact h2.elim
      · rw [if_neg hw] at h ⊢
        exact ⟨h.1, opsIn_append l l' _ w h.2⟩
theorem head_in {n m : Nat} (C : CutG ops m) (hQ : ¬ LetsOut Q) (hnd : (ops.toList.take m).all noDef = true) : ∀ (l : List Nat) (a : Act) (w : World), wpOps P (headOps ops m) Q l a w → (∀ i ∈ l, i < m) → wpOpsIn (Wd ro) n P ops Q l a w
  | [], a, w, h, _ => h
  | i :: rest, a, w, h, hl => by
    simp only [wpOps] at h
    simp only [wpOpsIn]
    have him : i < m := hl i (by simp)
    rw [head_at him] at h
    have ih : ∀ a w, wpOps P (headOps ops m) Q rest a w → wpOpsIn (Wd ro) n P ops Q rest a w := fun a w hh => head_in C hQ hnd rest a w hh (fun j hj => hl j (by simp [hj]))
    cases ho : ops[i]? with
    | none => simp only [ho] at h ⊢; exact ih a w h
    | some o =>
      simp only [ho] at h ⊢
      have hwn : Region.wanted o (yielded (headOps ops m) a.tmps) = Region.wanted o (yielded ops a.tmps) := by
        unfold Region.wanted
        cases hg : o.guard with
        | none => rfl
        | some x =>
          obtain ⟨j, b⟩ := x
          have hj := C.guard i o him ho j b hg
          simp only [yielded, head_at hj]
      rw [hwn] at h
      by_cases hw : Region.wanted o (yielded ops a.tmps) = true
      · rw [if_pos hw] at h ⊢
        rcases h with h | h
        · refine wp_in (List.all_eq_true.1 hnd o ?_) (Oper.wp_mono ih h)
          obtain ⟨hi, e⟩ := Array.getElem?_eq_some_iff.1 ho
          rw [List.mem_take_iff_getElem]
          exact ⟨i, by simp; omega, by simpa using e⟩
        · exact (hQ h.2).elim
      · rw [if_neg hw] at h ⊢
        exact ⟨fun _ _ => trivial, ih _ w h⟩
theorem Ls_lt {fuel t : Nat} : ∀ {listed : Array Bool} {i : Nat}, i ∈ Ls ops fuel t listed → i < ops.size := by
  induction fuel generalizing t with
  | zero => intro listed i h; cases h
  | succ fuel ih =>
    intro listed i h
    rw [Ls_succ] at h
    cases hi : (Region.ready .any ops listed)[t % (Region.ready .any ops listed).length]? with
    | none => rw [hi] at h; cases h
    | some j =>
      rw [hi] at h
      rcases List.mem_cons.1 h with e | e
      · subst e
        obtain ⟨_, o, ho, _⟩ := mem_ready.1 (List.mem_of_getElem? hi)
        exact (Array.getElem?_eq_some_iff.1 ho).1
      · exact ih e
/-- THE LAW. -/
theorem regIn_cut {n id : Nat} {a : Act} {w : World} (m : Nat) (hm : P.follows .mixedOrders = true) (hc : cutG ops m = true) (hQ : ¬ LetsOut Q) (hnd : (ops.toList.take m).all noDef = true)
    (h : wpAny P .any (headOps ops m) (splQ Q (wpListIn (Wd ro) n P ops Q (ops.toList.drop m))) (headOps ops m).size (Array.replicate (headOps ops m).size false) a { w with drawn := w.drawn + 1 }) : (Code.region id ops true).wpIn (Wd ro) n P Q a w :=
  wpIn_region_draw fun t => by
    have C := cutG_of hc
    have hhs : (headOps ops m).size = m := by simp [headOps]; have := C.lt; omega
    simp only [Region.schedule, hm, Bool.true_or, if_true]
    show wpOpsIn (Wd ro) n P ops Q (Ls ops ops.size t (Array.replicate ops.size false)) a _
    have e := Ls_cut C m t (Array.replicate ops.size false) (Array.replicate m false) ⟨by simp, fun i o hi => by rw [getD_rep] at hi; cases hi⟩ (by simp) (fun j _ => by rw [getD_rep, getD_rep]) (fun j _ => getD_rep _ _) (by
      unfold leftOf
      refine Nat.le_trans (List.length_filter_le _ _) ?_
      simp [hhs])
    rw [show m + (ops.size - m) = ops.size by have := C.lt; omega] at e
    rw [e]
    refine opsIn_append _ _ _ _ ?_
    have e2 : List.range' m (ops.size - m) = List.range' m (ops.toList.drop m).length := by simp
    rw [e2, wpOpsIn_eq_wpListIn (ops.toList.drop m) m (fun j => by simp)]
    rw [hhs] at h
    exact head_in (Q := splQ Q (wpListIn (Wd ro) n P ops Q (ops.toList.drop m))) C (fun hh => hQ hh) hnd (Ls (headOps ops m) m t (Array.replicate m false)) _ _ (wpAny_sound m t _ a _ h) (fun i hi => by have := Ls_lt hi; omega)
end
end Go.Proofs.Ytcpnleanjclfjaa
/-
  Own text. The code's version, widest, bit, isAddr.
-/
namespace Go.Proofs.Ytcpnleanjclfjaa
open Go.RowKit Go.Proofs
set_option maxRecDepth 100000
def vN (v : Bool) : Nat := if v then 1 else 0
def wdN (v : Bool) : Nat := if v then 128 else 32
set_option maxHeartbeats 4000000 in
theorem version_run (v : Bool) (b : Nat → Int) (w : World) : Calls Try.prog 28 #[.agg (SC 17 (adV v b))] w fun e w' => e = .returned (.int .i64 (vN v : Int)) ∧ Below w.heap.size w w' := by
  go_enter Try.func28, Try.ntmps28
  go_wp2_with (refine wl_boxO rfl rfl isAddr (by rfl) ?_; intro g u1 hg g1 hB1; refine Hid.out ?_)
  refine Hid.mk ?_
  have c0 := ad_v g1
  clear g1
  cases v
  · go_wp2_with fail
    go_ret
    exact ⟨rfl, hB1⟩
  · go_wp2_with fail
    go_ret
    exact ⟨rfl, hB1⟩
set_option maxHeartbeats 4000000 in
theorem widest_run (v : Bool) (b : Nat → Int) (w : World) : Calls Try.prog 31 #[.agg (SC 17 (adV v b))] w fun e w' => e = .returned (.int .i64 (wdN v : Int)) ∧ Below w.heap.size w w' := by
  go_enter Try.func31, Try.ntmps31
  go_wp2_with (refine wl_boxO rfl rfl isAddr (by rfl) ?_; intro g u1 hg g1 hB1; refine Hid.out ?_)
  refine Hid.mk ?_
  have c0 := ad_v g1
  clear g1
  cases v
  · go_wp2_with fail
    go_ret
    exact ⟨rfl, hB1⟩
  · go_wp2_with fail
    go_ret
    exact ⟨rfl, hB1⟩
section
variable {a : Act} {o : Oper} {w : World} {x y : Operand}
theorem exec_shr8 (ho : o.op = .binOp .shr 5 x y 3) {B s : Nat} (hx : a.eval x = .int .u8 (B : Int)) (hy : a.eval y = .int .i64 (s : Int)) (_hB : B < 256) (hs : s < 8) : (execOp a.eval o).run Try.prog w = .ok (.value (.int .u8 ((B / 2 ^ s : Nat) : Int))) w := by
  refine exec_bin ho (by simp [go_sem]) hx hy ?_
  simp [go_sem]
theorem exec_shr8' (ho : o.op = .binOp .shr 5 x y 3) {B s C : Nat} (hx : a.eval x = .int .u8 (B : Int)) (hy : a.eval y = .int .i64 (s : Int)) (hB : B < 256) (hs : s < 8) (hC : B / 2 ^ s = C) : (execOp a.eval o).run Try.prog w = .ok (.value (.int .u8 (C : Int))) w := by
  subst hC; exact exec_shr8 ho hx hy hB hs
theorem exec_sub7 (ho : o.op = .binOp .sub 3 x y 3) {r s : Nat} (hx : a.eval x = .int .i64 7) (hy : a.eval y = .int .i64 (r : Int)) (h : (7 : Int) - (r : Int) = (s : Int)) : (execOp a.eval o).run Try.prog w = .ok (.value (.int .i64 (s : Int))) w := by
  refine exec_bin ho (by simp [go_sem]) hx hy ?_
  simp [go_sem, h]
  exact i64_wrap (by omega) (by omega)
theorem exec_and1 (ho : o.op = .binOp .and 3 x y 3) {B : Nat} (hx : a.eval x = .int .i64 (B : Int)) (hy : a.eval y = .int .i64 1) (hB : B < 256) : (execOp a.eval o).run Try.prog w = .ok (.value (.int .i64 ((B % 2 : Nat) : Int))) w := by
  refine exec_bin ho (by simp [go_sem]) hx hy ?_
  simp [go_sem]
  show IntKind.i64.wrap ((BitVec.ofInt 64 (B : Int) &&& BitVec.ofInt 64 ((1 : Nat) : Int)).toNat : Int) = _
  rw [BitVec.toNat_and, ofInt_i64 B (by omega), ofInt_i64 1 (by omega), Nat.and_one_is_mod, i64_wrap (by omega) (by omega)]
  omega
theorem exec_cv64 (ho : o.op = .convert 5 3 x) {m : Int} (hx : a.eval x = .int .u8 m) (h0 : 0 ≤ m) (h1 : m < 256) : (execOp a.eval o).run Try.prog w = .ok (.value (.int .i64 m)) w := by
  refine exec_conv ho hx ?_
  simp [go_sem]
  exact i64_wrap (by omega) (by omega)
theorem sl16 (b : Nat) (w : World) : (Instr.sliceAt 33 (.pointer (some ⟨b, 1, none⟩)) (some (.int .i64 4)) none none).run Try.prog w = .ok (.slice (some ⟨b, 5, none⟩) 12 12) w := by
  simp [go_sem]
theorem toarr12 (b : Nat) (w : World) : (Instr.arrayAt 79 (.slice (some ⟨b, 5, none⟩) 12 12)).run Try.prog w = .ok (.pointer (some ⟨b, 5, none⟩)) w := by simp [go_sem, Instr.arrayAt]
theorem exec_toarr (ho : o.op = .sliceToArrayPointer 79 x) {v r : Value} (hx : a.eval x = v) (hr : (Instr.arrayAt 79 v).run Try.prog w = .ok r w) : (execOp a.eval o).run Try.prog w = .ok (.value r) w := by
  unfold execOp
  simp [ho, hx, hr]
theorem exec_fad1 (ho : o.op = .fieldAddr 35 x 1) {g f : Nat} (hx : a.eval x = .pointer (some ⟨g, f, none⟩)) : (execOp a.eval o).run Try.prog w = .ok (.value (.pointer (some ⟨g, f + 1, none⟩))) w := by
  have h : (Instr.fieldAt 35 (.pointer (some ⟨g, f, none⟩)) 1).run Try.prog w = .ok (.pointer (some ⟨g, f + 1, none⟩)) w := by simp [go_sem]
  unfold execOp
  simp only [ho, hx, Sem.run_bind, h, Result.andThen_ok, Sem.run_pure]
theorem run_z12 (w : World) : (Instr.build 79 #[]).run Try.prog w = .ok (.agg (SC 12 (fun _ => .int .u8 0))) w := by kernel_rfl
theorem exec_z12 (ho : o.op = .build 79 #[]) : (execOp a.eval o).run Try.prog w = .ok (.value (.agg (SC 12 (fun _ => .int .u8 0)))) w := by
  unfold execOp
  simp only [ho]
  simp [run_z12]
def eqB12 (s : Nat → Int) : Bool := (List.range 12).all fun i => s i == 0
theorem equal_12 (s : Nat → Int) (d : Nat) (w : World) : (Op.equalIn (d + 1 + 1) 79 (.agg (SC 12 (fun j => .int .u8 (s j)))) (.agg (SC 12 (fun _ => .int .u8 0)))).run Try.prog w = .ok (eqB12 s) w := by
  obtain ⟨i, hi⟩ := Option.isSome_iff_exists.1 info8
  rw [run_equalIn_array w (d + 1) _ _ Try.underlying79 hi, cells8]
  exact eqItems_sc s (fun _ => 0) 12 d w (List.range 12) (fun i hi => List.mem_range.1 hi)
theorem eqG12 : Try.prog.eqGuardType Try.prog.depth 79 = false := by kernel_rfl
theorem exec_eq12 (ho : o.op = .binOp .eql 79 x y 79) {s : Nat → Int} (hx : a.eval x = .agg (SC 12 (fun j => .int .u8 (s j)))) (hy : a.eval y = .agg (SC 12 (fun _ => .int .u8 0))) {d : Bool} (hd : eqB12 s = d) : (execOp a.eval o).run Try.prog w = .ok (.value (.bool d)) w := by
  subst hd
  unfold execOp
  simp only [ho, hx, hy, Sem.run_bind, run_eqGuard_agg w .eql _ x y _ _ eqG12, Result.andThen_ok, run_eql_struct, equal_12 s 9998 w, Sem.run_pure]
/-- The last twelve bytes of an address. -/
theorem exec_ld12 (ho : o.op = .load 79 x) {g : Nat} {v : Bool} {b : Nat → Int} (hg : SAt w g 35 17 (adV v b)) (hx : a.eval x = .pointer (some ⟨g, 5, none⟩)) : (execOp a.eval o).run Try.prog w = .ok (.value (.agg (SC 12 (fun j => .int .u8 (b (4 + j)))))) w := by
  have h := run_loadAt_addr w ⟨g, 5, none⟩ 79 (SC 12 (fun j => .int .u8 (b (4 + j)))).toList _ (fun j u hv => by
    have hj : j < 12 := by have := (List.getElem?_eq_some_iff.1 hv).1; rwa [Array.length_toList, SC_size] at this
    rw [Addr.add_lit, hg.at (5 + j) (by omega)]
    unfold adV
    rw [if_neg (by omega), show 5 + j - 1 = 4 + j by omega, ← SC_get 12 (fun j => .int .u8 (b (4 + j))) j hj, ← Array.getElem?_toList, hv]) Try.underlying79 rfl (by rw [Array.length_toList, SC_size]; kernel_rfl)
  exact exec_ld ho hx h
end
theorem valid_12 (v : Bool) (b : Nat → Int) : validF v b = (v || eqB12 (fun j => b (4 + j))) := by
  rw [Bool.eq_iff_iff, valid_iff, Bool.or_eq_true]
  unfold eqB12
  rw [List.all_eq_true]
  constructor
  · rintro (h | h)
    · exact .inl h
    · exact .inr (fun i hi => by have := h (4 + i) (by omega) (by have := List.mem_range.1 hi; omega); simpa using this)
  · rintro (h | h)
    · exact .inl h
    · exact .inr (fun i h1 h2 => by
        have := h (i - 4) (List.mem_range.2 (by omega))
        simp only [show 4 + (i - 4) = i by omega] at this
        simpa using this)
set_option maxHeartbeats 4000000 in
theorem isAddr_run (v : Bool) (b : Nat → Int) (w : World) : Calls Try.prog 34 #[.agg (SC 17 (adV v b))] w fun e w' => e = .returned (.bool (validF v b)) ∧ Below w.heap.size w w' := by
  have HV := Hid.mk (valid_12 v b)
  generalize validF v b = r at *
  go_enter Try.func34, Try.ntmps34
  go_wp2_with (refine wl_boxO rfl rfl isAddr (by rfl) ?_; intro g u1 hg g1 hB1; refine Hid.out ?_)
  refine Hid.mk ?_
  have c0 := ad_v g1
  cases v
  · obtain ⟨d, hd⟩ : ∃ d, eqB12 (fun j => b (4 + j)) = d := ⟨_, rfl⟩
    have hr : r = d := by rw [HV.out, hd]; rfl
    have HD := Hid.mk hd
    clear hd
    go_wp2_with (first | (refine wl_value rfl (exec_slL rfl (by rfl) (by rfl) (sl16 g _)) ?_) | (refine wl_value rfl (exec_toarr rfl (by rfl) (toarr12 g _)) ?_) | (refine wl_value rfl (exec_ld12 rfl g1 (by rfl)) ?_) | (refine wl_value rfl (exec_z12 rfl) ?_) | (refine wl_value rfl (exec_eq12 rfl (by rfl) (by rfl) HD.out) ?_))
    go_ret
    exact ⟨by rw [hr]; rfl, hB1⟩
  · have hr : r = true := by rw [HV.out]; rfl
    go_wp2_with fail
    go_ret
    exact ⟨by rw [hr]; rfl, hB1⟩
set_option maxHeartbeats 4000000 in
theorem bitC_run (v : Bool) (b : Nat → Int) (i : Nat) (w : World) (hi : i < 128) (hb : Byts 16 b) : Calls Try.prog 39 #[.agg (SC 17 (adV v b)), .int .i64 (i : Int)] w fun e w' => e = .returned (.int .i64 (bitF b i)) ∧ Below w.heap.size w w' := by
  have hb0 := hb (i / 8) (by omega)
  obtain ⟨B, hB0⟩ : ∃ B : Nat, b (i / 8) = (B : Int) := ⟨(b (i / 8)).toNat, by omega⟩
  have hB256 : B < 256 := by omega
  rw [bitF_nat hB0]
  have h8 : i / 8 < 16 := by omega
  have h88 : i % 8 < 8 := by omega
  obtain ⟨iq, hq⟩ : ∃ q, i / 8 = q := ⟨_, rfl⟩
  obtain ⟨ir, hr⟩ : ∃ q, i % 8 = q := ⟨_, rfl⟩
  rw [hq] at h8 hB0 hb0
  rw [hr] at h88
  rw [hr]
  have HQ := Hid.mk hq
  have HR := Hid.mk hr
  clear hq hr
  obtain ⟨s, hs⟩ : ∃ s, 7 - ir = s := ⟨_, rfl⟩
  have hs8 : s < 8 := by omega
  have his : (7 : Int) - (ir : Int) = (s : Int) := by omega
  rw [hs]
  obtain ⟨C, hC⟩ : ∃ C, B / 2 ^ s = C := ⟨_, rfl⟩
  have hC256 : C < 256 := by rw [← hC]; exact Nat.lt_of_le_of_lt (Nat.div_le_self _ _) hB256
  rw [hC]
  have HC := Hid.mk hC
  clear hC hs
  go_enter Try.func39, Try.ntmps39
  go_wp2_with (refine wl_boxO rfl rfl isAddr (by rfl) ?_; intro g u1 hg g1 hB1; refine Hid.out ?_)
  refine Hid.mk ?_
  have cb := ad_b g1 iq h8
  rw [hB0] at cb
  clear g1
  clear hB0 hb0 hb
  go_wp2_with (first | (refine wl_value rfl (exec_quoN (i := i) (m := 8) rfl (by rfl) (by rfl) HQ.out (by decide) (by omega)) ?_) | (refine wl_value rfl (exec_remN (i := i) (m := 8) rfl (by rfl) (by rfl) HR.out (by decide)) ?_) | (refine wl_value rfl (exec_ix16 rfl (by rfl) (by rfl) h8) ?_) | (refine wl_value rfl (exec_sub7 (r := ir) (s := s) rfl (by rfl) (by rfl) his) ?_) | (refine wl_value rfl (exec_shr8' (B := B) (s := s) rfl (by rfl) (by rfl) hB256 hs8 HC.out) ?_) | (refine wl_value rfl (exec_cv64 rfl (by rfl) (by omega) (by omega)) ?_) | (refine wl_value rfl (exec_and1 (B := C) rfl (by rfl) (by rfl) hC256) ?_))
  go_ret
  exact ⟨rfl, hB1⟩
end Go.Proofs.Ytcpnleanjclfjaa
/-
  Own text. The code's IsPrefix, Whole, longer.
-/
namespace Go.Proofs.Ytcpnleanjclfjaa
open Go.RowKit Go.Proofs
set_option maxRecDepth 100000
section
variable {a : Act} {o : Oper} {w : World} {x y : Operand} {m n : Int}
theorem exec_geqI (ho : o.op = .binOp .geq 3 x y 3) (hx : a.eval x = .int .i64 m) (hy : a.eval y = .int .i64 n) {b : Bool} (h : decide (n ≤ m) = b) : (execOp a.eval o).run Try.prog w = .ok (.value (.bool b)) w := by subst h; exact exec_bin2 ho hx hy rfl (by simp [go_sem])
theorem exec_leqI (ho : o.op = .binOp .leq 3 x y 3) (hx : a.eval x = .int .i64 m) (hy : a.eval y = .int .i64 n) {b : Bool} (h : decide (m ≤ n) = b) : (execOp a.eval o).run Try.prog w = .ok (.value (.bool b)) w := by subst h; exact exec_bin2 ho hx hy rfl (by simp [go_sem])
theorem exec_eqI (ho : o.op = .binOp .eql 3 x y 3) (hx : a.eval x = .int .i64 m) (hy : a.eval y = .int .i64 n) {b : Bool} (h : decide (m = n) = b) : (execOp a.eval o).run Try.prog w = .ok (.value (.bool b)) w := by
  subst h
  refine exec_bin2 ho hx hy rfl ?_
  simp [go_sem]
  by_cases e : m = n <;> simp [e]
end
theorem enterIsA (args : Array Value) (w : World) : (callFunc 34 args).run Try.prog w = .ok (.enter 34 args) w := by kernel_rfl
theorem enterWid (args : Array Value) (w : World) : (callFunc 31 args).run Try.prog w = .ok (.enter 31 args) w := by kernel_rfl
theorem enterVer (args : Array Value) (w : World) : (callFunc 28 args).run Try.prog w = .ok (.enter 28 args) w := by kernel_rfl
theorem enterBitC (args : Array Value) (w : World) : (callFunc 39 args).run Try.prog w = .ok (.enter 39 args) w := by kernel_rfl
theorem right_wd (v : Bool) (b : Nat → Int) (n : Int) : rightF v b n = (validF v b && decide (0 ≤ n) && decide (n ≤ (wdN v : Int))) := by
  unfold rightF wdN
  cases v
  · simp
  · by_cases h1 : n ≤ 32
    · have h2 : n ≤ 128 := by omega
      simp [h1, h2]
    · simp [h1]
set_option maxHeartbeats 8000000 in
theorem isPrefix_run (v : Bool) (b : Nat → Int) (n : Int) (w : World) : Calls Try.prog 18 #[.agg (SC 18 (prV v b n))] w fun e w' => e = .returned (.bool (rightF v b n)) ∧ Below w.heap.size w w' := by
  have HR := Hid.mk (right_wd v b n)
  generalize rightF v b n = r at *
  go_enter Try.func18, Try.ntmps18
  go_wp2_with (refine wl_boxO rfl rfl isPfx (by rfl) ?_; intro g u1 hg g1 hB1; refine Hid.out ?_)
  refine Hid.mk ?_
  have HP : Hid (∀ ww, Below u1.heap.size u1 ww → SAt ww g 37 18 (prV v b n)) := Hid.mk (fun ww h => SAt.kept g1 h)
  have HA := Hid.mk (isAddr_run v b)
  clear g1
  generalize validF v b = vd at *
  obtain ⟨d1, hd1⟩ : ∃ d, decide (n ≤ (wdN v : Int)) = d := ⟨_, rfl⟩
  rw [hd1] at HR
  have HD1 := Hid.mk hd1
  clear hd1
  cases vd
  · have hr : r = false := by rw [HR.out]; rfl
    go_wp2_with fail
    refine wp_region3 (Below u1.heap.size u1) u1.heap.size
        ([] : List (Nat × Cont))
        [kv (.pointer (some ⟨g, 0, none⟩)), kv (.agg (SC 17 (adV v b))), kv (.bool false), kv (.bool false), kv (undef), kv (undef), kv (undef), kv (.bool false), kv (.bool false), kv (undef), kv (undef), kv (undef), kv (undef), kv (undef), kv (undef), kv (.bool false), kv (.bool false)]
        [.none, .none, .none, .none, .none, .none, .none, .none, .none, .none, .none, .none, .none, .none, .none, .none, .none]
        [some 3, some 4, some 5, some 6, some 7, some 8, some 9, some 10, some 11, some 12, some 13, some 14, some 15, some 16, some 17, some 18, some 2]
        [(1, .pointer (some ⟨g, 0, none⟩))]
        [[], [.slot 0], [.slot 1], [.slot 2], [.slot 3], [.slot 3], [.slot 3], [.slot 3], [.slot 7], [.slot 8], [.slot 8], [.slot 8], [.slot 8], [.slot 8], [.slot 8], [.slot 8], [.slot 15]]
        [.slot 16] [3, 4, 5, 6, 7, 8, 9, 10, 11, 12, 13, 14, 15, 16, 17, 18, 2]
        rfl (by kernel_rfl) ⟨rfl, trivial⟩ ((Below.refl _ u1).drew) (Nat.le_refl _) trivial trivial (below_Gc7 (Nat.le_refl _))
        ⟨
          (fun Q aq ww own hS hBg fr kn => .inl ⟨trivial, fun K hK => wp_value (exec_fpx rfl fr.1) (hK _ _ ⟨Touch.refl _ _, rfl⟩)⟩),
          (fun Q aq ww own hS hBg fr kn => .inl ⟨trivial, fun K hK => wp_value (exec_ldA rfl (HP.out ww hS) kn.1) (hK _ _ ⟨Touch.refl _ _, rfl⟩)⟩),
          (fun Q aq ww own hS hBg fr kn => .inl ⟨trivial, fun K hK => stepc enterIsA rfl (args1 kn.1) (HA.out ww) (fun w' hb => hK _ _ ⟨touch_below hb, rfl⟩)⟩),
          (fun Q aq ww own hS hBg fr kn => .inl ⟨trivial, fun K hK => wp_value (exec_move rfl kn.1) (hK _ _ ⟨Touch.refl _ _, rfl⟩)⟩),
          (fun Q aq ww own hS hBg fr kn => .inr ⟨.inl kn.1, ⟨Touch.refl _ _, rfl⟩⟩),
          (fun Q aq ww own hS hBg fr kn => .inr ⟨.inl kn.1, ⟨Touch.refl _ _, rfl⟩⟩),
          (fun Q aq ww own hS hBg fr kn => .inr ⟨.inl kn.1, ⟨Touch.refl _ _, rfl⟩⟩),
          (fun Q aq ww own hS hBg fr kn => .inl ⟨trivial, fun K hK => wp_value (exec_pickF (v := .bool false) rfl kn.1 rfl) (hK _ _ ⟨Touch.refl _ _, rfl⟩)⟩),
          (fun Q aq ww own hS hBg fr kn => .inl ⟨trivial, fun K hK => wp_value (exec_move rfl kn.1) (hK _ _ ⟨Touch.refl _ _, rfl⟩)⟩),
          (fun Q aq ww own hS hBg fr kn => .inr ⟨.inl kn.1, ⟨Touch.refl _ _, rfl⟩⟩),
          (fun Q aq ww own hS hBg fr kn => .inr ⟨.inl kn.1, ⟨Touch.refl _ _, rfl⟩⟩),
          (fun Q aq ww own hS hBg fr kn => .inr ⟨.inl kn.1, ⟨Touch.refl _ _, rfl⟩⟩),
          (fun Q aq ww own hS hBg fr kn => .inr ⟨.inl kn.1, ⟨Touch.refl _ _, rfl⟩⟩),
          (fun Q aq ww own hS hBg fr kn => .inr ⟨.inl kn.1, ⟨Touch.refl _ _, rfl⟩⟩),
          (fun Q aq ww own hS hBg fr kn => .inr ⟨.inl kn.1, ⟨Touch.refl _ _, rfl⟩⟩),
          (fun Q aq ww own hS hBg fr kn => .inl ⟨trivial, fun K hK => wp_value (exec_pickF (v := .bool false) rfl kn.1 rfl) (hK _ _ ⟨Touch.refl _ _, rfl⟩)⟩),
          (fun Q aq ww own hS hBg fr kn => .inl ⟨trivial, fun K hK => wp_value (exec_assign rfl kn.1) (hK _ _ ⟨Touch.refl _ _, rfl⟩)⟩),
          trivial⟩ ?_
    intro vs own u6 hB6 hsz kn inj
    have e2 : vs 2 = .bool false := kn.1
    clear kn inj hsz
    simp only [putAll, Act.put, List.setIfInBounds_toArray, List.set_cons_zero, List.set_cons_succ, e2]
    clear e2
    go_wp2_with fail
    go_ret
    exact ⟨by rw [hr]; rfl, hB1.trans (hB6.mono hB1.size)⟩
  · by_cases h0 : 0 ≤ n
    · have d0 : decide (0 ≤ n) = true := decide_eq_true h0
      have hr : r = d1 := by rw [HR.out, d0]; rfl
      go_wp2_with fail
      refine wp_region3 (Below u1.heap.size u1) u1.heap.size
          ([] : List (Nat × Cont))
          [kv (.pointer (some ⟨g, 0, none⟩)), kv (.agg (SC 17 (adV v b))), kv (.bool true), kv (.bool true), kv (.pointer (some ⟨g, 0 + 17, none⟩)), kv (.int .i64 n), kv (.bool true), kv (.bool true), kv (.bool true), kv (.pointer (some ⟨g, 0 + 17, none⟩)), kv (.int .i64 n), kv (.pointer (some ⟨g, 0, none⟩)), kv (.agg (SC 17 (adV v b))), kv (.int .i64 (wdN v : Int)), kv (.bool d1), kv (.bool d1), kv (.bool d1)]
          [.none, .none, .none, .none, .none, .none, .none, .none, .none, .none, .none, .none, .none, .none, .none, .none, .none]
          [some 3, some 4, some 5, some 6, some 7, some 8, some 9, some 10, some 11, some 12, some 13, some 14, some 15, some 16, some 17, some 18, some 2]
          [(1, .pointer (some ⟨g, 0, none⟩))]
          [[], [.slot 0], [.slot 1], [.slot 2], [.slot 3], [.slot 3, .slot 4], [.slot 3, .slot 5], [.slot 3, .slot 6], [.slot 7], [.slot 8], [.slot 8, .slot 9], [.slot 8], [.slot 8, .slot 11], [.slot 8, .slot 12], [.slot 8, .slot 10, .slot 13], [.slot 8, .slot 14], [.slot 15]]
          [.slot 16] [3, 4, 5, 6, 7, 8, 9, 10, 11, 12, 13, 14, 15, 16, 17, 18, 2]
          rfl (by kernel_rfl) ⟨rfl, trivial⟩ ((Below.refl _ u1).drew) (Nat.le_refl _) trivial trivial (below_Gc7 (Nat.le_refl _))
          ⟨
            (fun Q aq ww own hS hBg fr kn => .inl ⟨trivial, fun K hK => wp_value (exec_fpx rfl fr.1) (hK _ _ ⟨Touch.refl _ _, rfl⟩)⟩),
            (fun Q aq ww own hS hBg fr kn => .inl ⟨trivial, fun K hK => wp_value (exec_ldA rfl (HP.out ww hS) kn.1) (hK _ _ ⟨Touch.refl _ _, rfl⟩)⟩),
            (fun Q aq ww own hS hBg fr kn => .inl ⟨trivial, fun K hK => stepc enterIsA rfl (args1 kn.1) (HA.out ww) (fun w' hb => hK _ _ ⟨touch_below hb, rfl⟩)⟩),
            (fun Q aq ww own hS hBg fr kn => .inl ⟨trivial, fun K hK => wp_value (exec_move rfl kn.1) (hK _ _ ⟨Touch.refl _ _, rfl⟩)⟩),
            (fun Q aq ww own hS hBg fr kn => .inl ⟨kn.1, fun K hK => wp_value (exec_fpb rfl fr.1) (hK _ _ ⟨Touch.refl _ _, rfl⟩)⟩),
            (fun Q aq ww own hS hBg fr kn => .inl ⟨kn.1, fun K hK => wp_value (exec_ld rfl kn.2.1 (ld_int (pr_n (HP.out ww hS)))) (hK _ _ ⟨Touch.refl _ _, rfl⟩)⟩),
            (fun Q aq ww own hS hBg fr kn => .inl ⟨kn.1, fun K hK => wp_value (exec_geqI rfl kn.2.1 rfl d0) (hK _ _ ⟨Touch.refl _ _, rfl⟩)⟩),
            (fun Q aq ww own hS hBg fr kn => .inl ⟨trivial, fun K hK => wp_value (exec_pick (v := .bool true) rfl kn.1 kn.2.1) (hK _ _ ⟨Touch.refl _ _, rfl⟩)⟩),
            (fun Q aq ww own hS hBg fr kn => .inl ⟨trivial, fun K hK => wp_value (exec_move rfl kn.1) (hK _ _ ⟨Touch.refl _ _, rfl⟩)⟩),
            (fun Q aq ww own hS hBg fr kn => .inl ⟨kn.1, fun K hK => wp_value (exec_fpb rfl fr.1) (hK _ _ ⟨Touch.refl _ _, rfl⟩)⟩),
            (fun Q aq ww own hS hBg fr kn => .inl ⟨kn.1, fun K hK => wp_value (exec_ld rfl kn.2.1 (ld_int (pr_n (HP.out ww hS)))) (hK _ _ ⟨Touch.refl _ _, rfl⟩)⟩),
            (fun Q aq ww own hS hBg fr kn => .inl ⟨kn.1, fun K hK => wp_value (exec_fpx rfl fr.1) (hK _ _ ⟨Touch.refl _ _, rfl⟩)⟩),
            (fun Q aq ww own hS hBg fr kn => .inl ⟨kn.1, fun K hK => wp_value (exec_ldA rfl (HP.out ww hS) kn.2.1) (hK _ _ ⟨Touch.refl _ _, rfl⟩)⟩),
            (fun Q aq ww own hS hBg fr kn => .inl ⟨kn.1, fun K hK => stepc enterWid rfl (args1 kn.2.1) (widest_run v b ww) (fun w' hb => hK _ _ ⟨touch_below hb, rfl⟩)⟩),
            (fun Q aq ww own hS hBg fr kn => .inl ⟨kn.1, fun K hK => wp_value (exec_leqI rfl kn.2.1 kn.2.2.1 HD1.out) (hK _ _ ⟨Touch.refl _ _, rfl⟩)⟩),
            (fun Q aq ww own hS hBg fr kn => .inl ⟨trivial, fun K hK => wp_value (exec_pick (v := .bool d1) rfl kn.1 kn.2.1) (hK _ _ ⟨Touch.refl _ _, rfl⟩)⟩),
            (fun Q aq ww own hS hBg fr kn => .inl ⟨trivial, fun K hK => wp_value (exec_assign rfl kn.1) (hK _ _ ⟨Touch.refl _ _, rfl⟩)⟩),
            trivial⟩ ?_
      intro vs own u6 hB6 hsz kn inj
      have e2 : vs 2 = .bool d1 := kn.1
      clear kn inj hsz
      simp only [putAll, Act.put, List.setIfInBounds_toArray, List.set_cons_zero, List.set_cons_succ, e2]
      clear e2
      go_wp2_with fail
      go_ret
      exact ⟨by rw [hr]; rfl, hB1.trans (hB6.mono hB1.size)⟩
    · have d0 : decide (0 ≤ n) = false := decide_eq_false h0
      have hr : r = false := by rw [HR.out, d0]; rfl
      go_wp2_with fail
      refine wp_region3 (Below u1.heap.size u1) u1.heap.size
          ([] : List (Nat × Cont))
          [kv (.pointer (some ⟨g, 0, none⟩)), kv (.agg (SC 17 (adV v b))), kv (.bool true), kv (.bool true), kv (.pointer (some ⟨g, 0 + 17, none⟩)), kv (.int .i64 n), kv (.bool false), kv (.bool false), kv (.bool false), kv (undef), kv (undef), kv (undef), kv (undef), kv (undef), kv (undef), kv (.bool false), kv (.bool false)]
          [.none, .none, .none, .none, .none, .none, .none, .none, .none, .none, .none, .none, .none, .none, .none, .none, .none]
          [some 3, some 4, some 5, some 6, some 7, some 8, some 9, some 10, some 11, some 12, some 13, some 14, some 15, some 16, some 17, some 18, some 2]
          [(1, .pointer (some ⟨g, 0, none⟩))]
          [[], [.slot 0], [.slot 1], [.slot 2], [.slot 3], [.slot 3, .slot 4], [.slot 3, .slot 5], [.slot 3, .slot 6], [.slot 7], [.slot 8], [.slot 8], [.slot 8], [.slot 8], [.slot 8], [.slot 8], [.slot 8], [.slot 15]]
          [.slot 16] [3, 4, 5, 6, 7, 8, 9, 10, 11, 12, 13, 14, 15, 16, 17, 18, 2]
          rfl (by kernel_rfl) ⟨rfl, trivial⟩ ((Below.refl _ u1).drew) (Nat.le_refl _) trivial trivial (below_Gc7 (Nat.le_refl _))
          ⟨
            (fun Q aq ww own hS hBg fr kn => .inl ⟨trivial, fun K hK => wp_value (exec_fpx rfl fr.1) (hK _ _ ⟨Touch.refl _ _, rfl⟩)⟩),
            (fun Q aq ww own hS hBg fr kn => .inl ⟨trivial, fun K hK => wp_value (exec_ldA rfl (HP.out ww hS) kn.1) (hK _ _ ⟨Touch.refl _ _, rfl⟩)⟩),
            (fun Q aq ww own hS hBg fr kn => .inl ⟨trivial, fun K hK => stepc enterIsA rfl (args1 kn.1) (HA.out ww) (fun w' hb => hK _ _ ⟨touch_below hb, rfl⟩)⟩),
            (fun Q aq ww own hS hBg fr kn => .inl ⟨trivial, fun K hK => wp_value (exec_move rfl kn.1) (hK _ _ ⟨Touch.refl _ _, rfl⟩)⟩),
            (fun Q aq ww own hS hBg fr kn => .inl ⟨kn.1, fun K hK => wp_value (exec_fpb rfl fr.1) (hK _ _ ⟨Touch.refl _ _, rfl⟩)⟩),
            (fun Q aq ww own hS hBg fr kn => .inl ⟨kn.1, fun K hK => wp_value (exec_ld rfl kn.2.1 (ld_int (pr_n (HP.out ww hS)))) (hK _ _ ⟨Touch.refl _ _, rfl⟩)⟩),
            (fun Q aq ww own hS hBg fr kn => .inl ⟨kn.1, fun K hK => wp_value (exec_geqI rfl kn.2.1 rfl d0) (hK _ _ ⟨Touch.refl _ _, rfl⟩)⟩),
            (fun Q aq ww own hS hBg fr kn => .inl ⟨trivial, fun K hK => wp_value (exec_pick (v := .bool false) rfl kn.1 kn.2.1) (hK _ _ ⟨Touch.refl _ _, rfl⟩)⟩),
            (fun Q aq ww own hS hBg fr kn => .inl ⟨trivial, fun K hK => wp_value (exec_move rfl kn.1) (hK _ _ ⟨Touch.refl _ _, rfl⟩)⟩),
            (fun Q aq ww own hS hBg fr kn => .inr ⟨.inl kn.1, ⟨Touch.refl _ _, rfl⟩⟩),
            (fun Q aq ww own hS hBg fr kn => .inr ⟨.inl kn.1, ⟨Touch.refl _ _, rfl⟩⟩),
            (fun Q aq ww own hS hBg fr kn => .inr ⟨.inl kn.1, ⟨Touch.refl _ _, rfl⟩⟩),
            (fun Q aq ww own hS hBg fr kn => .inr ⟨.inl kn.1, ⟨Touch.refl _ _, rfl⟩⟩),
            (fun Q aq ww own hS hBg fr kn => .inr ⟨.inl kn.1, ⟨Touch.refl _ _, rfl⟩⟩),
            (fun Q aq ww own hS hBg fr kn => .inr ⟨.inl kn.1, ⟨Touch.refl _ _, rfl⟩⟩),
            (fun Q aq ww own hS hBg fr kn => .inl ⟨trivial, fun K hK => wp_value (exec_pickF (v := .bool false) rfl kn.1 rfl) (hK _ _ ⟨Touch.refl _ _, rfl⟩)⟩),
            (fun Q aq ww own hS hBg fr kn => .inl ⟨trivial, fun K hK => wp_value (exec_assign rfl kn.1) (hK _ _ ⟨Touch.refl _ _, rfl⟩)⟩),
            trivial⟩ ?_
      intro vs own u6 hB6 hsz kn inj
      have e2 : vs 2 = .bool false := kn.1
      clear kn inj hsz
      simp only [putAll, Act.put, List.setIfInBounds_toArray, List.set_cons_zero, List.set_cons_succ, e2]
      clear e2
      go_wp2_with fail
      go_ret
      exact ⟨by rw [hr]; rfl, hB1.trans (hB6.mono hB1.size)⟩
/-- The bits of a byte behind the first c are let go. -/
def keepB (x c : Nat) : Nat := x / 2 ^ (8 - c) * 2 ^ (8 - c)
theorem keep_tab : ((List.range 256).all fun x => (List.range 9).all fun c => decide (bits .andNot .u8 (x : Int) ((255 / 2 ^ c : Nat) : Int) = ((keepB x c : Nat) : Int))) = true := by kernel_rfl
theorem keep_and {x c : Nat} (hx : x < 256) (hc : c < 9) : bits .andNot .u8 (x : Int) ((255 / 2 ^ c : Nat) : Int) = ((keepB x c : Nat) : Int) :=
  of_decide_eq_true (List.all_eq_true.1 (List.all_eq_true.1 keep_tab x (List.mem_range.2 hx)) c (List.mem_range.2 hc))
theorem keep_bits : ((List.range 256).all fun x => (List.range 9).all fun c => decide (keepB x c < 256) && (List.range 8).all fun t => decide (keepB x c / 2 ^ (7 - t) % 2 = if t < c then x / 2 ^ (7 - t) % 2 else 0)) = true := by kernel_rfl
theorem keep_bit {x c t : Nat} (hx : x < 256) (hc : c < 9) (ht : t < 8) : keepB x c / 2 ^ (7 - t) % 2 = if t < c then x / 2 ^ (7 - t) % 2 else 0 := by
  have := List.all_eq_true.1 (List.all_eq_true.1 keep_bits x (List.mem_range.2 hx)) c (List.mem_range.2 hc)
  rw [Bool.and_eq_true] at this
  exact of_decide_eq_true (List.all_eq_true.1 this.2 t (List.mem_range.2 ht))
theorem keep_lt {x c : Nat} (hx : x < 256) (hc : c < 9) : keepB x c < 256 := by
  have := List.all_eq_true.1 (List.all_eq_true.1 keep_bits x (List.mem_range.2 hx)) c (List.mem_range.2 hc)
  rw [Bool.and_eq_true] at this
  exact of_decide_eq_true this.1
def clampN (n : Int) (j : Nat) : Nat := min (n - 8 * (j : Int)).toNat 8
theorem whB_keep {b : Nat → Int} {n : Int} {j x : Nat} (hb : b j = (x : Int)) (hx : x < 256) (hj : j < 16) : whB b n j = ((keepB x (clampN n j) : Nat) : Int) := by
  have hc : clampN n j < 9 := by unfold clampN; omega
  have hk := keep_lt hx hc
  refine byte_bits ((wh_b b n) j hj) ⟨by omega, by omega⟩ (fun t ht => ?_)
  have h1 := wh_bit b n (8 * j + t)
  unfold bitF at h1
  rw [show (8 * j + t) / 8 = j by omega, show (8 * j + t) % 8 = t by omega, hb] at h1
  rw [h1]
  have e2 : ((2 : Int) ^ (7 - t)) = ((2 ^ (7 - t) : Nat) : Int) := by simp
  rw [e2, ← Int.natCast_ediv, ← Int.natCast_ediv]
  have h2 := keep_bit hx hc ht
  by_cases e : ((8 * j + t : Nat) : Int) < n
  · rw [if_pos e]
    rw [if_pos (show t < clampN n j by unfold clampN; omega)] at h2
    omega
  · rw [if_neg e]
    rw [if_neg (show ¬ t < clampN n j by unfold clampN; omega)] at h2
    omega
section
variable {a : Act} {o : Oper} {w : World} {x y : Operand}
theorem exec_255 (ho : o.op = .binOp .shr 5 x y 3) {s : Nat} (hx : a.eval x = .int .u8 255) (hy : a.eval y = .int .i64 (s : Int)) (hs : s < 9) : (execOp a.eval o).run Try.prog w = .ok (.value (.int .u8 ((255 / 2 ^ s : Nat) : Int))) w := by
  refine exec_bin ho (by simp [go_sem]) hx hy ?_
  simp [go_sem]
theorem exec_anN (ho : o.op = .binOp .andNot 5 x y 5) {B c : Nat} (hx : a.eval x = .int .u8 (B : Int)) (hy : a.eval y = .int .u8 ((255 / 2 ^ c : Nat) : Int)) (hB : B < 256) (hc : c < 9) : (execOp a.eval o).run Try.prog w = .ok (.value (.int .u8 ((keepB B c : Nat) : Int))) w := by
  refine exec_bin ho (by simp [go_sem]) hx hy ?_
  have h := keep_and hB hc
  generalize ((255 / 2 ^ c : Nat) : Int) = z at *
  simp [go_sem, h]
theorem exec_fpb0 (ho : o.op = .fieldAddr 37 x 1) {g : Nat} (hx : a.eval x = .pointer (some ⟨g, 0, none⟩)) : (execOp a.eval o).run Try.prog w = .ok (.value (.pointer (some ⟨g, 17, none⟩))) w := exec_fpb ho hx
theorem exec_mul8k (ho : o.op = .binOp .mul 3 x y 3) {k : Nat} (hx : a.eval x = .int .i64 8) (hy : a.eval y = .int .i64 (k : Int)) (hk : k < 16) : (execOp a.eval o).run Try.prog w = .ok (.value (.int .i64 (8 * (k : Int)))) w := exec_mul ho hx hy (by omega) (by omega)
theorem exec_sub64 (ho : o.op = .binOp .sub 3 x y 3) {m n : Int} (hx : a.eval x = .int .i64 m) (hy : a.eval y = .int .i64 n) (h0 : -9223372036854775808 ≤ m - n) (h1 : m - n < 9223372036854775808) : (execOp a.eval o).run Try.prog w = .ok (.value (.int .i64 (m - n))) w := by
  refine exec_bin ho (by simp [go_sem]) hx hy ?_
  simp [go_sem]
  exact i64_wrap h0 h1
theorem exec_maxI (ho : o.op = .call { callee := .builtin .max, args := #[x, y], argTypes := #[3, 3] }) {m n r : Int} (hx : a.eval x = .int .i64 m) (hy : a.eval y = .int .i64 n) (hr : max m n = r) : (execOp a.eval o).run Try.prog w = .ok (.value (.int .i64 r)) w := by
  have h : (Builtin.max_ #[3, 3] o.type #[.int .i64 m, .int .i64 n]).run Try.prog w = .ok (.int .i64 r) w := by
    rw [run_max_int2]
    congr 2
    rw [← hr]
    omega
  simp [execOp, ho, resolve, invoke, builtin, hx, hy, h]
theorem exec_minI (ho : o.op = .call { callee := .builtin .min, args := #[x, y], argTypes := #[3, 3] }) {m n r : Int} (hx : a.eval x = .int .i64 m) (hy : a.eval y = .int .i64 n) (hr : min m n = r) : (execOp a.eval o).run Try.prog w = .ok (.value (.int .i64 r)) w := by
  have h : (Builtin.min_ #[3, 3] o.type #[.int .i64 m, .int .i64 n]).run Try.prog w = .ok (.int .i64 r) w := by
    rw [run_min_int2]
    congr 2
    rw [← hr]
    omega
  simp [execOp, ho, resolve, invoke, builtin, hx, hy, h]
end
theorem ld_u8 {w : World} {p : Addr} {n : Int} (h : w.cell? p = some (.int .u8 n)) : (Instr.loadAt 5 (.pointer (some p))).run Try.prog w = .ok (.int .u8 n) w := by simp [go_sem, h]
theorem pr_congr {v : Bool} {b b2 : Nat → Int} {n : Int} (h : ∀ j, j < 16 → b j = b2 j) (i : Nat) (hi : i < 18) : prV v b n i = prV v b2 n i := by
  unfold prV adV
  by_cases h17 : i < 17
  · rw [if_pos h17, if_pos h17]
    by_cases h1 : i < 1
    · rw [if_pos h1, if_pos h1]
    · rw [if_neg h1, if_neg h1, h (i - 1) (by omega)]
  · rw [if_neg h17, if_neg h17]
def mixB (b : Nat → Int) (n : Int) (k i : Nat) : Int := if i < k then whB b n i else b i
set_option maxHeartbeats 16000000 in
theorem wholeC_run (v : Bool) (b : Nat → Int) (n : Int) (w : World) (hb : Byts 16 b) : Calls Try.prog 20 #[.agg (SC 18 (prV v b n))] w fun e w' => e = .returned (.agg (SC 18 (wholeV v b n))) ∧ Below w.heap.size w w' := by
  have HY : Hid (rightF v b n = true → wholeV v b n = prV v (whB b n) n) := Hid.mk (fun h => by unfold wholeV; rw [if_pos h])
  have HN : Hid (rightF v b n = false → wholeV v b n = prV false (fun _ => 0) 0) := Hid.mk (fun h => by unfold wholeV; rw [if_neg (by rw [h]; simp)])
  have H128 : Hid (rightF v b n = true → 0 ≤ n ∧ n ≤ 128) := Hid.mk right_n
  generalize wholeV v b n = wv at *
  go_enter Try.func20, Try.ntmps20
  go_wp2_with (first | (refine wl_boxO rfl rfl isPfx (by rfl) ?_; intro g1 w1 hg1 q1 hB1; refine Hid.out ?_))
  refine Hid.mk ?_
  go_wp2_with (refine wl_alO rfl rfl zeroPfx ?_; intro g2 w2 hg2 q2 hB2; refine Hid.out ?_)
  refine Hid.mk ?_
  have p2 := SAt.kept q1 hB2
  have hl1 := SAt.lt q1
  have hBa : Below w.heap.size w w2 := hB1.trans (hB2.mono hB1.size)
  have h21 : g2 ≠ g1 := by omega
  have hg2w : w.heap.size ≤ g2 := by have := hB1.size; omega
  clear q1 hB1 hB2 hg2 hl1
  go_wp2_with (refine wl_value rfl (look_st rfl isPfx p2 (by rfl)) ?_)
  refine (isPrefix_run v b n w2).mono ?_
  rintro e w3 ⟨rfl, hB3⟩
  have p3 := SAt.kept p2 hB3
  have q3 := SAt.kept q2 hB3
  have hBb : Below w.heap.size w w3 := hBa.trans (hB3.mono hBa.size)
  clear p2 q2 hB3 hBa
  generalize rightF v b n = rt at *
  cases rt
  · have hw := HN.out rfl
    go_wp2_with (first | (refine wl_value rfl (exec_px0 rfl) ?_) | (refine st_stO rfl rfl isPfx (prV_one _ _ _) q3 (by rfl) (by rfl) ?_; intro w4 q4 o4; refine Hid.out ?_))
    refine Hid.mk ?_
    go_wp2_with fail
    exact bodyPost_ret (res_st rfl isPfx q4 (by rfl)) rfl ⟨by rw [hw], hBb.trans (o4.below hg2w)⟩
  · obtain ⟨hn0, hn⟩ := H128.out rfl
    have hw := HY.out rfl
    have HW := Hid.mk hw
    clear hw HY HN H128
    go_wp2_with fail
    go_loopg [9, 3, 4] (16 : Nat) (fun gm s9 s3 s4 z => ∃ k : Nat, gm = 16 - k ∧ k ≤ 16 ∧ s9 = .int .i64 (k : Int) ∧ Hid (SAt z g1 37 18 (prV v (mixB b n k) n) ∧ SAt z g2 37 18 (prV false (fun _ => 0) 0) ∧ Below w.heap.size w z))
    case atStart => exact ⟨0, rfl, by omega, rfl, Hid.mk ⟨p3.congr (fun i _ => rfl), q3, hBb⟩⟩
    case round =>
      obtain ⟨k, hgm, hk, rfl, HS⟩ := hrel
      clear p3 q3 hBb
      by_cases hlt : k < 16
      · have hki : (k : Int) < 16 := by omega
        obtain ⟨p4, q4, hBc⟩ := HS.out
        have hbk := hb k hlt
        obtain ⟨X, hX⟩ : ∃ X : Nat, b k = (X : Int) := ⟨(b k).toNat, by omega⟩
        have hX256 : X < 256 := by omega
        have cb := pr_b p4 k hlt
        have cn := pr_n p4
        have hmk : mixB b n k k = (X : Int) := by unfold mixB; rw [if_neg (by omega), hX]
        rw [hmk] at cb
        obtain ⟨c, hc⟩ : ∃ c, clampN n k = c := ⟨_, rfl⟩
        have hc9 : c < 9 := by rw [← hc]; unfold clampN; omega
        obtain ⟨mx, hmx⟩ : ∃ mx, max (n - 8 * (k : Int)) 0 = mx := ⟨_, rfl⟩
        have hmn : min mx 8 = (c : Int) := by rw [← hmx, ← hc]; unfold clampN; omega
        have HMX := Hid.mk hmx
        have HMN := Hid.mk hmn
        clear hmx hmn
        have HCB : Hid (∀ ww, Below wr.heap.size wr ww → ww.cell? ⟨g1, 1 + k, none⟩ = some (.int .u8 (X : Int))) := Hid.mk (fun ww h => by
          have := pr_b (SAt.kept p4 h) k hlt
          rw [hmk] at this
          exact this)
        have HT : Hid (∀ ww, Below wr.heap.size wr ww → SAt (ww.setCell ⟨g1, 1 + k, none⟩ (.int .u8 ((keepB X c : Nat) : Int))) g1 37 18 (prV v (mixB b n (k + 1)) n)) := Hid.mk (fun ww h => pr_setb (SAt.kept p4 h) hlt (fun j hj => by
          unfold mixB
          by_cases e : j = k
          · subst e
            rw [if_pos (by omega), if_pos rfl, whB_keep hX hX256 hlt, hc]
          · rw [if_neg e]
            by_cases e2 : j < k
            · rw [if_pos e2, if_pos (by omega)]
            · rw [if_neg e2, if_neg (by omega)]))
        clear hbk hX hmk hc cb
        go_wp2_with (first | (refine wl_value rfl (exec_fpb0 rfl (by rfl)) ?_) | (refine wl_value rfl (exec_mul8k (k := k) rfl (by rfl) (by rfl) hlt) ?_) | (refine wl_value rfl (exec_sub64 rfl (by rfl) (by rfl) (by omega) (by omega)) ?_) | (refine wl_value rfl (exec_maxI rfl (by rfl) (by rfl) HMX.out) ?_) | (refine wl_value rfl (exec_minI rfl (by rfl) (by rfl) HMN.out) ?_))
        clear cn
        refine wp_region_cut 10 rfl (by kernel_rfl) (any_steps (Below wr.heap.size wr) (fun v v' => Below v.heap.size v v') (fun i v v0 => match i with | 0 => v = .int .i64 (k : Int) | 1 => v = .pointer (some ⟨g1, 0, none⟩) | 2 => v = .pointer (some ⟨g1, 0 + 1, none⟩) | 3 => v = .pointer (some ⟨g1, 1 + k, none⟩) | 4 => v = .int .u8 (X : Int) | 5 => v = .int .i64 (c : Int) | 6 => v = .int .u8 ((255 / 2 ^ c : Nat) : Int) | 7 => v = .int .u8 ((keepB X c : Nat) : Int) | 8 => v = .pointer (some ⟨g1, 0, none⟩) | 9 => v = .pointer (some ⟨g1, 0 + 1, none⟩) | _ => True)
            [19, 20, 21, 22, 23, 24, 25, 26, 27, 28]
            [(1, .pointer (some ⟨g1, 0, none⟩)), (3, .int .i64 (k : Int)), (4, .int .i64 (c : Int))]
            [[], [], [1], [2, 0], [3], [], [5], [4, 6], [], [8]]
            (by kernel_rfl) ⟨rfl, rfl, rfl, trivial⟩ (Below.drew (Below.refl _ _)) (fun v v' h hb => h.trans (hb.mono h.size)) ?_
            ⟨
              (fun Q a1 ww hS fr kn => ⟨trivial, fun K hK => wp_value (exec_move rfl fr.2.1) (hK _ _ rfl (Below.refl _ _))⟩),
              (fun Q a1 ww hS fr kn => ⟨trivial, fun K hK => wp_value (exec_fpx rfl fr.1) (hK _ _ rfl (Below.refl _ _))⟩),
              (fun Q a1 ww hS fr kn => ⟨trivial, fun K hK => wp_value (exec_fad1 rfl kn.1) (hK _ _ rfl (Below.refl _ _))⟩),
              (fun Q a1 ww hS fr kn => ⟨trivial, fun K hK => wp_value (exec_ix16 (k := k) rfl kn.1 kn.2.1 hlt) (hK _ _ rfl (Below.refl _ _))⟩),
              (fun Q a1 ww hS fr kn => ⟨trivial, fun K hK => wp_value (exec_ld rfl kn.1 (ld_u8 (HCB.out ww hS))) (hK _ _ rfl (Below.refl _ _))⟩),
              (fun Q a1 ww hS fr kn => ⟨trivial, fun K hK => wp_value (exec_move rfl fr.2.2.1) (hK _ _ rfl (Below.refl _ _))⟩),
              (fun Q a1 ww hS fr kn => ⟨trivial, fun K hK => wp_value (exec_255 (s := c) rfl rfl kn.1 hc9) (hK _ _ rfl (Below.refl _ _))⟩),
              (fun Q a1 ww hS fr kn => ⟨trivial, fun K hK => wp_value (exec_anN (B := X) (c := c) rfl kn.1 kn.2.1 hX256 hc9) (hK _ _ rfl (Below.refl _ _))⟩),
              (fun Q a1 ww hS fr kn => ⟨trivial, fun K hK => wp_value (exec_fpx rfl fr.1) (hK _ _ rfl (Below.refl _ _))⟩),
              (fun Q a1 ww hS fr kn => ⟨trivial, fun K hK => wp_value (exec_fad1 rfl kn.1) (hK _ _ rfl (Below.refl _ _))⟩),
              trivial⟩ ?_)
        · intro i v u' u'' hh hb
          match i with
          | 0 | 1 | 2 | 3 | 4 | 5 | 6 | 7 | 8 | 9 => exact hh

          | n + 10 => trivial
        intro vs w7 hS7 hk7
        have e19 : vs 19 = .int .i64 (k : Int) := hk7 0 (by decide)
        have e26 : vs 26 = .int .u8 ((keepB X c : Nat) : Int) := hk7 7 (by decide)
        have e28 : vs 28 = .pointer (some ⟨g1, 0 + 1, none⟩) := hk7 9 (by decide)
        have cb := HCB.out w7 hS7
        have p7 := SAt.kept p4 hS7
        have f1 : w7.frozen? ⟨g1, 1 + k, none⟩ = false := frozen_of_row w7 g1 (1 + k) _ _ p7
        have HF : Hid (SAt (w7.setCell ⟨g1, 1 + k, none⟩ (.int .u8 ((keepB X c : Nat) : Int))) g1 37 18 (prV v (mixB b n (k + 1)) n) ∧ SAt (w7.setCell ⟨g1, 1 + k, none⟩ (.int .u8 ((keepB X c : Nat) : Int))) g2 37 18 (prV false (fun _ => 0) 0) ∧ Below w.heap.size w (w7.setCell ⟨g1, 1 + k, none⟩ (.int .u8 ((keepB X c : Nat) : Int)))) := Hid.mk
          ⟨HT.out w7 hS7, (SAt.kept q4 hS7).only only_set h21, (hBc.trans (hS7.mono hBc.size)).trans (only_set.below hg1)⟩
        clear hk7 hS7 p7
        show wpList Try.prog _ _ (_ :: _ :: []) _ _
        simp only [putAll, Act.put, List.setIfInBounds_toArray, List.set_cons_zero, List.set_cons_succ, e19, e26, e28]
        clear e19 e26 e28
        go_wp2_with (refine wl_value rfl (exec_ix16 (k := k) rfl (by rfl) (by rfl) hlt) ?_)
        go_roundg (16 - (k + 1))
        case rel => exact ⟨k + 1, rfl, by omega, by go_num, HF⟩
        case measure => omega
      · obtain rfl : k = 16 := by omega
        obtain ⟨p4, q4, hBc⟩ := HS.out
        go_wp2_with (first | (refine wl_value rfl (look_st rfl isPfx p4 (by rfl)) ?_) | (refine st_stO rfl rfl isPfx (prV_one _ _ _) q4 (by rfl) (by rfl) ?_; intro w5 q5 o5; refine Hid.out ?_))
        refine Hid.mk ?_
        go_wp2_with fail
        refine bodyPost_ret (res_st rfl isPfx q5 (by rfl)) rfl ⟨?_, hBc.trans (o5.below hg2w)⟩
        rw [HW.out]
        exact congrArg (fun z => Ending.returned (.agg z)) (SC_same (fun i hi => pr_congr (fun j hj => by unfold mixB; rw [if_pos hj]) i hi))
end Go.Proofs.Ytcpnleanjclfjaa
/-
  Own text. The code's longer.
-/
namespace Go.Proofs.Ytcpnleanjclfjaa
open Go.RowKit Go.Proofs
set_option maxRecDepth 100000
def orB (X c s : Nat) : Nat := if c = 1 ∧ X / 2 ^ s % 2 = 0 then X + 2 ^ s else X
theorem or_tab : ((List.range 256).all fun X => (List.range 2).all fun c => (List.range 8).all fun s => decide (bits .or .u8 (X : Int) ((c * 2 ^ s : Nat) : Int) = ((orB X c s : Nat) : Int)) && decide (orB X c s < 256) && (List.range 8).all fun t => (orB X c s / 2 ^ t % 2).beq (if t.beq s && c.beq 1 then 1 else X / 2 ^ t % 2)) = true := by kernel_rfl
theorem or_all {X c s : Nat} (hX : X < 256) (hc : c < 2) (hs : s < 8) : bits .or .u8 (X : Int) ((c * 2 ^ s : Nat) : Int) = ((orB X c s : Nat) : Int) ∧ orB X c s < 256 ∧ ∀ t, t < 8 → orB X c s / 2 ^ t % 2 = if t = s ∧ c = 1 then 1 else X / 2 ^ t % 2 := by
  have h := List.all_eq_true.1 (List.all_eq_true.1 (List.all_eq_true.1 or_tab X (List.mem_range.2 hX)) c (List.mem_range.2 hc)) s (List.mem_range.2 hs)
  simp only [Bool.and_eq_true] at h
  exact ⟨of_decide_eq_true h.1.1, of_decide_eq_true h.1.2, fun t ht => by
    have h3 := Nat.eq_of_beq_eq_true (List.all_eq_true.1 h.2 t (List.mem_range.2 ht))
    rw [h3]
    by_cases e : t = s ∧ c = 1
    · rw [if_pos e, if_pos ⟨by rw [e.1, Nat.beq_refl], by rw [e.2]; rfl⟩]
    · rw [if_neg e, if_neg (fun hh => e ⟨Nat.eq_of_beq_eq_true hh.1, Nat.eq_of_beq_eq_true hh.2⟩)]⟩
def longB (b : Nat → Int) (d c : Nat) (j : Nat) : Int := if j = d / 8 then ((orB (b j).toNat c (7 - d % 8) : Nat) : Int) else b j
theorem long_byts {b : Nat → Int} (hb : Byts 16 b) (d c : Nat) (hc : c < 2) : Byts 16 (longB b d c) := fun j hj => by
  unfold longB
  split
  · have := hb j hj
    have := (or_all (X := (b j).toNat) (by omega) hc (show 7 - d % 8 < 8 by omega)).2.1
    omega
  · exact hb j hj
theorem long_bit {b : Nat → Int} (hb : Byts 16 b) (d c i : Nat) (hc : c < 2) (hi : i < 128) : bitF (longB b d c) i = if i = d ∧ c = 1 then 1 else bitF b i := by
  unfold bitF longB
  by_cases e : i / 8 = d / 8
  · rw [if_pos e]
    have h1 := hb (i / 8) (by omega)
    obtain ⟨X, hX⟩ : ∃ X : Nat, b (i / 8) = (X : Int) := ⟨(b (i / 8)).toNat, by omega⟩
    rw [hX, Int.toNat_natCast]
    have h2 := (or_all (X := X) (by omega) hc (show 7 - d % 8 < 8 by omega)).2.2 (7 - i % 8) (by omega)
    have e2 : ((2 : Int) ^ (7 - i % 8)) = ((2 ^ (7 - i % 8) : Nat) : Int) := by simp
    rw [e2, ← Int.natCast_ediv, ← Int.natCast_ediv]
    by_cases e3 : i = d ∧ c = 1
    · rw [if_pos e3]
      rw [if_pos ⟨by rw [e3.1], e3.2⟩] at h2
      omega
    · rw [if_neg e3]
      rw [if_neg (fun e4 => e3 ⟨by omega, e4.2⟩)] at h2
      omega
  · rw [if_neg e, if_neg (fun e2 => e (by rw [e2.1]))]
section
variable {a : Act} {o : Oper} {w : World} {x y : Operand}
theorem shl_tab : ((List.range 2).all fun c => (List.range 8).all fun s => decide (IntKind.u8.wrap ((c : Int) * 2 ^ s) = ((c * 2 ^ s : Nat) : Int))) = true := by kernel_rfl
theorem exec_shl8 (ho : o.op = .binOp .shl 5 x y 3) {c s : Nat} (hx : a.eval x = .int .u8 (c : Int)) (hy : a.eval y = .int .i64 (s : Int)) (hc : c < 2) (hs : s < 8) : (execOp a.eval o).run Try.prog w = .ok (.value (.int .u8 ((c * 2 ^ s : Nat) : Int))) w := by
  have h := of_decide_eq_true (List.all_eq_true.1 (List.all_eq_true.1 shl_tab c (List.mem_range.2 hc)) s (List.mem_range.2 hs))
  refine exec_bin ho (by simp [go_sem]) hx hy ?_
  simp only [← h]
  simp [go_sem]
  done
theorem exec_or8 (ho : o.op = .binOp .or 5 x y 5) {X c s : Nat} (hx : a.eval x = .int .u8 (X : Int)) (hy : a.eval y = .int .u8 ((c * 2 ^ s : Nat) : Int)) (hX : X < 256) (hc : c < 2) (hs : s < 8) : (execOp a.eval o).run Try.prog w = .ok (.value (.int .u8 ((orB X c s : Nat) : Int))) w := by
  refine exec_bin ho (by simp [go_sem]) hx hy ?_
  have h := (or_all hX hc hs).1
  generalize ((c * 2 ^ s : Nat) : Int) = z at *
  simp [go_sem, h]
end
theorem pr_setn {w : World} {g : Nat} {v : Bool} {b : Nat → Int} {n m : Int} (h : SAt w g 37 18 (prV v b n)) : SAt (w.setCell ⟨g, 17, none⟩ (.int .i64 m)) g 37 18 (prV v b m) :=
  (h.set 17 (.int .i64 m) (by omega)).congr (fun x hx => by
    unfold prV
    by_cases e : x = 17
    · rw [if_pos e, if_neg (by omega)]
    · rw [if_neg e, if_pos (by omega), if_pos (by omega)])
theorem exec_inc {a : Act} {o : Oper} {w : World} {x y : Operand} (ho : o.op = .binOp .add 3 x y 3) {d : Nat} (hx : a.eval x = .int .i64 (d : Int)) (hy : a.eval y = .int .i64 1) (hd : d < 1000000) : (execOp a.eval o).run Try.prog w = .ok (.value (.int .i64 ((d : Int) + 1))) w := exec_add (w := w) ho hx hy (by omega) (by omega)
set_option maxHeartbeats 16000000 in
theorem longer_run (v : Bool) (b : Nat → Int) (d c : Nat) (w : World) (hb : Byts 16 b) (hd : d < 128) (hc2 : c < 2) : Calls Try.prog 38 #[.agg (SC 18 (prV v b (d : Int))), .int .i64 (c : Int)] w fun e w' => e = .returned (.agg (SC 18 (prV v (longB b d c) ((d : Int) + 1)))) ∧ Below w.heap.size w w' := by
  have hlt : d / 8 < 16 := by omega
  have hb0 := hb (d / 8) hlt
  obtain ⟨X, hX⟩ : ∃ X : Nat, b (d / 8) = (X : Int) := ⟨(b (d / 8)).toNat, by omega⟩
  have hX256 : X < 256 := by omega
  obtain ⟨s, hs⟩ : ∃ s, 7 - d % 8 = s := ⟨_, rfl⟩
  have HL : Hid (∀ j, j < 16 → longB b d c j = if j = d / 8 then ((orB X c s : Nat) : Int) else b j) := Hid.mk (fun j _ => by
    unfold longB
    by_cases e : j = d / 8
    · rw [if_pos e, if_pos e, e, hX, hs, Int.toNat_natCast]
    · rw [if_neg e, if_neg e])
  obtain ⟨k, hk⟩ : ∃ k, d / 8 = k := ⟨_, rfl⟩
  obtain ⟨r, hr⟩ : ∃ r, d % 8 = r := ⟨_, rfl⟩
  have hs8 : s < 8 := by omega
  have his : (7 : Int) - (r : Int) = (s : Int) := by omega
  rw [hk] at hlt hX HL
  have HQ := Hid.mk hk
  have HR := Hid.mk hr
  clear hs hk hr hb0
  generalize longB b d c = lb at *
  go_enter Try.func38, Try.ntmps38
  go_wp2_with (refine wl_boxO rfl rfl isPfx (by rfl) ?_; intro g1 w1 hg1 q1 hB1; refine Hid.out ?_)
  refine Hid.mk ?_
  go_wp2_with (refine wl_alO rfl rfl zeroPfx ?_; intro g2 wr hg2 q2 hB2; refine Hid.out ?_)
  refine Hid.mk ?_
  have p2 := SAt.kept q1 hB2
  have hl1 := SAt.lt q1
  have hBa : Below w.heap.size w wr := hB1.trans (hB2.mono hB1.size)
  have h21 : g2 ≠ g1 := by omega
  have hg2w : w.heap.size ≤ g2 := by have := hB1.size; omega
  clear q1 hB1 hB2 hg2 hl1
  have HCB : Hid (∀ ww, Below wr.heap.size wr ww → ww.cell? ⟨g1, 1 + k, none⟩ = some (.int .u8 (X : Int))) := Hid.mk (fun ww hh => by
    have := pr_b (SAt.kept p2 hh) k hlt
    rw [hX] at this
    exact this)
  have HCN : Hid (∀ ww, Below wr.heap.size wr ww → ww.cell? ⟨g1, 17, none⟩ = some (.int .i64 (d : Int))) := Hid.mk (fun ww hh => pr_n (SAt.kept p2 hh))
  have HT : Hid (∀ ww, Below wr.heap.size wr ww → SAt (ww.setCell ⟨g1, 1 + k, none⟩ (.int .u8 ((orB X c s : Nat) : Int))) g1 37 18 (prV v lb (d : Int))) := Hid.mk (fun ww hh => pr_setb (SAt.kept p2 hh) hlt HL.out)
  clear hX HL
  go_wp2_with fail
  refine wp_region_cut 17 rfl (by kernel_rfl) (any_steps (Below wr.heap.size wr) (fun v v' => Below v.heap.size v v') (fun i v v0 => match i with | 0 => v = .pointer (some ⟨g1, 17, none⟩) | 1 => v = .int .i64 (d : Int) | 2 => v = .int .i64 (k : Int) | 3 => v = .pointer (some ⟨g1, 0, none⟩) | 4 => v = .pointer (some ⟨g1, 0 + 1, none⟩) | 5 => v = .pointer (some ⟨g1, 1 + k, none⟩) | 6 => v = .int .u8 (X : Int) | 7 => v = .int .i64 (c : Int) | 8 => v = .int .u8 (c : Int) | 9 => v = .pointer (some ⟨g1, 17, none⟩) | 10 => v = .int .i64 (d : Int) | 11 => v = .int .i64 (r : Int) | 12 => v = .int .i64 (s : Int) | 13 => v = .int .u8 ((c * 2 ^ s : Nat) : Int) | 14 => v = .int .u8 ((orB X c s : Nat) : Int) | 15 => v = .pointer (some ⟨g1, 0, none⟩) | 16 => v = .pointer (some ⟨g1, 0 + 1, none⟩) | _ => True)
      [5, 6, 7, 8, 9, 10, 11, 12, 13, 14, 15, 16, 17, 18, 19, 20, 21]
      [(1, .int .i64 (c : Int)), (2, .pointer (some ⟨g1, 0, none⟩))]
      [[], [0], [1], [], [3], [4, 2], [5], [], [7], [], [9], [10], [11], [8, 12], [6, 13], [], [15]]
      (by kernel_rfl) ⟨rfl, rfl, trivial⟩ (Below.drew (Below.refl _ _)) (fun v v' h hb => h.trans (hb.mono h.size)) ?_
      ⟨
        (fun Q a1 ww hS fr kn => ⟨trivial, fun K hK => wp_value (exec_fpb0 rfl fr.2.1) (hK _ _ rfl (Below.refl _ _))⟩),
        (fun Q a1 ww hS fr kn => ⟨trivial, fun K hK => wp_value (exec_ld rfl kn.1 (ld_int (HCN.out ww hS))) (hK _ _ rfl (Below.refl _ _))⟩),
        (fun Q a1 ww hS fr kn => ⟨trivial, fun K hK => wp_value (exec_quoN (i := d) (m := 8) rfl kn.1 rfl HQ.out (by decide) (by omega)) (hK _ _ rfl (Below.refl _ _))⟩),
        (fun Q a1 ww hS fr kn => ⟨trivial, fun K hK => wp_value (exec_fpx rfl fr.2.1) (hK _ _ rfl (Below.refl _ _))⟩),
        (fun Q a1 ww hS fr kn => ⟨trivial, fun K hK => wp_value (exec_fad1 rfl kn.1) (hK _ _ rfl (Below.refl _ _))⟩),
        (fun Q a1 ww hS fr kn => ⟨trivial, fun K hK => wp_value (exec_ix16 (k := k) rfl kn.1 kn.2.1 hlt) (hK _ _ rfl (Below.refl _ _))⟩),
        (fun Q a1 ww hS fr kn => ⟨trivial, fun K hK => wp_value (exec_ld rfl kn.1 (ld_u8 (HCB.out ww hS))) (hK _ _ rfl (Below.refl _ _))⟩),
        (fun Q a1 ww hS fr kn => ⟨trivial, fun K hK => wp_value (exec_move rfl fr.1) (hK _ _ rfl (Below.refl _ _))⟩),
        (fun Q a1 ww hS fr kn => ⟨trivial, fun K hK => wp_value (exec_cv8 rfl kn.1 (by omega) (by omega)) (hK _ _ rfl (Below.refl _ _))⟩),
        (fun Q a1 ww hS fr kn => ⟨trivial, fun K hK => wp_value (exec_fpb0 rfl fr.2.1) (hK _ _ rfl (Below.refl _ _))⟩),
        (fun Q a1 ww hS fr kn => ⟨trivial, fun K hK => wp_value (exec_ld rfl kn.1 (ld_int (HCN.out ww hS))) (hK _ _ rfl (Below.refl _ _))⟩),
        (fun Q a1 ww hS fr kn => ⟨trivial, fun K hK => wp_value (exec_remN (i := d) (m := 8) rfl kn.1 rfl HR.out (by decide)) (hK _ _ rfl (Below.refl _ _))⟩),
        (fun Q a1 ww hS fr kn => ⟨trivial, fun K hK => wp_value (exec_sub7 (r := r) (s := s) rfl rfl kn.1 his) (hK _ _ rfl (Below.refl _ _))⟩),
        (fun Q a1 ww hS fr kn => ⟨trivial, fun K hK => wp_value (exec_shl8 (c := c) (s := s) rfl kn.1 kn.2.1 hc2 hs8) (hK _ _ rfl (Below.refl _ _))⟩),
        (fun Q a1 ww hS fr kn => ⟨trivial, fun K hK => wp_value (exec_or8 (X := X) (c := c) (s := s) rfl kn.1 kn.2.1 hX256 hc2 hs8) (hK _ _ rfl (Below.refl _ _))⟩),
        (fun Q a1 ww hS fr kn => ⟨trivial, fun K hK => wp_value (exec_fpx rfl fr.2.1) (hK _ _ rfl (Below.refl _ _))⟩),
        (fun Q a1 ww hS fr kn => ⟨trivial, fun K hK => wp_value (exec_fad1 rfl kn.1) (hK _ _ rfl (Below.refl _ _))⟩),
        trivial⟩ ?_)
  · intro i v u' u'' hh hb
    match i with
    | 0 | 1 | 2 | 3 | 4 | 5 | 6 | 7 | 8 | 9 | 10 | 11 | 12 | 13 | 14 | 15 | 16 => exact hh

    | n + 17 => trivial
  intro vs w7 hS7 hk7
  have e7 : vs 7 = .int .i64 (k : Int) := hk7 2 (by decide)
  have e19 : vs 19 = .int .u8 ((orB X c s : Nat) : Int) := hk7 14 (by decide)
  have e21 : vs 21 = .pointer (some ⟨g1, 0 + 1, none⟩) := hk7 16 (by decide)
  have cb := HCB.out w7 hS7
  have p7 := SAt.kept p2 hS7
  have q7 := SAt.kept q2 hS7
  have f1 : w7.frozen? ⟨g1, 1 + k, none⟩ = false := frozen_of_row w7 g1 (1 + k) _ _ p7
  have hBb : Below w.heap.size w w7 := hBa.trans (hS7.mono hBa.size)
  have HF := Hid.mk (HT.out w7 hS7)
  clear hk7 hS7 p7
  show wpList Try.prog _ _ (_ :: _ :: []) _ _
  simp only [putAll, Act.put, List.setIfInBounds_toArray, List.set_cons_zero, List.set_cons_succ, e7, e19, e21]
  clear e7 e19 e21
  go_upto_region 2 with (refine wl_value rfl (exec_ix16 (k := k) rfl (by rfl) (by rfl) hlt) ?_)
  refine wp_gen (fun u => SAt u g1 37 18 (prV v lb (d : Int)) ∧ Only g1 w7 u) ⟨HF.out, only_set⟩ ?_
  rintro w8 ⟨p8, o8⟩
  have q8 := q7.only o8 h21
  have hBc : Below w.heap.size w w8 := hBb.trans (o8.below hg1)
  clear cb f1 HF HCB HCN HT q7 hBb o8
  have cn := pr_n p8
  have f2 : w8.frozen? ⟨g1, 17, none⟩ = false := frozen_of_row w8 g1 17 _ _ p8
  have HN := Hid.mk (pr_setn (m := (d : Int) + 1) p8)
  go_upto_region 3 with (first | (refine wl_value rfl (exec_fpb0 rfl (by rfl)) ?_) | (refine wl_value rfl (exec_inc (d := d) rfl (by rfl) (by rfl) (by omega)) ?_))
  refine wp_gen (fun u => SAt u g1 37 18 (prV v lb ((d : Int) + 1)) ∧ Only g1 w8 u) ⟨HN.out, only_set⟩ ?_
  rintro w9 ⟨p9, o9⟩
  have q9 := q8.only o9 h21
  have hBd : Below w.heap.size w w9 := hBc.trans (o9.below hg1)
  go_wp2_with (first | (refine wl_value rfl (look_st rfl isPfx p9 (by rfl)) ?_) | (refine st_stO rfl rfl isPfx (prV_one _ _ _) q9 (by rfl) (by rfl) ?_; intro w5 q5 o5; refine Hid.out ?_))
  refine Hid.mk ?_
  go_wp2_with fail
  exact bodyPost_ret (res_st rfl isPfx q5 (by rfl)) rfl ⟨rfl, hBd.trans (o5.below hg2w)⟩
end Go.Proofs.Ytcpnleanjclfjaa
/-
  Own text. The code's trie: as plain data, and in memory.
-/
namespace Go.Proofs.Ytcpnleanjclfjaa
open Go.RowKit Go.Proofs
set_option maxRecDepth 100000
inductive Tr where
  | nil
  | node (l r : Tr) (th : Bool) (ow : Int)
def Tr.lf : Tr → Tr
  | .nil => .nil
  | .node l _ _ _ => l
def Tr.rt : Tr → Tr
  | .nil => .nil
  | .node _ r _ _ => r
def Tr.th : Tr → Bool
  | .nil => false
  | .node _ _ t _ => t
def Tr.ow : Tr → Int
  | .nil => 0
  | .node _ _ _ o => o
def Tr.br (T : Tr) (c : Nat) : Tr := if c = 0 then T.lf else T.rt
def Tr.setBr (T : Tr) (c : Nat) (S : Tr) : Tr := if c = 0 then .node S T.rt T.th T.ow else .node T.lf S T.th T.ow
theorem nil_br (c : Nat) : Tr.nil.br c = .nil := by unfold Tr.br; split <;> rfl
theorem setBr_same (T : Tr) (c : Nat) (S : Tr) : (T.setBr c S).br c = S := by
  unfold Tr.setBr Tr.br
  by_cases h : c = 0
  · rw [if_pos h, if_pos h]; rfl
  · rw [if_neg h, if_neg h]; rfl
theorem setBr_other (T : Tr) {c d : Nat} (S : Tr) (hc : c < 2) (hd : d < 2) (h : d ≠ c) : (T.setBr c S).br d = T.br d := by
  unfold Tr.setBr Tr.br
  by_cases h0 : c = 0
  · rw [if_pos h0, if_neg (by omega), if_neg (by omega)]; rfl
  · rw [if_neg h0, if_pos (by omega), if_pos (by omega)]; rfl
theorem setBr_th (T : Tr) (c : Nat) (S : Tr) : (T.setBr c S).th = T.th := by unfold Tr.setBr; split <;> rfl
theorem setBr_ow (T : Tr) (c : Nat) (S : Tr) : (T.setBr c S).ow = T.ow := by unfold Tr.setBr; split <;> rfl
/-- A bit as a whole number. -/
def bN (b : Nat → Int) (i : Nat) : Nat := (bitF b i).toNat
theorem bN_eq (b : Nat → Int) (i : Nat) : bitF b i = (bN b i : Int) := by unfold bN; have := bit_b b i; omega
theorem bN_lt (b : Nat → Int) (i : Nat) : bN b i < 2 := by unfold bN; have := bit_b b i; omega
theorem bN_iff {b b2 : Nat → Int} {i j : Nat} : bN b i = bN b2 j ↔ bitF b i = bitF b2 j := by rw [bN_eq, bN_eq]; omega
/-- With a prefix, of which k bits are still to come behind i. -/
def wiT (b : Nat → Int) (ow : Int) : Nat → Nat → Tr → Tr
  | 0, _, T => .node T.lf T.rt true ow
  | k + 1, i, T => T.setBr (bN b i) (wiT b ow k (i + 1) (T.br (bN b i)))
def prn : Tr → Tr
  | .node .nil .nil false _ => .nil
  | T => T
def woT (b : Nat → Int) : Nat → Nat → Tr → Tr
  | 0, _, T => prn (.node T.lf T.rt false 0)
  | k + 1, i, T => prn (T.setBr (bN b i) (woT b k (i + 1) (T.br (bN b i))))
def gt (b : Nat → Int) : Nat → Nat → Tr → Option Int
  | 0, _, T => if T.th = true then some T.ow else none
  | k + 1, i, T => gt b k (i + 1) (T.br (bN b i))
theorem gt_nil (b : Nat → Int) : ∀ k i, gt b k i .nil = none
  | 0, _ => rfl
  | k + 1, i => by unfold gt; rw [nil_br]; exact gt_nil b k (i + 1)
theorem gt_prn (b : Nat → Int) (T : Tr) : ∀ k i, gt b k i (prn T) = gt b k i T := by
  intro k i
  unfold prn
  split
  · rw [gt_nil]
    cases k with
    | zero => rfl
    | succ k =>
      show none = gt b k (i + 1) _
      unfold Tr.br
      split
      · exact (gt_nil b k (i + 1)).symm
      · exact (gt_nil b k (i + 1)).symm
  · rfl
def SameP (b b2 : Nat → Int) (i k : Nat) : Prop := ∀ j, i ≤ j → j < i + k → bN b j = bN b2 j
theorem gt_wi (b : Nat → Int) (ow : Int) (b2 : Nat → Int) : ∀ (k k2 i : Nat) (T : Tr), (k2 = k ∧ SameP b b2 i k → gt b2 k2 i (wiT b ow k i T) = some ow) ∧ (¬ (k2 = k ∧ SameP b b2 i k) → gt b2 k2 i (wiT b ow k i T) = gt b2 k2 i T) := by
  intro k
  induction k with
  | zero =>
    intro k2 i T
    cases k2 with
    | zero => exact ⟨fun _ => rfl, fun h => absurd ⟨rfl, fun j h1 h2 => by omega⟩ h⟩
    | succ k2 => exact ⟨fun h => by omega, fun _ => rfl⟩
  | succ k ih =>
    intro k2 i T
    cases k2 with
    | zero =>
      refine ⟨fun h => by omega, fun _ => ?_⟩
      show (if (T.setBr _ _).th = true then some (T.setBr _ _).ow else none) = _
      rw [setBr_th, setBr_ow]
      rfl
    | succ k2 =>
      show (_ → gt b2 k2 (i + 1) ((T.setBr _ _).br (bN b2 i)) = _) ∧ (_ → gt b2 k2 (i + 1) ((T.setBr _ _).br (bN b2 i)) = gt b2 k2 (i + 1) (T.br (bN b2 i)))
      by_cases e : bN b2 i = bN b i
      · rw [e, setBr_same]
        refine ⟨fun h => (ih k2 (i + 1) _).1 ⟨by omega, fun j h1 h2 => h.2 j (by omega) (by omega)⟩, fun h => (ih k2 (i + 1) _).2 (fun h2 => h ⟨by omega, fun j h3 h4 => ?_⟩)⟩
        by_cases ej : j = i
        · rw [ej, e]
        · exact h2.2 j (by omega) (by omega)
      · rw [setBr_other T _ (bN_lt _ _) (bN_lt _ _) e]
        exact ⟨fun h => absurd (h.2 i (by omega) (by omega)).symm e, fun _ => rfl⟩
theorem gt_wo (b : Nat → Int) (b2 : Nat → Int) : ∀ (k k2 i : Nat) (T : Tr), (k2 = k ∧ SameP b b2 i k → gt b2 k2 i (woT b k i T) = none) ∧ (¬ (k2 = k ∧ SameP b b2 i k) → gt b2 k2 i (woT b k i T) = gt b2 k2 i T) := by
  intro k
  induction k with
  | zero =>
    intro k2 i T
    unfold woT
    rw [gt_prn]
    cases k2 with
    | zero => exact ⟨fun _ => rfl, fun h => absurd ⟨rfl, fun j h1 h2 => by omega⟩ h⟩
    | succ k2 => exact ⟨fun h => by omega, fun _ => rfl⟩
  | succ k ih =>
    intro k2 i T
    unfold woT
    rw [gt_prn]
    cases k2 with
    | zero =>
      refine ⟨fun h => by omega, fun _ => ?_⟩
      show (if (T.setBr _ _).th = true then some (T.setBr _ _).ow else none) = _
      rw [setBr_th, setBr_ow]
      rfl
    | succ k2 =>
      show (_ → gt b2 k2 (i + 1) ((T.setBr _ _).br (bN b2 i)) = _) ∧ (_ → gt b2 k2 (i + 1) ((T.setBr _ _).br (bN b2 i)) = gt b2 k2 (i + 1) (T.br (bN b2 i)))
      by_cases e : bN b2 i = bN b i
      · rw [e, setBr_same]
        refine ⟨fun h => (ih k2 (i + 1) _).1 ⟨by omega, fun j h1 h2 => h.2 j (by omega) (by omega)⟩, fun h => (ih k2 (i + 1) _).2 (fun h2 => h ⟨by omega, fun j h3 h4 => ?_⟩)⟩
        by_cases ej : j = i
        · rw [ej, e]
        · exact h2.2 j (by omega) (by omega)
      · rw [setBr_other T _ (bN_lt _ _) (bN_lt _ _) e]
        exact ⟨fun h => absurd (h.2 i (by omega) (by omega)).symm e, fun _ => rfl⟩
/-- No deeper than k; and an owner is there only where a prefix is. -/
def Fit : Nat → Tr → Prop
  | _, .nil => True
  | 0, .node l r th ow => l = .nil ∧ r = .nil ∧ (th = false → ow = 0)
  | k + 1, .node l r th ow => Fit k l ∧ Fit k r ∧ (th = false → ow = 0)
theorem fit_nil (k : Nat) : Fit k .nil := by cases k <;> trivial
theorem fit_lf {k : Nat} {T : Tr} (h : Fit (k + 1) T) : Fit k T.lf := by cases T with | nil => exact fit_nil k | node l r th ow => exact h.1
theorem fit_rt {k : Nat} {T : Tr} (h : Fit (k + 1) T) : Fit k T.rt := by cases T with | nil => exact fit_nil k | node l r th ow => exact h.2.1
theorem fit_ow {k : Nat} {T : Tr} (h : Fit k T) : T.th = false → T.ow = 0 := by
  cases T with
  | nil => intro _; rfl
  | node l r th ow => cases k with | zero => exact h.2.2 | succ k => exact h.2.2
theorem fit_br {k : Nat} {T : Tr} (c : Nat) (h : Fit (k + 1) T) : Fit k (T.br c) := by unfold Tr.br; split; exact fit_lf h; exact fit_rt h
theorem fit_setBr {k : Nat} {T S : Tr} (c : Nat) (h : Fit (k + 1) T) (hs : Fit k S) : Fit (k + 1) (T.setBr c S) := by
  unfold Tr.setBr
  split
  · exact ⟨hs, fit_rt h, fit_ow h⟩
  · exact ⟨fit_lf h, hs, fit_ow h⟩
theorem fit_prn {k : Nat} {T : Tr} (h : Fit k T) : Fit k (prn T) := by
  unfold prn
  split
  · exact fit_nil k
  · exact h
theorem fit_leaf {k : Nat} {T : Tr} {th : Bool} {ow : Int} (h : Fit k T) (ho : th = false → ow = 0) : Fit k (.node T.lf T.rt th ow) := by
  cases k with
  | zero => cases T with | nil => exact ⟨rfl, rfl, ho⟩ | node l r th ow => exact ⟨h.1, h.2.1, ho⟩
  | succ k => exact ⟨fit_lf h, fit_rt h, ho⟩
theorem fit_wi (b : Nat → Int) (ow : Int) : ∀ (k K i : Nat) (T : Tr), k ≤ K → Fit K T → Fit K (wiT b ow k i T)
  | 0, K, i, T, _, h => fit_leaf h (fun e => by cases e)
  | k + 1, K + 1, i, T, hk, h => fit_setBr _ h (fit_wi b ow k K (i + 1) _ (by omega) (fit_br _ h))
theorem fit_wo (b : Nat → Int) : ∀ (k K i : Nat) (T : Tr), k ≤ K → Fit K T → Fit K (woT b k i T)
  | 0, K, i, T, _, h => fit_prn (fit_leaf h (fun _ => rfl))
  | k + 1, K + 1, i, T, hk, h => fit_prn (fit_setBr _ h (fit_wo b k K (i + 1) _ (by omega) (fit_br _ h)))
/-- A node's cells. -/
def ndV (pl pr : Option Addr) (th : Bool) (ow : Int) (j : Nat) : Value := if j = 0 then .pointer pl else if j = 1 then .pointer pr else if j = 2 then .bool th else .int .i64 ow
theorem ndV_one (pl pr : Option Addr) (th : Bool) (ow : Int) (j : Nat) : (ndV pl pr th ow j).oneCell' = true := by
  unfold ndV
  split
  · rfl
  · split
    · rfl
    · split <;> rfl
abbrev NdT : TypeId := 72
theorem isNod : IsSt 72 4 := ⟨_, Try.underlying72, rfl, by kernel_rfl⟩
theorem zeroNod (w : World) : (zeroValue 72).run Try.prog w = .ok (.agg (SC 4 (ndV none none false 0))) w := by kernel_rfl
section
variable {w : World} {g : Nat} {pl pr : Option Addr} {th : Bool} {ow : Int}
theorem nd_l (h : SAt w g 72 4 (ndV pl pr th ow)) : w.cell? ⟨g, 0, none⟩ = some (.pointer pl) := SAt.at h 0 (by omega)
theorem nd_r (h : SAt w g 72 4 (ndV pl pr th ow)) : w.cell? ⟨g, 1, none⟩ = some (.pointer pr) := SAt.at h 1 (by omega)
theorem nd_t (h : SAt w g 72 4 (ndV pl pr th ow)) : w.cell? ⟨g, 2, none⟩ = some (.bool th) := SAt.at h 2 (by omega)
theorem nd_o (h : SAt w g 72 4 (ndV pl pr th ow)) : w.cell? ⟨g, 3, none⟩ = some (.int .i64 ow) := SAt.at h 3 (by omega)
theorem nd_br (h : SAt w g 72 4 (ndV pl pr th ow)) {c : Nat} (hc : c < 2) : w.cell? ⟨g, c, none⟩ = some (.pointer (if c = 0 then pl else pr)) := by
  match c, hc with
  | 0, _ => exact nd_l h
  | 1, _ => exact nd_r h
theorem nd_set (h : SAt w g 72 4 (ndV pl pr th ow)) {c : Nat} (hc : c < 2) (p : Option Addr) : SAt (w.setCell ⟨g, c, none⟩ (.pointer p)) g 72 4 (ndV (if c = 0 then p else pl) (if c = 0 then pr else p) th ow) :=
  (h.set c (.pointer p) (by omega)).congr (fun i hi => by
    unfold ndV
    match c, hc, i, hi with
    | 0, _, 0, _ => rfl
    | 0, _, 1, _ => rfl
    | 0, _, 2, _ => rfl
    | 0, _, 3, _ => rfl
    | 1, _, 0, _ => rfl
    | 1, _, 1, _ => rfl
    | 1, _, 2, _ => rfl
    | 1, _, 3, _ => rfl)
end
/-- A trie in memory: its nodes are blocks of S. -/
def IsTr (S : Nat → Prop) (w : World) : Option Addr → Tr → Prop
  | p, .nil => p = none
  | p, .node l r th ow => ∃ (b : Nat) (pl pr : Option Addr), p = some ⟨b, 0, none⟩ ∧ S b ∧ SAt w b 72 4 (ndV pl pr th ow) ∧ IsTr S w pl l ∧ IsTr S w pr r
theorem IsTr.kept {S S' : Nat → Prop} {w w' : World} (h : ∀ b V, S b → SAt w b 72 4 V → S' b ∧ SAt w' b 72 4 V) : ∀ {p : Option Addr} {T : Tr}, IsTr S w p T → IsTr S' w' p T
  | _, .nil, ht => ht
  | _, .node _ _ _ _, ⟨b, pl, pr, hp, hS, hs, hl, hr⟩ => ⟨b, pl, pr, hp, (h _ _ hS hs).1, (h _ _ hS hs).2, IsTr.kept h hl, IsTr.kept h hr⟩
theorem IsTr.below {S : Nat → Prop} {w w' : World} {p : Option Addr} {T : Tr} (h : IsTr S w p T) (hb : Below w.heap.size w w') : IsTr S w' p T := IsTr.kept (fun _ _ hS hs => ⟨hS, SAt.kept hs hb⟩) h
theorem IsTr.mono {S S' : Nat → Prop} {w : World} {p : Option Addr} {T : Tr} (h : IsTr S w p T) (hS : ∀ k, k < w.heap.size → S k → S' k) : IsTr S' w p T := IsTr.kept (fun b _ h1 hs => ⟨hS b hs.lt h1, hs⟩) h
theorem IsTr.tou {S T : Nat → Prop} {w w' : World} {p : Option Addr} {t : Tr} (h : IsTr S w p t) (ht : Touch T w w') (hn : ∀ k V, S k → SAt w k 72 4 V → ¬ T k) : IsTr S w' p t :=
  IsTr.kept (fun b V hS hs => ⟨hS, hs.block (ht.block b hs.lt (hn b V hS hs))⟩) h
theorem IsTr.only {S : Nat → Prop} {w w' : World} {g : Nat} {p : Option Addr} {t : Tr} (h : IsTr S w p t) (ho : Only g w w') (hn : ¬ S g) : IsTr S w' p t :=
  IsTr.kept (fun _ _ hS hs => ⟨hS, hs.only ho (fun e => hn (e ▸ hS))⟩) h
theorem IsTr.none_iff {S : Nat → Prop} {w : World} {p : Option Addr} {T : Tr} (h : IsTr S w p T) : p = none ↔ T = .nil := by
  cases T with
  | nil => exact ⟨fun _ => rfl, fun _ => h⟩
  | node l r th ow =>
    obtain ⟨b, pl, pr, hp, _⟩ := h
    exact ⟨(fun e => by rw [hp] at e; cases e), (fun e => by cases e)⟩
theorem IsTr.br {S : Nat → Prop} {w : World} {pl pr : Option Addr} {l r : Tr} (th : Bool) (ow : Int) (hl : IsTr S w pl l) (hr : IsTr S w pr r) (c : Nat) : IsTr S w (if c = 0 then pl else pr) ((Tr.node l r th ow).br c) := by
  unfold Tr.br
  split
  · exact hl
  · exact hr
/-- Of any trie: what a node that is made of it has. -/
theorem IsTr.parts {S : Nat → Prop} {w : World} {p : Option Addr} {T : Tr} (h : IsTr S w p T) : ∃ pl pr, IsTr S w pl T.lf ∧ IsTr S w pr T.rt ∧ ((p = none ∧ pl = none ∧ pr = none ∧ T = .nil) ∨ ∃ b, p = some ⟨b, 0, none⟩ ∧ S b ∧ SAt w b 72 4 (ndV pl pr T.th T.ow)) := by
  cases T with
  | nil => exact ⟨none, none, rfl, rfl, .inl ⟨h, rfl, rfl, rfl⟩⟩
  | node l r th ow =>
    obtain ⟨b, pl, pr, hp, hS, hs, hl, hr⟩ := h
    exact ⟨pl, pr, hl, hr, .inr ⟨b, hp, hS, hs⟩⟩
theorem IsTr.pbr {S : Nat → Prop} {w : World} {pl pr : Option Addr} {T : Tr} (hl : IsTr S w pl T.lf) (hr : IsTr S w pr T.rt) (c : Nat) : IsTr S w (if c = 0 then pl else pr) (T.br c) := by
  unfold Tr.br
  split
  · exact hl
  · exact hr
end Go.Proofs.Ytcpnleanjclfjaa
