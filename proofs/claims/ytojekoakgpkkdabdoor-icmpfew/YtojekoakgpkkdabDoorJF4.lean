/-
  Own text. Ranges over functions, without a fence: what a function that is ranged over gives (Gives), the law of the statement, a call of yield, and how the plain laws go on within a round. No program is named here.
-/
import Derived.Test.YtojekoakgpkkdabDoorJF1
import Derived.RangeFuncRecord
import Derived.RangeFuncSeq
import Derived.TacticsIn
import Derived.Test.YtojekoakgpkkdabDoorJF3
import Derived.Test.YtojekoakgpkkdabDoorJF2
import Derived.Test.YtojekoakgpkkdabDoorRows
import Derived.Test.YtojekoakgpkkdabDoorTie
import Derived.Test.YtojekoakgpkkdabDoorCards
import Derived.ProofKit
import Derived.LaidMore
import Derived.OpenShut
import Derived.Stop.Joined
import Derived.SevenTiedAt
import Derived.Deep.DeepHandedRow
import Derived.Lib.LaidU8
import Derived.Maps.RangeRun
namespace Go.Proofs.YtojekoakgpkkdabDoor
open Go Go.RowKit
section
variable {P : Program} {ops : Array Oper} {Q : Exit → Act → World → Prop} {ro : Option Nat}
/-- No fence, within a round or not. -/
def Wd (ro : Option Nat) : Fence := { Fence.wide with round := ro }
theorem callsWd {n : Nat} {f : FuncId} {args : Array Value} {w : World} {R : Ending → World → Prop} : CallsIn (Wd ro) n P f args w R ↔ Calls P f args w R := callsIn_wide (n := n)
theorem Wd_depth {p : Prop} (h : (Wd ro).depth.isSome = true) : p := by cases h
theorem upon_in {n : Nat} {o : Oper} {a : Act} {K : Act → World → Prop} {r : Result Next} (h : o.upon P a K Q r) : o.uponIn (Wd ro) n P a K Q r := by
  cases r with
  | ok x w =>
    cases x with
    | enter f args => exact ⟨fun hd => Wd_depth hd, callsWd.2 h⟩
    | row r args => exact ⟨fun hd => Wd_depth hd, fun c cs _ => by obtain ⟨v, w', hr, hs⟩ := h c cs; exact ⟨v, w', hr, stepsIn_wide.2 hs⟩⟩
    | value v => exact h
    | skip => exact h
    | defer d => exact h
    | _ => exact h.elim
  | halt x w => cases x <;> first | exact h | exact h.elim
def noDef (o : Oper) : Bool := match o.op with | .defer _ => false | _ => true
theorem noDef_ne {o : Oper} (h : noDef o = true) (c : Call) : o.op ≠ .defer c := fun e => by unfold noDef at h; rw [e] at h; cases h
theorem wp_in {n : Nat} {o : Oper} {a : Act} {w : World} {K : Act → World → Prop} (hnd : noDef o = true) (h : o.wp P a w K Q) : o.wpIn (Wd ro) n P a w K Q :=
  ⟨fun _ _ => trivial, by
    show o.uponIn (Wd ro) n P a K Q ((o.semAt ro a.eval).run P w)
    rw [Oper.semAt_eq ro _ _ (noDef_ne hnd)]
    exact upon_in h⟩
/-- A list of operations, cut: the first by the plain laws, then the others. -/
def splQ (Q : Exit → Act → World → Prop) (K : Act → World → Prop) : Exit → Act → World → Prop
  | .normal, a, w => K a w
  | e, a, w => Q e a w
theorem upon_spl {o : Oper} {a : Act} {K K' : Act → World → Prop} {r : Result Next} : o.upon P a K (splQ Q K') r = o.upon P a K Q r := by
  cases r with
  | ok n w => cases n <;> rfl
  | halt x w => cases x <;> rfl
theorem list_in {n : Nat} (hQ : ¬ LetsOut Q) (rest : List Oper) : ∀ (pre : List Oper) (a : Act) (w : World), pre.all noDef = true → wpList P ops (splQ Q (wpListIn (Wd ro) n P ops Q rest)) pre a w → wpListIn (Wd ro) n P ops Q (pre ++ rest) a w
  | [], a, w, _, h => h
  | o :: pre, a, w, hnd, h => by
    simp only [List.all_cons, Bool.and_eq_true] at hnd
    simp only [List.cons_append, wpListIn]
    simp only [wpList] at h
    by_cases hw : Region.wanted o (yielded ops a.tmps) = true
    · rw [if_pos hw] at h ⊢
      rcases h with h | h
      · refine wp_in hnd.1 ?_
        unfold Oper.wp at h
        rw [upon_spl] at h
        exact Oper.wp_mono (fun a w hh => list_in hQ rest pre a w hnd.2 hh) h
      · exact (hQ h.2).elim
    · rw [if_neg hw] at h ⊢
      exact ⟨fun _ _ => trivial, list_in hQ rest pre _ w hnd.2 h⟩
theorem all_in {n : Nat} (hQ : ¬ LetsOut Q) (l : List Oper) (a : Act) (w : World) (hnd : l.all noDef = true) (h : wpList P ops Q l a w) : wpListIn (Wd ro) n P ops Q l a w := by
  have := list_in (ro := ro) (n := n) hQ [] l a w hnd (by
    have e : splQ Q (wpListIn (Wd ro) n P ops Q []) = Q := by funext e a w; cases e <;> rfl
    rw [e]
    exact h)
  rwa [List.append_nil] at this
/-- A region in its order, within a round. -/
theorem regIn {n id : Nat} {l : List Oper} {a : Act} {w : World} (hQ : ¬ LetsOut Q) (hnd : l.all noDef = true) (h : wpList P l.toArray Q l a w) : (Code.region id l.toArray false).wpIn (Wd ro) n P Q a w :=
  wpIn_region_lit (all_in hQ l a w hnd h)
theorem regIn_at {n id : Nat} {l : List Oper} {a : Act} {w : World} (m : Nat) (hQ : ¬ LetsOut Q) (hnd : (l.take m).all noDef = true) (h : wpList P l.toArray (splQ Q (wpListIn (Wd ro) n P l.toArray Q (l.drop m))) (l.take m) a w) : (Code.region id l.toArray false).wpIn (Wd ro) n P Q a w := by
  refine wpIn_region_lit ?_
  have := list_in (ro := ro) (n := n) hQ (l.drop m) (l.take m) a w hnd h
  rwa [List.take_append_drop] at this
/-- wpOps in a round. -/
theorem ops_in {n : Nat} (hQ : ¬ LetsOut Q) (hnd : ops.toList.all noDef = true) : ∀ (l : List Nat) (a : Act) (w : World), wpOps P ops Q l a w → wpOpsIn (Wd ro) n P ops Q l a w
  | [], a, w, h => h
  | i :: rest, a, w, h => by
    simp only [wpOps] at h
    simp only [wpOpsIn]
    cases ho : ops[i]? with
    | none => simp only [ho] at h ⊢; exact ops_in hQ hnd rest a w h
    | some o =>
      simp only [ho] at h ⊢
      by_cases hw : Region.wanted o (yielded ops a.tmps) = true
      · rw [if_pos hw] at h ⊢
        rcases h with h | h
        · refine wp_in (List.all_eq_true.1 hnd o (by obtain ⟨hi, e⟩ := Array.getElem?_eq_some_iff.1 ho; rw [← e]; simp)) (Oper.wp_mono (fun a w hh => ops_in hQ hnd rest a w hh) h)
        · exact (hQ h.2).elim
      · rw [if_neg hw] at h ⊢
        exact ⟨fun _ _ => trivial, ops_in hQ hnd rest _ w h⟩
/-- A region that leaves its order open, within a round. -/
theorem regIn_any {n id : Nat} {a : Act} {w : World} (hm : P.follows .mixedOrders = true) (hQ : ¬ LetsOut Q) (hnd : ops.toList.all noDef = true)
    (h : wpAny P .any ops Q ops.size (Array.replicate ops.size false) a { w with drawn := w.drawn + 1 }) : (Code.region id ops true).wpIn (Wd ro) n P Q a w :=
  wpIn_region_draw fun t => by
    simp only [Region.schedule, hm, Bool.true_or, if_true]
    exact ops_in hQ hnd _ _ _ (wpAny_sound ops.size t _ a _ h)
/-- A call of yield. -/
theorem exec_yield {ro : Option Nat} {o : Oper} {a : Act} {w : World} {fx : Operand} {xs : Array Operand} {ts : Array TypeId} {l : Nat} {vs : Array Value} {x : Next} (ho : o.op = .call { callee := .value fx, args := xs, argTypes := ts }) (hf : a.eval fx = .func (.yield l) #[] #[]) (hx : xs.map a.eval = vs)
    (hy : (Instr.yield l vs).run P w = .ok x w) : (o.semAt ro a.eval).run P w = .ok x w := by
  rw [Oper.semAt_eq ro _ _ (fun c e => by rw [ho] at e; cases e)]
  unfold execOp
  rw [ho]
  simp only [resolve, Sem.run_bind, hf, hx]
  simp [Deferred.ofValue, invoke, go_sem, hy]
theorem li_yield {o : Oper} {rest : List Oper} {a : Act} {w : World} {fx : Operand} {xs : Array Operand} {ts : Array TypeId} {l : Nat} {vs : Array Value} {R : Ending → World → Prop} (ho : o.op = .call { callee := .value fx, args := xs, argTypes := ts }) (hw : Region.wanted o (yielded ops a.tmps) = true) (hf : a.eval fx = .func (.yield l) #[] #[]) (hx : xs.map a.eval = vs)
    (hY : YieldAt Fence.wide 0 P l vs w R) (h : ∀ e w', R e w' → ∃ v, e = .returned v ∧ wpListIn (Wd ro) 0 P ops Q rest (a.put o.dst v) w') : wpListIn (Wd ro) 0 P ops Q (o :: rest) a w := by
  obtain ⟨fn, tmps, assign, body, hy, hR⟩ := hY
  unfold wpListIn
  rw [if_pos hw]
  refine ⟨fun _ _ => trivial, ?_⟩
  show o.uponIn (Wd ro) 0 P a _ Q ((o.semAt ro a.eval).run P w)
  rw [exec_yield ho hf hx hy]
  refine ⟨fun hd => Wd_depth hd, ?_⟩
  refine RoundIn.mono (show RoundIn (Wd ro) 0 P l fn tmps assign body w R from hR) (fun e w' he => ?_)
  obtain ⟨v, rfl, hh⟩ := h e w' he
  exact hh
end
section
variable {P : Program}
theorem Touch.tr {T : Nat → Prop} {w w' w'' : World} (h : Touch T w w') (k : Touch T w' w'') : Touch T w w'' :=
  ⟨k.os.trans h.os, k.tape.trans h.tape, k.output.trans h.output, Nat.le_trans h.size k.size, fun i hi hn => (k.block i (Nat.lt_of_lt_of_le hi h.size) hn).trans (h.block i hi hn)⟩
/-- Below a bound, all but some blocks. -/
theorem Touch.bel {T : Nat → Prop} {B : Nat} {w w' w'' : World} (h : Touch T w w') (k : Below B w' w'') (hB : w.heap.size ≤ B) : Touch T w w'' :=
  ⟨k.os.trans h.os, k.tape.trans h.tape, k.output.trans h.output, Nat.le_trans h.size k.size, fun i hi hn => (k.block i (Nat.lt_of_lt_of_le hi hB)).trans (h.block i hi hn)⟩
theorem Below.tou {B : Nat} {T : Nat → Prop} {w w' : World} (h : Below B w w') (hB : w.heap.size ≤ B) : Touch T w w' := ⟨h.os, h.tape, h.output, h.size, fun i hi _ => h.block i (Nat.lt_of_lt_of_le hi hB)⟩
theorem put_below {w : World} {l B : Nat} (o : Obj) (hl : B ≤ l) : Below B w (w.putObj l o) := ⟨rfl, rfl, rfl, by simp, fun k hk => World.putObj_heap_other (by omega)⟩
theorem put_only {w : World} {l : Nat} (o : Obj) : Touch (fun k => k = l) w (w.putObj l o) := ⟨rfl, rfl, rfl, by simp, fun k _ hk => World.putObj_heap_other hk⟩
/-- What a function value that is ranged over gives: the values of xs, one by one, to whatever loop. The loop's rounds touch the blocks of T alone, and what is new; the function touches nothing that was there when it began; it reads the blocks of A. -/
def Gives {α : Type} (P : Program) (gf : Nat) (lb : Array Value) (encs : α → Array Value) (xs : List α) (A : Nat → Prop) (W0 : World) : Prop :=
  ∀ (l : Nat) (T : Nat → Prop) (J : Nat → World → Prop) (Jx : World → Prop) (W : World),
    Below W0.heap.size W0 W → (∀ k, T k → k < W.heap.size ∧ ¬ A k) →
    (∀ i X Y, J i X → Below W.heap.size X Y → J i Y) → (∀ X Y, Jx X → Below W.heap.size X Y → Jx Y) →
    (∀ (i : Nat) (x : α) (X : World), xs[i]? = some x → J i X → YieldAt Fence.wide 0 P l (encs x) X fun e Y => (e = .returned (.bool true) ∧ J (i + 1) Y ∧ Touch T X Y) ∨ (e = .returned (.bool false) ∧ Jx Y ∧ Touch T X Y)) →
    J 0 W →
    Calls P gf (#[.func (.yield l) #[] #[]] ++ lb) W fun e Y => (∃ v, e = .returned v) ∧ Touch T W Y ∧ (J xs.length Y ∨ Jx Y)
/-- How a round's body may be left. -/
def rPost (T : Nat → Prop) (J : Nat → World → Prop) (Jx : Code → World → Prop) (i : Nat) (X : World) : Exit → Act → World → Prop
  | .normal, _, Y => J (i + 1) Y ∧ Touch T X Y
  | .ret, _, Y => Jx .ret Y ∧ Touch T X Y
  | .exit id, _, Y => Jx (.exit id) Y ∧ Touch T X Y
  | .goto t, _, Y => Jx (.goto t) Y ∧ Touch T X Y
  | .panic _, _, _ => False
  | .outgrown, _, _ => False
def mark (D : Nat) : Deferred := { target := .collected D, args := #[] }
def setPs (ps : Array Tmp) (vs : Array Value) (t : Array Value) : Array Value := (ps.zip vs).foldl (fun t (p, v) => t.setIfInBounds p v) t
/-- THE LAW of the statement (outside of any round). -/
theorem wp_rangeT {α : Type} {g : Operand} {ps : Array Tmp} {assign body : Code} {Q : Exit → Act → World → Prop} {a : Act} {w : World} {gf : Nat} {lb : Array Value}
    (hg : a.eval g = .func (.func gf) #[] lb) (eg : ∀ args w, (callFunc gf args).run P w = .ok (.enter gf args) w)
    {encs : α → Array Value} {xs : List α} {A : Nat → Prop} {W0 : World} (hit : Gives P gf lb encs xs A W0) (hb0 : Below W0.heap.size W0 w) (hps : ∀ x, (encs x).size = ps.size)
    (hA : ∀ k, A k → k < w.heap.size) (T : Nat → Prop) (hT : ∀ k, T k → k < w.heap.size ∧ ¬ A k)
    (J : Nat → World → Prop) (Jx : Code → World → Prop) (hJ : ∀ i X Y, J i X → Below w.heap.size X Y → J i Y) (hJx : ∀ c X Y, Jx c X → Below w.heap.size X Y → Jx c Y) (h0 : J 0 w)
    (round : ∀ (l i : Nat) (x : α) (X : World), w.heap.size ≤ l → l < X.heap.size → xs[i]? = some x → Touch T w X → J i X →
      assign.wpIn (Wd (some l)) 0 P (Exit.then (fun a1 X1 => Below X.heap.size X X1 ∧ ∀ X2, Touch (fun k => k = l) X1 X2 → Touch T w X2 → J i X2 → body.wpIn (Wd (some l)) 0 P (rPost T J Jx i X2) a1 X2) (fun _ _ _ => False)) { tmps := setPs ps (encs x) a.tmps, defers := [] } X)
    (done : ∀ (D : Nat) (Y : World), w.heap.size ≤ D → J xs.length Y → Touch T w Y → Y.heap[D]? = some (.deferred (some [])) → Q .normal { a with defers := mark D :: a.defers } Y)
    (stop : ∀ (D : Nat) (c : Code) (Y : World), w.heap.size ≤ D → Jx c Y → Touch T w Y → Y.heap[D]? = some (.deferred (some [])) → c.wp P Q { a with defers := mark D :: a.defers } Y) :
    (Code.rangeFunc g ps assign body).wp P Q a w := by
  refine (wpIn_wide (n := 0)).1 (wpIn_rangeFunc ?_)
  intro fn _
  obtain ⟨rec, hrec⟩ : ∃ rec : LoopState → Option Code → Loop, rec = fun st pe => { state := st, pending := pe, fn, tmps := a.tmps, params := ps, assign, body, defers := w.heap.size } := ⟨_, rfl⟩
  obtain ⟨W1, hW1⟩ : ∃ W1, (w.alloc (.deferred (some []))).alloc (.loop (rec .ready none)) = W1 := ⟨_, rfl⟩
  obtain ⟨l, hl⟩ : ∃ l, w.heap.size + 1 = l := ⟨_, rfl⟩
  have hL1 : W1.heap[l]? = some (.loop (rec .ready none)) := by
    rw [← hW1, ← hl]
    have := World.alloc_heap_new (w.alloc (.deferred (some []))) (.loop (rec .ready none))
    rwa [World.size_alloc] at this
  have hD1 : W1.heap[w.heap.size]? = some (.deferred (some [])) := by
    rw [← hW1]
    exact (Below.heap_alloc _ _ _ (by simp)).trans (World.alloc_heap_new w _)
  have hBw : Below w.heap.size w W1 := by
    rw [← hW1]
    exact ((Below.refl _ w).alloc (Nat.le_refl _) _).alloc (by simp) _
  have hS1 : W1.heap.size = w.heap.size + 2 := by rw [← hW1]; simp
  refine ⟨l, [mark w.heap.size], W1, { target := .fn (.func gf) lb, args := #[.func (.yield l) #[] #[]] }, W1, gf, #[.func (.yield l) #[] #[]] ++ lb, W1, ?_, ?_, fun _ _ => trivial, ?_, (fun hd => by cases hd), ?_⟩
  · rw [← hW1, hrec, ← hl]
    exact run_enterLoop_outer _ _ _ _ _
  · simp only [resolve, hg]
    simp [go_sem]
  · simp [invoke, go_sem, eg]
  · have hTl : ∀ k, T k → k ≠ l ∧ k ≠ w.heap.size := fun k hk => by have := (hT k hk).1; omega
    have bk : ∀ {X Y : World} {o : Obj} (k : Nat), w.heap.size ≤ k → Touch T X Y → X.heap[k]? = some o → Y.heap[k]? = some o := fun {X Y o} k hk ht h => (ht.block k (Array.getElem?_eq_some_iff.1 h).1 (fun e => by have := (hT k e).1; omega)).trans h
    refine (callsIn_wide.2 (hit l (fun k => T k ∨ k = l)
      (fun i X => J i X ∧ Touch T w X ∧ X.heap[l]? = some (.loop (rec .ready none)) ∧ X.heap[w.heap.size]? = some (.deferred (some [])))
      (fun X => ∃ c, Jx c X ∧ Touch T w X ∧ X.heap[l]? = some (.loop (rec .done (some c))) ∧ X.heap[w.heap.size]? = some (.deferred (some [])))
      W1 (hb0.trans (hBw.mono hb0.size)) (fun k hk => ?_) (fun i X Y h hb => ?_) (fun X Y h hb => ?_) (fun i x X hx hh => ?_) ⟨hJ 0 w W1 h0 hBw, Below.tou hBw (Nat.le_refl _), hL1, hD1⟩)).mono ?_
    · rcases hk with hk | rfl
      · exact ⟨by have := (hT k hk).1; omega, (hT k hk).2⟩
      · exact ⟨by omega, fun e => by have := hA _ e; omega⟩
    · exact ⟨hJ i X Y h.1 (hb.mono (by omega)), h.2.1.bel hb (by omega), (hb.block l (by omega)).trans h.2.2.1, (hb.block _ (by omega)).trans h.2.2.2⟩
    · obtain ⟨c, h1, h2, h3, h4⟩ := h
      exact ⟨c, hJx c X Y h1 (hb.mono (by omega)), h2.bel hb (by omega), (hb.block l (by omega)).trans h3, (hb.block _ (by omega)).trans h4⟩
    · obtain ⟨hj, ht, hlx, hdx⟩ := hh
      have hlt : l < X.heap.size := (Array.getElem?_eq_some_iff.1 hlx).1
      have hy := run_yield (P := P) (args := encs x) hlx (by rw [hrec]; exact hps x)
      rw [hrec] at hy
      refine ⟨fn, _, assign, body, hy, roundIn_of_wpIn trivial ?_⟩
      clear hy
      refine wpIn_mono (show assign.wpIn (Wd (some l)) 0 P _ _ X from round l i x X (by omega) hlt hx ht hj) ?_
      rintro e a1 X1 hq
      cases e with
      | normal =>
        obtain ⟨hb1, hbody⟩ := hq
        have hl1 : X1.heap[l]? = some (.loop (rec .ready none)) := (hb1.block l hlt).trans hlx
        have hd1 : X1.heap[w.heap.size]? = some (.deferred (some [])) := (hb1.block _ (Array.getElem?_eq_some_iff.1 hdx).1).trans hdx
        have ht1 : Touch T w X1 := ht.bel hb1 ht.size
        have hlt1 : l < X1.heap.size := (Array.getElem?_eq_some_iff.1 hl1).1
        have hps2 : Below w.heap.size X1 (X1.putObj l (.loop { rec .ready none with state := .busy })) := put_below _ (by omega)
        have hj1 : J i (X1.putObj l (.loop { rec .ready none with state := .busy })) := hJ i _ _ (hJ i X X1 hj (hb1.mono ht.size)) hps2
        refine ⟨_, run_beginRound hl1 (by rw [hrec]), ?_⟩
        have hl2 : (X1.putObj l (.loop { rec .ready none with state := .busy })).heap[l]? = some (.loop { rec .ready none with state := .busy }) := World.putObj_heap_same hlt1
        have hd2 : (X1.putObj l (.loop { rec .ready none with state := .busy })).heap[w.heap.size]? = some (.deferred (some [])) := (World.putObj_heap_other (by omega)).trans hd1
        refine wpIn_mono (show body.wpIn (Wd (some l)) 0 P _ _ _ from hbody _ (put_only _) (ht1.bel hps2 (Nat.le_refl _)) hj1) ?_
        have fin : ∀ (jump : Option Code) (Y : World), Touch T (X1.putObj l (.loop { rec .ready none with state := .busy })) Y →
            (Instr.endRound l jump).run P Y = .ok (.bool jump.isNone) (Y.putObj l (.loop (rec (if jump.isNone then .ready else .done) jump))) ∧
            (Y.putObj l (.loop (rec (if jump.isNone then .ready else .done) jump))).heap[l]? = some (.loop (rec (if jump.isNone then .ready else .done) jump)) ∧
            (Y.putObj l (.loop (rec (if jump.isNone then .ready else .done) jump))).heap[w.heap.size]? = some (.deferred (some [])) ∧ Touch T w (Y.putObj l (.loop (rec (if jump.isNone then .ready else .done) jump))) ∧
            Below w.heap.size Y (Y.putObj l (.loop (rec (if jump.isNone then .ready else .done) jump))) ∧ Touch (fun k => T k ∨ k = l) X (Y.putObj l (.loop (rec (if jump.isNone then .ready else .done) jump))) := fun jump Y hty => by
          have hl3 := bk l (by omega) hty hl2
          have hd3 := bk w.heap.size (Nat.le_refl _) hty hd2
          have h5 := run_endRound (P := P) jump hl3
          have hb5 : Below w.heap.size Y (Y.putObj l (.loop (rec (if jump.isNone then .ready else .done) jump))) := put_below _ (by omega)
          have h7 : Touch (fun k => T k ∨ k = l) X (Y.putObj l (.loop (rec (if jump.isNone then .ready else .done) jump))) :=
            (((Below.tou hb1 (Nat.le_refl _)).tr ((put_only _).mono (fun k _ e => .inr e))).tr (hty.mono (fun k _ e => .inl e))).tr ((put_only _).mono (fun k _ e => .inr e))
          refine ⟨by rw [hrec] at h5 ⊢; exact h5, World.putObj_heap_same (Array.getElem?_eq_some_iff.1 hl3).1, (World.putObj_heap_other (by omega)).trans hd3, ?_, hb5, h7⟩
          exact ((ht1.bel hps2 (Nat.le_refl _)).tr hty).bel hb5 (Nat.le_refl _)
        rintro e a3 Y hp
        cases e with
        | normal =>
          obtain ⟨h6, h7, h8, h9, h10, h11⟩ := fin none Y hp.2
          exact ⟨_, _, h6, .inl ⟨rfl, ⟨hJ _ _ _ hp.1 h10, h9, h7, h8⟩, h11⟩⟩
        | ret =>
          obtain ⟨h6, h7, h8, h9, h10, h11⟩ := fin (some .ret) Y hp.2
          exact ⟨_, _, h6, .inr ⟨rfl, ⟨_, hJx _ _ _ hp.1 h10, h9, h7, h8⟩, h11⟩⟩
        | exit id =>
          obtain ⟨h6, h7, h8, h9, h10, h11⟩ := fin (some (.exit id)) Y hp.2
          exact ⟨_, _, h6, .inr ⟨rfl, ⟨_, hJx _ _ _ hp.1 h10, h9, h7, h8⟩, h11⟩⟩
        | goto t =>
          obtain ⟨h6, h7, h8, h9, h10, h11⟩ := fin (some (.goto t)) Y hp.2
          exact ⟨_, _, h6, .inr ⟨rfl, ⟨_, hJx _ _ _ hp.1 h10, h9, h7, h8⟩, h11⟩⟩
        | panic ch => exact hp.elim
        | outgrown => exact hp.elim
      | exit id => exact hq.elim
      | goto t => exact hq.elim
      | ret => exact hq.elim
      | panic ch => exact hq.elim
      | outgrown => exact hq.elim
    · rintro e Y ⟨⟨v, rfl⟩, _, (⟨hj, ht, hl3, hd3⟩ | ⟨c, hj, ht, hl3, hd3⟩)⟩
      · refine ⟨none, _, by have := run_endLoop (P := P) hl3 (by rw [hrec]; simp); rw [hrec] at this; exact this, ?_⟩
        have hb5 : Below w.heap.size Y (Y.putObj l (.loop { rec .ready none with state := .exhausted })) := put_below _ (by omega)
        rw [hrec] at hb5
        exact done w.heap.size _ (Nat.le_refl _) (hJ _ _ _ hj hb5) (ht.bel hb5 (Nat.le_refl _)) ((World.putObj_heap_other (by omega)).trans hd3)
      · refine ⟨some c, _, by have := run_endLoop (P := P) hl3 (by rw [hrec]; simp); rw [hrec] at this; exact this, ?_⟩
        have hb5 : Below w.heap.size Y (Y.putObj l (.loop { rec .done (some c) with state := .exhausted })) := put_below _ (by omega)
        rw [hrec] at hb5
        exact wpIn_wide.2 (stop w.heap.size c _ (Nat.le_refl _) (hJx _ _ _ hj hb5) (ht.bel hb5 (Nat.le_refl _)) ((World.putObj_heap_other (by omega)).trans hd3))
/-- A function that holds such statements: its marks. -/
def postM (P : Program) (fn : Func) (R : Ending → World → Prop) : Exit → Act → World → Prop := bodyPostM Fence.wide 0 P fn R
theorem calls_of_wpM {f : FuncId} {fn : Func} {c : Code} {args : Array Value} {w : World} {R : Ending → World → Prop} (hf : P.funcs[f]? = some fn) (hb : fn.body = some c)
    (h : c.wp P (postM P fn R) { tmps := args ++ Array.replicate (fn.ntmps - args.size) undef, defers := [] } w) : Calls P f args w R :=
  (callsIn_wide (n := 0)).1 (callsIn_of_wp_marks hf hb trivial ((wpIn_wide (n := 0)).2 h) rfl)
theorem leavesM {fn : Func} {tmps : Array Value} {R : Ending → World → Prop} : ∀ (ds : List Nat) (w : World), (∀ D ∈ ds, w.heap[D]? = some (.deferred (some []))) → ds.Nodup →
    (∀ w', Touch (fun k => k ∈ ds) w w' → w'.heap.size = w.heap.size → ∃ v, (results fn tmps).run P w' = .ok v w' ∧ R (.returned v) w') → LeavesInM Fence.wide 0 P fn tmps R (ds.map mark) .returning w
  | [], w, _, _, h => h w (Touch.refl _ _) rfl
  | D :: ds, w, hd, hn, h => by
    obtain ⟨hn1, hn2⟩ := List.nodup_cons.1 hn
    refine ⟨by simp, .inl ⟨D, _, rfl, run_takeDeferred (hd D (by simp)), ?_⟩⟩
    refine leavesM ds _ (fun E hE => (World.putObj_heap_other (fun e => hn1 (by rw [← e]; exact hE))).trans (hd E (by simp [hE]))) hn2 (fun w' ht hs => h w' ?_ (by rw [hs]; simp))
    exact ((put_only _).mono (fun k _ e => by simp [e])).tr (ht.mono (fun k _ e => by simp [e]))
theorem postM_ret {fn : Func} {tmps : Array Value} {R : Ending → World → Prop} {dfs : List Deferred} (ds : List Nat) {w : World} (hds : dfs = ds.map mark) (hd : ∀ D ∈ ds, w.heap[D]? = some (.deferred (some []))) (hn : ds.Nodup)
    (h : ∀ w', Touch (fun k => k ∈ ds) w w' → w'.heap.size = w.heap.size → ∃ v, (results fn tmps).run P w' = .ok v w' ∧ R (.returned v) w') : postM P fn R .ret { tmps := tmps, defers := dfs } w := by
  subst hds
  exact leavesM ds w hd hn h
end
end Go.Proofs.YtojekoakgpkkdabDoor

/-
  Own text. A region that leaves its order open, cut (Cut), within a round or with a call of yield in it; guards are allowed. No program is named here.
-/
namespace Go.Proofs.YtojekoakgpkkdabDoor
open Go Go.RowKit
section
variable {P : Program} {ops : Array Oper} {Q : Exit → Act → World → Prop} {ro : Option Nat}
end
end Go.Proofs.YtojekoakgpkkdabDoor

/-
  Own text. slices.Backward of extension headers; version 6; Build of the program.
-/
namespace Go.Proofs.YtojekoakgpkkdabDoor
open Go.RowKit Go.Proofs
set_option maxRecDepth 100000
section
variable {a : Act} {o : Oper} {w : World} {x y : Operand}
theorem one_cell {g : Nat} {v : Value} {ty : TypeId} (h : w.heap[g]? = some (.cells #[v] ty (0, 0))) : w.cell? ⟨g, 0, none⟩ = some v ∧ w.frozen? ⟨g, 0, none⟩ = false := by
  constructor <;> simp [World.cell?, World.frozen?, h]
theorem one_set {g : Nat} {v v' : Value} {ty : TypeId} (h : w.heap[g]? = some (.cells #[v] ty (0, 0))) : (w.setCell ⟨g, 0, none⟩ v').heap[g]? = some (.cells #[v'] ty (0, 0)) := by
  rw [Lib.heap_setCell_same h]
  rfl
variable {K : Act → World → Prop} {Q : Exit → Act → World → Prop}
theorem act_oneI (ho : o.op = .store 3 x y) {g : Nat} {v0 : Value} {n : Int} (hx : a.eval x = .pointer (some ⟨g, 0, none⟩)) (hy : a.eval y = .int .i64 n) (hg : w.heap[g]? = some (.cells #[v0] 3 (0, 0)))
    (h : ∀ w', w'.heap[g]? = some (.cells #[.int .i64 n] 3 (0, 0)) → Only g w w' → K (a.put o.dst undef) w') : o.wp Tryd.prog a w K Q := by
  have hr : (Instr.storeAt 3 (.pointer (some ⟨g, 0, none⟩)) (.int .i64 n)).run Tryd.prog w = .ok () (w.setCell ⟨g, 0, none⟩ (.int .i64 n)) := by simp [go_sem, (one_cell hg).1, (one_cell hg).2]
  unfold Oper.wp execOp
  simp only [ho, hx, hy, Sem.run_bind, hr, Result.andThen_ok, Sem.run_pure, Oper.upon]
  exact h _ (one_set hg) only_set
theorem act_oneS (ho : o.op = .store 9 x y) {g : Nat} {v0 : Value} {s : ByteArray} (hx : a.eval x = .pointer (some ⟨g, 0, none⟩)) (hy : a.eval y = .string s) (hg : w.heap[g]? = some (.cells #[v0] 9 (0, 0)))
    (h : ∀ w', w'.heap[g]? = some (.cells #[.string s] 9 (0, 0)) → Only g w w' → K (a.put o.dst undef) w') : o.wp Tryd.prog a w K Q := by
  have hr : (Instr.storeAt 9 (.pointer (some ⟨g, 0, none⟩)) (.string s)).run Tryd.prog w = .ok () (w.setCell ⟨g, 0, none⟩ (.string s)) := by simp [go_sem, (one_cell hg).1, (one_cell hg).2]
  unfold Oper.wp execOp
  simp only [ho, hx, hy, Sem.run_bind, hr, Result.andThen_ok, Sem.run_pure, Oper.upon]
  exact h _ (one_set hg) only_set
variable {ops : Array Oper} {rest : List Oper}
theorem wl_oneI (ho : o.op = .store 3 x y) (hw : Region.wanted o (yielded ops a.tmps) = true) {g : Nat} {v0 : Value} {n : Int} (hx : a.eval x = .pointer (some ⟨g, 0, none⟩)) (hy : a.eval y = .int .i64 n) (hg : w.heap[g]? = some (.cells #[v0] 3 (0, 0)))
    (h : ∀ w', w'.heap[g]? = some (.cells #[.int .i64 n] 3 (0, 0)) → Only g w w' → wpList Tryd.prog ops Q rest (a.put o.dst undef) w') : wpList Tryd.prog ops Q (o :: rest) a w := wl_act hw (act_oneI ho hx hy hg h)
theorem wl_oneS (ho : o.op = .store 9 x y) (hw : Region.wanted o (yielded ops a.tmps) = true) {g : Nat} {v0 : Value} {s : ByteArray} (hx : a.eval x = .pointer (some ⟨g, 0, none⟩)) (hy : a.eval y = .string s) (hg : w.heap[g]? = some (.cells #[v0] 9 (0, 0)))
    (h : ∀ w', w'.heap[g]? = some (.cells #[.string s] 9 (0, 0)) → Only g w w' → wpList Tryd.prog ops Q rest (a.put o.dst undef) w') : wpList Tryd.prog ops Q (o :: rest) a w := wl_act hw (act_oneS ho hx hy hg h)
theorem wl_alI (ho : o.op = .alloc 3) (hw : Region.wanted o (yielded ops a.tmps) = true)
    (h : ∀ g w', w.heap.size ≤ g → w'.heap[g]? = some (.cells #[.int .i64 0] 3 (0, 0)) → Below w.heap.size w w' → wpList Tryd.prog ops Q rest (a.put o.dst (.pointer (some ⟨g, 0, none⟩))) w') : wpList Tryd.prog ops Q (o :: rest) a w := by
  refine wl_act hw ?_
  unfold Oper.wp execOp
  simp only [ho]
  simp [go_sem]
  exact h _ _ (Nat.le_refl _) (heap_alloc_new w _) ((Below.refl _ w).alloc (Nat.le_refl _) _)
theorem wl_alS (ho : o.op = .alloc 9) (hw : Region.wanted o (yielded ops a.tmps) = true)
    (h : ∀ g w', w.heap.size ≤ g → w'.heap[g]? = some (.cells #[.string ByteArray.empty] 9 (0, 0)) → Below w.heap.size w w' → wpList Tryd.prog ops Q rest (a.put o.dst (.pointer (some ⟨g, 0, none⟩))) w') : wpList Tryd.prog ops Q (o :: rest) a w := by
  refine wl_act hw ?_
  unfold Oper.wp execOp
  simp only [ho]
  simp [go_sem]
  exact h _ _ (Nat.le_refl _) (heap_alloc_new w _) ((Below.refl _ w).alloc (Nat.le_refl _) _)
end
theorem tou_below {T : Nat → Prop} {B : Nat} {w w' : World} (h : Touch T w w') (hT : ∀ k, T k → B ≤ k) (hB : B ≤ w.heap.size) : Below B w w' :=
  ⟨h.os, h.tape, h.output, h.size, fun k hk => h.block k (by omega) (fun e => by have := hT k e; omega)⟩
def exZ : Ex := ⟨0, ByteArray.empty⟩
/-- What slices.Backward gives: each with its place, the last one first. -/
def bkL (l : List Ex) : List (Nat × Ex) := (List.range l.length).map fun k => (l.length - 1 - k, l.getD (l.length - 1 - k) exZ)
def encB (p : Nat × Ex) : Array Value := #[.int .i64 (p.1 : Int), .agg (SC 2 (exV p.2))]
theorem bkL_len (l : List Ex) : (bkL l).length = l.length := by simp [bkL]
theorem bk_at {l : List Ex} {k : Nat} {p : Nat × Ex} (h : (bkL l)[k]? = some p) : k < l.length ∧ p.1 = l.length - 1 - k ∧ l[p.1]? = some p.2 := by
  have hk : k < l.length := by
    have := (List.getElem?_eq_some_iff.1 h).1
    rwa [bkL_len] at this
  unfold bkL at h
  rw [List.getElem?_map, List.getElem?_range hk] at h
  simp only [Option.map_some, Option.some.injEq] at h
  subst h
  refine ⟨hk, rfl, ?_⟩
  simp only
  rw [List.getD_eq_getElem?_getD, List.getElem?_eq_getElem (by omega)]
  rfl
theorem bk_of {l : List Ex} {k q : Nat} {x : Ex} (hk : k < l.length) (hq : q = l.length - 1 - k) (hx : l[q]? = some x) : (bkL l)[k]? = some (q, x) := by
  unfold bkL
  rw [List.getElem?_map, List.getElem?_range hk]
  simp only [Option.map_some]
  rw [← hq, List.getD_eq_getElem?_getD, hx]
  rfl
theorem Backward_run (a : Option Addr) (n c : Nat) (w : World) : Calls Tryd.prog 60 #[.slice a n c] w fun e w' => ∃ bs, e = .returned (.func (.func 70) #[] #[.pointer (some ⟨bs, 0, none⟩)]) ∧ w.heap.size ≤ bs ∧ w'.heap[bs]? = some (.cells #[.slice a n c] 37 (0, 0)) ∧ Below w.heap.size w w' := by
  go_enter Tryd.func60, Tryd.ntmps60
  go_wp2_with fail
  go_ret
  exact ⟨w.heap.size, rfl, Nat.le_refl _, heap_alloc_new w _, (Below.refl _ _).alloc (Nat.le_refl _) _⟩
theorem en_Back1 (args : Array Value) (w : World) : (callFunc 70 args).run Tryd.prog w = .ok (.enter 70 args) w := by kernel_rfl
set_option maxHeartbeats 16000000 in
theorem back_gives {W0 : World} {bs : Nat} {a : Option Addr} {n c : Nat} {l : List Ex} {A : Nat → Prop} (hbs : W0.heap[bs]? = some (.cells #[.slice a n c] 37 (0, 0))) (hX : ExAt W0 (.slice a n c) l) (hln : l.length = n) (hn : n < 4611686018427387904) (hA1 : A bs) (hA2 : ∀ ad, a = some ad → 0 < n → A ad.block) :
    Gives Tryd.prog 70 #[.pointer (some ⟨bs, 0, none⟩)] encB (bkL l) A W0 := by
  intro lq T J Jx W hW hT hJ hJx hY h0
  rw [show (#[Value.func (.yield lq) #[] #[]] ++ #[Value.pointer (some ⟨bs, 0, none⟩)]) = #[Value.func (.yield lq) #[] #[], Value.pointer (some ⟨bs, 0, none⟩)] from rfl]
  have HK : Hid (∀ X, Touch T W X → ∀ k, A k → k < W0.heap.size → X.heap[k]? = W0.heap[k]?) := Hid.mk (fun X hx k hk h1 => (hx.block k (Nat.lt_of_lt_of_le h1 hW.size) (fun e => (hT k e).2 hk)).trans (hW.block k h1))
  have HC : Hid (∀ X, Touch T W X → X.cell? ⟨bs, 0, none⟩ = some (.slice a n c)) := Hid.mk (fun X hx => by
    rw [World.cell?_of_block (w := W0) (HK.out X hx bs hA1 (heap_lt hbs))]
    exact (one_cell hbs).1)
  have HXX : Hid (∀ X, Touch T W X → ∀ q x, l[q]? = some x → ∃ ad, a = some ad ∧ X.cell? (ad.add (2 * q)) = some (.int .i64 x.kind) ∧ X.cell? ((ad.add (2 * q)).add 1) = some (.string x.body)) := Hid.mk (fun X hx q x hq => by
    obtain ⟨ad, rfl, k1, k2⟩ := hX.sl (Below.refl _ _) hq
    have hl : ad.block < W0.heap.size := by
      have := World.block_lt_of_cell? _ _ k1
      rwa [add_blk] at this
    have hb := HK.out X hx ad.block (hA2 ad rfl (by have := (List.getElem?_eq_some_iff.1 hq).1; omega)) hl
    refine ⟨ad, rfl, ?_, ?_⟩
    · rw [World.cell?_of_block (w := W0) (by rw [add_blk]; exact hb)]; exact k1
    · rw [World.cell?_of_block (w := W0) (by rw [add_blk, add_blk]; exact hb)]; exact k2)
  have HJ := Hid.mk hJ
  have HY := Hid.mk hY
  have HLN := Hid.mk hln
  have hbl : (bkL l).length = n := by rw [bkL_len, hln]
  rw [hbl]
  clear hbs hX hJ hJx hY hT hA2 hbl hln
  have ct := HC.out W (Touch.refl _ _)
  go_enter Tryd.func70, Tryd.ntmps70
  have hnb : (n : Int) < 4611686018427387904 := by omega
  go_wp2_with (refine wl_value rfl (exec_ld rfl (by rfl) (ldPx ct)) ?_)
  clear ct
  go_loopg [3] n (fun gm s3 z => ∃ (j : Nat) (i0 : Int), Hid (gm = n - j) ∧ j ≤ n ∧ s3 = .int .i64 i0 ∧ Hid (i0 = (n : Int) - 1 - (j : Int)) ∧ Hid (J j z ∧ Touch T W z))
  case atStart => exact ⟨0, _, Hid.mk rfl, by omega, rfl, Hid.mk (by omega), Hid.mk ⟨h0, Touch.refl _ _⟩⟩
  case round =>
    obtain ⟨j, i0, HG, hjn, rfl, HI, HS⟩ := hrel
    obtain ⟨hj, ht⟩ := HS.out
    by_cases hlt : j < n
    · obtain ⟨q, hq⟩ : ∃ q : Nat, n = q + 1 + j := ⟨n - 1 - j, by omega⟩
      have hiq : i0 = (q : Int) := by have := HI.out; omega
      subst hiq
      have HQ := Hid.mk hq
      obtain ⟨x, hx⟩ := list_at (l := l) (i := q) (by have := HLN.out; omega)
      have hxj : (bkL l)[j]? = some (q, x) := bk_of (by have := HLN.out; omega) (by have := HLN.out; omega) hx
      obtain ⟨p1, rfl, k1, k1b⟩ := HXX.out wr ht q x hx
      have hld := ldEx (e := x) k1 k1b
      have ct := HC.out wr ht
      have hqn : q < n := by omega
      have hq0 : (0 : Int) ≤ (q : Int) := by omega
      have hqb : (q : Int) < 4611686018427387904 := by omega
      have hy := HY.out j _ wr hxj hj
      clear hq HS
      go_upto_region 3 with fail
      refine (wpIn_wide (n := 0)).1 (regIn_at (ro := none) 6 (by
          rintro ⟨_, _, hq⟩
          have h2 : (∃ u, Ending.outgrown = .returned u) ∧ _ := hq
          obtain ⟨⟨_, e⟩, _⟩ := h2
          cases e) rfl ?_)
      simp only [List.take_succ_cons, List.take_zero, List.drop_succ_cons, List.drop_zero]
      go_wp2_with (first | (refine wl_value rfl (exec_ld rfl (by rfl) (ldPx ct)) ?_) | (refine wl_value rfl (exec_ixE (i := q) rfl (by rfl) (by rfl) hqn) ?_) | (refine wl_value rfl (exec_ld rfl (by rfl) hld) ?_))
      show wpListIn (Wd none) 0 _ _ _ (_ :: _) _ _
      refine li_yield rfl rfl (by rfl) (args2 (by rfl) (by rfl)) hy ?_
      rintro e w3 (⟨rfl, hj3, htj⟩ | ⟨rfl, hjx3, htj⟩)
      · have ht3 : Touch T W w3 := ht.tr htj
        refine ⟨_, rfl, all_in (by
          rintro ⟨_, _, hq⟩
          have h2 : (∃ u, Ending.outgrown = .returned u) ∧ _ := hq
          obtain ⟨⟨_, e⟩, _⟩ := h2
          cases e) _ _ _ rfl ?_⟩
        simp only [Act.put, List.setIfInBounds_toArray, List.set_cons_zero, List.set_cons_succ]
        go_wp2_with fail
        go_roundg (n - (j + 1))
        case rel => exact ⟨j + 1, _, Hid.mk rfl, by omega, rfl, Hid.mk (by have := HQ.out; omega), Hid.mk ⟨hj3, ht3⟩⟩
        case measure => have := HG.out; omega
      · have ht3 : Touch T W w3 := ht.tr htj
        refine ⟨_, rfl, all_in (by
          rintro ⟨_, _, hq⟩
          have h2 : (∃ u, Ending.outgrown = .returned u) ∧ _ := hq
          obtain ⟨⟨_, e⟩, _⟩ := h2
          cases e) _ _ _ rfl ?_⟩
        simp only [Act.put, List.setIfInBounds_toArray, List.set_cons_zero, List.set_cons_succ]
        go_wp2_with fail
        exact bodyPost_ret (results_none rfl _ _ _) rfl ⟨⟨_, rfl⟩, ht3, .inr hjx3⟩
    · have hjn2 : j = n := by omega
      have hi0 : i0 = -1 := by have := HI.out; omega
      subst hi0
      rw [hjn2] at hj
      go_wp2_with fail
      go_end0
      exact ⟨⟨_, rfl⟩, ht, .inl hj⟩
theorem exLen_drop (l : List Ex) (q : Nat) : exLen (l.drop q) ≤ exLen l := by
  induction l generalizing q with
  | nil => simp [exLen]
  | cons x l ih =>
    cases q with
    | zero => simp
    | succ q =>
      have := ih q
      rw [List.drop_succ_cons]
      have e : exLen (x :: l) = 2 + x.body.size + exLen l := rfl
      omega
theorem exec_shl20 {a : Act} {o : Oper} {w : World} {x y : Operand} {t : TypeId} (ho : o.op = .binOp .shl 3 x y t) {n : Int} (hx : a.eval x = .int .i64 n) (hy : a.eval y = .int .u64 20) (h0 : 0 ≤ n) (h1 : n ≤ 255) : (execOp a.eval o).run Tryd.prog w = .ok (.value (.int .i64 ((n.toNat * 1048576 : Nat) : Int))) w := by
  obtain ⟨i, rfl⟩ := Int.eq_ofNat_of_zero_le h0
  refine exec_bin2 ho hx hy rfl ?_
  have e2 : IntKind.i64.wrap ((i : Int) * 1048576) = ((i * 1048576 : Nat) : Int) := by rw [IntKind.wrap_i64]; omega
  simp [go_sem, e2]
theorem touch2_S (X2 : World) {g3 g4 : Nat} {c3 c4 : Cont} (w w' : World) (h : Touch (fun k => k = g3 ∨ k = g4) X2 w) (ht : Touch (fun k => X2.heap.size ≤ k ∨ k ∈ [(g3, c3), (g4, c4)].map (·.1)) w w') : Touch (fun k => k = g3 ∨ k = g4) X2 w' :=
  ⟨ht.os.trans h.os, ht.tape.trans h.tape, ht.output.trans h.output, Nat.le_trans h.size ht.size, fun k hk hn => (ht.block k (Nat.lt_of_lt_of_le hk h.size) (fun e => by
    rcases e with e | e
    · omega
    · simp at e; exact hn e)).trans (h.block k hk hn)⟩
theorem exB_step {P : Pk} {l : List Ex} {x : Ex} {q : Nat} (hx : l[q]? = some x) : exB P (l.drop q) = putT (nextK P (l.drop (q + 1))).toNat 1 ++ putT ((2 + x.body.size) / 8 - 1) 1 ++ x.body ++ exB P (l.drop (q + 1)) ∧ nextK P (l.drop q) = x.kind := by
  have h1 := List.getElem?_eq_some_iff.1 hx
  rw [List.drop_eq_getElem_cons h1.1, h1.2]
  exact ⟨rfl, rfl⟩
theorem exsOk_drop : ∀ {l : List Ex} {i : Nat} (q : Nat), exsOk l i = true → exsOk (l.drop q) (i + q) = true
  | l, i, 0, h => h
  | [], i, q + 1, h => by simp [exsOk]
  | x :: l, i, q + 1, h => by
    unfold exsOk at h
    rw [Bool.and_eq_true] at h
    have := exsOk_drop q h.2
    rw [show i + (q + 1) = i + 1 + q by omega]
    exact this
set_option maxHeartbeats 32000000 in
theorem bytes6_run (P : Pk) (v : Value) (w : World) (h1 : ExAt w v P.exts) (hO : PkOk P) (hr : rgtP P = true) (hf : fitP P = true) (h6 : P.sv = true) : Calls Tryd.prog 48 #[.agg (SC 46 (pkV P v))] w fun e w' => e = .returned (.string (sixB P)) ∧ Below w.heap.size w w' := by
  obtain ⟨a1, c1, rfl, _⟩ := id h1
  obtain ⟨hv1, hv2, _, hpr, hho, hcl, hof, ho8, hrr⟩ := rgtP_iff.1 hr
  rw [if_pos h6] at hrr
  obtain ⟨hfl, _, _, hx, hp, hid, _⟩ := rgt6_iff.1 hrr
  obtain ⟨hE0, hlen, hop⟩ := rgt_few hr
  have hfi : headP P + P.pay.size ≤ 65575 := by
    unfold fitP at hf
    rw [if_pos h6] at hf
    simpa using hf
  have hpy : P.pay.size ≤ 65575 := by omega
  have hy1 := bytT_size P.sv P.sb
  have hy2 := bytT_size P.dv P.db
  have flz : Value.int .i64 P.flow = .int .i64 ((P.flow.toNat : Nat) : Int) := by rw [← zn hfl.1]
  have HZ := Hid.mk (fun q => exB_size (P := P) (exsOk_drop q hx))
  have HNK := Hid.mk (fun q => exsOk_kind hp (exsOk_drop q hx) hpr)
  have HX := Hid.mk hx
  have hhd : headP P = 40 + exLen P.exts + (if P.cut = true then 8 else 0) := by unfold headP; rw [if_pos h6]
  have hsz : (exB P P.exts).size + P.pay.size = headP P + P.pay.size - 40 := by have := exB_size (P := P) hx; omega
  have HSB : Hid (sixB P = putT (1610612736 + P.cls.toNat * 1048576 + P.flow.toNat) 4 ++ putT ((exB P P.exts).size + P.pay.size) 2 ++ putT (nextK P P.exts).toNat 1 ++ putT P.hop.toNat 1 ++ bytT P.sv P.sb ++ bytT P.dv P.db ++ exB P P.exts ++ P.pay) := Hid.mk (by rw [hsz]; rfl)
  have HCU := Hid.mk (fun ww => cutBytes_run P (.slice a1 P.exts.length c1) ww hpr hof ho8 hid)
  generalize sixB P = SB at *
  obtain ⟨n, hnn⟩ : ∃ n, P.exts.length = n := ⟨_, rfl⟩
  have HN := Hid.mk hnn
  rw [hnn] at h1 hlen HCU ⊢
  clear hnn hhd hsz hx
  refine calls_of_wpM Tryd.func48 rfl ?_
  simp only [Tryd.ntmps48, List.size_toArray, List.length_cons, List.length_nil, Nat.reduceAdd, Nat.reduceSub, Array.replicate_succ, Array.replicate_zero, List.push_toArray, List.append_toArray, List.nil_append, List.cons_append]
  go_wp2_with (refine wl_boxO rfl rfl isPk (by rfl) ?_; intro g1 u2 hg1 q1 hB2; refine Hid.out ?_)
  refine Hid.mk ?_
  have hx1 := h1.kept hB2
  have s2 := pk_proto q1
  go_wp2_with (first | (refine wl_value rfl (exec_fpk 2 (by decide) rfl (by rfl)) ?_) | (refine wl_value rfl (exec_ld rfl (by rfl) (ldP s2)) ?_) | (refine wl_alI rfl rfl ?_; intro g3 u3 hg3 n3 hB3; refine Hid.out ?_))
  refine Hid.mk ?_
  go_wp2_with (refine wl_alS rfl rfl ?_; intro g4 u4 hg4 n4 hB4; refine Hid.out ?_)
  refine Hid.mk ?_
  have h34 : g3 ≠ g4 := by have := heap_lt n3; omega
  have n3 := bheap hB4 n3 (heap_lt n3)
  have hgl3 := heap_lt n3
  go_wp2_with (refine wl_oneI rfl rfl (by rfl) (by rfl) n3 ?_; intro u5 m3 o5; refine Hid.out ?_)
  refine Hid.mk ?_
  have m4 := (o5.block g4 (Ne.symm h34)).trans n4
  go_wp2_with (refine wl_oneS rfl rfl (by rfl) (by rfl) m4 ?_; intro u6 k4 o6; refine Hid.out ?_)
  refine Hid.mk ?_
  have k3 := (o6.block g3 h34).trans m3
  have hg13 : g1 < g3 := by have := SAt.lt q1; omega
  have hg14 : g1 < g4 := by have := SAt.lt q1; have := hB3.size; omega
  have hw3 : w.heap.size ≤ g3 := by have := hB2.size; omega
  have hw4 : w.heap.size ≤ g4 := by have := hB2.size; have := hB3.size; omega
  have q6 := ((((SAt.kept q1 hB3).kept hB4).only o5 (by omega)).only o6 (by omega))
  have hBa : Below w.heap.size w u6 := (((hB2.trans (hB3.mono hB2.size)).trans (hB4.mono (by have := hB2.size; have := hB3.size; omega))).trans (o5.below hw3)).trans (o6.below hw4)
  clear n3 n4 m3 m4 o5 o6 hB4 hB3 hB2 q1 s2 hx1
  have c12 := pk_cut q6
  go_upto_if 10 with (first | (refine wl_value rfl (exec_fpk 12 (by decide) rfl (by rfl)) ?_) | (refine wl_value rfl (exec_ld rfl (by rfl) (ldPb c12)) ?_))
  simp only [Act.put, List.setIfInBounds_toArray, List.set_cons_zero, List.set_cons_succ]
  go_cut [10, 11, 12] from 10 to 12 (fun s10 s11 s12 z => SAt z g1 39 46 (pkV P (.slice a1 n c1)) ∧ z.heap[g3]? = some (.cells #[.int .i64 (nextK P [])] 3 (0, 0)) ∧ z.heap[g4]? = some (.cells #[.string (exB P [])] 9 (0, 0)) ∧ Below w.heap.size w z)
  case first =>
    cases hcut : P.cut
    · rw [hcut] at c12
      have e1 : nextK P [] = P.proto := by unfold nextK tailK; rw [hcut]; rfl
      have e2 : exB P [] = ByteArray.empty := by unfold exB; rw [hcut]; rfl
      go_wp2_with fail
      go_meet
      case rel => exact ⟨q6, by rw [e1]; exact k3, by rw [e2]; exact k4, hBa⟩
    · rw [hcut] at c12
      have e1 : nextK P [] = 44 := by unfold nextK tailK; rw [hcut]; rfl
      have e2 : exB P [] = cuB P := by unfold exB; rw [hcut]; rfl
      go_wp2_with (first | (refine wl_value rfl (look_st rfl isPk q6 (by rfl)) ?_) | (go_at_call 59; refine (HCU.out _).mono ?_; rintro e u7 ⟨rfl, hB7⟩; refine Hid.out ?_))
      refine Hid.mk ?_
      have m3 := bheap hB7 k3 (heap_lt k3)
      have m4 := bheap hB7 k4 (heap_lt k4)
      go_wp2_with (refine wl_oneI rfl rfl (by rfl) (by rfl) m3 ?_; intro u8 r3 o8; refine Hid.out ?_)
      refine Hid.mk ?_
      have r4 := (o8.block g4 (Ne.symm h34)).trans m4
      go_wp2_with (refine wl_oneS rfl rfl (by rfl) (by rfl) r4 ?_; intro u9 t4 o9; refine Hid.out ?_)
      refine Hid.mk ?_
      have t3 := (o9.block g3 h34).trans r3
      go_wp2_with fail
      go_meet
      case rel => exact ⟨((SAt.kept q6 hB7).only o8 (by omega)).only o9 (by omega), by rw [e1]; exact t3, by rw [e2]; exact t4, ((hBa.trans (hB7.mono hBa.size)).trans (o8.below hw3)).trans (o9.below hw4)⟩
  case rest =>
    obtain ⟨q7, t3, t4, hBb⟩ := hcut
    clear q6 k3 k4 hBa c12 HCU
    have s11 := pk_exts q7
    go_wp2_with (first | (refine wl_value rfl (exec_fpk 11 (by decide) rfl (by rfl)) ?_) | (refine wl_value rfl (exec_ld rfl (by rfl) (ldPx s11)) ?_))
    refine (Backward_run a1 n c1 _).mono ?_
    rintro e w7 ⟨bs, rfl, hbs, nbs, hB7⟩
    have hBc := hBb.trans (hB7.mono hBb.size)
    have y1 := SAt.kept q7 hB7
    have p3 := bheap hB7 t3 (heap_lt t3)
    have p4 := bheap hB7 t4 (heap_lt t4)
    have hx7 := h1.kept hBc
    have hl3 := heap_lt p3
    have hl4 := heap_lt p4
    have hlb := heap_lt nbs
    have hgl1 := SAt.lt y1
    have hAx : ∀ k, (k = bs ∨ ∃ ad, a1 = some ad ∧ k = ad.block ∧ 0 < n) → k < w7.heap.size ∧ k ≠ g3 ∧ k ≠ g4 := fun k hk => by
      rcases hk with rfl | ⟨ad, rfl, rfl, h0⟩
      · have := heap_lt t3
        have := heap_lt t4
        exact ⟨hlb, by omega, by omega⟩
      · obtain ⟨x, hx⟩ := list_at (l := P.exts) (i := 0) (by rw [HN.out]; exact h0)
        obtain ⟨ad', e, k1, _⟩ := h1.sl (Below.refl _ _) hx
        injection e with e
        subst e
        have hk1 := World.block_lt_of_cell? _ _ k1
        rw [add_blk] at hk1
        have := hBc.size
        exact ⟨by omega, by omega, by omega⟩
    have HGV : Gives Tryd.prog 70 #[.pointer (some ⟨bs, 0, none⟩)] encB (bkL P.exts) (fun k => k = bs ∨ ∃ ad, a1 = some ad ∧ k = ad.block ∧ 0 < n) w7 :=
      back_gives nbs hx7 HN.out (by omega) (.inl rfl) (fun ad e h0 => .inr ⟨ad, e, rfl, h0⟩)
    have hJ0 : w7.heap[g3]? = some (.cells #[.int .i64 (nextK P (P.exts.drop (n - 0)))] 3 (0, 0)) ∧ w7.heap[g4]? = some (.cells #[.string (exB P (P.exts.drop (n - 0)))] 9 (0, 0)) := by
      rw [Nat.sub_zero, ← HN.out, List.drop_length]
      exact ⟨p3, p4⟩
    clear q7 t3 t4 hBb hB7 p3 p4
    go_wp2_with fail
    refine wp_rangeT (by rfl) en_Back1 HGV (Below.refl _ _) (fun x => rfl) (fun k hk => (hAx k hk).1) (fun k => k = g3 ∨ k = g4) (fun k hk => by
      rcases hk with rfl | rfl
      · exact ⟨hl3, fun h => (hAx _ h).2.1 rfl⟩
      · exact ⟨hl4, fun h => (hAx _ h).2.2 rfl⟩) (fun i X => X.heap[g3]? = some (.cells #[.int .i64 (nextK P (P.exts.drop (n - i)))] 3 (0, 0)) ∧ X.heap[g4]? = some (.cells #[.string (exB P (P.exts.drop (n - i)))] 9 (0, 0))) (fun _ _ => False) (fun i X Y hX hb => ⟨bheap hb hX.1 hl3, bheap hb hX.2 hl4⟩) (fun _ _ _ h _ => h) hJ0 ?rnd ?done (fun _ _ _ _ h => h.elim)
    case rnd =>
      intro lq j x0 X hlq hlX hx0 htX hjX
      obtain ⟨q, x⟩ := x0
      obtain ⟨hjl, hq, hx⟩ := bk_at hx0
      simp only at hq hx
      rw [HN.out] at hjl hq
      clear hx0
      simp only [setPs, encB, List.zip_toArray, List.zip_cons_cons, List.zip_nil_left]
      refine regIn (fun ⟨_, _, hq⟩ => hq) rfl ?_
      go_wp2_with (refine wl_allocEx rfl rfl ?_; intro gf X1 hgf qf hBf; refine Hid.out ?_)
      refine Hid.mk ?_
      go_wp2_with (refine st_stO rfl rfl isEx2 (exV_one _) qf (by rfl) (by rfl) ?_; intro X3 qf3 of3; refine Hid.out ?_)
      refine Hid.mk ?_
      go_wp2_with fail
      refine ⟨hBf.trans (of3.below hgf), fun X2 hX2 htX2 hj3 hj4 => ?_⟩
      have hjX2 := And.intro hj3 hj4
      clear hj3 hj4
      have q2 : SAt X2 gf 113 2 (exV x) := qf3.tou hX2 (by omega)
      have hXs := htX.size
      have hf3 : gf ≠ g3 := by omega
      have hf4 : gf ≠ g4 := by omega
      obtain ⟨hst1, hst2⟩ := exB_step (P := P) hx
      have hxi := exsOk_drop q HX.out
      have hxo : exOk x (0 + q) = true := by
        have h1' := List.getElem?_eq_some_iff.1 hx
        rw [List.drop_eq_getElem_cons h1'.1, h1'.2] at hxi
        unfold exsOk at hxi
        exact (Bool.and_eq_true _ _ ▸ hxi).1
      obtain ⟨_, _, hz6, hz⟩ := exOk_iff.1 hxo
      have hnk := HNK.out (q + 1)
      have hnj : n - j = q + 1 := by omega
      rw [hnj] at hjX2
      have hzz := HZ.out (q + 1)
      have hzl := exLen_drop P.exts (q + 1)
      have hz9 : (exB P (P.exts.drop (q + 1))).size ≤ 9000 := by rw [hzz]; split <;> omega
      have HEB : Hid (∀ ww, Calls Tryd.prog 61 #[.agg (SC 2 (exV x)), .int .i64 (nextK P (P.exts.drop (q + 1)))] ww fun e w' => e = .returned (.string (putT (nextK P (P.exts.drop (q + 1))).toNat 1 ++ putT ((2 + x.body.size) / 8 - 1) 1 ++ x.body)) ∧ Below ww.heap.size ww w') := Hid.mk (fun ww => extBytes_run x _ ww hnk.1 hnk.2.1 (by omega) (by omega))
      have HCT : Hid ((putT (nextK P (P.exts.drop (q + 1))).toNat 1 ++ putT ((2 + x.body.size) / 8 - 1) 1 ++ x.body).size + (exB P (P.exts.drop (q + 1))).size ≤ 9223372036854775807) := Hid.mk (by rw [ByteArray.size_append, ByteArray.size_append, putT_size, putT_size]; omega)
      have hnj1 : n - (j + 1) = q := by omega
      have HFIN : Hid (exB P (P.exts.drop (n - (j + 1))) = putT (nextK P (P.exts.drop (q + 1))).toNat 1 ++ putT ((2 + x.body.size) / 8 - 1) 1 ++ x.body ++ exB P (P.exts.drop (q + 1)) ∧ nextK P (P.exts.drop (n - (j + 1))) = x.kind) := Hid.mk (by rw [hnj1]; exact ⟨hst1, hst2⟩)
      clear hst1 hst2 hzz hz9 hnk
      generalize nextK P (P.exts.drop (q + 1)) = k0 at *
      generalize exB P (P.exts.drop (q + 1)) = h0 at *
      generalize putT k0.toNat 1 ++ putT ((2 + x.body.size) / 8 - 1) 1 ++ x.body = e1 at *
      have HF : Hid (∀ ww, Touch (fun k => k = g3 ∨ k = g4) X2 ww → SAt ww gf 113 2 (exV x)) := Hid.mk (fun ww hS => q2.block (hS.block gf (SAt.lt q2) (by omega)))
      refine wpIn_block (regIn_any (ro := some lq) rfl (fun ⟨_, _, hq⟩ => hq) rfl (any_region3 (fun ww => Touch (fun k => k = g3 ∨ k = g4) X2 ww) X2.heap.size
          [(g3, once #[.int .i64 k0] 3 7 #[.int .i64 x.kind]), (g4, once #[.string h0] 9 8 #[.string (e1 ++ h0)])]
          [kv (.pointer (some ⟨gf, 0, none⟩)), kv (.int .i64 x.kind), kv (.agg (SC 2 (exV x))), kv (.int .i64 k0), kv (.string e1), kv (.string h0), kv (.string (e1 ++ h0)), .val fun _ => True, .val fun _ => True]
          [.none, .none, .none, .none, .none, .none, .none, .base 0 1, .base 1 1]
          [some 18, some 19, some 20, some 21, some 22, some 23, some 24, none, none]
          [(6, .pointer (some ⟨gf, 0, none⟩)), (3, .pointer (some ⟨g3, 0, none⟩)), (4, .pointer (some ⟨g4, 0, none⟩))]
          [[], [.slot 0], [], [.base 0 0], [.slot 2, .slot 3], [.base 1 0], [.slot 4, .slot 5], [.slot 1, .base 0 0], [.slot 6, .base 1 0]]
          [.base 0 1, .base 1 1] [18, 19, 20, 21, 22, 23, 24]
          (by kernel_rfl) ⟨rfl, rfl, rfl, trivial⟩ (Touch.refl _ _).drew (Nat.le_refl _) ⟨⟨heap_lt hjX2.1, obIn hjX2.1⟩, ⟨heap_lt hjX2.2, obIn hjX2.2⟩, trivial⟩ ⟨⟨h34, trivial⟩, trivial, trivial⟩ (touch2_S X2)
          ⟨
            (fun QQ aa ww own hS hBg fr kn => .inl ⟨trivial, fun K hK => wp_value (exec_fexG 0 (by decide) rfl fr.1) (hK _ _ ⟨Touch.refl _ _, rfl⟩)⟩),
            (fun QQ aa ww own hS hBg fr kn => .inl ⟨trivial, fun K hK => wp_value (exec_ld rfl kn.1 (ldP (ex_kind (HF.out ww hS)))) (hK _ _ ⟨Touch.refl _ _, rfl⟩)⟩),
            (fun QQ aa ww own hS hBg fr kn => .inl ⟨trivial, fun K hK => wp_value (look_st rfl isEx2 (HF.out ww hS) fr.1) (hK _ _ ⟨Touch.refl _ _, rfl⟩)⟩),
            (fun QQ aa ww own hS hBg fr kn => .inl ⟨trivial, fun K hK => wp_value (exec_ld rfl fr.2.1 (ldP (one_cell (obAt kn.1)).1)) (hK _ _ ⟨Touch.refl _ _, rfl⟩)⟩),
            (fun QQ aa ww own hS hBg fr kn => .inl ⟨trivial, fun K hK => stepc en_extBytes rfl (args2 kn.1 kn.2.1) (HEB.out ww) (fun w' hb => hK _ _ ⟨touch_below hb, rfl⟩)⟩),
            (fun QQ aa ww own hS hBg fr kn => .inl ⟨trivial, fun K hK => wp_value (exec_ld rfl fr.2.2.1 (ldPs (one_cell (obAt kn.1)).1)) (hK _ _ ⟨Touch.refl _ _, rfl⟩)⟩),
            (fun QQ aa ww own hS hBg fr kn => .inl ⟨trivial, fun K hK => wp_value (exec_catS rfl kn.1 kn.2.1 HCT.out) (hK _ _ ⟨Touch.refl _ _, rfl⟩)⟩),
            (fun QQ aa ww own hS hBg fr kn => .inl ⟨trivial, fun K hK => act_oneI rfl fr.2.1 kn.1 (obAt kn.2.1) (fun w2 hg ho => hK _ _ ⟨⟨touch_only ho, obIn hg⟩, trivial⟩)⟩),
            (fun QQ aa ww own hS hBg fr kn => .inl ⟨trivial, fun K hK => act_oneS rfl fr.2.2.1 kn.1 (obAt kn.2.1) (fun w2 hg ho => hK _ _ ⟨⟨touch_only ho, obIn hg⟩, trivial⟩)⟩),
            trivial⟩ ?_))
      intro vs own Y hSY hsz kn inj
      show _ ∧ _
      refine ⟨⟨?_, ?_⟩, hSY⟩
      · rw [HFIN.out.2]; exact obAt kn.1
      · rw [HFIN.out.1]; exact obAt kn.2.1
    case done =>
      intro D Y hD hjY htY hKD
      rw [bkL_len, HN.out, Nat.sub_self, List.drop_zero] at hjY
      obtain ⟨y3, y4⟩ := hjY
      have hBY : Below w.heap.size w Y := hBc.trans (tou_below htY (fun k hk => by rcases hk with rfl | rfl <;> omega) hBc.size)
      have y1 := y1.block (htY.block g1 hgl1 (by omega))
      have y3l := heap_lt y3
      have y4l := heap_lt y4
      have hzE : (exB P P.exts).size ≤ 9000 := by
        have := HZ.out 0
        rw [List.drop_zero] at this
        rw [this]
        split <;> omega
      have hnk := HNK.out 0
      rw [List.drop_zero] at hnk
      have hk10 := hnk.1
      have hk11 := hnk.2.1
      clear hnk HZ HNK HX HGV
      generalize exB P P.exts = E at *
      generalize nextK P P.exts = k1 at *
      have hDY := heap_lt hKD
      go_upto_region 7 with fail
      refine wp_region3 (Below Y.heap.size Y) Y.heap.size
          ([] : List (Nat × Cont))
          (kv (.pointer (some ⟨g1, 36, none⟩)) :: kv (.int .i64 P.cls) :: kv (.int .i64 ((P.cls.toNat * 1048576 : Nat) : Int)) :: kv (.int .i64 ((1610612736 + P.cls.toNat * 1048576 : Nat) : Int)) :: kv (.pointer (some ⟨g1, 42, none⟩)) :: kv (.int .i64 P.flow) :: kv (.int .i64 ((1610612736 + P.cls.toNat * 1048576 + P.flow.toNat : Nat) : Int)) :: kv (.string (putT (1610612736 + P.cls.toNat * 1048576 + P.flow.toNat) 4)) :: kv (.string E) :: kv (.int .i64 (E.size : Int)) :: kv (.pointer (some ⟨g1, 45, none⟩)) :: kv (.string P.pay) :: kv (.int .i64 (P.pay.size : Int)) :: kv (.int .i64 ((E.size + P.pay.size : Nat) : Int)) :: kv (.string (putT (E.size + P.pay.size) 2)) :: kv (.string (putT (1610612736 + P.cls.toNat * 1048576 + P.flow.toNat) 4 ++ (putT (E.size + P.pay.size) 2))) :: kv (.int .i64 k1) :: kv (.string (putT k1.toNat 1)) :: kv (.string (putT (1610612736 + P.cls.toNat * 1048576 + P.flow.toNat) 4 ++ (putT (E.size + P.pay.size) 2) ++ (putT k1.toNat 1))) :: kv (.pointer (some ⟨g1, 35, none⟩)) :: kv (.int .i64 P.hop) :: kv (.string (putT P.hop.toNat 1)) :: kv (.string (putT (1610612736 + P.cls.toNat * 1048576 + P.flow.toNat) 4 ++ (putT (E.size + P.pay.size) 2) ++ (putT k1.toNat 1) ++ (putT P.hop.toNat 1))) :: kv (.pointer (some ⟨g1, 0, none⟩)) :: kv (.agg (SC 17 (adV P.sv P.sb))) :: kv (.string (bytT P.sv P.sb)) :: kv (.string (putT (1610612736 + P.cls.toNat * 1048576 + P.flow.toNat) 4 ++ (putT (E.size + P.pay.size) 2) ++ (putT k1.toNat 1) ++ (putT P.hop.toNat 1) ++ (bytT P.sv P.sb))) :: kv (.pointer (some ⟨g1, 17, none⟩)) :: kv (.agg (SC 17 (adV P.dv P.db))) :: kv (.string (bytT P.dv P.db)) :: kv (.string (putT (1610612736 + P.cls.toNat * 1048576 + P.flow.toNat) 4 ++ (putT (E.size + P.pay.size) 2) ++ (putT k1.toNat 1) ++ (putT P.hop.toNat 1) ++ (bytT P.sv P.sb) ++ (bytT P.dv P.db))) :: kv (.string E) :: kv (.string (putT (1610612736 + P.cls.toNat * 1048576 + P.flow.toNat) 4 ++ (putT (E.size + P.pay.size) 2) ++ (putT k1.toNat 1) ++ (putT P.hop.toNat 1) ++ (bytT P.sv P.sb) ++ (bytT P.dv P.db) ++ E)) :: kv (.pointer (some ⟨g1, 45, none⟩)) :: kv (.string P.pay) :: kv (.string (putT (1610612736 + P.cls.toNat * 1048576 + P.flow.toNat) 4 ++ (putT (E.size + P.pay.size) 2) ++ (putT k1.toNat 1) ++ (putT P.hop.toNat 1) ++ (bytT P.sv P.sb) ++ (bytT P.dv P.db) ++ E ++ P.pay)) :: kv (.string (putT (1610612736 + P.cls.toNat * 1048576 + P.flow.toNat) 4 ++ (putT (E.size + P.pay.size) 2) ++ (putT k1.toNat 1) ++ (putT P.hop.toNat 1) ++ (bytT P.sv P.sb) ++ (bytT P.dv P.db) ++ E ++ P.pay)) :: [])
          (.none :: .none :: .none :: .none :: .none :: .none :: .none :: .none :: .none :: .none :: .none :: .none :: .none :: .none :: .none :: .none :: .none :: .none :: .none :: .none :: .none :: .none :: .none :: .none :: .none :: .none :: .none :: .none :: .none :: .none :: .none :: .none :: .none :: .none :: .none :: .none :: .none :: [])
          (some 25 :: some 26 :: some 27 :: some 28 :: some 29 :: some 30 :: some 31 :: some 32 :: some 33 :: some 34 :: some 35 :: some 36 :: some 37 :: some 38 :: some 39 :: some 40 :: some 41 :: some 42 :: some 43 :: some 44 :: some 45 :: some 46 :: some 47 :: some 48 :: some 49 :: some 50 :: some 51 :: some 52 :: some 53 :: some 54 :: some 55 :: some 56 :: some 57 :: some 58 :: some 59 :: some 60 :: some 2 :: [])
          [(1, .pointer (some ⟨g1, 0, none⟩)), (4, .pointer (some ⟨g4, 0, none⟩)), (3, .pointer (some ⟨g3, 0, none⟩))]
          ([] :: [.slot 0] :: [.slot 1] :: [.slot 2] :: [] :: [.slot 4] :: [.slot 3, .slot 5] :: [.slot 6] :: [] :: [.slot 8] :: [] :: [.slot 10] :: [.slot 11] :: [.slot 9, .slot 12] :: [.slot 13] :: [.slot 7, .slot 14] :: [] :: [.slot 16] :: [.slot 15, .slot 17] :: [] :: [.slot 19] :: [.slot 20] :: [.slot 18, .slot 21] :: [] :: [.slot 23] :: [.slot 24] :: [.slot 22, .slot 25] :: [] :: [.slot 27] :: [.slot 28] :: [.slot 26, .slot 29] :: [] :: [.slot 30, .slot 31] :: [] :: [.slot 33] :: [.slot 32, .slot 34] :: [.slot 35] :: [])
          [.slot 36] (25 :: 26 :: 27 :: 28 :: 29 :: 30 :: 31 :: 32 :: 33 :: 34 :: 35 :: 36 :: 37 :: 38 :: 39 :: 40 :: 41 :: 42 :: 43 :: 44 :: 45 :: 46 :: 47 :: 48 :: 49 :: 50 :: 51 :: 52 :: 53 :: 54 :: 55 :: 56 :: 57 :: 58 :: 59 :: 60 :: 2 :: [])
          rfl (by kernel_rfl) ⟨rfl, rfl, rfl, trivial⟩ ((Below.refl _ Y).drew) (Nat.le_refl _) trivial trivial (below_GcW (Nat.le_refl _))
          ⟨
          (fun QQ aa ww own hS hBg fr kn => .inl ⟨trivial, fun K hK => wp_value (exec_fpk 4 (by decide) rfl fr.1) (hK _ _ ⟨Touch.refl _ _, rfl⟩)⟩),
          (fun QQ aa ww own hS hBg fr kn => .inl ⟨trivial, fun K hK => wp_value (exec_ld rfl kn.1 (ldP (pk_cls (SAt.kept y1 hS)))) (hK _ _ ⟨Touch.refl _ _, rfl⟩)⟩),
          (fun QQ aa ww own hS hBg fr kn => .inl ⟨trivial, fun K hK => wp_value (exec_shl20 rfl kn.1 rfl hcl.1 hcl.2) (hK _ _ ⟨Touch.refl _ _, rfl⟩)⟩),
          (fun QQ aa ww own hS hBg fr kn => .inl ⟨trivial, fun K hK => wp_value (exec_orI (i := 1610612736) (m := P.cls.toNat * 1048576) rfl rfl kn.1 (or_six1 (by omega)) (by decide) (by omega)) (hK _ _ ⟨Touch.refl _ _, rfl⟩)⟩),
          (fun QQ aa ww own hS hBg fr kn => .inl ⟨trivial, fun K hK => wp_value (exec_fpk 10 (by decide) rfl fr.1) (hK _ _ ⟨Touch.refl _ _, rfl⟩)⟩),
          (fun QQ aa ww own hS hBg fr kn => .inl ⟨trivial, fun K hK => wp_value (exec_ld rfl kn.1 (ldP (pk_flow (SAt.kept y1 hS)))) (hK _ _ ⟨Touch.refl _ _, rfl⟩)⟩),
          (fun QQ aa ww own hS hBg fr kn => .inl ⟨trivial, fun K hK => wp_value (exec_orI (i := 1610612736 + P.cls.toNat * 1048576) (m := P.flow.toNat) rfl kn.1 (kn.2.1.trans flz) (or_six2 (by omega)) (by omega) (by omega)) (hK _ _ ⟨Touch.refl _ _, rfl⟩)⟩),
          (fun QQ aa ww own hS hBg fr kn => .inl ⟨trivial, fun K hK => stepc en_put rfl (args2 kn.1 rfl) (put4N (1610612736 + P.cls.toNat * 1048576 + P.flow.toNat) ww (by omega)) (fun w' hb => hK _ _ ⟨touch_below hb, rfl⟩)⟩),
          (fun QQ aa ww own hS hBg fr kn => .inl ⟨trivial, fun K hK => wp_value (exec_ld rfl fr.2.1 (ldPs (one_cell (bheap hS y4 y4l)).1)) (hK _ _ ⟨Touch.refl _ _, rfl⟩)⟩),
          (fun QQ aa ww own hS hBg fr kn => .inl ⟨trivial, fun K hK => wp_value (exec_lenS rfl kn.1) (hK _ _ ⟨Touch.refl _ _, rfl⟩)⟩),
          (fun QQ aa ww own hS hBg fr kn => .inl ⟨trivial, fun K hK => wp_value (exec_fpk 13 (by decide) rfl fr.1) (hK _ _ ⟨Touch.refl _ _, rfl⟩)⟩),
          (fun QQ aa ww own hS hBg fr kn => .inl ⟨trivial, fun K hK => wp_value (exec_ld rfl kn.1 (ldPs (pk_pay (SAt.kept y1 hS)))) (hK _ _ ⟨Touch.refl _ _, rfl⟩)⟩),
          (fun QQ aa ww own hS hBg fr kn => .inl ⟨trivial, fun K hK => wp_value (exec_lenS rfl kn.1) (hK _ _ ⟨Touch.refl _ _, rfl⟩)⟩),
          (fun QQ aa ww own hS hBg fr kn => .inl ⟨trivial, fun K hK => wp_value (exec_addW (i := E.size) (m := P.pay.size) rfl kn.1 kn.2.1 rfl (by omega)) (hK _ _ ⟨Touch.refl _ _, rfl⟩)⟩),
          (fun QQ aa ww own hS hBg fr kn => .inl ⟨trivial, fun K hK => stepc en_put rfl (args2 kn.1 rfl) (put2N (E.size + P.pay.size) ww (by omega)) (fun w' hb => hK _ _ ⟨touch_below hb, rfl⟩)⟩),
          (fun QQ aa ww own hS hBg fr kn => .inl ⟨trivial, fun K hK => wp_value (exec_catS (s := putT (1610612736 + P.cls.toNat * 1048576 + P.flow.toNat) 4) (t := putT (E.size + P.pay.size) 2) rfl kn.1 kn.2.1 (cat_ok (Nat.le_of_eq (putT_size _ _)) (Nat.le_of_eq (putT_size _ _)) (by decide : 4 + 2 ≤ 9223372036854775807))) (hK _ _ ⟨Touch.refl _ _, rfl⟩)⟩),
          (fun QQ aa ww own hS hBg fr kn => .inl ⟨trivial, fun K hK => wp_value (exec_ld rfl fr.2.2.1 (ldP (one_cell (bheap hS y3 y3l)).1)) (hK _ _ ⟨Touch.refl _ _, rfl⟩)⟩),
          (fun QQ aa ww own hS hBg fr kn => .inl ⟨trivial, fun K hK => stepc en_put rfl (args2 kn.1 rfl) (put1_run k1 ww (by omega) (by omega)) (fun w' hb => hK _ _ ⟨touch_below hb, rfl⟩)⟩),
          (fun QQ aa ww own hS hBg fr kn => .inl ⟨trivial, fun K hK => wp_value (exec_catS (s := putT (1610612736 + P.cls.toNat * 1048576 + P.flow.toNat) 4 ++ (putT (E.size + P.pay.size) 2)) (t := putT k1.toNat 1) rfl kn.1 kn.2.1 (cat_ok (sz_app (Nat.le_of_eq (putT_size _ _)) (Nat.le_of_eq (putT_size _ _)) (by decide : 4 + 2 = 6)) (Nat.le_of_eq (putT_size _ _)) (by decide : 6 + 1 ≤ 9223372036854775807))) (hK _ _ ⟨Touch.refl _ _, rfl⟩)⟩),
          (fun QQ aa ww own hS hBg fr kn => .inl ⟨trivial, fun K hK => wp_value (exec_fpk 3 (by decide) rfl fr.1) (hK _ _ ⟨Touch.refl _ _, rfl⟩)⟩),
          (fun QQ aa ww own hS hBg fr kn => .inl ⟨trivial, fun K hK => wp_value (exec_ld rfl kn.1 (ldP (pk_hop (SAt.kept y1 hS)))) (hK _ _ ⟨Touch.refl _ _, rfl⟩)⟩),
          (fun QQ aa ww own hS hBg fr kn => .inl ⟨trivial, fun K hK => stepc en_put rfl (args2 kn.1 rfl) (put1_run P.hop ww (by omega) (by omega)) (fun w' hb => hK _ _ ⟨touch_below hb, rfl⟩)⟩),
          (fun QQ aa ww own hS hBg fr kn => .inl ⟨trivial, fun K hK => wp_value (exec_catS (s := putT (1610612736 + P.cls.toNat * 1048576 + P.flow.toNat) 4 ++ (putT (E.size + P.pay.size) 2) ++ (putT k1.toNat 1)) (t := putT P.hop.toNat 1) rfl kn.1 kn.2.1 (cat_ok (sz_app (sz_app (Nat.le_of_eq (putT_size _ _)) (Nat.le_of_eq (putT_size _ _)) (by decide : 4 + 2 = 6)) (Nat.le_of_eq (putT_size _ _)) (by decide : 6 + 1 = 7)) (Nat.le_of_eq (putT_size _ _)) (by decide : 7 + 1 ≤ 9223372036854775807))) (hK _ _ ⟨Touch.refl _ _, rfl⟩)⟩),
          (fun QQ aa ww own hS hBg fr kn => .inl ⟨trivial, fun K hK => wp_value (exec_fpk 0 (by decide) rfl fr.1) (hK _ _ ⟨Touch.refl _ _, rfl⟩)⟩),
          (fun QQ aa ww own hS hBg fr kn => .inl ⟨trivial, fun K hK => wp_value (exec_ld rfl kn.1 (ld_src (SAt.kept y1 hS))) (hK _ _ ⟨Touch.refl _ _, rfl⟩)⟩),
          (fun QQ aa ww own hS hBg fr kn => .inl ⟨trivial, fun K hK => stepc en_Bytes rfl (args1 kn.1) (Bytes_run P.sv P.sb ww hO.sb) (fun w' hb => hK _ _ ⟨touch_below hb, rfl⟩)⟩),
          (fun QQ aa ww own hS hBg fr kn => .inl ⟨trivial, fun K hK => wp_value (exec_catS (s := putT (1610612736 + P.cls.toNat * 1048576 + P.flow.toNat) 4 ++ (putT (E.size + P.pay.size) 2) ++ (putT k1.toNat 1) ++ (putT P.hop.toNat 1)) (t := bytT P.sv P.sb) rfl kn.1 kn.2.1 (cat_ok (sz_app (sz_app (sz_app (Nat.le_of_eq (putT_size _ _)) (Nat.le_of_eq (putT_size _ _)) (by decide : 4 + 2 = 6)) (Nat.le_of_eq (putT_size _ _)) (by decide : 6 + 1 = 7)) (Nat.le_of_eq (putT_size _ _)) (by decide : 7 + 1 = 8)) hy1 (by decide : 8 + 16 ≤ 9223372036854775807))) (hK _ _ ⟨Touch.refl _ _, rfl⟩)⟩),
          (fun QQ aa ww own hS hBg fr kn => .inl ⟨trivial, fun K hK => wp_value (exec_fpk 1 (by decide) rfl fr.1) (hK _ _ ⟨Touch.refl _ _, rfl⟩)⟩),
          (fun QQ aa ww own hS hBg fr kn => .inl ⟨trivial, fun K hK => wp_value (exec_ld rfl kn.1 (ld_dst (SAt.kept y1 hS))) (hK _ _ ⟨Touch.refl _ _, rfl⟩)⟩),
          (fun QQ aa ww own hS hBg fr kn => .inl ⟨trivial, fun K hK => stepc en_Bytes rfl (args1 kn.1) (Bytes_run P.dv P.db ww hO.db) (fun w' hb => hK _ _ ⟨touch_below hb, rfl⟩)⟩),
          (fun QQ aa ww own hS hBg fr kn => .inl ⟨trivial, fun K hK => wp_value (exec_catS (s := putT (1610612736 + P.cls.toNat * 1048576 + P.flow.toNat) 4 ++ (putT (E.size + P.pay.size) 2) ++ (putT k1.toNat 1) ++ (putT P.hop.toNat 1) ++ (bytT P.sv P.sb)) (t := bytT P.dv P.db) rfl kn.1 kn.2.1 (cat_ok (sz_app (sz_app (sz_app (sz_app (Nat.le_of_eq (putT_size _ _)) (Nat.le_of_eq (putT_size _ _)) (by decide : 4 + 2 = 6)) (Nat.le_of_eq (putT_size _ _)) (by decide : 6 + 1 = 7)) (Nat.le_of_eq (putT_size _ _)) (by decide : 7 + 1 = 8)) hy1 (by decide : 8 + 16 = 24)) hy2 (by decide : 24 + 16 ≤ 9223372036854775807))) (hK _ _ ⟨Touch.refl _ _, rfl⟩)⟩),
          (fun QQ aa ww own hS hBg fr kn => .inl ⟨trivial, fun K hK => wp_value (exec_ld rfl fr.2.1 (ldPs (one_cell (bheap hS y4 y4l)).1)) (hK _ _ ⟨Touch.refl _ _, rfl⟩)⟩),
          (fun QQ aa ww own hS hBg fr kn => .inl ⟨trivial, fun K hK => wp_value (exec_catS (s := putT (1610612736 + P.cls.toNat * 1048576 + P.flow.toNat) 4 ++ (putT (E.size + P.pay.size) 2) ++ (putT k1.toNat 1) ++ (putT P.hop.toNat 1) ++ (bytT P.sv P.sb) ++ (bytT P.dv P.db)) (t := E) rfl kn.1 kn.2.1 (cat_ok (sz_app (sz_app (sz_app (sz_app (sz_app (Nat.le_of_eq (putT_size _ _)) (Nat.le_of_eq (putT_size _ _)) (by decide : 4 + 2 = 6)) (Nat.le_of_eq (putT_size _ _)) (by decide : 6 + 1 = 7)) (Nat.le_of_eq (putT_size _ _)) (by decide : 7 + 1 = 8)) hy1 (by decide : 8 + 16 = 24)) hy2 (by decide : 24 + 16 = 40)) hzE (by decide : 40 + 9000 ≤ 9223372036854775807))) (hK _ _ ⟨Touch.refl _ _, rfl⟩)⟩),
          (fun QQ aa ww own hS hBg fr kn => .inl ⟨trivial, fun K hK => wp_value (exec_fpk 13 (by decide) rfl fr.1) (hK _ _ ⟨Touch.refl _ _, rfl⟩)⟩),
          (fun QQ aa ww own hS hBg fr kn => .inl ⟨trivial, fun K hK => wp_value (exec_ld rfl kn.1 (ldPs (pk_pay (SAt.kept y1 hS)))) (hK _ _ ⟨Touch.refl _ _, rfl⟩)⟩),
          (fun QQ aa ww own hS hBg fr kn => .inl ⟨trivial, fun K hK => wp_value (exec_catS (s := putT (1610612736 + P.cls.toNat * 1048576 + P.flow.toNat) 4 ++ (putT (E.size + P.pay.size) 2) ++ (putT k1.toNat 1) ++ (putT P.hop.toNat 1) ++ (bytT P.sv P.sb) ++ (bytT P.dv P.db) ++ E) (t := P.pay) rfl kn.1 kn.2.1 (cat_ok (sz_app (sz_app (sz_app (sz_app (sz_app (sz_app (Nat.le_of_eq (putT_size _ _)) (Nat.le_of_eq (putT_size _ _)) (by decide : 4 + 2 = 6)) (Nat.le_of_eq (putT_size _ _)) (by decide : 6 + 1 = 7)) (Nat.le_of_eq (putT_size _ _)) (by decide : 7 + 1 = 8)) hy1 (by decide : 8 + 16 = 24)) hy2 (by decide : 24 + 16 = 40)) hzE (by decide : 40 + 9000 = 9040)) hpy (by decide : 9040 + 65575 ≤ 9223372036854775807))) (hK _ _ ⟨Touch.refl _ _, rfl⟩)⟩),
          (fun QQ aa ww own hS hBg fr kn => .inl ⟨trivial, fun K hK => wp_value (exec_assign rfl kn.1) (hK _ _ ⟨Touch.refl _ _, rfl⟩)⟩),
          trivial⟩ ?_
      intro vs own Z hB9 hsz kn inj
      have e2 : vs 2 = .string (putT (1610612736 + P.cls.toNat * 1048576 + P.flow.toNat) 4 ++ (putT (E.size + P.pay.size) 2) ++ (putT k1.toNat 1) ++ (putT P.hop.toNat 1) ++ (bytT P.sv P.sb) ++ (bytT P.dv P.db) ++ E ++ P.pay) := kn.1
      clear kn inj hsz
      simp only [putAll, Act.put, List.setIfInBounds_toArray, List.set_cons_zero, List.set_cons_succ, e2]
      clear e2
      have hKZ := bheap hB9 hKD hDY
      have hBZ := hBY.trans (hB9.mono hBY.size)
      go_wp2_with fail
      refine postM_ret [D] rfl (fun F hF => by simp at hF; rw [hF]; exact hKZ) (by simp) (fun w' ht' hs' => ?_)
      refine ⟨.string SB, ?_, rfl, hBZ.trans (tou_below ht' (fun k hk => by simp at hk; have := hBc.size; omega) hBZ.size)⟩
      rw [HSB.out]
      simp [results, Tryd.results48]
set_option maxHeartbeats 16000000 in
theorem Build_run (P : Pk) (v : Value) (w : World) (h1 : ExAt w v P.exts) (hO : PkOk P) (hn : P.exts.length < 4611686018427387904) (hb : ∀ x ∈ P.exts, x.body.size ≤ 140737488355328) (hp : P.pay.size ≤ 140737488355328) : Calls Tryd.prog 39 #[.agg (SC 46 (pkV P v))] w fun e w' => e = .returned (.tuple #[.string (bldT P), .int .i64 (bldE P)]) ∧ Below w.heap.size w w' := by
  have HT : Hid (bldT P = if (rgtP P && fitP P) = true then (if P.sv = true then sixB P else fourB P) else ByteArray.empty) := Hid.mk rfl
  have HE : Hid (bldE P = if rgtP P = true then (if fitP P = true then 0 else 75) else 1) := Hid.mk rfl
  have HRI := Hid.mk (fun ww h => Right_run P v ww h hn hb)
  have HFI : Hid (rgtP P = true → ∀ ww, ExAt ww v P.exts → Calls Tryd.prog 47 #[.agg (SC 46 (pkV P v))] ww fun e w' => e = .returned (.bool (fitP P)) ∧ Below ww.heap.size ww w') := Hid.mk (fun hr ww h => fits_run P v ww h (by have := rgt_few hr; omega) (by have := rgt_few hr; omega) hp)
  have H6 : Hid (rgtP P = true → fitP P = true → P.sv = true → ∀ ww, ExAt ww v P.exts → Calls Tryd.prog 48 #[.agg (SC 46 (pkV P v))] ww fun e w' => e = .returned (.string (sixB P)) ∧ Below ww.heap.size ww w') := Hid.mk (fun hr hf h6 ww h => bytes6_run P v ww h hO hr hf h6)
  have H4 : Hid (rgtP P = true → fitP P = true → P.sv = false → ∀ ww, ExAt ww v P.exts → Calls Tryd.prog 49 #[.agg (SC 46 (pkV P v))] ww fun e w' => e = .returned (.string (fourB P)) ∧ Below ww.heap.size ww w') := Hid.mk (fun hr hf h4 ww h => bytes4_run P v ww h hO hr hf h4)
  generalize bldT P = T at *
  generalize bldE P = E at *
  generalize sixB P = S6 at *
  generalize fourB P = S4 at *
  generalize rgtP P = r at *
  generalize fitP P = f at *
  clear hn hb hp hO
  go_enter Tryd.func39, Tryd.ntmps39
  go_wp2_with (refine wl_boxO rfl rfl isPk (by rfl) ?_; intro g1 u2 hg1 q1 hB2; refine Hid.out ?_)
  refine Hid.mk ?_
  have hx1 := h1.kept hB2
  go_wp2_with (first | (refine wl_value rfl (look_st rfl isPk q1 (by rfl)) ?_) | (go_at_call 34; refine (HRI.out _ hx1).mono ?_; rintro e u3 ⟨rfl, hB3⟩; refine Hid.out ?_))
  refine Hid.mk ?_
  have hBa := hB2.trans (hB3.mono hB2.size)
  have q2 := SAt.kept q1 hB3
  have hx2 := hx1.kept hB3
  cases r
  · obtain rfl : T = ByteArray.empty := HT.out
    obtain rfl : E = 1 := HE.out
    go_wp2_with fail
    exact bodyPost_ret (results_two rfl (by rfl) (by rfl)) rfl ⟨rfl, hBa⟩
  · go_wp2_with (first | (refine wl_value rfl (look_st rfl isPk q2 (by rfl)) ?_) | (go_at_call 47; refine (HFI.out rfl _ hx2).mono ?_; rintro e u4 ⟨rfl, hB4⟩; refine Hid.out ?_))
    refine Hid.mk ?_
    have hBb := hBa.trans (hB4.mono hBa.size)
    have q3 := SAt.kept q2 hB4
    have hx3 := hx2.kept hB4
    cases f
    · obtain rfl : T = ByteArray.empty := HT.out
      obtain rfl : E = 75 := HE.out
      go_wp2_with fail
      exact bodyPost_ret (results_two rfl (by rfl) (by rfl)) rfl ⟨rfl, hBb⟩
    · obtain rfl : E = 0 := HE.out
      have s0 := pk_sv q3
      have HK6 : P.sv = true → ∀ ww, ExAt ww v P.exts → Calls Tryd.prog 48 #[.agg (SC 46 (pkV P v))] ww fun e w' => e = .returned (.string S6) ∧ Below ww.heap.size ww w' := by have := H6.out; simpa using this
      have HK4 : P.sv = false → ∀ ww, ExAt ww v P.exts → Calls Tryd.prog 49 #[.agg (SC 46 (pkV P v))] ww fun e w' => e = .returned (.string S4) ∧ Below ww.heap.size ww w' := by have := H4.out; simpa using this
      clear H6 H4
      rcases Bool.eq_false_or_eq_true P.sv with hsv | hsv
      · obtain rfl : T = S6 := by rw [HT.out, hsv]; rfl
        rw [hsv] at s0
        have h6c := Hid.mk (fun ww h => HK6 hsv ww h)
        go_wp2_with (first | (refine wl_value rfl (exec_fpk 0 (by decide) rfl (by rfl)) ?_) | (refine wl_value rfl (exec_fad0 rfl (by rfl)) ?_) | (refine wl_value rfl (exec_ld rfl (by rfl) (ldPb s0)) ?_) | (refine wl_value rfl (look_st rfl isPk q3 (by rfl)) ?_) | (go_at_call 48; refine (h6c.out _ hx3).mono ?_; rintro e u5 ⟨rfl, hB5⟩; refine Hid.out ?_))
        refine Hid.mk ?_
        go_wp2_with fail
        exact bodyPost_ret (results_two rfl (by rfl) (by rfl)) rfl ⟨rfl, hBb.trans (hB5.mono hBb.size)⟩
      · obtain rfl : T = S4 := by rw [HT.out, hsv]; rfl
        rw [hsv] at s0
        have h4c := Hid.mk (fun ww h => HK4 hsv ww h)
        go_wp2_with (first | (refine wl_value rfl (exec_fpk 0 (by decide) rfl (by rfl)) ?_) | (refine wl_value rfl (exec_fad0 rfl (by rfl)) ?_) | (refine wl_value rfl (exec_ld rfl (by rfl) (ldPb s0)) ?_) | (refine wl_value rfl (look_st rfl isPk q3 (by rfl)) ?_) | (go_at_call 49; refine (h4c.out _ hx3).mono ?_; rintro e u5 ⟨rfl, hB5⟩; refine Hid.out ?_))
        refine Hid.mk ?_
        go_wp2_with fail
        exact bodyPost_ret (results_two rfl (by rfl) (by rfl)) rfl ⟨rfl, hBb.trans (hB5.mono hBb.size)⟩
end Go.Proofs.YtojekoakgpkkdabDoor

/-
  Own text. Bytes of packets: the document's side.
-/
namespace Go.Proofs.YtojekoakgpkkdabDoor
open Go.RowKit Go.Proofs
set_option maxRecDepth 100000
def thr3 (s t u : ByteArray) : Nat → ByteArray
  | 0 => s
  | 1 => t
  | _ => u
end Go.Proofs.YtojekoakgpkkdabDoor

/-
  Own text. Messages of ICMP as plain data. No program is named here.
-/
namespace Go.Proofs.YtojekoakgpkkdabDoor
open Go.RowKit Go.Proofs
set_option maxRecDepth 100000
structure Ms where
  typ : Int
  code : Int
  rest : Nat
  body : ByteArray
def ms0 : Ms := ⟨0, 0, 0, ByteArray.empty⟩
def msV (m : Ms) : Nat → Value
  | 0 => .int .i64 m.typ
  | 1 => .int .i64 m.code
  | 2 => .int .u32 (m.rest : Int)
  | _ => .string m.body
theorem msV_one (m : Ms) (j : Nat) : (msV m j).oneCell' = true := by unfold msV; split <;> rfl
def endsB (v1 : Bool) (b1 : Nat → Int) (v2 : Bool) (b2 : Nat → Int) : Bool := validF v1 b1 && validF v2 b2 && (v1 == v2)
theorem ends_iff {v1 : Bool} {b1 : Nat → Int} {v2 : Bool} {b2 : Nat → Int} : endsB v1 b1 v2 b2 = true ↔ validF v1 b1 = true ∧ validF v2 b2 = true ∧ v1 = v2 := by
  unfold endsB
  simp [and_assoc]
/-- What stands ahead of a message for its checksum. -/
def psH (v : Bool) (b1 b2 : Nat → Int) (n : Nat) : ByteArray := if v = true then pseT v b1 v b2 58 n else ByteArray.empty
theorem psH_size {v : Bool} {b1 b2 : Nat → Int} (h1 : validF v b1 = true) (h2 : validF v b2 = true) (n : Nat) : (psH v b1 b2 n).size % 2 = 0 ∧ (psH v b1 b2 n).size ≤ 40 := by
  unfold psH
  cases v
  · rw [if_neg (by decide)]
    decide
  · rw [if_pos rfl]
    unfold pseT
    rw [if_pos rfl, ByteArray.size_append, ByteArray.size_append, ByteArray.size_append, bytT_len h1, bytT_len h2, putT_size, putT_size]
    decide
def laidT (v : Bool) (b1 b2 : Nat → Int) (a r : ByteArray) : ByteArray := a ++ putT (sumT (psH v b1 b2 (a.size + 2 + r.size) ++ a ++ r)).toNat 2 ++ r
theorem laid_size (v : Bool) (b1 b2 : Nat → Int) (a r : ByteArray) : (laidT v b1 b2 a r).size = a.size + 2 + r.size := by
  unfold laidT
  rw [ByteArray.size_append, ByteArray.size_append, putT_size]
def msOk (m : Ms) : Bool := upB m.typ 255 && upB m.code 255
def msA (m : Ms) : ByteArray := putT m.typ.toNat 1 ++ putT m.code.toNat 1
def msR (m : Ms) : ByteArray := putT m.rest 4 ++ m.body
def mBldE (v1 : Bool) (b1 : Nat → Int) (v2 : Bool) (b2 : Nat → Int) (m : Ms) : Int := if endsB v1 b1 v2 b2 = true ∧ msOk m = true then (if 65507 < m.body.size then 75 else 0) else 1
def mBldT (v1 : Bool) (b1 : Nat → Int) (v2 : Bool) (b2 : Nat → Int) (m : Ms) : ByteArray := if mBldE v1 b1 v2 b2 m = 0 then laidT v1 b1 b2 (msA m) (msR m) else ByteArray.empty
def mRdE (v1 : Bool) (b1 : Nat → Int) (v2 : Bool) (b2 : Nat → Int) (b : ByteArray) : Int := if endsB v1 b1 v2 b2 = true then (if b.size < 8 then 70 else if 65515 < b.size ∨ b ≠ laidT v1 b1 b2 (b.extract 0 2) (b.extract 4 b.size) then 73 else 0) else 1
def mRdM (v1 : Bool) (b1 : Nat → Int) (v2 : Bool) (b2 : Nat → Int) (b : ByteArray) : Ms := if mRdE v1 b1 v2 b2 b = 0 then ⟨txt b 0, txt b 1, getN (txt b) 4 4, b.extract 8 b.size⟩ else ms0
theorem msA_size (m : Ms) : (msA m).size = 2 := by
  unfold msA
  rw [ByteArray.size_append, putT_size, putT_size]
theorem msR_size (m : Ms) : (msR m).size = 4 + m.body.size := by
  unfold msR
  rw [ByteArray.size_append, putT_size]
/-- A message comes back. -/
theorem rd_bldM {v1 : Bool} {b1 : Nat → Int} {v2 : Bool} {b2 : Nat → Int} {m : Ms} (h : mBldE v1 b1 v2 b2 m = 0) (hr : m.rest < 4294967296) : mRdE v1 b1 v2 b2 (mBldT v1 b1 v2 b2 m) = 0 ∧ mRdM v1 b1 v2 b2 (mBldT v1 b1 v2 b2 m) = m := by
  have hT : mBldT v1 b1 v2 b2 m = laidT v1 b1 b2 (msA m) (msR m) := by unfold mBldT; rw [if_pos h]
  unfold mBldE at h
  split at h
  · rename_i hc
    split at h
    · cases h
    · rename_i hsz
      have hs : (laidT v1 b1 b2 (msA m) (msR m)).size = 8 + m.body.size := by rw [laid_size, msA_size, msR_size]; omega
      have hx2 : (laidT v1 b1 b2 (msA m) (msR m)).extract 0 2 = msA m := by
        unfold laidT
        rw [app_assoc, cutP_left _ _ (by rw [msA_size]; exact Nat.le_refl _)]
        have := cutP_all (msA m)
        rw [msA_size] at this
        exact this
      have hx4 : (laidT v1 b1 b2 (msA m) (msR m)).extract 4 (8 + m.body.size) = msR m := by
        unfold laidT
        have := cutP_right (msA m ++ putT (sumT (psH v1 b1 b2 ((msA m).size + 2 + (msR m).size) ++ msA m ++ msR m)).toNat 2) (msR m) (n := 4) (a := 0) (e := (msR m).size) (by rw [ByteArray.size_append, msA_size, putT_size]) (Nat.le_refl _)
        rw [cutP_all] at this
        have hq := msR_size m
        rw [show 8 + m.body.size = 4 + (msR m).size by omega]
        exact this
      have hE : mRdE v1 b1 v2 b2 (laidT v1 b1 b2 (msA m) (msR m)) = 0 := by
        unfold mRdE
        rw [if_pos hc.1, hs, if_neg (by omega), if_neg]
        rw [hx2, hx4]
        rintro (h1 | h1)
        · omega
        · exact h1 rfl
      rw [hT]
      refine ⟨hE, ?_⟩
      unfold mRdM
      rw [if_pos hE, hs]
      have hok := hc.2
      unfold msOk at hok
      rw [Bool.and_eq_true, upB_iff, upB_iff] at hok
      have ha : ∀ j, j < 2 → txt (laidT v1 b1 b2 (msA m) (msR m)) j = txt (msA m) j := fun j hj => by
        unfold laidT
        rw [app_assoc]
        exact txt_left _ _ (by rw [msA_size]; exact hj)
      have t0 : txt (msA m) 0 = m.typ := by
        unfold msA
        rw [txt_left _ _ (by rw [putT_size]; decide), put_one (by omega)]
        omega
      have t1 : txt (msA m) 1 = m.code := by
        unfold msA
        have := txt_right (putT m.typ.toNat 1) (putT m.code.toNat 1) (n := 1) (j := 0) (putT_size _ _)
        rw [show 1 + 0 = 1 from rfl] at this
        rw [this, put_one (by omega)]
        omega
      have hg : getN (txt (laidT v1 b1 b2 (msA m) (msR m))) 4 4 = m.rest := by
        have e := getN_cut (laidT v1 b1 b2 (msA m) (msR m)) (a := 4) (e := 8 + m.body.size) (b := 0) (z := 4) (by rw [hs]; exact Nat.le_refl _) (by omega)
        rw [hx4] at e
        rw [show 4 + 0 = 4 from rfl] at e
        rw [← e]
        unfold msR
        exact get_putP (by decide) hr _
      have hb : (laidT v1 b1 b2 (msA m) (msR m)).extract 8 (8 + m.body.size) = m.body := by
        have e := cutP_cut (laidT v1 b1 b2 (msA m) (msR m)) (a := 4) (e := 8 + m.body.size) (b := 4) (f := 4 + m.body.size) (by rw [hs]; exact Nat.le_refl _) (by omega)
        rw [hx4] at e
        rw [show 4 + 4 = 8 from rfl, show 4 + (4 + m.body.size) = 8 + m.body.size by omega] at e
        rw [← e]
        unfold msR
        have := cutP_right (putT m.rest 4) m.body (n := 4) (a := 0) (e := m.body.size) (putT_size _ _) (Nat.le_refl _)
        rw [cutP_all] at this
        exact this
      rw [ha 0 (by decide), ha 1 (by decide), t0, t1, hg, hb]
  · cases h
end Go.Proofs.YtojekoakgpkkdabDoor

/-
  Own text. Echoes, problems and what is told of a path, as plain data. No program is named here.
-/
namespace Go.Proofs.YtojekoakgpkkdabDoor
open Go.RowKit Go.Proofs
set_option maxRecDepth 100000
def protoK (v : Bool) : Int := if v = true then 58 else 1
def oneB (v : Bool) (b : Nat → Int) : Bool := validF v b && !noneF b && !groupF v b
def msgC (P : Pk) : Bool := rgtP P && !P.more && decide (P.off = 0) && decide (P.proto = protoK P.sv)
def msgE (P : Pk) : Int := mRdE P.sv P.sb P.dv P.db P.pay
def msgB (P : Pk) : Bool := msgC P && decide (msgE P = 0)
def msgM (P : Pk) : Ms := if msgC P = true then mRdM P.sv P.sb P.dv P.db P.pay else ms0
def pkOf (v1 : Bool) (b1 : Nat → Int) (v2 : Bool) (b2 : Nat → Int) (m : Ms) : Pk := ⟨v1, b1, v2, b2, protoK v1, 64, 0, 0, 0, false, false, ByteArray.empty, 0, [], false, mBldT v1 b1 v2 b2 m⟩
def askK (v : Bool) : Int := if v = true then 128 else 8
def sayK (v : Bool) : Int := if v = true then 129 else 0
def echoB (P : Pk) : Bool := msgB P && oneB P.sv P.sb && oneB P.dv P.db && decide ((msgM P).typ = askK P.sv) && decide ((msgM P).code = 0)
def echoP (P : Pk) : Pk := if echoB P = true then pkOf P.dv P.db P.sv P.sb ⟨sayK P.sv, 0, (msgM P).rest, (msgM P).body⟩ else zeroP
/-- Types and codes of the kinds. -/
def codT (v : Bool) (k : Int) : Int := if v = true then (if k = 3 ∨ k = 5 then 3 else if k = 4 then 2 else if k = 6 then 4 else 1) else (if k = 3 ∨ k = 5 then 11 else 3)
def codC (v : Bool) (k : Int) : Int := if v = true then (if k = 1 then 4 else if k = 5 ∨ k = 6 then 1 else 0) else (if k = 1 then 3 else if k = 2 ∨ k = 5 then 1 else if k = 4 then 4 else if k = 6 then 2 else 0)
def errB (v : Bool) (t : Int) : Bool := if v = true then decide (t < 128) else decide (t = 3) || decide (t = 4) || decide (t = 5) || decide (t = 11) || decide (t = 12)
def ansB (P : Pk) : Bool := !decide (P.proto = protoK P.sv) || (decide (P.pay.size ≠ 0) && !errB P.sv (txt P.pay 0))
def probB (k : Int) (fv : Bool) (fb : Nat → Int) (P : Pk) (mtu : Int) : Bool := upB (k - 1) 5 && oneB fv fb && (fv == P.sv) && rgtP P && fitP P && oneB P.sv P.sb && !groupF P.dv P.db && decide (P.off ≤ 0) && ansB P && upB mtu 65535
def quoN (P : Pk) : Nat := if P.sv = true then 1232 else 20 + P.opts.size + 8
def quoT (P : Pk) : ByteArray := (bldT P).extract 0 (min (quoN P) (bldT P).size)
def probM (k : Int) (P : Pk) (mtu : Int) : Ms := ⟨codT P.sv k, codC P.sv k, if k = 4 then mtu.toNat else if k = 6 ∧ P.sv = true then 6 else 0, quoT P⟩
def probP (k : Int) (fv : Bool) (fb : Nat → Int) (P : Pk) (mtu : Int) : Pk := if probB k fv fb P mtu = true then pkOf fv fb P.sv P.sb (probM k P mtu) else zeroP
def hdN (v : Bool) : Nat := if v = true then 40 else 20
def wdN (v : Bool) : Nat := if v = true then 16 else 4
theorem rgt_valid {P : Pk} (h : rgtP P = true) : validF P.sv P.sb = true ∧ validF P.dv P.db = true ∧ P.sv = P.dv := by
  unfold rgtP at h
  simp only [Bool.and_eq_true, beq_iff_eq] at h
  exact ⟨h.1.1.1.1.1.1.1.1, h.1.1.1.1.1.1.1.2, h.1.1.1.1.1.1.2⟩
theorem one_iff {v : Bool} {b : Nat → Int} : oneB v b = true ↔ validF v b = true ∧ noneF b = false ∧ groupF v b = false := by
  unfold oneB
  simp [and_assoc]
theorem msgM_ok {P : Pk} (h : msgB P = true) : msgM P = ⟨txt P.pay 0, txt P.pay 1, getN (txt P.pay) 4 4, P.pay.extract 8 P.pay.size⟩ ∧ rgtP P = true ∧ P.proto = protoK P.sv ∧ 8 ≤ P.pay.size ∧ P.pay.size ≤ 65515 := by
  unfold msgB at h
  rw [Bool.and_eq_true, decide_eq_true_eq] at h
  obtain ⟨h1, h2⟩ := h
  unfold msgM
  rw [if_pos h1]
  have h3 := h2
  unfold msgE at h2 h3
  unfold mRdM
  rw [if_pos h2]
  unfold msgC at h1
  simp only [Bool.and_eq_true, decide_eq_true_eq] at h1
  refine ⟨rfl, h1.1.1.1, h1.2, ?_⟩
  unfold mRdE at h3
  split at h3
  · split at h3
    · cases h3
    · split at h3
      · cases h3
      · rename_i _ h4 h5
        constructor
        · omega
        · exact Nat.le_of_not_lt (fun h => h5 (.inl h))
  · cases h3
theorem msg_rest {P : Pk} (h : msgB P = true) : (msgM P).rest < 4294967296 := by
  rw [(msgM_ok h).1]
  exact getN_lt (fun j => txt_b P.pay j) 4 4
/-- A packet of a message that may be: it may be, it has that message. -/
theorem pkOf_ok {v : Bool} {b1 b2 : Nat → Int} {m : Ms} (h1 : validF v b1 = true) (h2 : validF v b2 = true) (hm : msOk m = true) (hs : m.body.size ≤ 65507) (hr : m.rest < 4294967296) :
    rgtP (pkOf v b1 v b2 m) = true ∧ msgB (pkOf v b1 v b2 m) = true ∧ msgM (pkOf v b1 v b2 m) = m ∧ (pkOf v b1 v b2 m).pay.size = 8 + m.body.size := by
  have hE : mBldE v b1 v b2 m = 0 := by
    unfold mBldE
    rw [if_pos ⟨ends_iff.2 ⟨h1, h2, rfl⟩, hm⟩, if_neg (by omega)]
  have hR : rgtP (pkOf v b1 v b2 m) = true := by
    unfold rgtP pkOf
    dsimp only
    rw [h1, h2]
    cases v <;> simp (config := { decide := true }) [rgt4, rgt6, protoK, upB, exsOk, isHd, isEx]
  have hrd := rd_bldM hE hr
  have hC : msgC (pkOf v b1 v b2 m) = true := by
    unfold msgC
    rw [hR]
    simp [pkOf]
  have hB : msgB (pkOf v b1 v b2 m) = true := by
    unfold msgB
    rw [hC]
    have : msgE (pkOf v b1 v b2 m) = 0 := hrd.1
    simp [this]
  refine ⟨hR, hB, ?_, ?_⟩
  · unfold msgM
    rw [if_pos hC]
    exact hrd.2
  · show (mBldT v b1 v b2 m).size = _
    unfold mBldT
    rw [if_pos hE, laid_size, msA_size, msR_size]
    omega
theorem up_bounds {v : Bool} {t : Int} (h : t = askK v ∨ t = sayK v) : upB t 255 = true := by
  rw [upB_iff]
  rcases h with rfl | rfl <;> cases v <;> decide
theorem echo_ok {P : Pk} (h : echoB P = true) : rgtP (echoP P) = true ∧ echoB (echoP P) = false ∧ (echoP P).pay.size = P.pay.size ∧ echoP P = pkOf P.dv P.db P.sv P.sb ⟨sayK P.sv, 0, (msgM P).rest, (msgM P).body⟩ := by
  have hP : echoP P = pkOf P.dv P.db P.sv P.sb ⟨sayK P.sv, 0, (msgM P).rest, (msgM P).body⟩ := by unfold echoP; rw [if_pos h]
  unfold echoB at h
  simp only [Bool.and_eq_true, decide_eq_true_eq] at h
  obtain ⟨⟨⟨⟨hB, _⟩, _⟩, _⟩, _⟩ := h
  have hm := msgM_ok hB
  have hr := msg_rest hB
  have hv := rgt_valid hm.2.1
  have hbs : (msgM P).body.size = P.pay.size - 8 := by
    rw [hm.1]
    exact cutP_size P.pay 8 _ (Nat.le_refl _)
  have hsz : (msgM P).body.size ≤ 65507 := by omega
  have hok : msOk ⟨sayK P.sv, 0, (msgM P).rest, (msgM P).body⟩ = true := by
    unfold msOk
    rw [Bool.and_eq_true]
    exact ⟨up_bounds (v := P.sv) (.inr rfl), (by decide : upB 0 255 = true)⟩
  have hd : P.dv = P.sv := hv.2.2.symm
  rw [hd] at hP hv
  have hk := pkOf_ok (v := P.sv) (b1 := P.db) (b2 := P.sb) (m := ⟨sayK P.sv, 0, (msgM P).rest, (msgM P).body⟩) hv.2.1 hv.1 hok hsz hr
  rw [hP]
  refine ⟨hk.1, ?_, ?_, by rw [hd]⟩
  · unfold echoB
    rw [hk.2.2.1]
    have hne : (sayK P.sv = askK (pkOf P.sv P.db P.sv P.sb ⟨sayK P.sv, 0, (msgM P).rest, (msgM P).body⟩).sv) = False := by
      show (sayK P.sv = askK P.sv) = False
      cases P.sv <;> decide
    simp [hne]
  · rw [hk.2.2.2]
    show 8 + (msgM P).body.size = _
    omega
end Go.Proofs.YtojekoakgpkkdabDoor

/-
  Own text. What follows of problems: no error message is answered by one; what is told of a path is read back. No program is named here.
-/
namespace Go.Proofs.YtojekoakgpkkdabDoor
open Go.RowKit Go.Proofs
set_option maxRecDepth 100000
theorem bldT_of {P : Pk} (h : rgtP P = true) (h2 : fitP P = true) : bldT P = if P.sv = true then sixB P else fourB P := by
  unfold bldT
  rw [h, h2]
  rfl
theorem rgt4_of {P : Pk} (h : rgtP P = true) (h4 : P.sv = false) : P.opts.size % 4 = 0 ∧ P.opts.size ≤ 40 := by
  unfold rgtP at h
  rw [h4] at h
  unfold rgt4 at h
  simp only [Bool.and_eq_true, decide_eq_true_eq, Bool.false_eq_true, if_false] at h
  exact ⟨h.2.1.1.1.1.2, h.2.1.1.1.2⟩
theorem quoT_size (P : Pk) : (quoT P).size = min (quoN P) (bldT P).size := by
  unfold quoT
  rw [cutP_size _ 0 _ (Nat.min_le_right _ _)]
  omega
theorem prob_is {k : Int} {fv : Bool} {fb : Nat → Int} {P : Pk} {mtu : Int} (h : probB k fv fb P mtu = true) : (1 ≤ k ∧ k ≤ 6) ∧ validF fv fb = true ∧ fv = P.sv ∧ rgtP P = true ∧ fitP P = true ∧ 0 ≤ mtu ∧ mtu ≤ 65535 := by
  unfold probB at h
  simp only [Bool.and_eq_true, beq_iff_eq] at h
  obtain ⟨⟨⟨⟨⟨⟨⟨⟨⟨h1, h2⟩, h3⟩, h4⟩, h5⟩, _⟩, _⟩, _⟩, _⟩, h6⟩ := h
  have := upB_iff.1 h1
  have := upB_iff.1 h6
  exact ⟨by omega, (one_iff.1 h2).1, h3, h4, h5, by omega, by omega⟩
theorem cod_in (v : Bool) (k : Int) : (0 ≤ codT v k ∧ codT v k ≤ 255 ∧ errB v (codT v k) = true ∧ codT v k ≠ askK v) ∧ 0 ≤ codC v k ∧ codC v k ≤ 255 := by
  unfold codT codC errB askK
  cases v
  · simp only [Bool.false_eq_true, if_false]
    constructor
    · split <;> decide
    · repeat' split
      all_goals decide
  · simp only [if_true]
    constructor
    · repeat' split
      all_goals decide
    · repeat' split
      all_goals decide
theorem prob_ok {k : Int} {fv : Bool} {fb : Nat → Int} {P : Pk} {mtu : Int} (h : probB k fv fb P mtu = true) : probP k fv fb P mtu = pkOf P.sv fb P.sv P.sb (probM k P mtu) ∧ rgtP (probP k fv fb P mtu) = true ∧ msgB (probP k fv fb P mtu) = true ∧ msgM (probP k fv fb P mtu) = probM k P mtu := by
  have hi := prob_is h
  have hP : probP k fv fb P mtu = pkOf P.sv fb P.sv P.sb (probM k P mtu) := by
    unfold probP
    rw [if_pos h, hi.2.2.1]
  have hc := cod_in P.sv k
  have hok : msOk (probM k P mtu) = true := by
    unfold msOk
    rw [Bool.and_eq_true, upB_iff, upB_iff]
    exact ⟨⟨hc.1.1, hc.1.2.1⟩, hc.2⟩
  have hsz : (probM k P mtu).body.size ≤ 65507 := by
    show (quoT P).size ≤ 65507
    rw [quoT_size]
    have : quoN P ≤ 1232 ∨ P.sv = false := by
      unfold quoN
      cases P.sv
      · exact .inr rfl
      · exact .inl (show 1232 ≤ 1232 from Nat.le_refl _)
    rcases this with h | h
    · omega
    · have := rgt4_of hi.2.2.2.1 h
      have : quoN P = 20 + P.opts.size + 8 := by unfold quoN; rw [h]; rfl
      omega
  have hr : (probM k P mtu).rest < 4294967296 := by
    show (if k = 4 then mtu.toNat else if k = 6 ∧ P.sv = true then 6 else 0) < 4294967296
    split
    · omega
    · split <;> decide
  have hv := rgt_valid hi.2.2.2.1
  have hk := pkOf_ok (v := P.sv) (b1 := fb) (b2 := P.sb) (by rw [← hi.2.2.1]; exact hi.2.1) hv.1 hok hsz hr
  rw [hP]
  exact ⟨rfl, hk.1, hk.2.1, hk.2.2.1⟩
end Go.Proofs.YtojekoakgpkkdabDoor

/-
  Own text. Messages, versions and problems in memory; laws of single operations.
-/
namespace Go.Proofs.YtojekoakgpkkdabDoor
open Go.RowKit Go.Proofs
set_option maxRecDepth 100000
theorem isMs : IsSt 66 4 := ⟨_, Tryd.underlying66, rfl, by kernel_rfl⟩
theorem zeroMs (w : World) : (zeroValue 66).run Tryd.prog w = .ok (.agg (SC 4 (msV ms0))) w := by kernel_rfl
/-- What an error message says of its kind. -/
def erV (v : Bool) (k : Nat) : Nat → Value
  | 0 => .int .i64 (if k = 0 then 0 else codT v (k : Int))
  | 1 => .int .i64 (if k = 0 then 0 else codC v (k : Int))
  | _ => .int .u32 (((if k = 6 ∧ v = true then 6 else 0 : Nat)) : Int)
theorem erV_one (v : Bool) (k j : Nat) : (erV v k j).oneCell' = true := by unfold erV; split <;> rfl
def leastK (v : Bool) : Int := if v = true then 1280 else 576
def verV (v : Bool) (j : Nat) : Value := if j = 0 then .int .i64 (protoK v) else if j = 1 then .int .u8 (if v = true then 6 else 4) else if j = 2 then .int .i64 (hdN v : Int) else if j = 3 then .int .i64 (wdN v : Int) else if j = 4 then .int .i64 (leastK v) else if j = 5 then .int .i64 (askK v) else if j = 6 then .int .i64 (sayK v) else erV v ((j - 7) / 3) ((j - 7) % 3)
theorem verV_one (v : Bool) (j : Nat) : (verV v j).oneCell' = true := by
  unfold verV
  repeat' split
  all_goals first | rfl | exact erV_one _ _ _
theorem isVe : IsSt 55 28 := ⟨_, Tryd.underlying55, rfl, by kernel_rfl⟩
theorem isEr : IsSt 52 3 := ⟨_, Tryd.underlying52, rfl, by kernel_rfl⟩
theorem zeroVe (w : World) : (zeroValue 55).run Tryd.prog w = .ok (.agg (SC 28 (fun j => if j = 1 then .int .u8 0 else if j < 7 then .int .i64 0 else if j % 3 = 0 then .int .u32 0 else .int .i64 0))) w := by kernel_rfl
theorem zeroEr (w : World) : (zeroValue 52).run Tryd.prog w = .ok (.agg (SC 3 (erV false 0))) w := by kernel_rfl
/-- What the package's variables hold. -/
def Env (w : World) : Prop := (∀ j, j < 28 → w.cell? ⟨1, j, none⟩ = some (verV false j)) ∧ (∀ j, j < 28 → w.cell? ⟨0, j, none⟩ = some (verV true j)) ∧ ∀ j, j < 5 → w.cell? ⟨2, j, none⟩ = some (.int .u8 (([3, 4, 5, 11, 12] : List Int).getD j 0))
theorem Env.kept {w w' : World} (h : Env w) (hb : Below w.heap.size w w') : Env w' := by
  have h4 : 1 < w.heap.size := World.block_lt_of_cell? w _ (h.1 0 (by decide))
  have h6 : 0 < w.heap.size := World.block_lt_of_cell? w _ (h.2.1 0 (by decide))
  have h5 : 2 < w.heap.size := World.block_lt_of_cell? w _ (h.2.2 0 (by decide))
  exact ⟨fun j hj => (World.cell?_of_block (hb.block _ h4)).trans (h.1 j hj), fun j hj => (World.cell?_of_block (hb.block _ h6)).trans (h.2.1 j hj), fun j hj => (World.cell?_of_block (hb.block _ h5)).trans (h.2.2 j hj)⟩
theorem ld_cells {w : World} {g n : Nat} {ty : TypeId} {V : Nat → Value} (hA : IsSt ty n) (h : ∀ j, j < n → w.cell? ⟨g, j, none⟩ = some (V j)) : (Instr.loadAt ty (.pointer (some ⟨g, 0, none⟩))).run Tryd.prog w = .ok (.agg (SC n V)) w := by
  obtain ⟨u, h1, h2, h3⟩ := hA
  refine run_loadAt_addr w ⟨g, 0, none⟩ ty ((List.range n).map V) _ (fun j y hj => ?_) h1 (by cases u <;> first | rfl | exact h2) (by rw [List.length_map, List.length_range]; exact h3)
  rw [List.getElem?_map] at hj
  have hl : j < n := by
    rcases Nat.lt_or_ge j n with h | h
    · exact h
    · rw [List.getElem?_eq_none (by simpa using h)] at hj; cases hj
  rw [List.getElem?_range hl] at hj
  rw [Addr.add_lit, Nat.zero_add, h j hl]
  exact hj
section
variable {a : Act} {o : Oper} {w : World} {x y : Operand}
theorem exec_ldV4 (hE : Env w) (ho : o.op = .load 55 (.global 1)) : (execOp a.eval o).run Tryd.prog w = .ok (.value (.agg (SC 28 (verV false)))) w := exec_ld (x := .global 1) ho (by rfl) (ld_cells isVe hE.1)
theorem exec_ldV6 (hE : Env w) (ho : o.op = .load 55 (.global 0)) : (execOp a.eval o).run Tryd.prog w = .ok (.value (.agg (SC 28 (verV true)))) w := exec_ld (x := .global 0) ho (by rfl) (ld_cells isVe hE.2.1)
theorem exec_fms (k : Nat) (hk : k < 4) (ho : o.op = .fieldAddr 66 x k) {g : Nat} (hx : a.eval x = .pointer (some ⟨g, 0, none⟩)) : (execOp a.eval o).run Tryd.prog w = .ok (.value (.pointer (some ⟨g, k, none⟩))) w := by
  have h : (Instr.fieldAt 66 (.pointer (some ⟨g, 0, none⟩)) k).run Tryd.prog w = .ok (.pointer (some ⟨g, k, none⟩)) w := by
    match k, hk with
    | 0, _ => simp [go_sem]
    | 1, _ => simp [go_sem]
    | 2, _ => simp [go_sem]
    | 3, _ => simp [go_sem]
  unfold execOp
  simp only [ho, hx, Sem.run_bind, h, Result.andThen_ok, Sem.run_pure]
theorem exec_fer (k : Nat) (hk : k < 3) (ho : o.op = .fieldAddr 52 x k) {g : Nat} (hx : a.eval x = .pointer (some ⟨g, 0, none⟩)) : (execOp a.eval o).run Tryd.prog w = .ok (.value (.pointer (some ⟨g, k, none⟩))) w := by
  have h : (Instr.fieldAt 52 (.pointer (some ⟨g, 0, none⟩)) k).run Tryd.prog w = .ok (.pointer (some ⟨g, k, none⟩)) w := by
    match k, hk with
    | 0, _ => simp [go_sem]
    | 1, _ => simp [go_sem]
    | 2, _ => simp [go_sem]
  unfold execOp
  simp only [ho, hx, Sem.run_bind, h, Result.andThen_ok, Sem.run_pure]
theorem exec_fve (k : Nat) (hk : k < 8) (ho : o.op = .fieldAddr 55 x k) {g : Nat} (hx : a.eval x = .pointer (some ⟨g, 0, none⟩)) : (execOp a.eval o).run Tryd.prog w = .ok (.value (.pointer (some ⟨g, k, none⟩))) w := by
  have h : (Instr.fieldAt 55 (.pointer (some ⟨g, 0, none⟩)) k).run Tryd.prog w = .ok (.pointer (some ⟨g, k, none⟩)) w := by
    match k, hk with
    | 0, _ => simp [go_sem]
    | 1, _ => simp [go_sem]
    | 2, _ => simp [go_sem]
    | 3, _ => simp [go_sem]
    | 4, _ => simp [go_sem]
    | 5, _ => simp [go_sem]
    | 6, _ => simp [go_sem]
    | 7, _ => simp [go_sem]
  unfold execOp
  simp only [ho, hx, Sem.run_bind, h, Result.andThen_ok, Sem.run_pure]
theorem run_fv0 (v : Bool) (w : World) : (Instr.field 55 (.agg (SC 28 (verV v))) 0).run Tryd.prog w = .ok (.int .i64 (protoK v)) w := by kernel_rfl
theorem exec_fv0 (ho : o.op = .field 55 x 0) {v : Bool} (hx : a.eval x = .agg (SC 28 (verV v))) : (execOp a.eval o).run Tryd.prog w = .ok (.value (.int .i64 (protoK v))) w := by
  unfold execOp
  simp only [ho, hx, Sem.run_bind, run_fv0, Result.andThen_ok, Sem.run_pure]
theorem run_fv4 (v : Bool) (w : World) : (Instr.field 55 (.agg (SC 28 (verV v))) 4).run Tryd.prog w = .ok (.int .i64 (leastK v)) w := by kernel_rfl
theorem exec_fv4 (ho : o.op = .field 55 x 4) {v : Bool} (hx : a.eval x = .agg (SC 28 (verV v))) : (execOp a.eval o).run Tryd.prog w = .ok (.value (.int .i64 (leastK v))) w := by
  unfold execOp
  simp only [ho, hx, Sem.run_bind, run_fv4, Result.andThen_ok, Sem.run_pure]
theorem run_fv7 (v : Bool) (w : World) : (Instr.field 55 (.agg (SC 28 (verV v))) 7).run Tryd.prog w = .ok (.agg (SC 21 fun j => verV v (7 + j))) w := by kernel_rfl
theorem exec_fv7 (ho : o.op = .field 55 x 7) {v : Bool} (hx : a.eval x = .agg (SC 28 (verV v))) : (execOp a.eval o).run Tryd.prog w = .ok (.value (.agg (SC 21 fun j => verV v (7 + j)))) w := by
  unfold execOp
  simp only [ho, hx, Sem.run_bind, run_fv7, Result.andThen_ok, Sem.run_pure]
theorem run_ixv0 (v : Bool) (w : World) : (Instr.index 53 (.agg (SC 21 fun j => verV v (7 + j))) (.int .i64 0)).run Tryd.prog w = .ok (.agg (SC 3 (erV v 0))) w := by kernel_rfl
theorem run_ixv1 (v : Bool) (w : World) : (Instr.index 53 (.agg (SC 21 fun j => verV v (7 + j))) (.int .i64 1)).run Tryd.prog w = .ok (.agg (SC 3 (erV v 1))) w := by kernel_rfl
theorem run_ixv2 (v : Bool) (w : World) : (Instr.index 53 (.agg (SC 21 fun j => verV v (7 + j))) (.int .i64 2)).run Tryd.prog w = .ok (.agg (SC 3 (erV v 2))) w := by kernel_rfl
theorem run_ixv3 (v : Bool) (w : World) : (Instr.index 53 (.agg (SC 21 fun j => verV v (7 + j))) (.int .i64 3)).run Tryd.prog w = .ok (.agg (SC 3 (erV v 3))) w := by kernel_rfl
theorem run_ixv4 (v : Bool) (w : World) : (Instr.index 53 (.agg (SC 21 fun j => verV v (7 + j))) (.int .i64 4)).run Tryd.prog w = .ok (.agg (SC 3 (erV v 4))) w := by kernel_rfl
theorem run_ixv5 (v : Bool) (w : World) : (Instr.index 53 (.agg (SC 21 fun j => verV v (7 + j))) (.int .i64 5)).run Tryd.prog w = .ok (.agg (SC 3 (erV v 5))) w := by kernel_rfl
theorem run_ixv6 (v : Bool) (w : World) : (Instr.index 53 (.agg (SC 21 fun j => verV v (7 + j))) (.int .i64 6)).run Tryd.prog w = .ok (.agg (SC 3 (erV v 6))) w := by kernel_rfl
theorem run_ixv (v : Bool) (k : Nat) (hk : k < 7) (w : World) : (Instr.index 53 (.agg (SC 21 fun j => verV v (7 + j))) (.int .i64 (k : Int))).run Tryd.prog w = .ok (.agg (SC 3 (erV v k))) w := by
  match k, hk with
  | 0, _ => exact run_ixv0 v w
  | 1, _ => exact run_ixv1 v w
  | 2, _ => exact run_ixv2 v w
  | 3, _ => exact run_ixv3 v w
  | 4, _ => exact run_ixv4 v w
  | 5, _ => exact run_ixv5 v w
  | 6, _ => exact run_ixv6 v w
theorem exec_ixv {k : Nat} (ho : o.op = .index 53 x y) {v : Bool} (hx : a.eval x = .agg (SC 21 fun j => verV v (7 + j))) (hy : a.eval y = .int .i64 (k : Int)) (hk : k < 7) : (execOp a.eval o).run Tryd.prog w = .ok (.value (.agg (SC 3 (erV v k)))) w := by
  unfold execOp
  simp only [ho, hx, hy, Sem.run_bind, run_ixv v k hk, Result.andThen_ok, Sem.run_pure]
theorem exec_cv32U (ho : o.op = .convert 50 79 x) {m : Nat} (hx : a.eval x = .int .u32 (m : Int)) (h1 : m < 4294967296) : (execOp a.eval o).run Tryd.prog w = .ok (.value (.int .u64 (m : Int))) w := by
  have e : IntKind.u64.wrap (m : Int) = (m : Int) := by rw [IntKind.wrap_u64]; omega
  unfold execOp
  simp only [ho, hx]
  simp [go_sem, e]
theorem exec_cvU32 (ho : o.op = .convert 79 50 x) {m : Nat} (hx : a.eval x = .int .u64 (m : Int)) (h1 : m < 4294967296) : (execOp a.eval o).run Tryd.prog w = .ok (.value (.int .u32 (m : Int))) w := by
  have e : IntKind.u32.wrap (m : Int) = (m : Int) := by rw [IntKind.wrap_u32]; omega
  unfold execOp
  simp only [ho, hx]
  simp [go_sem, e]
theorem exec_cvI32 (ho : o.op = .convert 3 50 x) {m : Int} (hx : a.eval x = .int .i64 m) (h0 : 0 ≤ m) (h1 : m < 4294967296) : (execOp a.eval o).run Tryd.prog w = .ok (.value (.int .u32 ((m.toNat : Nat) : Int))) w := by
  have e : IntKind.u32.wrap m = ((m.toNat : Nat) : Int) := by rw [IntKind.wrap_u32]; omega
  unfold execOp
  simp only [ho, hx]
  simp [go_sem, e]
theorem run_bdMs0 (w : World) : (Instr.build 66 #[]).run Tryd.prog w = .ok (.agg (SC 4 (msV ms0))) w := by kernel_rfl
theorem exec_bdMs0 (ho : o.op = .build 66 #[]) : (execOp a.eval o).run Tryd.prog w = .ok (.value (.agg (SC 4 (msV ms0)))) w := by
  unfold execOp
  simp only [ho, List.map_toArray, List.map_nil, Sem.run_bind, run_bdMs0, Result.andThen_ok, Sem.run_pure]
theorem run_bdMs (m : Ms) (w : World) : (Instr.build 66 #[(0, .int .i64 m.typ), (1, .int .i64 m.code), (2, .int .u32 (m.rest : Int)), (3, .string m.body)]).run Tryd.prog w = .ok (.agg (SC 4 (msV m))) w := by kernel_rfl
theorem exec_bdMs {x0 x1 x2 x3 : Operand} (m : Ms) (ho : o.op = .build 66 #[(0, x0), (1, x1), (2, x2), (3, x3)]) (h0 : a.eval x0 = .int .i64 m.typ) (h1 : a.eval x1 = .int .i64 m.code) (h2 : a.eval x2 = .int .u32 (m.rest : Int)) (h3 : a.eval x3 = .string m.body) : (execOp a.eval o).run Tryd.prog w = .ok (.value (.agg (SC 4 (msV m)))) w := by
  unfold execOp
  simp only [ho, List.map_toArray, List.map_cons, List.map_nil, h0, h1, h2, h3, Sem.run_bind, run_bdMs, Result.andThen_ok, Sem.run_pure]
theorem run_bdPo (v1 : Bool) (b1 : Nat → Int) (v2 : Bool) (b2 : Nat → Int) (n : Int) (s : ByteArray) (w : World) : (Instr.build 39 #[(0, .agg (SC 17 (adV v1 b1))), (1, .agg (SC 17 (adV v2 b2))), (2, .int .i64 n), (3, .int .i64 64), (13, .string s)]).run Tryd.prog w = .ok (.agg (SC 46 (pkV ⟨v1, b1, v2, b2, n, 64, 0, 0, 0, false, false, ByteArray.empty, 0, [], false, s⟩ (.slice none 0 0)))) w := by kernel_rfl
theorem ldI {p : Addr} {n : Int} (h : w.cell? p = some (.int .i64 n)) : (Instr.loadAt 3 (.pointer (some p))).run Tryd.prog w = .ok (.int .i64 n) w := by simp [go_sem, h]
theorem ldB {p : Addr} {b : Bool} (h : w.cell? p = some (.bool b)) : (Instr.loadAt 4 (.pointer (some p))).run Tryd.prog w = .ok (.bool b) w := by simp [go_sem, h]
theorem ldS {p : Addr} {s : ByteArray} (h : w.cell? p = some (.string s)) : (Instr.loadAt 9 (.pointer (some p))).run Tryd.prog w = .ok (.string s) w := by simp [go_sem, h]
theorem ld32 {p : Addr} {n : Int} (h : w.cell? p = some (.int .u32 n)) : (Instr.loadAt 50 (.pointer (some p))).run Tryd.prog w = .ok (.int .u32 n) w := by simp [go_sem, h]
theorem exec_minI (ho : o.op = .call { callee := .builtin .min, args := #[x, y], argTypes := #[3, 3] }) {m n : Nat} (hx : a.eval x = .int .i64 (m : Int)) (hy : a.eval y = .int .i64 (n : Int)) : (execOp a.eval o).run Tryd.prog w = .ok (.value (.int .i64 ((min m n : Nat) : Int))) w := by
  have hr : (Builtin.min_ #[3, 3] o.type #[.int .i64 (m : Int), .int .i64 (n : Int)]).run Tryd.prog w = .ok (.int .i64 ((min m n : Nat) : Int)) w := by
    by_cases h : m ≤ n
    · rw [Nat.min_eq_left h]; simp [go_sem]; omega
    · rw [Nat.min_eq_right (by omega)]; simp [go_sem]; omega
  simp [execOp, ho, resolve, invoke, builtin, hx, hy, hr]
/-- A comparison whose outcome is known. -/
theorem kn_ {b c : Bool} (hb : Hid (b = c)) (h : (execOp a.eval o).run Tryd.prog w = .ok (.value (.bool b)) w) : (execOp a.eval o).run Tryd.prog w = .ok (.value (.bool c)) w := by rw [h, hb.out]
theorem kn_n {b c : Bool} (hb : Hid (b = !c)) (h : (execOp a.eval o).run Tryd.prog w = .ok (.value (.bool (!b))) w) : (execOp a.eval o).run Tryd.prog w = .ok (.value (.bool c)) w := by rw [h, hb.out, Bool.not_not]
end
section
variable {g f : Nat} {c : Value}
theorem sI (n : Int) : ∀ w : World, w.cell? ⟨g, f, none⟩ = some c → w.frozen? ⟨g, f, none⟩ = false → (Instr.storeAt 3 (.pointer (some ⟨g, f, none⟩)) (.int .i64 n)).run Tryd.prog w = .ok () (w.setCell ⟨g, f, none⟩ (.int .i64 n)) := fun w h1 h2 => by simp [go_sem, h1, h2]
theorem s32 (n : Int) : ∀ w : World, w.cell? ⟨g, f, none⟩ = some c → w.frozen? ⟨g, f, none⟩ = false → (Instr.storeAt 50 (.pointer (some ⟨g, f, none⟩)) (.int .u32 n)).run Tryd.prog w = .ok () (w.setCell ⟨g, f, none⟩ (.int .u32 n)) := fun w h1 h2 => by simp [go_sem, h1, h2]
end
/-- A field is written. -/
theorem wl_sF {ops : Array Oper} {rest : List Oper} {o : Oper} {a : Act} {w : World} {x y : Operand} {Q : Exit → Act → World → Prop} {t ty : TypeId} {n g f : Nat} {V V' : Nat → Value} {z : Value} (ho : o.op = .store t x y) (hw : Region.wanted o (yielded ops a.tmps) = true) (hx : a.eval x = .pointer (some ⟨g, f, none⟩)) (hy : a.eval y = z) (hf : f < n)
    (hr : ∀ w : World, w.cell? ⟨g, f, none⟩ = some (V f) → w.frozen? ⟨g, f, none⟩ = false → (Instr.storeAt t (.pointer (some ⟨g, f, none⟩)) z).run Tryd.prog w = .ok () (w.setCell ⟨g, f, none⟩ z)) (hg : SAt w g ty n V) (hV : ∀ i, i < n → (if i = f then z else V i) = V' i)
    (h : ∀ w', SAt w' g ty n V' → Only g w w' → wpList Tryd.prog ops Q rest (a.put o.dst undef) w') : wpList Tryd.prog ops Q (o :: rest) a w := by
  refine wl_act hw ?_
  have hr' := hr w (hg.at f hf) (frozen_of_row w _ f _ _ hg)
  unfold Oper.wp execOp
  simp only [ho, hx, hy, Sem.run_bind, hr', Result.andThen_ok, Sem.run_pure, Oper.upon]
  exact h _ ((hg.set f z hf).congr hV) only_set
theorem up2 {V V' : Nat → Value} {f : Nat} {z : Value} (h : (if 0 = f then z else V 0) = V' 0 ∧ (if 1 = f then z else V 1) = V' 1) : ∀ i, i < 2 → (if i = f then z else V i) = V' i := fun i hi => by
  match i, hi with
  | 0, _ => exact h.1
  | 1, _ => exact h.2
theorem up3 {V V' : Nat → Value} {f : Nat} {z : Value} (h : (if 0 = f then z else V 0) = V' 0 ∧ (if 1 = f then z else V 1) = V' 1 ∧ (if 2 = f then z else V 2) = V' 2) : ∀ i, i < 3 → (if i = f then z else V i) = V' i := fun i hi => by
  match i, hi with
  | 0, _ => exact h.1
  | 1, _ => exact h.2.1
  | 2, _ => exact h.2.2
theorem up4 {V V' : Nat → Value} {f : Nat} {z : Value} (h : (if 0 = f then z else V 0) = V' 0 ∧ (if 1 = f then z else V 1) = V' 1 ∧ (if 2 = f then z else V 2) = V' 2 ∧ (if 3 = f then z else V 3) = V' 3) : ∀ i, i < 4 → (if i = f then z else V i) = V' i := fun i hi => by
  match i, hi with
  | 0, _ => exact h.1
  | 1, _ => exact h.2.1
  | 2, _ => exact h.2.2.1
  | 3, _ => exact h.2.2.2
end Go.Proofs.YtojekoakgpkkdabDoor

/-
  Own text. What the tied condition on the versions and the errors gives.
-/
namespace Go.Proofs.YtojekoakgpkkdabDoor
open Go.ChangeShapes Go.WideShapes Go.ChangeAt Go.WideMaps Go.WideElems Go.RowKit Go.Proofs
set_option maxRecDepth 100000
theorem own : ownKnob Tryd.prog.godebug = none := by kernel_rfl
def laidP : List (String × DataW Unit) := Rows.icmpFewRow.laid
theorem door_met (os : Os) (args : Array Value) : laidMet Tryd.prog laidP ((World.doorLaid Tryd.prog 400 os).forCall (fun _ _ => 0) ⟨#[], args, []⟩).memory :=
  laidMet_of_run' 8 (by kernel_rfl) (by kernel_rfl)
theorem g4V : Tryd.prog.globalNamed "adit/icmp.version4" = some 1 := by kernel_rfl
theorem g6V : Tryd.prog.globalNamed "adit/icmp.version6" = some 0 := by kernel_rfl
theorem gErr : Tryd.prog.globalNamed "adit/icmp.errors4" = some 2 := by kernel_rfl
theorem t4V : (Tryd.prog.globals[1]?).map (·.type) = some 55 := by kernel_rfl
theorem t6V : (Tryd.prog.globals[0]?).map (·.type) = some 55 := by kernel_rfl
theorem tErr : (Tryd.prog.globals[2]?).map (·.type) = some 93 := by kernel_rfl
theorem zcIn : Tryd.prog.cellsOf 3 = 1 := by kernel_rfl
theorem zc8 : Tryd.prog.cellsOf 5 = 1 := by kernel_rfl
theorem zc32 : Tryd.prog.cellsOf 50 = 1 := by kernel_rfl
theorem zcPr : Tryd.prog.cellsOf 52 = 3 := by kernel_rfl
theorem zcP7 : Tryd.prog.cellsOf 53 = 21 := by kernel_rfl
theorem veF : ∃ f0 f1 f2 f3 f4 f5 f6 f7 : Field, Tryd.prog.underlying 55 = some (.struct #[f0, f1, f2, f3, f4, f5, f6, f7]) ∧ (f0.type = 3 ∧ f0.offset = 0) ∧ (f1.type = 5 ∧ f1.offset = 1) ∧ (f2.type = 3 ∧ f2.offset = 2) ∧ (f3.type = 3 ∧ f3.offset = 3) ∧ (f4.type = 3 ∧ f4.offset = 4) ∧ (f5.type = 3 ∧ f5.offset = 5) ∧ (f6.type = 3 ∧ f6.offset = 6) ∧ (f7.type = 53 ∧ f7.offset = 7) := ⟨_, _, _, _, _, _, _, _, Tryd.underlying55, ⟨rfl, rfl⟩, ⟨rfl, rfl⟩, ⟨rfl, rfl⟩, ⟨rfl, rfl⟩, ⟨rfl, rfl⟩, ⟨rfl, rfl⟩, ⟨rfl, rfl⟩, ⟨rfl, rfl⟩⟩
theorem prF : ∃ f0 f1 f2 : Field, Tryd.prog.underlying 52 = some (.struct #[f0, f1, f2]) ∧ (f0.type = 3 ∧ f0.offset = 0) ∧ (f1.type = 3 ∧ f1.offset = 1) ∧ (f2.type = 50 ∧ f2.offset = 2) := ⟨_, _, _, Tryd.underlying52, ⟨rfl, rfl⟩, ⟨rfl, rfl⟩, ⟨rfl, rfl⟩⟩
theorem zk1 {cs : List Value} {o : Nat} {x : Value} (h : (cs.drop o).take 1 = [x]) : cs[o]? = some x := by
  have h1 : ((cs.drop o).take 1)[0]? = some x := by rw [h]; rfl
  rw [List.getElem?_take, if_pos (by omega), List.getElem?_drop] at h1
  simpa using h1
theorem zkN {cs : List Value} {o n i : Nat} (hi : i < n) : ((cs.drop o).take n)[i]? = cs[o + i]? := by
  rw [List.getElem?_take, if_pos hi, List.getElem?_drop]
/-- A kind's data. -/
def erD (v : Bool) (k : Nat) : DataW Unit := .agg [.lit (.int .i64 (if k = 0 then 0 else codT v (k : Int))), .lit (.int .i64 (if k = 0 then 0 else codC v (k : Int))), .lit (.int .u32 (((if k = 6 ∧ v = true then 6 else 0 : Nat)) : Int))]
def verD (v : Bool) : DataW Unit := .agg [.lit (.int .i64 (protoK v)), .lit (.int .u8 (if v = true then 6 else 4)), .lit (.int .i64 (hdN v : Int)), .lit (.int .i64 (wdN v : Int)), .lit (.int .i64 (leastK v)), .lit (.int .i64 (askK v)), .lit (.int .i64 (sayK v)), .agg [erD v 0, erD v 1, erD v 2, erD v 3, erD v 4, erD v 5, erD v 6]]
theorem ver4_data : (Rows.laid_adit_icmp_version4 : DataW Unit) = verD false := by kernel_rfl
theorem ver6_data : (Rows.laid_adit_icmp_version6 : DataW Unit) = verD true := by kernel_rfl
section
variable {w : World} {fuel : Nat} {cs : List Value} {p : List MemPlace}
/-- A cell that reads as a number. -/
theorem lit_cell {t : TypeId} {k : IntKind} (hu : Tryd.prog.underlying t = some (.int k)) {o : Nat} {y : DataW Unit × List MemPlace} (h : DataW.trod (fun _ => ()) Tryd.prog w 0 (fun _ => true) false fuel t ((cs.drop o).take 1) = some y) {z : Int} (hy : y.1 = .lit (.int k z)) : cs[o]? = some (.int k z) := by
  obtain ⟨z', hc, rfl, _⟩ := DataW.trod_int hu h
  have e : z' = z := by simpa using hy
  subst e
  exact zk1 hc
theorem er_cells {v : Bool} {k : Nat} {y : DataW Unit × List MemPlace} (h : DataW.trod (fun _ => ()) Tryd.prog w 0 (fun _ => true) false fuel 52 cs = some y) (hy : y.1 = erD v k) : ∀ i, i < 3 → cs[i]? = some (erV v k i) := by
  obtain ⟨f0, f1, f2, hu, ⟨e0, o0⟩, ⟨e1, o1⟩, ⟨e2, o2⟩⟩ := prF
  obtain ⟨xs, n, _, hx, hl, hxl, hff⟩ := DataW.trod_struct hu h
  obtain ⟨y0, y1, y2, rfl⟩ : ∃ y0 y1 y2, xs = [y0, y1, y2] := by
    match xs, hxl with
    | [a, b, c], _ => exact ⟨a, b, c, rfl⟩
  have hx1 : y.1 = .agg [y0.1, y1.1, y2.1] := congrArg Prod.fst hx
  rw [hy] at hx1
  unfold erD at hx1
  simp only [DataW.agg.injEq, List.cons.injEq, and_true] at hx1
  have g0 := hff 0 f0 rfl
  rw [e0, o0, zcIn] at g0
  have g1 := hff 1 f1 rfl
  rw [e1, o1, zcIn] at g1
  have g2 := hff 2 f2 rfl
  rw [e2, o2, zc32] at g2
  intro i hi
  match i, hi with
  | 0, _ => exact lit_cell Tryd.underlying3 g0 hx1.1.symm
  | 1, _ => exact lit_cell Tryd.underlying3 g1 hx1.2.1.symm
  | 2, _ => exact lit_cell Tryd.underlying50 g2 hx1.2.2.symm
theorem ver_cells {v : Bool} (h : DataW.trod (fun _ => ()) Tryd.prog w 0 (fun _ => true) false fuel 55 cs = some (verD v, p)) : ∀ j, j < 28 → cs[j]? = some (verV v j) := by
  obtain ⟨f0, f1, f2, f3, f4, f5, f6, f7, hu, ⟨e0, o0⟩, ⟨e1, o1⟩, ⟨e2, o2⟩, ⟨e3, o3⟩, ⟨e4, o4⟩, ⟨e5, o5⟩, ⟨e6, o6⟩, ⟨e7, o7⟩⟩ := veF
  obtain ⟨xs, n, _, hx, hl, hxl, hff⟩ := DataW.trod_struct hu h
  obtain ⟨y0, y1, y2, y3, y4, y5, y6, y7, rfl⟩ : ∃ y0 y1 y2 y3 y4 y5 y6 y7, xs = [y0, y1, y2, y3, y4, y5, y6, y7] := by
    match xs, hxl with
    | [a0, a1, a2, a3, a4, a5, a6, a7], _ => exact ⟨_, _, _, _, _, _, _, _, rfl⟩
  have hx1 : verD v = .agg [y0.1, y1.1, y2.1, y3.1, y4.1, y5.1, y6.1, y7.1] := congrArg Prod.fst hx
  unfold verD at hx1
  simp only [DataW.agg.injEq, List.cons.injEq, and_true] at hx1
  have g0 := hff 0 f0 rfl
  rw [e0, o0, zcIn] at g0
  have g1 := hff 1 f1 rfl
  rw [e1, o1, zc8] at g1
  have g2 := hff 2 f2 rfl
  rw [e2, o2, zcIn] at g2
  have g3 := hff 3 f3 rfl
  rw [e3, o3, zcIn] at g3
  have g4 := hff 4 f4 rfl
  rw [e4, o4, zcIn] at g4
  have g5 := hff 5 f5 rfl
  rw [e5, o5, zcIn] at g5
  have g6 := hff 6 f6 rfl
  rw [e6, o6, zcIn] at g6
  have g7 := hff 7 f7 rfl
  rw [e7, o7, zcP7] at g7
  obtain ⟨zs, m1, rfl, hz, hzl, hz7, hel⟩ := DataW.trod_array Tryd.underlying53 g7
  have hz1 : (DataW.agg (zs.map (·.1)) : DataW Unit) = .agg [erD v 0, erD v 1, erD v 2, erD v 3, erD v 4, erD v 5, erD v 6] := by
    have := hx1.2.2.2.2.2.2.2
    rw [this]
    have := congrArg Prod.fst hz
    exact this.symm
  simp only [DataW.agg.injEq] at hz1
  have her : ∀ k, k < 7 → ∀ i, i < 3 → cs[7 + (k * 3 + i)]? = some (erV v k i) := fun k hk i hi => by
    have h0 := hel k hk
    rw [zcPr] at h0
    have hkl : k < zs.length := by omega
    rw [List.getElem?_eq_getElem hkl] at h0
    have hy : (zs[k]).1 = erD v k := by
      have h1 : (zs.map (·.1))[k]? = some (zs[k]).1 := by rw [List.getElem?_map, List.getElem?_eq_getElem hkl]; rfl
      rw [hz1] at h1
      match k, hk with
      | 0, _ => exact (Option.some.inj h1).symm
      | 1, _ => exact (Option.some.inj h1).symm
      | 2, _ => exact (Option.some.inj h1).symm
      | 3, _ => exact (Option.some.inj h1).symm
      | 4, _ => exact (Option.some.inj h1).symm
      | 5, _ => exact (Option.some.inj h1).symm
      | 6, _ => exact (Option.some.inj h1).symm
    have h2 := er_cells h0 hy i hi
    rw [zkN hi, zkN (by omega)] at h2
    exact h2
  intro j hj
  by_cases h7 : j < 7
  · match j, h7 with
    | 0, _ => exact lit_cell Tryd.underlying3 g0 hx1.1.symm
    | 1, _ => exact lit_cell Tryd.underlying5 g1 hx1.2.1.symm
    | 2, _ => exact lit_cell Tryd.underlying3 g2 hx1.2.2.1.symm
    | 3, _ => exact lit_cell Tryd.underlying3 g3 hx1.2.2.2.1.symm
    | 4, _ => exact lit_cell Tryd.underlying3 g4 hx1.2.2.2.2.1.symm
    | 5, _ => exact lit_cell Tryd.underlying3 g5 hx1.2.2.2.2.2.1.symm
    | 6, _ => exact lit_cell Tryd.underlying3 g6 hx1.2.2.2.2.2.2.1.symm
  · have hk := her ((j - 7) / 3) (by omega) ((j - 7) % 3) (Nat.mod_lt _ (by decide))
    rw [show 7 + ((j - 7) / 3 * 3 + (j - 7) % 3) = j by omega] at hk
    rw [hk]
    unfold verV
    rw [if_neg (by omega), if_neg (by omega), if_neg (by omega), if_neg (by omega), if_neg (by omega), if_neg (by omega), if_neg (by omega)]
end
theorem var_cell {w : World} {n : String} {g : Nat} {cs : Array Value} (hg : Tryd.prog.globalNamed n = some g) (hv : w.var? Tryd.prog n = some cs) (j : Nat) : w.cell? ⟨g, j, none⟩ = cs.toList[j]? := by
  have h0 := World.var?_cell hg hv j
  rw [Array.getElem?_toList]
  exact h0
theorem env_of_laid {W : World} (h : laidMetH Tryd.prog laidP W) : Env W := by
  rw [MakeChecks.laidMetH_plain _ _ _ (by kernel_rfl)] at h
  obtain ⟨g4, u4, c4, f4, p4, hg4, ht4, hv4, hd4⟩ := Go.Lib.laidMet.reads h (n := "adit/icmp.version4") (d := Rows.laid_adit_icmp_version4) (by unfold laidP; exact List.mem_cons_self ..)
  obtain ⟨g6, u6, c6, f6, p6, hg6, ht6, hv6, hd6⟩ := Go.Lib.laidMet.reads h (n := "adit/icmp.version6") (d := Rows.laid_adit_icmp_version6) (by unfold laidP; exact List.mem_cons_of_mem _ (List.mem_cons_self ..))
  obtain ⟨g5, u5, c5, f5, p5, hg5, ht5, hv5, hd5⟩ := Go.Lib.laidMet.reads h (n := "adit/icmp.errors4") (d := Rows.laid_adit_icmp_errors4) (by unfold laidP; exact List.mem_cons_of_mem _ (List.mem_cons_of_mem _ (List.mem_cons_self ..)))
  obtain rfl := Option.some.inj (g4V.symm.trans hg4)
  obtain rfl := Option.some.inj (g6V.symm.trans hg6)
  obtain rfl := Option.some.inj (gErr.symm.trans hg5)
  obtain rfl := Option.some.inj (t4V.symm.trans ht4)
  obtain rfl := Option.some.inj (t6V.symm.trans ht6)
  obtain rfl := Option.some.inj (tErr.symm.trans ht5)
  rw [ver4_data] at hd4
  rw [ver6_data] at hd6
  refine ⟨fun j hj => (var_cell g4V hv4 j).trans (ver_cells hd4 j hj), fun j hj => (var_cell g6V hv6 j).trans (ver_cells hd6 j hj), fun j hj => (var_cell gErr hv5 j).trans ?_⟩
  obtain ⟨zs, m1, _, hz, hzl, hz5, hel⟩ := DataW.trod_array Tryd.underlying93 hd5
  have hz1 : (DataW.agg (zs.map (·.1)) : DataW Unit) = .agg [.lit (.int .u8 3), .lit (.int .u8 4), .lit (.int .u8 5), .lit (.int .u8 11), .lit (.int .u8 12)] := (congrArg Prod.fst hz).symm
  simp only [DataW.agg.injEq] at hz1
  have h0 := hel j hj
  rw [zc8, Nat.mul_one] at h0
  have hjl : j < zs.length := by omega
  rw [List.getElem?_eq_getElem hjl] at h0
  refine lit_cell Tryd.underlying5 h0 ?_
  have h1 : (zs.map (·.1))[j]? = some (zs[j]).1 := by rw [List.getElem?_map, List.getElem?_eq_getElem hjl]; rfl
  rw [hz1] at h1
  match j, hj with
  | 0, _ => exact (Option.some.inj h1).symm
  | 1, _ => exact (Option.some.inj h1).symm
  | 2, _ => exact (Option.some.inj h1).symm
  | 3, _ => exact (Option.some.inj h1).symm
  | 4, _ => exact (Option.some.inj h1).symm
end Go.Proofs.YtojekoakgpkkdabDoor

/-
  Own text. Paths in memory: maps keyed by addresses, what a lookup, a store, a delete and len do. (After our own text of maps keyed by families.)
-/
namespace Go.Proofs.YtojekoakgpkkdabDoor
open Go.RowKit Go.Proofs
set_option maxRecDepth 100000
abbrev Ad := Bool × List Int
/-- An address as a key. -/
def adK (v : Bool) (b : Nat → Int) : Ad := (v, (List.range 16).map b)
theorem adK_iff {v v' : Bool} {b b' : Nat → Int} : adK v b = adK v' b' ↔ (v = v' ∧ ∀ i, i < 16 → b i = b' i) := by
  unfold adK
  rw [Prod.mk.injEq, List.map_inj_left]
  exact ⟨fun h => ⟨h.1, fun i hi => h.2 i (List.mem_range.2 hi)⟩, fun h => ⟨h.1, fun i hi => h.2 i (List.mem_range.1 hi)⟩⟩
/-- What is known of a path. -/
structure Pth where
  mtu : Int
  born : Int
  num : Int
def paV (p : Pth) : Nat → Value
  | 0 => .int .i64 p.mtu
  | 1 => .int .i64 p.born
  | _ => .int .i64 p.num
theorem paV_one (p : Pth) (j : Nat) : (paV p j).oneCell' = true := by unfold paV; split <;> rfl
def paA (p : Pth) : Value := .agg (SC 3 (paV p))
theorem isPa : IsSt 58 3 := ⟨_, Tryd.underlying58, rfl, by kernel_rfl⟩
theorem zeroPa (w : World) : (zeroValue 58).run Tryd.prog w = .ok (.agg (SC 3 (paV ⟨0, 0, 0⟩))) w := by kernel_rfl
/-- A value that is an address. -/
def KeyIs (k : Value) (F : Ad) : Prop := ∃ v b, k = .agg (SC 17 (adV v b)) ∧ F = adK v b
theorem chkF (v : Bool) (b : Nat → Int) (w : World) (em : Bool) : (Instr.checkKey em 10000 30 (.agg (SC 17 (adV v b)))).run Tryd.prog w = .ok () w := by kernel_rfl
theorem equal_key {k l : Value} {F G : Ad} (hk : KeyIs k F) (hl : KeyIs l G) (w : World) : (Op.equal 30 k l).run Tryd.prog w = .ok (decide (F = G)) w := by
  obtain ⟨v, b, rfl, rfl⟩ := hk
  obtain ⟨v', b', rfl, rfl⟩ := hl
  have hd : decide (adK v b = adK v' b') = eqAF v b v' b' := by
    rw [Bool.eq_iff_iff, decide_eq_true_eq, adK_iff, eqAF_iff]
  rw [hd]
  exact equal_addr v b v' b' w
theorem chk_key {k : Value} {F : Ad} (hk : KeyIs k F) (em : Bool) (w : World) : (Instr.checkKey em 10000 30 k).run Tryd.prog w = .ok () w := by
  obtain ⟨v, b, rfl, rfl⟩ := hk
  exact chkF _ _ w em
/-- The entries of a map of paths. -/
def EsAt : List (Ad × Pth) → List MapEntry → Prop
  | [], [] => True
  | c :: L, x :: es => KeyIs x.key c.1 ∧ x.val = paA c.2 ∧ EsAt L es
  | _, _ => False
theorem EsAt.len : ∀ {L : List (Ad × Pth)} {es : List MapEntry}, EsAt L es → es.length = L.length
  | [], [], _ => rfl
  | _ :: L, _ :: es, h => by rw [List.length_cons, List.length_cons, EsAt.len h.2.2]
  | [], _ :: _, h => h.elim
  | _ :: _, [], h => h.elim
theorem EsAt.snoc : ∀ {L : List (Ad × Pth)} {es : List MapEntry}, EsAt L es → ∀ {c : Ad × Pth} {x : MapEntry}, KeyIs x.key c.1 → x.val = paA c.2 → EsAt (L ++ [c]) (es ++ [x])
  | [], [], _, _, _, h1, h2 => ⟨h1, h2, trivial⟩
  | _ :: _, _ :: _, h, _, _, h1, h2 => ⟨h.1, h.2.1, EsAt.snoc h.2.2 h1 h2⟩
  | [], _ :: _, h, _, _, _, _ => h.elim
  | _ :: _, [], h, _, _, _, _ => h.elim
theorem EsAt.erase : ∀ {L : List (Ad × Pth)} {es : List MapEntry}, EsAt L es → ∀ i, EsAt (L.eraseIdx i) (es.eraseIdx i)
  | [], [], _, _ => trivial
  | _ :: _, _ :: _, h, 0 => h.2.2
  | _ :: _, _ :: _, h, i + 1 => ⟨h.1, h.2.1, EsAt.erase h.2.2 i⟩
  | [], _ :: _, h, _ => h.elim
  | _ :: _, [], h, _ => h.elim
theorem find_asking {k : Value} {F : Ad} (hk : KeyIs k F) (w : World) : ∀ {L : List (Ad × Pth)} {es : List MapEntry}, EsAt L es → ∀ i,
    ((Instr.findAsking 30 k es i).run Tryd.prog w = .ok none w ∧ ∀ c ∈ L, c.1 ≠ F) ∨ ∃ j c, (Instr.findAsking 30 k es i).run Tryd.prog w = .ok (some (i + j, paA c.2)) w ∧ L[j]? = some c ∧ c.1 = F ∧ ∀ q, q < j → ∀ d, L[q]? = some d → d.1 ≠ F
  | [], [], _, i => .inl ⟨by simp [Instr.findAsking], by simp⟩
  | c :: L, x :: es, h, i => by
    have he := equal_key hk h.1 w
    by_cases e : F = c.1
    · right
      rw [decide_eq_true e] at he
      exact ⟨0, c, by simp [Instr.findAsking, he, h.2.1], rfl, e.symm, fun q hq => absurd hq (Nat.not_lt_zero _)⟩
    · rw [decide_eq_false e] at he
      rcases find_asking hk w h.2.2 (i + 1) with ⟨h1, h2⟩ | ⟨j, d, h1, h2, h3, h4⟩
      · left
        refine ⟨by simp [Instr.findAsking, he, h1], fun d hd => ?_⟩
        rcases List.mem_cons.1 hd with rfl | hd
        · exact fun e2 => e e2.symm
        · exact h2 d hd
      · right
        refine ⟨j + 1, d, by simp [Instr.findAsking, he, h1, Nat.add_assoc, Nat.add_comm 1 j], by simpa using h2, h3, fun q hq u hu => ?_⟩
        cases q with
        | zero => simp at hu; subst hu; exact fun e2 => e e2.symm
        | succ q => exact h4 q (by omega) u (by simpa using hu)
  | [], _ :: _, h, _ => h.elim
  | _ :: _, [], h, _ => h.elim
theorem wideF : (match Tryd.prog.underlying 30 with | some (.array _ _) | some (.struct _) => true | _ => false) = true := by kernel_rfl
theorem find_key (k : Value) (es : List MapEntry) (w : World) : (Instr.findKey 30 k es).run Tryd.prog w = (Instr.findAsking 30 k es).run Tryd.prog w := run_findKey_eq w wideF k es
/-- Block m is a map of paths. -/
def MapAt (w : World) (m : Nat) (L : List (Ad × Pth)) : Prop := ∃ es clock, w.heap[m]? = some (.map es clock) ∧ EsAt L es.toList ∧ (es.toList.map (·.born)).Nodup ∧ ∀ x ∈ es.toList, x.born < clock
def hasK (L : List (Ad × Pth)) (F : Ad) : Option (Ad × Pth) := L.find? (fun c => decide (c.1 = F))
theorem hasK_no {L : List (Ad × Pth)} {F : Ad} (h : ∀ c ∈ L, c.1 ≠ F) : hasK L F = none := by
  unfold hasK
  rw [List.find?_eq_none]
  intro c hc
  simpa using h c hc
theorem hasK_yes : ∀ {L : List (Ad × Pth)} {F : Ad} {j : Nat} {c : Ad × Pth}, L[j]? = some c → c.1 = F → (∀ q, q < j → ∀ d, L[q]? = some d → d.1 ≠ F) → hasK L F = some c
  | [], _, _, _, h, _, _ => by simp at h
  | x :: L, F, 0, c, h, e, _ => by
    simp at h
    subst h
    unfold hasK
    rw [List.find?_cons_of_pos (by simpa using e)]
  | x :: L, F, j + 1, c, h, e, hn => by
    have h0 := hn 0 (by omega) x rfl
    have ih := hasK_yes (L := L) (by simpa using h) e (fun q hq d hd => hn (q + 1) (by omega) d (by simpa using hd))
    unfold hasK at ih ⊢
    rw [List.find?_cons_of_neg (by simpa using h0)]
    exact ih
theorem erase_filter : ∀ {L : List (Ad × Pth)} {F : Ad} {j : Nat} {c : Ad × Pth}, (L.map (·.1)).Nodup → L[j]? = some c → c.1 = F → L.eraseIdx j = L.filter (fun c => !decide (c.1 = F))
  | [], _, _, _, _, h, _ => by simp at h
  | x :: L, F, 0, c, hn, h, e => by
    simp at h
    subst h
    rw [List.map_cons, List.nodup_cons] at hn
    rw [List.eraseIdx_zero, List.tail_cons, List.filter_cons_of_neg (by simpa using e)]
    symm
    rw [List.filter_eq_self]
    intro d hd
    have : d.1 ≠ F := fun e2 => hn.1 (by rw [e, ← e2]; exact List.mem_map_of_mem hd)
    simpa using this
  | x :: L, F, j + 1, c, hn, h, e => by
    rw [List.map_cons, List.nodup_cons] at hn
    have h1 : L[j]? = some c := by simpa using h
    have ih := erase_filter hn.2 h1 e
    have hx : x.1 ≠ F := fun e2 => hn.1 (by rw [e2, ← e]; exact List.mem_map_of_mem (List.mem_of_getElem? h1))
    rw [List.eraseIdx_cons_succ, ih, List.filter_cons_of_pos (by simpa using hx)]
theorem MapAt.block {w w' : World} {m : Nat} {L : List (Ad × Pth)} (h : MapAt w m L) (e : w'.heap[m]? = w.heap[m]?) : MapAt w' m L := by
  obtain ⟨es, cl, h1, h2⟩ := h
  exact ⟨es, cl, e.trans h1, h2⟩
theorem MapAt.lt {w : World} {m : Nat} {L : List (Ad × Pth)} (h : MapAt w m L) : m < w.heap.size := by
  obtain ⟨es, cl, h1, _⟩ := h
  exact heap_lt h1
theorem MapAt.kept {w w' : World} {m : Nat} {L : List (Ad × Pth)} (h : MapAt w m L) (hb : Below w.heap.size w w') : MapAt w' m L := h.block (hb.block m h.lt)
def lookV (L : List (Ad × Pth)) (F : Ad) : Value := match hasK L F with | some c => paA c.2 | none => paA ⟨0, 0, 0⟩
theorem run_lookF {w : World} {m : Nat} {L : List (Ad × Pth)} (h : MapAt w m L) {k : Value} {F : Ad} (hk : KeyIs k F) (ok : Bool) : (Instr.lookup 47 (.map (some m)) k ok).run Tryd.prog w = .ok (if ok = true then .tuple #[lookV L F, .bool (hasK L F).isSome] else lookV L F) w := by
  obtain ⟨es, cl, h1, h2, _⟩ := h
  have hz : (zeroValue 58).run Tryd.prog w = .ok (paA ⟨0, 0, 0⟩) w := by kernel_rfl
  unfold Instr.lookup
  simp only [Sem.run_bind, run_underlying Tryd.underlying47 w, Result.andThen_ok, getObj]
  rcases find_asking hk w h2 0 with ⟨e, hn⟩ | ⟨j, c, e, hj, hc, hn⟩
  · have hx := hasK_no hn
    unfold lookV
    simp only [hx]
    cases ok <;> simp [Sem.run, h1, e, hz, chk_key hk, find_key] <;> rfl
  · have hx := hasK_yes hj hc hn
    unfold lookV
    simp only [hx]
    cases ok <;> simp [Sem.run, h1, e, chk_key hk, find_key] <;> rfl
theorem run_setM {w : World} {m : Nat} {es : Array MapEntry} {cl : Nat} (h : w.heap[m]? = some (.map es cl)) (o : Obj) : (setObj m o).run Tryd.prog w = .ok () (Go.ChangeMaps.setBlock w m o) := by
  simp [setObj, Sem.run, h, Go.ChangeMaps.setBlock]
theorem setB_at {w : World} {m : Nat} (h : m < w.heap.size) (o : Obj) : (Go.ChangeMaps.setBlock w m o).heap[m]? = some o := by
  simp [Go.ChangeMaps.setBlock, h]
theorem setB_only (w : World) (m : Nat) (o : Obj) : Only m w (Go.ChangeMaps.setBlock w m o) := ⟨rfl, rfl, rfl, by simp [Go.ChangeMaps.setBlock], fun k hk => by simp [Go.ChangeMaps.setBlock, Array.getElem?_setIfInBounds_ne (fun e => hk e.symm)]⟩
theorem run_delF {w : World} {m : Nat} {L : List (Ad × Pth)} (h : MapAt w m L) (hn : (L.map (·.1)).Nodup) {k : Value} {F : Ad} (hk : KeyIs k F) (t : TypeId) : ∃ w', (Builtin.delete_ #[47, 30] t #[.map (some m), k]).run Tryd.prog w = .ok (.tuple #[]) w' ∧ MapAt w' m (L.filter (fun c => !decide (c.1 = F))) ∧ Only m w w' := by
  have hlt := h.lt
  obtain ⟨es, cl, h1, h2, h3, h4⟩ := h
  have hb : ∀ o : Obj, Only m w (Go.ChangeMaps.setBlock w m o) := setB_only w m
  rcases find_asking hk w h2 0 with ⟨e, hno⟩ | ⟨j, c, e, hj, hc, hno⟩
  · refine ⟨Go.ChangeMaps.setBlock w m (.map es cl), ?_, ⟨es, cl, setB_at hlt _, ?_, h3, h4⟩, hb _⟩
    · unfold Builtin.delete_
      simp [Sem.run_bind, run_underlying Tryd.underlying47 w, getObj, Sem.run, h1, e, chk_key hk, find_key, run_setM h1]
    · rw [List.filter_eq_self.2 (fun c hc => by simpa using hno c hc)]
      exact h2
  · refine ⟨Go.ChangeMaps.setBlock w m (.map (es.eraseIdxIfInBounds j) cl), ?_, ⟨_, cl, setB_at hlt _, ?_, ?_, ?_⟩, hb _⟩
    · unfold Builtin.delete_
      simp [Sem.run_bind, run_underlying Tryd.underlying47 w, getObj, Sem.run, h1, e, chk_key hk, find_key, run_setM h1]
    · rw [Array.toList_eraseIdxIfInBounds, ← erase_filter hn hj hc]
      exact h2.erase j
    · rw [Array.toList_eraseIdxIfInBounds]
      exact List.Nodup.sublist (List.Sublist.map _ (List.eraseIdx_sublist _ _)) h3
    · rw [Array.toList_eraseIdxIfInBounds]
      exact fun x hx => h4 x (List.mem_of_mem_eraseIdx hx)
theorem run_newF {w : World} {m : Nat} {L : List (Ad × Pth)} (h : MapAt w m L) {k : Value} {F : Ad} (hk : KeyIs k F) (hno : ∀ c ∈ L, c.1 ≠ F) (b : Pth) : ∃ w', (Instr.mapUpdate 47 (.map (some m)) k (paA b)).run Tryd.prog w = .ok () w' ∧ MapAt w' m (L ++ [(F, b)]) ∧ Only m w w' := by
  have hlt := h.lt
  obtain ⟨es, cl, h1, h2, h3, h4⟩ := h
  rcases find_asking hk w h2 0 with ⟨e, _⟩ | ⟨j, c, _, hj, hc, _⟩
  · refine ⟨Go.ChangeMaps.setBlock w m (.map (es.push { key := k, val := paA b, born := cl }) (cl + 1)), ?_, ⟨_, _, setB_at hlt _, ?_, ?_, ?_⟩, setB_only _ _ _⟩
    · unfold Instr.mapUpdate
      simp [Sem.run_bind, run_underlying Tryd.underlying47 w, getObj, Sem.run, h1, e, chk_key hk, find_key, run_setM h1]
    · rw [Array.toList_push]
      exact h2.snoc hk rfl
    · rw [Array.toList_push, List.map_append, List.nodup_append]
      refine ⟨h3, by simp, fun x hx y hy e2 => ?_⟩
      simp at hy
      obtain ⟨z, hz, rfl⟩ := List.mem_map.1 hx
      have := h4 z hz
      omega
    · intro x hx
      rw [Array.toList_push] at hx
      rcases List.mem_append.1 hx with hx | hx
      · have := h4 x hx; omega
      · simp at hx; subst hx; exact Nat.lt_succ_self _
  · exact absurd hc (hno c (List.mem_of_getElem? hj))
theorem run_lenF {w : World} {m : Nat} {L : List (Ad × Pth)} (h : MapAt w m L) (t : TypeId) : (Builtin.len_ #[47] t #[.map (some m)]).run Tryd.prog w = .ok (.int .i64 (L.length : Int)) w := by
  obtain ⟨es, cl, h1, h2, _⟩ := h
  have := h2.len
  rw [Array.length_toList] at this
  simp [Builtin.len_, getObj, Sem.run, h1, goInt, this]
end Go.Proofs.YtojekoakgpkkdabDoor

