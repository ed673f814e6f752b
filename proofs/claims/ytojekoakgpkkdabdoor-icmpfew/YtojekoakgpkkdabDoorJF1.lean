/-
  Own text. A region that leaves its order open and in which several operations act (calls, new rows): each operation is walked once, whatever came before it: behind operation i its slot holds a value of which phi i is known, and what acts keeps all that is known. No program is named here.
-/
import Derived.Orders
import Derived.Laws.World
import Derived.Test.YtojekoakgpkkdabDoorProg
import Derived.WalkKit
import Derived.WalkSpells
import Derived.WalkLawsBesides
import Derived.Laws.Externs
import Derived.Laws.MathBits
import Derived.Deep.RegionWith
import Derived.Deep.MidRow
import Derived.Deep.LoopGhost
import Derived.OwnWalk
import Derived.Laws.BitsAll
import Derived.OpenShut
import Derived.Lib.BufferMore
import Derived.Lib.SlBytesConst
import Derived.ArgAppend
import Derived.Laws.CopyOwn
import Derived.ChangeKeysEq
import Derived.Lib.LazyBuf
import Derived.Laws.IdiomStrings
import Derived.Lib.UnsafeStr
import Derived.SizedLaws
import Derived.ProofKit
import Derived.Stop.Joined
import Derived.Lib.AppendStr
import Derived.Laws.BytesArg
import Derived.Laws.AppendOwnNone
import Derived.Test.YtojekoakgpkkdabDoorRows
import Derived.SliceStrings
import Derived.Tactics
import Derived.BigQuiet
namespace Go.Proofs.YtojekoakgpkkdabDoor
open Go
section
variable {P : Program} {ops : Array Oper} {Q : Exit → Act → World → Prop}
/-- How many have not come up yet. -/
def leftOf (ops : Array Oper) (listed : Array Bool) : Nat := ((List.range ops.size).filter fun j => !listed.getD j true).length
theorem filter_le {p q : Nat → Bool} (h : ∀ j, p j = true → q j = true) : ∀ l : List Nat, (l.filter p).length ≤ (l.filter q).length
  | [] => by simp
  | x :: l => by
    have ih := filter_le h l
    cases hp : p x with
    | true => rw [List.filter_cons_of_pos hp, List.filter_cons_of_pos (h x hp)]; simpa using ih
    | false =>
      rw [List.filter_cons_of_neg (by simp [hp])]
      cases hq : q x with
      | true => rw [List.filter_cons_of_pos hq]; simp; omega
      | false => rw [List.filter_cons_of_neg (by simp [hq])]; exact ih
theorem filter_lt {p q : Nat → Bool} {i : Nat} (h : ∀ j, p j = true → q j = true) (hp : p i = false) (hq : q i = true) : ∀ l : List Nat, i ∈ l → (l.filter p).length + 1 ≤ (l.filter q).length
  | [], hl => by cases hl
  | x :: l, hl => by
    by_cases hx : i = x
    · subst hx
      rw [List.filter_cons_of_neg (by simp [hp]), List.filter_cons_of_pos hq]
      have := filter_le h l
      simp only [List.length_cons]
      omega
    · have hm : i ∈ l := by
        rcases List.mem_cons.1 hl with h | h
        · exact absurd h hx
        · exact h
      have ih := filter_lt h hp hq l hm
      cases hpx : p x with
      | true => rw [List.filter_cons_of_pos hpx, List.filter_cons_of_pos (h x hpx)]; simp only [List.length_cons]; omega
      | false =>
        rw [List.filter_cons_of_neg (by simp [hpx])]
        cases hqx : q x with
        | true => rw [List.filter_cons_of_pos hqx]; simp only [List.length_cons]; omega
        | false => rw [List.filter_cons_of_neg (by simp [hqx])]; exact ih
theorem leftOf_set {listed : Array Bool} {i : Nat} (hi : i ∈ Region.ready .any ops listed) : leftOf ops (listed.setIfInBounds i true) + 1 ≤ leftOf ops listed := by
  obtain ⟨hun, oi, hoi, _⟩ := mem_ready.1 hi
  have hlt : i < ops.size := (Array.getElem?_eq_some_iff.1 hoi).1
  have hls : i < listed.size := by
    rcases Nat.lt_or_ge i listed.size with h | h
    · exact h
    · simp [Array.getElem?_eq_none h] at hun
  have hset : (listed.setIfInBounds i true).getD i true = true := by simp [hls]
  refine filter_lt (fun j hj => ?_) (by rw [hset]; rfl) (by rw [hun]; rfl) _ (List.mem_range.2 hlt)
  by_cases hij : i = j
  · subst hij; rw [hset] at hj; cases hj
  · rw [getD_set_ne true hij] at hj; exact hj
/-- Whatever order: an invariant that every operation that may come up hands on. -/
theorem wpAny_inv (I : Array Bool → Act → World → Prop)
    (step : ∀ listed a w i, I listed a w → i ∈ Region.ready .any ops listed → wpOp P ops Q i (fun a' w' => I (listed.setIfInBounds i true) a' w') a w)
    (fin : ∀ listed a w, I listed a w → Region.ready .any ops listed = [] → Q .normal a w) :
    ∀ (fuel : Nat) (listed : Array Bool) (a : Act) (w : World), leftOf ops listed ≤ fuel → I listed a w → wpAny P .any ops Q fuel listed a w
  | 0, listed, a, w, hf, h => by
    have hr : Region.ready .any ops listed = [] := by
      cases hr : Region.ready .any ops listed with
      | nil => rfl
      | cons i l =>
        have := leftOf_set (ops := ops) (listed := listed) (i := i) (by rw [hr]; simp)
        omega
    exact ⟨hr, fin listed a w h hr⟩
  | fuel + 1, listed, a, w, hf, h =>
    ⟨fun hr => fin listed a w h hr, fun i hi => wpOp_mono (fun a' w' h' => wpAny_inv I step fin fuel _ a' w' (by have := leftOf_set hi; omega) h') (step listed a w i h hi)⟩
/-- Which numbers operation o waits for. -/
def predOf (o : Oper) (j : Nat) : Bool := o.after.any fun e => Region.binds .any e && e.on == j
/-- The slots that the region's operations write. -/
def dsts (ops : Array Oper) : List Nat := ops.toList.filterMap (·.dst)
/-- Each operation writes a slot of its own, and waits for earlier ones alone. -/
def invB (ops : Array Oper) : Bool :=
  ops.toList.all (fun o => o.dst.isSome) && decide (dsts ops).Nodup &&
  (List.range ops.size).all (fun i => match ops[i]? with
    | some o => o.after.all (fun e => !Region.binds .any e || decide (e.on < i))
    | none => true)
/-- The state with other values in the slots that the region writes. -/
def putAll (a : Act) (vs : Nat → Value) : List Nat → Act
  | [] => a
  | d :: l => putAll (a.put (some d) (vs d)) vs l
theorem putAll_defers (vs : Nat → Value) : ∀ (l : List Nat) (a : Act), (putAll a vs l).defers = a.defers
  | [], _ => rfl
  | _ :: l, a => by simp only [putAll]; rw [putAll_defers vs l]; rfl
theorem putAll_size (vs : Nat → Value) : ∀ (l : List Nat) (a : Act), (putAll a vs l).tmps.size = a.tmps.size
  | [], _ => rfl
  | _ :: l, a => by simp only [putAll]; rw [putAll_size vs l]; simp [Act.put]
theorem putAll_get (vs : Nat → Value) : ∀ (l : List Nat) (a : Act) (t : Nat), t < a.tmps.size → (putAll a vs l).tmps[t]? = if t ∈ l then some (vs t) else a.tmps[t]?
  | [], _, _, _ => by simp [putAll]
  | d :: l, a, t, ht => by
    simp only [putAll]
    rw [putAll_get vs l _ t (by simpa [Act.put] using ht)]
    by_cases h1 : t ∈ l
    · simp [h1]
    · by_cases h2 : d = t
      · subst h2; simp [h1, Act.put, ht]
      · have h3 : ¬ t = d := fun h => h2 h.symm
        simp [h1, h3, Act.put, h2]
/-- What is known midway. -/
structure Mid (ops : Array Oper) (a0 : Act) (S : World → Prop) (φ : Nat → Value → World → Prop) (listed : Array Bool) (a : Act) (w : World) : Prop where
  lsize : listed.size = ops.size
  closed : ∀ (j : Nat) (oj : Oper), ops[j]? = some oj → listed.getD j false = true → ∀ e ∈ oj.after, Region.binds .any e = true → listed.getD e.on false = true
  size : a.tmps.size = a0.tmps.size
  defers : a.defers = a0.defers
  world : S w
  frame : ∀ t : Nat, (∀ (i : Nat) (o : Oper), ops[i]? = some o → listed.getD i false = true → o.dst ≠ some t) → a.tmps[t]? = a0.tmps[t]?
  known : ∀ (i : Nat) (o : Oper) (d : Nat), ops[i]? = some o → o.dst = some d → listed.getD i false = true → φ i (a.tmps.getD d undef) w
theorem getD_replicate_f (m j : Nat) : (Array.replicate m false).getD j false = false := by
  rcases Nat.lt_or_ge j m with h | h
  · simp [h]
  · simp [h]
theorem getD_set_false {listed : Array Bool} {i j : Nat} (h : (listed.setIfInBounds i true).getD j false = true) : j = i ∨ listed.getD j false = true := by
  by_cases hij : i = j
  · exact Or.inl hij.symm
  · rw [getD_set_ne false hij] at h; exact Or.inr h
theorem nodup_dst (h : (dsts ops).Nodup) {i j : Nat} {oi oj : Oper} {d : Nat} (hi : ops[i]? = some oi) (hj : ops[j]? = some oj) (di : oi.dst = some d) (dj : oj.dst = some d) : i = j := by
  have key : ∀ (l : List Oper), (l.filterMap (·.dst)).Nodup → ∀ (i j : Nat), l[i]? = some oi → l[j]? = some oj → i = j := by
    intro l
    induction l with
    | nil => intro _ i j h; simp at h
    | cons o l ih =>
      intro hn i j h1 h2
      have mem : ∀ (k : Nat) (o' : Oper), l[k]? = some o' → o'.dst = some d → d ∈ l.filterMap (·.dst) := fun k o' hk hd => List.mem_filterMap.2 ⟨o', List.mem_of_getElem? hk, hd⟩
      cases i with
      | zero =>
        cases j with
        | zero => rfl
        | succ j =>
          simp at h1 h2
          subst h1
          rw [List.filterMap_cons, di] at hn
          exact absurd (mem j oj h2 dj) (List.nodup_cons.1 hn).1
      | succ i =>
        cases j with
        | zero =>
          simp at h1 h2
          subst h2
          rw [List.filterMap_cons, dj] at hn
          exact absurd (mem i oi h1 di) (List.nodup_cons.1 hn).1
        | succ j =>
          simp at h1 h2
          have hn' : (l.filterMap (·.dst)).Nodup := by
            rw [List.filterMap_cons] at hn
            cases ho : o.dst with
            | none => rw [ho] at hn; exact hn
            | some x => rw [ho] at hn; exact (List.nodup_cons.1 hn).2
          rw [ih hn' i j h1 h2]
  exact key ops.toList h i j (by simpa using hi) (by simpa using hj)
/-- The slots that are listed hold these values. -/
def Holds (a : Act) : List (Nat × Value) → Prop
  | [] => True
  | x :: l => a.eval (.tmp x.1) = x.2 ∧ Holds a l
/-- Of the operations that are listed what is known of their slots. -/
def Knows (φ : Nat → Value → World → Prop) (ds : List Nat) (a : Act) (w : World) : List Nat → Prop
  | [] => True
  | j :: l => φ j (a.eval (.tmp (ds.getD j 0))) w ∧ Knows φ ds a w l
/-- Operation k, whatever came before it: p: those that it waits for and of which it wants to know; base: slots that the region does not write. -/
def StepOK (P : Program) (S : World → Prop) (R : World → World → Prop) (φ : Nat → Value → World → Prop) (ds : List Nat) (base : List (Nat × Value)) (p : List Nat) (k : Nat) (o : Oper) : Prop :=
  ∀ (Q : Exit → Act → World → Prop) (a : Act) (w : World), S w → Holds a base → Knows φ ds a w p →
    (match o.guard with | none => True | some (g, b) => a.eval (.tmp (ds.getD g 0)) = .bool b) ∧
    ∀ K : Act → World → Prop, (∀ v w', φ k v w' → R w w' → K (a.put o.dst v) w') → o.wp P a w K Q
/-- All of them, in the text's order. -/
def AllSteps (P : Program) (S : World → Prop) (R : World → World → Prop) (φ : Nat → Value → World → Prop) (ds : List Nat) (base : List (Nat × Value)) : List (List Nat) → Nat → List Oper → Prop
  | _, _, [] => True
  | p, k, o :: l => StepOK P S R φ ds base (p.headD []) k o ∧ AllSteps P S R φ ds base p.tail (k + 1) l
theorem AllSteps.at {S : World → Prop} {R : World → World → Prop} {φ : Nat → Value → World → Prop} {ds : List Nat} {base : List (Nat × Value)} : ∀ (l : List Oper) (p : List (List Nat)) (k : Nat), AllSteps P S R φ ds base p k l →
    ∀ (i : Nat) (o : Oper), l[i]? = some o → StepOK P S R φ ds base (p.getD i []) (k + i) o
  | [], _, _, _, _, _, h => by simp at h
  | x :: l, p, k, h, i, o, ho => by
    cases i with
    | zero =>
      simp at ho; subst ho
      have := h.1
      cases p <;> simpa using this
    | succ i =>
      simp at ho
      have := AllSteps.at l p.tail (k + 1) h.2 i o ho
      rw [show k + 1 + i = k + (i + 1) by omega] at this
      cases p <;> simpa using this
/-- Do the tables fit the region: ds: the slots that its operations write; p: of each operation some of those that it waits for; its guard's number is among the operations; base's slots are written by none. -/
def tabB (ops : Array Oper) (ds : List Nat) (base : List Nat) (p : List (List Nat)) : Bool :=
  (ops.toList.map (·.dst) == ds.map some) && base.all (fun t => !ds.contains t) &&
  (List.range ops.size).all (fun k => match ops[k]? with
    | some o => (p.getD k []).all (fun j => predOf o j && decide (j < ops.size)) && (match o.guard with | some (g, _) => decide (g < ops.size) | none => true)
    | none => true)
theorem eval_tmp_of {a a0 : Act} {t : Nat} (h : a.tmps[t]? = a0.tmps[t]?) : a.eval (.tmp t) = a0.eval (.tmp t) := by
  simp only [Act.eval]
  rw [Array.getD_eq_getD_getElem?, Array.getD_eq_getD_getElem?, h]
theorem holds_of {a a0 : Act} : ∀ (l : List (Nat × Value)), (∀ t ∈ l.map (·.1), a.eval (.tmp t) = a0.eval (.tmp t)) → Holds a0 l → Holds a l
  | [], _, _ => trivial
  | x :: l, h, h0 => ⟨(h x.1 (by simp)).trans h0.1, holds_of l (fun t ht => h t (by simp at ht ⊢; exact Or.inr ht)) h0.2⟩
theorem knows_of {φ : Nat → Value → World → Prop} {ds : List Nat} {a : Act} {w : World} : ∀ (l : List Nat), (∀ j ∈ l, φ j (a.eval (.tmp (ds.getD j 0))) w) → Knows φ ds a w l
  | [], _ => trivial
  | x :: l, h => ⟨h x (by simp), knows_of l (fun j hj => h j (by simp [hj]))⟩
theorem wp_value {o : Oper} {a : Act} {w : World} {v : Value} {K : Act → World → Prop} (hr : (execOp a.eval o).run P w = .ok (.value v) w) (h : K (a.put o.dst v) w) : o.wp P a w K Q := by
  unfold Oper.wp; rw [hr]; exact h
theorem wp_enter {o : Oper} {a : Act} {w : World} {f : FuncId} {args : Array Value} {K : Act → World → Prop} (hr : (execOp a.eval o).run P w = .ok (.enter f args) w)
    (h : Calls P f args w fun e w' => ∃ v, e = .returned v ∧ K (a.put o.dst v) w') : o.wp P a w K Q := by
  unfold Oper.wp; rw [hr]
  exact h.mono (fun e w' ⟨v, he, hk⟩ => by subst he; exact hk)
end
end Go.Proofs.YtojekoakgpkkdabDoor

/-
  Own text. A region that leaves its order open, operation by operation, whatever came before: calls, new blocks, stores into blocks that were there or came in the region. What a block holds goes on from store to store. No program is named here.
-/
namespace Go.Proofs.YtojekoakgpkkdabDoor
open Go
section
variable {P : Program} {ops : Array Oper} {Q : Exit → Act → World → Prop}
/-- All that was there but the blocks of T is as it was. -/
structure Touch (T : Nat → Prop) (w w' : World) : Prop where
  os : w'.os = w.os
  tape : w'.tape = w.tape
  output : w'.output = w.output
  size : w.heap.size ≤ w'.heap.size
  block : ∀ k, k < w.heap.size → ¬ T k → w'.heap[k]? = w.heap[k]?
theorem Touch.refl (T : Nat → Prop) (w : World) : Touch T w w := ⟨rfl, rfl, rfl, Nat.le_refl _, fun _ _ _ => rfl⟩
theorem Touch.mono {T T' : Nat → Prop} {w w' : World} (h : Touch T w w') (ht : ∀ k, k < w.heap.size → T k → T' k) : Touch T' w w' := ⟨h.os, h.tape, h.output, h.size, fun k hk hn => h.block k hk (fun h => hn (ht k hk h))⟩
/-- What a block holds: at first, and behind each of its stores (by the storing operation's number). -/
structure Cont where
  first : Obj → Prop
  stores : List (Nat × (Obj → Prop))
def Cont.at (c : Cont) (L : Nat → Bool) : Obj → Prop := c.stores.foldl (fun acc x => if L x.1 then x.2 else acc) c.first
def Cont.stage (c : Cont) (k : Nat) : Obj → Prop := (c.stores.take k).foldl (fun _ x => x.2) c.first
theorem foldl_true {L : Nat → Bool} : ∀ (l : List (Nat × (Obj → Prop))) (f : Obj → Prop), (∀ x ∈ l, L x.1 = true) → l.foldl (fun acc x => if L x.1 then x.2 else acc) f = l.foldl (fun _ x => x.2) f
  | [], _, _ => rfl
  | x :: l, f, h => by
    simp only [List.foldl_cons, h x (by simp), if_true]
    exact foldl_true l _ (fun y hy => h y (by simp [hy]))
theorem foldl_false {L : Nat → Bool} : ∀ (l : List (Nat × (Obj → Prop))) (f : Obj → Prop), (∀ x ∈ l, L x.1 = false) → l.foldl (fun acc x => if L x.1 then x.2 else acc) f = f
  | [], _, _ => rfl
  | x :: l, f, h => by
    simp only [List.foldl_cons, h x (by simp), Bool.false_eq_true, if_false]
    exact foldl_false l _ (fun y hy => h y (by simp [hy]))
theorem Cont.at_stage {c : Cont} {L : Nat → Bool} (k : Nat) (h1 : ∀ s ∈ (c.stores.map (·.1)).take k, L s = true) (h2 : ∀ s ∈ (c.stores.map (·.1)).drop k, L s = false) : c.at L = c.stage k := by
  unfold Cont.at Cont.stage
  have e : c.stores = c.stores.take k ++ c.stores.drop k := (List.take_append_drop k _).symm
  rw [← List.map_take] at h1
  rw [← List.map_drop] at h2
  conv => lhs; rw [e, List.foldl_append]
  rw [foldl_true _ _ (fun x hx => h1 x.1 (List.mem_map_of_mem hx)), foldl_false _ _ (fun x hx => h2 x.1 (List.mem_map_of_mem hx))]
theorem Cont.at_congr {c : Cont} {L L' : Nat → Bool} (h : ∀ s ∈ c.stores.map (·.1), L' s = L s) : c.at L' = c.at L := by
  unfold Cont.at
  have key : ∀ (l : List (Nat × (Obj → Prop))) (f : Obj → Prop), (∀ x ∈ l, L' x.1 = L x.1) → l.foldl (fun acc x => if L' x.1 then x.2 else acc) f = l.foldl (fun acc x => if L x.1 then x.2 else acc) f := by
    intro l
    induction l with
    | nil => intro f _; rfl
    | cons x l ih => intro f h; simp only [List.foldl_cons, h x (by simp)]; exact ih _ (fun y hy => h y (by simp [hy]))
  exact key _ _ (fun x hx => h x.1 (List.mem_map_of_mem hx))
/-- What is known of a slot: a fact of its value; or that it names a block of its own. -/
inductive Kw where
  | val (p : Value → Prop)
  | new (rel : Nat → Value → Prop) (c : Cont)
def Kw.isNew : Kw → Bool
  | .val _ => false
  | .new _ _ => true
def Kw.sts : Kw → List Nat
  | .val _ => []
  | .new _ c => c.stores.map (·.1)
/-- Where an operation stores: nowhere; into the block of operation j, or into that of the list's place x: as its store number k (from 1 on). -/
inductive Tg where
  | none
  | own (j k : Nat)
  | base (x k : Nat)
/-- What an operation may want to know. -/
inductive Wt where
  | slot (j : Nat)
  | cont (j k : Nat)
  | base (x k : Nat)
def kwAt (kn : List Kw) (j : Nat) : Kw := kn.getD j (.val fun _ => True)
def slAt (ds : List (Option Nat)) (j : Nat) : Nat := (ds.getD j none).getD 0
def ContOK (c : Obj → Prop) (w : World) (b : Nat) : Prop := ∃ ob, w.heap[b]? = some ob ∧ c ob
def WtAt (B : Nat) (G : List (Nat × Cont)) (kn : List Kw) (ds : List (Option Nat)) (own : Nat → Nat) (sv : Nat → Value) (w : World) : Wt → Prop
  | .slot j => match kwAt kn j with
    | .val p => p (sv (slAt ds j))
    | .new rel _ => rel (own j) (sv (slAt ds j)) ∧ B ≤ own j ∧ own j < w.heap.size
  | .cont j k => match kwAt kn j with
    | .val _ => True
    | .new _ c => ContOK (c.stage k) w (own j)
  | .base x k => match G[x]? with
    | some g => ContOK (g.2.stage k) w g.1
    | none => True
def Knows3 (B : Nat) (G : List (Nat × Cont)) (kn : List Kw) (ds : List (Option Nat)) (own : Nat → Nat) (sv : Nat → Value) (w : World) : List Wt → Prop
  | [] => True
  | x :: l => WtAt B G kn ds own sv w x ∧ Knows3 B G kn ds own sv w l
theorem knows3_of {B : Nat} {G : List (Nat × Cont)} {kn : List Kw} {ds : List (Option Nat)} {own : Nat → Nat} {sv : Nat → Value} {w : World} : ∀ (l : List Wt), (∀ x ∈ l, WtAt B G kn ds own sv w x) → Knows3 B G kn ds own sv w l
  | [], _ => trivial
  | x :: l, h => ⟨h x (by simp), knows3_of l (fun y hy => h y (by simp [hy]))⟩
/-- What an operation does. -/
def Post3 (G : List (Nat × Cont)) (kn : List Kw) (tg : List Tg) (own : Nat → Nat) (w : World) (i : Nat) (v : Value) (w' : World) : Prop :=
  match tg.getD i .none with
  | .none => Touch (fun _ => False) w w' ∧ (match kwAt kn i with
    | .val p => p v
    | .new rel c => ∃ b, w.heap.size ≤ b ∧ rel b v ∧ ContOK c.first w' b)
  | .own j k => Touch (fun b => b = own j) w w' ∧ (match kwAt kn j with
    | .val _ => False
    | .new _ c => ContOK (c.stage k) w' (own j)) ∧ (match kwAt kn i with | .val p => p v | .new _ _ => False)
  | .base x k => (match G[x]? with
    | some g => Touch (fun b => b = g.1) w w' ∧ ContOK (g.2.stage k) w' g.1
    | none => False) ∧ (match kwAt kn i with | .val p => p v | .new _ _ => False)
/-- Operation i, whatever came before it. -/
def Step3 (P : Program) (S : World → Prop) (B : Nat) (G : List (Nat × Cont)) (kn : List Kw) (tg : List Tg) (ds : List (Option Nat)) (base : List (Nat × Value)) (wt : List Wt) (i : Nat) (o : Oper) : Prop :=
  ∀ (Q : Exit → Act → World → Prop) (a : Act) (w : World) (own : Nat → Nat), S w → B ≤ w.heap.size → Holds a base → Knows3 B G kn ds own (fun d => a.eval (.tmp d)) w wt →
    ((match o.guard with | none => True | some (g, b) => a.eval (.tmp (slAt ds g)) = .bool b) ∧
      ∀ K : Act → World → Prop, (∀ v w', Post3 G kn tg own w i v w' → K (a.put o.dst v) w') → o.wp P a w K Q) ∨
    ((match o.guard with | none => False | some (g, b) => a.eval (.tmp (slAt ds g)) = .bool (!b) ∨ a.eval (.tmp (slAt ds g)) = undef) ∧ Post3 G kn tg own w i undef w)
def AllSteps3 (P : Program) (S : World → Prop) (B : Nat) (G : List (Nat × Cont)) (kn : List Kw) (tg : List Tg) (ds : List (Option Nat)) (base : List (Nat × Value)) : List (List Wt) → Nat → List Oper → Prop
  | _, _, [] => True
  | p, k, o :: l => Step3 P S B G kn tg ds base (p.headD []) k o ∧ AllSteps3 P S B G kn tg ds base p.tail (k + 1) l
theorem AllSteps3.at {S : World → Prop} {B : Nat} {G : List (Nat × Cont)} {kn : List Kw} {tg : List Tg} {ds : List (Option Nat)} {base : List (Nat × Value)} : ∀ (l : List Oper) (p : List (List Wt)) (k : Nat), AllSteps3 P S B G kn tg ds base p k l →
    ∀ (i : Nat) (o : Oper), l[i]? = some o → Step3 P S B G kn tg ds base (p.getD i []) (k + i) o
  | [], _, _, _, _, _, h => by simp at h
  | x :: l, p, k, h, i, o, ho => by
    cases i with
    | zero =>
      simp at ho; subst ho
      have := h.1
      cases p <;> simpa using this
    | succ i =>
      simp at ho
      have := AllSteps3.at l p.tail (k + 1) h.2 i o ho
      rw [show k + 1 + i = k + (i + 1) by omega] at this
      cases p <;> simpa using this
def waitsFor (ops : Array Oper) (s i : Nat) : Bool := match ops[s]? with | some o => predOf o i | none => false
/-- At operation i the first k of these stores are behind, the others ahead. -/
def stageB (ops : Array Oper) (i : Nat) (o : Oper) (ss : List Nat) (k : Nat) : Bool := (ss.take k).all (fun s => predOf o s) && (ss.drop k).all (fun s => s == i || waitsFor ops s i)
def wtB (ops : Array Oper) (Gs : List (List Nat)) (kn : List Kw) (ds : List (Option Nat)) (i : Nat) (o : Oper) : Wt → Bool
  | .slot j => predOf o j && decide (j < ops.size) && (ds.getD j none).isSome
  | .cont j k => predOf o j && decide (j < ops.size) && (ds.getD j none).isSome && stageB ops i o (kwAt kn j).sts k
  | .base x k => stageB ops i o (Gs.getD x []) k
def finB (ops : Array Oper) (Gs : List (List Nat)) (kn : List Kw) (ds : List (Option Nat)) : Wt → Bool
  | .slot j => decide (j < ops.size) && (ds.getD j none).isSome
  | .cont j k => decide (j < ops.size) && (ds.getD j none).isSome && (decide ((kwAt kn j).sts.length ≤ k) && (kwAt kn j).sts.all (fun s => decide (s < ops.size)))
  | .base x k => decide ((Gs.getD x []).length ≤ k) && (Gs.getD x []).all (fun s => decide (s < ops.size))
def storeB (ops : Array Oper) (i : Nat) (o : Oper) (ss : List Nat) (k : Nat) : Bool :=
  decide (1 ≤ k) && decide (ss[k - 1]? = some i) && (ss.take (k - 1)).all (fun s => predOf o s) && (ss.drop k).all (fun s => waitsFor ops s i)
def opB (ops : Array Oper) (Gs : List (List Nat)) (kn : List Kw) (tg : List Tg) (ds : List (Option Nat)) (wt : List (List Wt)) (i : Nat) (o : Oper) : Bool :=
  o.after.all (fun e => !Region.binds .any e || decide (e.on < i)) &&
  (match o.guard with | some (g, _) => decide (g < ops.size) && (ds.getD g none).isSome | none => true) &&
  (wt.getD i []).all (wtB ops Gs kn ds i o) &&
  (!(kwAt kn i).isNew || ((ds.getD i none).isSome && (kwAt kn i).sts.all (fun s => waitsFor ops s i))) &&
  (List.range ops.size).all (fun j => !(kwAt kn j).sts.contains i || (match tg.getD i .none with | .own j' _ => j == j' | _ => false)) &&
  (List.range Gs.length).all (fun x => !(Gs.getD x []).contains i || (match tg.getD i .none with | .base x' _ => x == x' | _ => false)) &&
  (match tg.getD i .none with
    | .none => true
    | .own j k => !(kwAt kn i).isNew && (kwAt kn j).isNew && predOf o j && decide (j < ops.size) && (ds.getD j none).isSome && storeB ops i o (kwAt kn j).sts k
    | .base x k => !(kwAt kn i).isNew && decide (x < Gs.length) && storeB ops i o (Gs.getD x []) k)
def Cont.still (c : Cont) : Bool := c.stores.isEmpty
def ApartFrom (g : Nat × Cont) : List (Nat × Cont) → Prop
  | [] => True
  | h :: l => (match g.2.still && h.2.still with | true => True | false => g.1 ≠ h.1) ∧ ApartFrom g l
/-- A block that is stored into is none of the others. -/
def Apart : List (Nat × Cont) → Prop
  | [] => True
  | g :: l => ApartFrom g l ∧ Apart l
theorem ApartFrom.at {g : Nat × Cont} : ∀ {l : List (Nat × Cont)}, ApartFrom g l → ∀ h ∈ l, (g.2.still && h.2.still) = false → g.1 ≠ h.1
  | [], _, _, hm, _ => by cases hm
  | x :: l, ha, h, hm, hs => by
    rcases List.mem_cons.1 hm with rfl | hm
    · have := ha.1
      rw [hs] at this
      exact this
    · exact ApartFrom.at ha.2 h hm hs
theorem Apart.at : ∀ {l : List (Nat × Cont)}, Apart l → ∀ (x y : Nat) (g h : Nat × Cont), l[x]? = some g → l[y]? = some h → g.2.still = false → g.1 = h.1 → x = y
  | [], _, _, _, _, _, hx, _, _, _ => by simp at hx
  | k :: l, ha, x, y, g, h, hx, hy, hs, he => by
    cases x with
    | zero =>
      cases y with
      | zero => rfl
      | succ y =>
        simp at hx hy
        subst hx
        exact absurd he (ha.1.at h (List.mem_of_getElem? hy) (by rw [hs]; rfl))
    | succ x =>
      cases y with
      | zero =>
        simp at hx hy
        subst hy
        exact absurd he.symm (ha.1.at g (List.mem_of_getElem? hx) (by rw [hs]; exact Bool.and_false _))
      | succ y =>
        simp at hx hy
        rw [Apart.at ha.2 x y g h hx hy hs he]
def sts (G : List (Nat × Cont)) : List (List Nat) := G.map fun x => x.2.stores.map (·.1)
/-- Do the tables fit the region? -/
def tab3 (ops : Array Oper) (n : Nat) (Gs : List (List Nat)) (kn : List Kw) (tg : List Tg) (ds : List (Option Nat)) (base : List Nat) (wt : List (List Wt)) (fw : List Wt) (dl : List Nat) : Bool :=
  decide (ds.filterMap (fun x => x) = dl) && (ops.toList.map (·.dst) == ds) && decide (dsts ops).Nodup && (dsts ops).all (fun d => decide (d < n)) && base.all (fun t => !(dsts ops).contains t) && fw.all (finB ops Gs kn ds) &&
  (List.range ops.size).all (fun i => match ops[i]? with | some o => opB ops Gs kn tg ds wt i o | none => true)
structure Mid3 (ops : Array Oper) (a0 : Act) (S : World → Prop) (B : Nat) (G : List (Nat × Cont)) (kn : List Kw) (own : Nat → Nat) (listed : Array Bool) (a : Act) (w : World) : Prop where
  lsize : listed.size = ops.size
  closed : ∀ (j : Nat) (oj : Oper), ops[j]? = some oj → listed.getD j false = true → ∀ e ∈ oj.after, Region.binds .any e = true → listed.getD e.on false = true
  size : a.tmps.size = a0.tmps.size
  defers : a.defers = a0.defers
  world : S w
  big : B ≤ w.heap.size
  frame : ∀ t : Nat, (∀ (i : Nat) (o : Oper), ops[i]? = some o → listed.getD i false = true → o.dst ≠ some t) → a.tmps[t]? = a0.tmps[t]?
  known : ∀ (i : Nat) (o : Oper) (d : Nat), ops[i]? = some o → o.dst = some d → listed.getD i false = true → match kwAt kn i with
    | .val p => p (a.tmps.getD d undef)
    | .new rel c => rel (own i) (a.tmps.getD d undef) ∧ B ≤ own i ∧ ContOK (c.at (fun s => listed.getD s false)) w (own i)
  blocks : ∀ x ∈ G, ContOK (x.2.at (fun s => listed.getD s false)) w x.1
  inj : ∀ i j, listed.getD i false = true → listed.getD j false = true → (kwAt kn i).isNew = true → (kwAt kn j).isNew = true → own i = own j → i = j
theorem ContOK.lt {c : Obj → Prop} {w : World} {b : Nat} (h : ContOK c w b) : b < w.heap.size := by
  obtain ⟨ob, h, _⟩ := h
  exact (Array.getElem?_eq_some_iff.1 h).1
theorem ContOK.keep {c c' : Obj → Prop} {w w' : World} {b : Nat} {T : Nat → Prop} (h : ContOK c w b) (ht : Touch T w w') (hb : ¬ T b) (hc : c' = c) : ContOK c' w' b := by
  have hl := h.lt
  obtain ⟨ob, h, hp⟩ := h
  exact ⟨ob, (ht.block b hl hb).trans h, hc ▸ hp⟩
def GAll (B : Nat) (w : World) : List (Nat × Cont) → Prop
  | [] => True
  | x :: l => (x.1 < B ∧ ContOK x.2.first w x.1) ∧ GAll B w l
theorem GAll.at {B : Nat} {w : World} : ∀ {l : List (Nat × Cont)}, GAll B w l → ∀ x ∈ l, x.1 < B ∧ ContOK x.2.first w x.1
  | [], _, _, h => by cases h
  | y :: l, h, x, hx => by
    rcases List.mem_cons.1 hx with rfl | hx
    · exact h.1
    · exact GAll.at h.2 x hx
theorem storeB_spec {i : Nat} {o : Oper} {ss : List Nat} {k : Nat} (h : storeB ops i o ss k = true) : (∀ s ∈ ss.take k, s = i ∨ predOf o s = true) ∧ (∀ s ∈ ss.drop k, waitsFor ops s i = true) := by
  simp only [storeB, Bool.and_eq_true, decide_eq_true_eq] at h
  obtain ⟨⟨⟨h1, h2⟩, h3⟩, h4⟩ := h
  refine ⟨fun s hs => ?_, fun s hs => List.all_eq_true.1 h4 s hs⟩
  have e : ss.take k = ss.take (k - 1) ++ [i] := by
    have hl : k - 1 < ss.length := (List.getElem?_eq_some_iff.1 h2).1
    have h5 := (List.getElem?_eq_some_iff.1 h2).2
    have := List.take_succ_eq_append_getElem hl
    rw [show k - 1 + 1 = k by omega, h5] at this
    exact this
  rw [e] at hs
  rcases List.mem_append.1 hs with hs | hs
  · exact .inr (List.all_eq_true.1 h3 s hs)
  · exact .inl (by simpa using hs)
theorem getD_self {listed : Array Bool} {i : Nat} (h : i < listed.size) : (listed.setIfInBounds i true).getD i false = true := by simp [h]
theorem predOf_spec {o : Oper} {j : Nat} (h : predOf o j = true) : ∃ e ∈ o.after, Region.binds .any e = true ∧ e.on = j := by
  obtain ⟨e, he, hb⟩ := Array.any_eq_true'.1 h
  simp only [Bool.and_eq_true, beq_iff_eq] at hb
  exact ⟨e, he, hb.1, hb.2⟩
/-- One operation hands the knowledge on. -/
theorem Mid3.next {a0 : Act} {S : World → Prop} {B : Nat} {G : List (Nat × Cont)} {kn : List Kw} {tg : List Tg} {ds : List (Option Nat)} {wt : List (List Wt)} {own : Nat → Nat} {listed : Array Bool} {a : Act} {w : World} {i : Nat} {o : Oper} {v : Value} {w' : World}
    (hnd : (dsts ops).Nodup) (hsz : ∀ d ∈ dsts ops, d < a0.tmps.size) (hop : opB ops (sts G) kn tg ds wt i o = true) (hGB : ∀ x ∈ G, x.1 < B) (hGd : Apart G)
    (hnewd : ∀ (j : Nat) (oj : Oper), ops[j]? = some oj → (kwAt kn j).isNew = true → oj.dst.isSome = true)
    (hSR : ∀ w w', S w → Touch (fun k => B ≤ k ∨ k ∈ G.map (·.1)) w w' → S w')
    (mid : Mid3 ops a0 S B G kn own listed a w) (ho : ops[i]? = some o) (hun : listed.getD i true = false) (hall : ∀ e ∈ o.after, Region.binds .any e = true → listed.getD e.on false = true)
    (post : Post3 G kn tg own w i v w') : ∃ own', Mid3 ops a0 S B G kn own' (listed.setIfInBounds i true) (a.put o.dst v) w' := by
  have hils : i < listed.size := by
    rcases Nat.lt_or_ge i listed.size with h | h
    · exact h
    · simp [Array.getElem?_eq_none h] at hun
  have hilt : i < ops.size := by rw [← mid.lsize]; exact hils
  have hunf : listed.getD i false = false := by simp [hils] at hun ⊢; exact hun
  have hself := getD_self hils
  simp only [opB, Bool.and_eq_true] at hop
  obtain ⟨⟨⟨⟨⟨⟨hord, hgd⟩, hwt⟩, hnew⟩, hst1⟩, hst2⟩, htg⟩ := hop
  have hpl : ∀ j, predOf o j = true → listed.getD j false = true := fun j hj => by
    obtain ⟨e, he, hb, rfl⟩ := predOf_spec hj
    exact hall e he hb
  have hwl : ∀ s, waitsFor ops s i = true → listed.getD s false = false := fun s hs => by
    unfold waitsFor at hs
    cases hq : ops[s]? with
    | none => rw [hq] at hs; cases hs
    | some os =>
      rw [hq] at hs
      obtain ⟨e, he, hb, hon⟩ := predOf_spec hs
      cases hl : listed.getD s false with
      | false => rfl
      | true =>
        have := mid.closed s os hq hl e he hb
        rw [hon, hunf] at this
        cases this
  have hother : ∀ s, s ≠ i → (listed.setIfInBounds i true).getD s false = listed.getD s false := fun s hs => getD_set_ne false (Ne.symm hs)
  have hstage : ∀ (c : Cont) (k : Nat), storeB ops i o (c.stores.map (·.1)) k = true → c.at (fun s => (listed.setIfInBounds i true).getD s false) = c.stage k := fun c k hs => by
    obtain ⟨h1, h2⟩ := storeB_spec hs
    refine Cont.at_stage k (fun s hs' => ?_) (fun s hs' => ?_)
    · rcases h1 s hs' with rfl | h
      · exact hself
      · by_cases hsi : s = i
        · subst hsi; exact hself
        · rw [hother s hsi]; exact hpl s h
    · have := hwl s (h2 s hs')
      have hsi : s ≠ i := fun e => by
        subst e
        have h3 := h2 s hs'
        simp only [waitsFor, ho] at h3
        obtain ⟨e, he, hb, hon⟩ := predOf_spec h3
        have h4 := Array.all_eq_true'.1 hord e he
        simp only [hb, Bool.not_true, Bool.false_or, decide_eq_true_eq] at h4
        omega
      rw [hother s hsi]; exact this
  have hfree : ∀ (c : Cont), i ∉ c.stores.map (·.1) → c.at (fun s => (listed.setIfInBounds i true).getD s false) = c.at (fun s => listed.getD s false) := fun c hc =>
    Cont.at_congr (fun s hs => hother s (fun e => hc (e ▸ hs)))
  have hclosed : ∀ (j : Nat) (oj : Oper), ops[j]? = some oj → (listed.setIfInBounds i true).getD j false = true → ∀ e ∈ oj.after, Region.binds .any e = true → (listed.setIfInBounds i true).getD e.on false = true := by
    intro j oj hj hl e he hb
    have h1 : listed.getD e.on false = true := by
      rcases getD_set_false hl with rfl | hl
      · obtain rfl : oj = o := Option.some.inj (hj.symm.trans ho)
        exact hall e he hb
      · exact mid.closed j oj hj hl e he hb
    by_cases hie : e.on = i
    · rw [hie]; exact hself
    · rw [hother _ hie]; exact h1
  have hframe : ∀ t : Nat, (∀ (j : Nat) (oj : Oper), ops[j]? = some oj → (listed.setIfInBounds i true).getD j false = true → oj.dst ≠ some t) → (a.put o.dst v).tmps[t]? = a0.tmps[t]? := by
    intro t ht
    have h1 : (a.put o.dst v).tmps[t]? = a.tmps[t]? := by
      cases hd : o.dst with
      | none => rfl
      | some d =>
        have hne : d ≠ t := fun h => ht i o ho hself (by rw [hd, h])
        simp [Act.put, hne]
    rw [h1]
    exact mid.frame t (fun j oj hj hl => ht j oj hj (by
      by_cases hij : j = i
      · subst hij; exact hself
      · rw [hother _ hij]; exact hl))
  have hsize : (a.put o.dst v).tmps.size = a0.tmps.size := by
    cases hd : o.dst with
    | none => exact mid.size
    | some d => simpa [Act.put] using mid.size
  have hdef : (a.put o.dst v).defers = a0.defers := by
    cases hd : o.dst with
    | none => exact mid.defers
    | some d => exact mid.defers
  -- a slot of another operation
  have hslot : ∀ (j : Nat) (oj : Oper) (d : Nat), ops[j]? = some oj → oj.dst = some d → j ≠ i → (a.put o.dst v).tmps.getD d undef = a.tmps.getD d undef := by
    intro j oj d hj hd hji
    cases hdi : o.dst with
    | none => rfl
    | some di =>
      have hne : di ≠ d := fun h => by
        subst h
        exact hji (nodup_dst hnd hj ho hd hdi)
      simp [Act.put, hne]
  have hmine : ∀ d, o.dst = some d → (a.put o.dst v).tmps.getD d undef = v := by
    intro d hd
    have hm : d ∈ dsts ops := List.mem_filterMap.2 ⟨o, by simpa using Array.mem_of_getElem? ho, hd⟩
    have : d < a.tmps.size := by rw [mid.size]; exact hsz d hm
    rw [hd]; simp [Act.put, this]
  have hjlt : ∀ j, listed.getD j false = true → j < ops.size := fun j hj => by
    rw [← mid.lsize]
    rcases Nat.lt_or_ge j listed.size with h | h
    · exact h
    · simp [Array.getElem?_eq_none h] at hj
  have hst1' : ∀ j, j < ops.size → (∀ k, tg.getD i .none ≠ .own j k) → i ∉ (kwAt kn j).sts := fun j hj hn hmem => by
    have h1 := List.all_eq_true.1 hst1 j (List.mem_range.2 hj)
    simp only [List.contains_iff_mem.2 hmem, Bool.not_true, Bool.false_or] at h1
    split at h1
    · rename_i j' k' heq
      simp only [beq_iff_eq] at h1
      subst h1
      exact hn _ heq
    · cases h1
  have hst2' : ∀ (x : Nat) (hx : x < G.length), (∀ k, tg.getD i .none ≠ .base x k) → i ∉ G[x].2.stores.map (·.1) := fun x hx hn hmem => by
    have h1 := List.all_eq_true.1 hst2 x (List.mem_range.2 (by simpa [sts] using hx))
    have h2 : (sts G).getD x [] = G[x].2.stores.map (·.1) := by simp [sts, hx]
    rw [h2] at h1
    simp only [List.contains_iff_mem.2 hmem, Bool.not_true, Bool.false_or] at h1
    split at h1
    · rename_i j' k' heq
      simp only [beq_iff_eq] at h1
      subst h1
      exact hn _ heq
    · cases h1
  unfold Post3 at post
  cases htgi : tg.getD i .none with
  | none =>
    rw [htgi] at post htg
    simp only at post
    obtain ⟨ht, hv⟩ := post
    have hS' := hSR w w' mid.world (ht.mono (fun _ _ h => h.elim))
    have hblocks : ∀ x ∈ G, ContOK (x.2.at (fun s => (listed.setIfInBounds i true).getD s false)) w' x.1 := fun x hx => by
      obtain ⟨n, hn, rfl⟩ := List.getElem_of_mem hx
      exact (mid.blocks _ hx).keep ht (fun h => h) (hfree _ (hst2' n hn (fun _ h => by rw [htgi] at h; cases h)))
    cases hk : kwAt kn i with
    | val p =>
      rw [hk] at hv
      simp only at hv
      refine ⟨own, ⟨by simp [mid.lsize], hclosed, hsize, hdef, hS', Nat.le_trans mid.big ht.size, hframe, ?_, hblocks, ?_⟩⟩
      · intro j oj d hj hd hl
        by_cases hji : j = i
        · subst hji
          obtain rfl : oj = o := Option.some.inj (hj.symm.trans ho)
          rw [hk, hmine d hd]; exact hv
        · rw [hslot j oj d hj hd hji]
          rw [hother j hji] at hl
          have h1 := mid.known j oj d hj hd hl
          cases hkj : kwAt kn j with
          | val p => rw [hkj] at h1; exact h1
          | new rel c =>
            rw [hkj] at h1
            have h2 := hst1' j (hjlt j hl) (fun _ h => by rw [htgi] at h; cases h)
            rw [hkj] at h2
            exact ⟨h1.1, h1.2.1, h1.2.2.keep ht (fun h => h) (hfree c h2)⟩
      · intro j j' hl hl' hn hn' he
        have hni : ∀ j, (kwAt kn j).isNew = true → j ≠ i := fun j h e => by subst e; rw [hk] at h; cases h
        rw [hother j (hni j hn)] at hl
        rw [hother j' (hni j' hn')] at hl'
        exact mid.inj j j' hl hl' hn hn' he
    | new rel c =>
      rw [hk] at hv
      simp only at hv
      obtain ⟨b, hb, hrel, hc⟩ := hv
      refine ⟨fun j => if j = i then b else own j, ⟨by simp [mid.lsize], hclosed, hsize, hdef, hS', Nat.le_trans mid.big ht.size, hframe, ?_, hblocks, ?_⟩⟩
      · intro j oj d hj hd hl
        by_cases hji : j = i
        · subst hji
          obtain rfl : oj = o := Option.some.inj (hj.symm.trans ho)
          have hno : j ∉ c.stores.map (·.1) := by
            have h2 := hst1' j hilt (fun _ h => by rw [htgi] at h; cases h)
            rw [hk] at h2
            exact h2
          have hstg : c.at (fun s => (listed.setIfInBounds j true).getD s false) = c.first := by
            rw [hfree c hno]
            have hz : ∀ s ∈ c.stores.map (·.1), listed.getD s false = false := fun s hs => by
              rw [hk] at hnew
              simp only [Kw.isNew, Bool.not_true, Bool.false_or, Bool.and_eq_true] at hnew
              exact hwl s (List.all_eq_true.1 hnew.2 s hs)
            exact Cont.at_stage 0 (fun s hs => by simp at hs) (fun s hs => hz s (by simpa using hs))
          rw [hk, hmine d hd]
          simp only [if_true]
          exact ⟨hrel, Nat.le_trans mid.big hb, by rw [hstg]; exact hc⟩
        · rw [hslot j oj d hj hd hji]
          rw [hother j hji] at hl
          have h1 := mid.known j oj d hj hd hl
          cases hkj : kwAt kn j with
          | val p => rw [hkj] at h1; exact h1
          | new rel c =>
            rw [hkj] at h1
            have h2 := hst1' j (hjlt j hl) (fun _ h => by rw [htgi] at h; cases h)
            rw [hkj] at h2
            simp only [hji, if_false]
            exact ⟨h1.1, h1.2.1, h1.2.2.keep ht (fun h => h) (hfree c h2)⟩
      · have hlow : ∀ j, j ≠ i → (listed.setIfInBounds i true).getD j false = true → (kwAt kn j).isNew = true → own j < w.heap.size := fun j hji hl hn => by
          rw [hother j hji] at hl
          have hlt := hjlt j hl
          have hoj : ops[j]? = some ops[j] := Array.getElem?_eq_getElem hlt
          obtain ⟨d, hd⟩ := Option.isSome_iff_exists.1 (hnewd j _ hoj hn)
          have h1 := mid.known j _ d hoj hd hl
          cases hkj : kwAt kn j with
          | val p => rw [hkj] at hn; cases hn
          | new rel c => rw [hkj] at h1; exact h1.2.2.lt
        intro j j' hl hl' hn hn' he
        by_cases h1 : j = i
        · by_cases h2 : j' = i
          · rw [h1, h2]
          · have := hlow j' h2 hl' hn'
            simp only [h1, if_true, h2, if_false] at he
            omega
        · by_cases h2 : j' = i
          · have := hlow j h1 hl hn
            simp only [h1, if_false, h2, if_true] at he
            omega
          · simp only [h1, h2, if_false] at he
            rw [hother j h1] at hl
            rw [hother j' h2] at hl'
            exact mid.inj j j' hl hl' hn hn' he
  | own j0 k =>
    rw [htgi] at post htg
    simp only [Bool.and_eq_true, decide_eq_true_eq] at post htg
    obtain ⟨ht, hc, hv⟩ := post
    obtain ⟨⟨⟨⟨⟨hni, hnj⟩, hpj⟩, hj0⟩, hdj⟩, hsb⟩ := htg
    have hl0 := hpl j0 hpj
    have hk : ∃ p, kwAt kn i = .val p := by
      cases hk : kwAt kn i with
      | val p => exact ⟨p, rfl⟩
      | new _ _ => rw [hk] at hni; cases hni
    obtain ⟨p, hk⟩ := hk
    rw [hk] at hv
    simp only at hv
    have hoj0 : ops[j0]? = some ops[j0] := Array.getElem?_eq_getElem hj0
    obtain ⟨d0, hd0⟩ := Option.isSome_iff_exists.1 (hnewd j0 _ hoj0 hnj)
    have hkn0 := mid.known j0 _ d0 hoj0 hd0 hl0
    cases hkj0 : kwAt kn j0 with
    | val _ => rw [hkj0] at hnj; cases hnj
    | new rel0 c0 =>
    rw [hkj0] at hc hkn0 hsb
    simp only at hc hkn0
    have hB0 := hkn0.2.1
    have hS' := hSR w w' mid.world (ht.mono (fun b _ h => .inl (by rw [h]; exact hB0)))
    refine ⟨own, ⟨by simp [mid.lsize], hclosed, hsize, hdef, hS', Nat.le_trans mid.big ht.size, hframe, ?_, ?_, ?_⟩⟩
    · intro j oj d hj hd hl
      by_cases hji : j = i
      · subst hji
        obtain rfl : oj = o := Option.some.inj (hj.symm.trans ho)
        rw [hk, hmine d hd]; exact hv
      · rw [hslot j oj d hj hd hji]
        rw [hother j hji] at hl
        have h1 := mid.known j oj d hj hd hl
        cases hkj : kwAt kn j with
        | val p => rw [hkj] at h1; exact h1
        | new rel c =>
          rw [hkj] at h1
          by_cases hjj : j = j0
          · subst hjj
            rw [hkj0] at hkj
            cases hkj
            exact ⟨h1.1, h1.2.1, by rw [hstage c0 k hsb]; exact hc⟩
          · have h2 := hst1' j (hjlt j hl) (fun _ h => by rw [htgi] at h; cases h; exact hjj rfl)
            rw [hkj] at h2
            exact ⟨h1.1, h1.2.1, h1.2.2.keep ht (fun h => hjj (mid.inj j j0 hl hl0 (by rw [hkj]; rfl) hnj h)) (hfree c h2)⟩
    · intro x hx
      obtain ⟨n, hn, rfl⟩ := List.getElem_of_mem hx
      exact (mid.blocks _ hx).keep ht (fun h => by have := hGB _ hx; omega) (hfree _ (hst2' n hn (fun _ h => by rw [htgi] at h; cases h)))
    · intro j j' hl hl' hn hn' he
      have hni : ∀ j, (kwAt kn j).isNew = true → j ≠ i := fun j h e => by subst e; rw [hk] at h; cases h
      rw [hother j (hni j hn)] at hl
      rw [hother j' (hni j' hn')] at hl'
      exact mid.inj j j' hl hl' hn hn' he
  | base x0 k =>
    rw [htgi] at post htg
    simp only [Bool.and_eq_true, decide_eq_true_eq] at post htg
    obtain ⟨hc, hv⟩ := post
    obtain ⟨⟨hni, hx0⟩, hsb⟩ := htg
    have hx0 : x0 < G.length := by simpa [sts] using hx0
    rw [List.getElem?_eq_getElem hx0] at hc
    simp only at hc
    obtain ⟨ht, hc⟩ := hc
    have hsb : storeB ops i o (G[x0].2.stores.map (·.1)) k = true := by
      have h2 : (sts G).getD x0 [] = G[x0].2.stores.map (·.1) := by simp [sts, hx0]
      rw [h2] at hsb; exact hsb
    have hk : ∃ p, kwAt kn i = .val p := by
      cases hk : kwAt kn i with
      | val p => exact ⟨p, rfl⟩
      | new _ _ => rw [hk] at hni; cases hni
    obtain ⟨p, hk⟩ := hk
    rw [hk] at hv
    simp only at hv
    have hxm : G[x0] ∈ G := List.getElem_mem hx0
    have hS' := hSR w w' mid.world (ht.mono (fun b _ h => .inr (by rw [h]; exact List.mem_map_of_mem hxm)))
    refine ⟨own, ⟨by simp [mid.lsize], hclosed, hsize, hdef, hS', Nat.le_trans mid.big ht.size, hframe, ?_, ?_, ?_⟩⟩
    · intro j oj d hj hd hl
      by_cases hji : j = i
      · subst hji
        obtain rfl : oj = o := Option.some.inj (hj.symm.trans ho)
        rw [hk, hmine d hd]; exact hv
      · rw [hslot j oj d hj hd hji]
        rw [hother j hji] at hl
        have h1 := mid.known j oj d hj hd hl
        cases hkj : kwAt kn j with
        | val p => rw [hkj] at h1; exact h1
        | new rel c =>
          rw [hkj] at h1
          have h2 := hst1' j (hjlt j hl) (fun _ h => by rw [htgi] at h; cases h)
          rw [hkj] at h2
          exact ⟨h1.1, h1.2.1, h1.2.2.keep ht (fun h => by have := hGB _ hxm; have := h1.2.1; omega) (hfree c h2)⟩
    · intro x hx
      obtain ⟨n, hn, rfl⟩ := List.getElem_of_mem hx
      by_cases hnx : n = x0
      · subst hnx
        rw [hstage _ k hsb]; exact hc
      · refine (mid.blocks _ hx).keep ht (fun h => hnx ?_) (hfree _ (hst2' n hn (fun _ h => by rw [htgi] at h; cases h; exact hnx rfl)))
        have hst0 : G[x0].2.still = false := by
          cases hq : G[x0].2.stores with
          | nil =>
            simp only [storeB, hq, List.map_nil, Bool.and_eq_true, decide_eq_true_eq] at hsb
            simp at hsb
          | cons _ _ => simp [Cont.still, hq]
        exact (hGd.at x0 n _ _ (List.getElem?_eq_getElem hx0) (List.getElem?_eq_getElem hn) hst0 h.symm).symm
    · intro j j' hl hl' hn hn' he
      have hni : ∀ j, (kwAt kn j).isNew = true → j ≠ i := fun j h e => by subst e; rw [hk] at h; cases h
      rw [hother j (hni j hn)] at hl
      rw [hother j' (hni j' hn')] at hl'
      exact mid.inj j j' hl hl' hn hn' he
theorem any_region3 {a0 : Act} {w0 : World} (S : World → Prop) (B : Nat) (G : List (Nat × Cont)) (kn : List Kw) (tg : List Tg) (ds : List (Option Nat)) (base : List (Nat × Value)) (wt : List (List Wt)) (fw : List Wt) (dl : List Nat)
    (hB : tab3 ops a0.tmps.size (sts G) kn tg ds (base.map (·.1)) wt fw dl = true)
    (hb0 : Holds a0 base) (hS0 : S w0.drew) (hBig : B ≤ w0.heap.size) (hG0 : GAll B w0.drew G) (hGd : Apart G)
    (hSR : ∀ w w', S w → Touch (fun k => B ≤ k ∨ k ∈ G.map (·.1)) w w' → S w')
    (steps : AllSteps3 P S B G kn tg ds base wt 0 ops.toList)
    (fin : ∀ (vs own : Nat → _) (w : World), S w → B ≤ w.heap.size → Knows3 B G kn ds own vs w fw → (∀ i j, i < ops.size → j < ops.size → (kwAt kn i).isNew = true → (kwAt kn j).isNew = true → own i = own j → i = j) → Q .normal (putAll a0 vs dl) w) :
    wpAny P .any ops Q ops.size (Array.replicate ops.size false) a0 { w0 with drawn := w0.drawn + 1 } := by
  simp only [tab3, Bool.and_eq_true, beq_iff_eq, decide_eq_true_eq] at hB
  obtain ⟨⟨⟨⟨⟨⟨hdl, hds⟩, hnd⟩, hsz⟩, hbase⟩, hfw⟩, hops⟩ := hB
  have hsz' : ∀ d ∈ dsts ops, d < a0.tmps.size := fun d hd => by simpa using List.all_eq_true.1 hsz d hd
  have hop : ∀ (i : Nat) (o : Oper), ops[i]? = some o → opB ops (sts G) kn tg ds wt i o = true := fun i o ho => by
    have h1 := List.all_eq_true.1 hops i (List.mem_range.2 (Array.getElem?_eq_some_iff.1 ho).1)
    simpa only [ho] using h1
  have hdst : ∀ (j : Nat) (oj : Oper), ops[j]? = some oj → ds.getD j none = oj.dst := fun j oj hj => by
    have h1 : (ops.toList.map (·.dst))[j]? = some oj.dst := by rw [List.getElem?_map]; simp [hj]
    rw [hds] at h1
    rw [List.getD_eq_getElem?_getD, h1]
    rfl
  have hdsts : dsts ops = dl := by
    unfold dsts
    rw [← hdl, ← hds, List.filterMap_map]
    rfl
  have hnewd : ∀ (j : Nat) (oj : Oper), ops[j]? = some oj → (kwAt kn j).isNew = true → oj.dst.isSome = true := fun j oj hj hn => by
    have h1 := hop j oj hj
    simp only [opB, Bool.and_eq_true] at h1
    have h2 := h1.1.1.1.2
    rw [hn, hdst j oj hj] at h2
    simp only [Bool.not_true, Bool.false_or, Bool.and_eq_true] at h2
    exact h2.1
  have hGB : ∀ x ∈ G, x.1 < B := fun x hx => (hG0.at x hx).1
  refine (wpAny_inv (fun listed a w => ∃ own, Mid3 ops a0 S B G kn own listed a w) ?_ ?_ ops.size _ a0 _ ?_ ?_)
  · intro listed a w i inv hi
    obtain ⟨own, mid⟩ := inv
    obtain ⟨hun, o, ho, hall⟩ := mem_ready.1 hi
    have hils : i < listed.size := by
      rcases Nat.lt_or_ge i listed.size with h | h
      · exact h
      · simp [Array.getElem?_eq_none h] at hun
    have hunf : listed.getD i false = false := by simp [hils] at hun ⊢; exact hun
    have hopi := hop i o ho
    have hopi2 := hopi
    simp only [opB, Bool.and_eq_true] at hopi2
    obtain ⟨⟨⟨⟨⟨⟨hord, hgd⟩, hwt⟩, hnew⟩, hst1⟩, hst2⟩, htg⟩ := hopi2
    have hpl : ∀ j, predOf o j = true → listed.getD j false = true := fun j hj => by
      obtain ⟨e, he, hb, rfl⟩ := predOf_spec hj
      exact hall e he hb
    have hwl : ∀ s, waitsFor ops s i = true → listed.getD s false = false := fun s hs => by
      unfold waitsFor at hs
      cases hq : ops[s]? with
      | none => rw [hq] at hs; cases hs
      | some os =>
        rw [hq] at hs
        obtain ⟨e, he, hb, hon⟩ := predOf_spec hs
        cases hl : listed.getD s false with
        | false => rfl
        | true =>
          have := mid.closed s os hq hl e he hb
          rw [hon, hunf] at this
          cases this
    have hstage : ∀ (c : Cont) (k : Nat), stageB ops i o (c.stores.map (·.1)) k = true → c.at (fun s => listed.getD s false) = c.stage k := fun c k hs => by
      simp only [stageB, Bool.and_eq_true] at hs
      refine Cont.at_stage k (fun s h => hpl s (List.all_eq_true.1 hs.1 s h)) (fun s h => ?_)
      have h1 := List.all_eq_true.1 hs.2 s h
      simp only [Bool.or_eq_true, beq_iff_eq] at h1
      rcases h1 with rfl | h1
      · exact hunf
      · exact hwl s h1
    have hslot : ∀ (j : Nat) (oj : Oper) (d : Nat), ops[j]? = some oj → oj.dst = some d → slAt ds j = d := fun j oj d hj hd => by
      unfold slAt
      rw [hdst j oj hj, hd]
      rfl
    have hkn : Knows3 B G kn ds own (fun d => a.eval (.tmp d)) w (wt.getD i []) := knows3_of _ (fun x hx => by
      have h1 := List.all_eq_true.1 hwt x hx
      cases x with
      | slot j =>
        simp only [wtB, Bool.and_eq_true, decide_eq_true_eq] at h1
        have hoj : ops[j]? = some ops[j] := Array.getElem?_eq_getElem h1.1.2
        rw [hdst j _ hoj] at h1
        obtain ⟨d, hd⟩ := Option.isSome_iff_exists.1 h1.2
        have h2 := mid.known j _ d hoj hd (hpl j h1.1.1)
        simp only [WtAt, hslot j _ d hoj hd]
        cases hk : kwAt kn j with
        | val p => rw [hk] at h2; simpa [Act.eval] using h2
        | new rel c => rw [hk] at h2; exact ⟨by simpa [Act.eval] using h2.1, h2.2.1, h2.2.2.lt⟩
      | cont j k =>
        simp only [wtB, Bool.and_eq_true, decide_eq_true_eq] at h1
        have hoj : ops[j]? = some ops[j] := Array.getElem?_eq_getElem h1.1.1.2
        rw [hdst j _ hoj] at h1
        obtain ⟨d, hd⟩ := Option.isSome_iff_exists.1 h1.1.2
        have h2 := mid.known j _ d hoj hd (hpl j h1.1.1.1)
        simp only [WtAt]
        cases hk : kwAt kn j with
        | val p => trivial
        | new rel c =>
          rw [hk] at h2
          have h3 := h1.2
          rw [hk] at h3
          show ContOK (c.stage k) w (own j)
          rw [← hstage c k h3]; exact h2.2.2
      | base x k =>
        simp only [wtB] at h1
        simp only [WtAt]
        cases hg : G[x]? with
        | none => trivial
        | some g =>
          have hxl : x < G.length := (List.getElem?_eq_some_iff.1 hg).1
          have h2 : (sts G).getD x [] = g.2.stores.map (·.1) := by simp [sts, hg]
          rw [h2] at h1
          show ContOK (g.2.stage k) w g.1
          rw [← hstage g.2 k h1]
          exact mid.blocks g (List.mem_of_getElem? hg))
    have hhold : Holds a base := holds_of base (fun t htm => eval_tmp_of (mid.frame t (fun j oj hj _ hd => by
      have h1 := List.all_eq_true.1 hbase t htm
      have h2 : t ∈ dsts ops := List.mem_filterMap.2 ⟨oj, by simpa using Array.mem_of_getElem? hj, hd⟩
      simp [h2] at h1))) hb0
    have st := AllSteps3.at ops.toList wt 0 steps i o (by simpa using ho)
    rw [Nat.zero_add] at st
    have hnext : ∀ v w', Post3 G kn tg own w i v w' → ∃ own', Mid3 ops a0 S B G kn own' (listed.setIfInBounds i true) (a.put o.dst v) w' := fun v w' hp =>
      Mid3.next hnd hsz' hopi hGB hGd hnewd hSR mid ho hun hall hp
    have hyield : ∀ (g : Nat) (b : Bool), (decide (g < ops.size) && (ds.getD g none).isSome) = true → ∃ d, slAt ds g = d ∧ yielded ops a.tmps g = (match a.tmps[d]? with | some (.bool b) => some b | _ => none) := fun g b hg => by
      simp only [Bool.and_eq_true, decide_eq_true_eq] at hg
      have hog : ops[g]? = some ops[g] := Array.getElem?_eq_getElem hg.1
      rw [hdst g _ hog] at hg
      obtain ⟨d, hd⟩ := Option.isSome_iff_exists.1 hg.2
      refine ⟨d, hslot g _ d hog hd, ?_⟩
      unfold yielded
      rw [hog]
      simp only [Option.bind_some, hd]
      cases a.tmps[d]? <;> rfl
    unfold wpOp
    simp only [ho]
    rcases st Q a w own mid.world mid.big hhold hkn with ⟨hg, hk⟩ | ⟨hg, hp⟩
    · have hw : Region.wanted o (yielded ops a.tmps) = true := by
        unfold Region.wanted
        cases hgo : o.guard with
        | none => rfl
        | some x =>
          obtain ⟨g, b⟩ := x
          rw [hgo] at hg hgd
          obtain ⟨d, hd, hy⟩ := hyield g b hgd
          simp only [hd, Act.eval] at hg
          have h4 : a.tmps[d]? = some (.bool b) := by
            rw [Array.getD_eq_getD_getElem?] at hg
            cases hq : a.tmps[d]? with
            | none => rw [hq] at hg; simp [undef] at hg
            | some v => rw [hq] at hg; simpa using hg
          simp [hy, h4]
      rw [if_pos hw]
      exact .inl (hk _ (fun v w' h => hnext v w' h))
    · have hw : Region.wanted o (yielded ops a.tmps) = false := by
        unfold Region.wanted
        cases hgo : o.guard with
        | none => rw [hgo] at hg; exact hg.elim
        | some x =>
          obtain ⟨g, b⟩ := x
          rw [hgo] at hg hgd
          obtain ⟨d, hd, hy⟩ := hyield g b hgd
          simp only [hd, Act.eval, Array.getD_eq_getD_getElem?] at hg
          show (yielded ops a.tmps g == some b) = false
          rw [hy]
          cases hq : a.tmps[d]? with
          | none => simp
          | some v =>
            rw [hq] at hg
            simp only [Option.getD_some] at hg
            rcases hg with rfl | rfl
            · cases b <;> simp
            · simp [undef]
      rw [if_neg (by rw [hw]; decide)]
      exact hnext _ _ hp
  · intro listed a w inv hr
    obtain ⟨own, mid⟩ := inv
    have hall : ∀ n i, i < n → i < ops.size → listed.getD i false = true := by
      intro n
      induction n with
      | zero => intro i h; cases h
      | succ n ih =>
        intro i hin hil
        by_cases hlt : i < n
        · exact ih i hlt hil
        · have hin' : i = n := by omega
          subst hin'
          cases hg : listed.getD i false with
          | true => rfl
          | false =>
            have ho : ops[i]? = some ops[i] := Array.getElem?_eq_getElem hil
            have h1 := hop i _ ho
            simp only [opB, Bool.and_eq_true] at h1
            have h1 := h1.1.1.1.1.1.1
            have hin2 : i ∈ Region.ready .any ops listed := mem_ready.2 ⟨by
              have : i < listed.size := by rw [mid.lsize]; exact hil
              simp [this] at hg ⊢; exact hg, _, ho, fun e he hb => by
              have h2 := Array.all_eq_true'.1 h1 e he
              simp only [hb, Bool.not_true, Bool.false_or, decide_eq_true_eq] at h2
              exact ih e.on h2 (by omega)⟩
            rw [hr] at hin2
            cases hin2
    have hal : ∀ i, i < ops.size → listed.getD i false = true := fun i hi => hall (i + 1) i (by omega) hi
    have hlt : ∀ i, listed.getD i false = true → i < ops.size := fun i hi => by
      rw [← mid.lsize]
      rcases Nat.lt_or_ge i listed.size with h | h
      · exact h
      · simp [Array.getElem?_eq_none h] at hi
    have hst : ∀ (c : Cont) (k : Nat), (∀ s ∈ c.stores.map (·.1), s < ops.size) → (c.stores.map (·.1)).length ≤ k → c.at (fun s => listed.getD s false) = c.stage k := fun c k hs hk =>
      Cont.at_stage k (fun s h => hal s (hs s (List.mem_of_mem_take h))) (fun s h => by rw [List.drop_eq_nil_of_le hk] at h; cases h)
    have hq := fin (fun d => a.tmps.getD d undef) own w mid.world mid.big (knows3_of _ (fun x hx => by
      have h1 := List.all_eq_true.1 hfw x hx
      cases x with
      | slot j =>
        simp only [finB, Bool.and_eq_true, decide_eq_true_eq] at h1
        have hoj : ops[j]? = some ops[j] := Array.getElem?_eq_getElem h1.1
        rw [hdst j _ hoj] at h1
        obtain ⟨d, hd⟩ := Option.isSome_iff_exists.1 h1.2
        have h2 := mid.known j _ d hoj hd (hal j h1.1)
        have hsl : slAt ds j = d := by unfold slAt; rw [hdst j _ hoj, hd]; rfl
        simp only [WtAt, hsl]
        cases hk : kwAt kn j with
        | val p => rw [hk] at h2; exact h2
        | new rel c => rw [hk] at h2; exact ⟨h2.1, h2.2.1, h2.2.2.lt⟩
      | cont j k =>
        simp only [finB, Bool.and_eq_true, decide_eq_true_eq] at h1
        have hoj : ops[j]? = some ops[j] := Array.getElem?_eq_getElem h1.1.1
        rw [hdst j _ hoj] at h1
        obtain ⟨d, hd⟩ := Option.isSome_iff_exists.1 h1.1.2
        have h2 := mid.known j _ d hoj hd (hal j h1.1.1)
        simp only [WtAt]
        cases hk : kwAt kn j with
        | val p => trivial
        | new rel c =>
          rw [hk] at h2
          have h3 := h1.2.1
          rw [hk] at h3
          have h4 := List.all_eq_true.1 h1.2.2
          rw [hk] at h4
          show ContOK (c.stage k) w (own j)
          rw [← hst c k (fun s hs => by simpa using h4 s hs) h3]; exact h2.2.2
      | base x k =>
        simp only [finB, Bool.and_eq_true, decide_eq_true_eq] at h1
        simp only [WtAt]
        cases hg : G[x]? with
        | none => trivial
        | some g =>
          have h2 : (sts G).getD x [] = g.2.stores.map (·.1) := by simp [sts, hg]
          rw [h2] at h1
          show ContOK (g.2.stage k) w g.1
          rw [← hst g.2 k (fun s hs => by simpa using List.all_eq_true.1 h1.2 s hs) h1.1]
          exact mid.blocks g (List.mem_of_getElem? hg)))
      (fun i j hi hj hn hn' he => mid.inj i j (hal i hi) (hal j hj) hn hn' he)
    have ha : putAll a0 (fun d => a.tmps.getD d undef) (dsts ops) = a := by
      have h1 := putAll_defers (fun d => a.tmps.getD d undef) (dsts ops) a0
      have h2 : (putAll a0 (fun d => a.tmps.getD d undef) (dsts ops)).tmps = a.tmps := by
        apply Array.ext_getElem?
        intro t
        by_cases ht : t < a0.tmps.size
        · rw [putAll_get _ _ _ _ ht]
          by_cases hm2 : t ∈ dsts ops
          · rw [if_pos hm2]
            have : t < a.tmps.size := by rw [mid.size]; exact ht
            simp [this]
          · rw [if_neg hm2]
            exact (mid.frame t (fun i o hi _ hd => hm2 (List.mem_filterMap.2 ⟨o, by simpa using Array.mem_of_getElem? hi, hd⟩))).symm
        · rw [Array.getElem?_eq_none (by rw [putAll_size]; omega), Array.getElem?_eq_none (by rw [mid.size]; omega)]
      rw [← mid.defers] at h1
      generalize putAll a0 (fun d => a.tmps.getD d undef) (dsts ops) = b at h1 h2
      cases a; cases b
      simp only at h1 h2
      rw [h1, h2]
    rw [← hdsts, ha] at hq
    exact hq
  · unfold leftOf
    exact Nat.le_trans (List.length_filter_le _ _) (by simp)
  · refine ⟨fun _ => 0, ⟨by simp, fun j oj _ hl => (by rw [getD_replicate_f] at hl; cases hl), rfl, rfl, hS0, hBig, fun _ _ => rfl, fun i o d _ _ hl => (by rw [getD_replicate_f] at hl; cases hl), fun x hx => ?_, fun i j hl => (by rw [getD_replicate_f] at hl; cases hl)⟩⟩
    have e : x.2.at (fun s => (Array.replicate ops.size false).getD s false) = x.2.stage 0 := Cont.at_stage 0 (fun s h => by simp at h) (fun s _ => getD_replicate_f _ _)
    rw [e]
    exact (hG0.at x hx).2
/-- THE LAW. -/
theorem wp_region3 {id : Nat} {a0 : Act} {w0 : World} (S : World → Prop) (B : Nat) (G : List (Nat × Cont)) (kn : List Kw) (tg : List Tg) (ds : List (Option Nat)) (base : List (Nat × Value)) (wt : List (List Wt)) (fw : List Wt) (dl : List Nat)
    (hm : P.follows .mixedOrders = true) (hB : tab3 ops a0.tmps.size (sts G) kn tg ds (base.map (·.1)) wt fw dl = true)
    (hb0 : Holds a0 base) (hS0 : S w0.drew) (hBig : B ≤ w0.heap.size) (hG0 : GAll B w0.drew G) (hGd : Apart G)
    (hSR : ∀ w w', S w → Touch (fun k => B ≤ k ∨ k ∈ G.map (·.1)) w w' → S w')
    (steps : AllSteps3 P S B G kn tg ds base wt 0 ops.toList)
    (fin : ∀ (vs own : Nat → _) (w : World), S w → B ≤ w.heap.size → Knows3 B G kn ds own vs w fw → (∀ i j, i < ops.size → j < ops.size → (kwAt kn i).isNew = true → (kwAt kn j).isNew = true → own i = own j → i = j) → Q .normal (putAll a0 vs dl) w) :
    (Code.region id ops true).wp P Q a0 w0 :=
  wp_region_any hm (any_region3 S B G kn tg ds base wt fw dl hB hb0 hS0 hBig hG0 hGd hSR steps fin)
end
end Go.Proofs.YtojekoakgpkkdabDoor

/-
  Own text. Laws that name no type and no function of the program: worlds of which little is known, whole rows, calls, results; steps for wp_region3.
-/
namespace Go.Proofs.YtojekoakgpkkdabDoor
open Go.RowKit Go.Proofs
set_option maxRecDepth 100000
theorem Hid.mk {p : Prop} (h : p) : Hid p := h
/-- All but block b is as it was. -/
structure Only (b : Nat) (w w' : World) : Prop where
  os : w'.os = w.os
  tape : w'.tape = w.tape
  output : w'.output = w.output
  size : w'.heap.size = w.heap.size
  block : ∀ k, k ≠ b → w'.heap[k]? = w.heap[k]?
theorem Only.setCell {b : Nat} {w w' : World} (h : Only b w w') (i : Nat) (v : Value) : Only b w (w'.setCell ⟨b, i, none⟩ v) :=
  ⟨h.os, h.tape, h.output, by rw [← h.size]; simp [World.setCell], fun k hk => by rw [Below.heap_setCell _ _ _ _ hk]; exact h.block k hk⟩
theorem Only.refl (b : Nat) (w : World) : Only b w w := ⟨rfl, rfl, rfl, rfl, fun _ _ => rfl⟩
theorem Only.below {b B : Nat} {w w' : World} (h : Only b w w') (hb : B ≤ b) : Below B w w' := ⟨h.os, h.tape, h.output, by rw [h.size]; exact Nat.le_refl _, fun k hk => h.block k (by omega)⟩
theorem bheap {B : Nat} {w w' : World} (h : Below B w w') {k : Nat} {o : Obj} (hk : w.heap[k]? = some o) (hB : k < B) : w'.heap[k]? = some o := (h.block k hB).trans hk
theorem heap_lt {w : World} {k : Nat} {o : Obj} (h : w.heap[k]? = some o) : k < w.heap.size := (Array.getElem?_eq_some_iff.1 h).1
theorem only_setRow (w : World) (g : Nat) (cs : Array Value) : Only g w (w.setRow g cs) :=
  ⟨rfl, rfl, rfl, by simp, fun k hk => setRow_other w g k cs hk⟩
theorem only_set {w : World} {g i : Nat} {v : Value} : Only g w (w.setCell ⟨g, i, none⟩ v) := (Only.refl g w).setCell i v
theorem wl_value {P : Program} {ops : Array Oper} {Q : Exit → Act → World → Prop} {a : Act} {w : World} {rest : List Oper} {o : Oper} {v : Value} (hw : Region.wanted o (yielded ops a.tmps) = true)
    (hr : (execOp a.eval o).run P w = .ok (.value v) w) (h : wpList P ops Q rest (a.put o.dst v) w) : wpList P ops Q (o :: rest) a w := by
  unfold wpList
  rw [if_pos hw]
  exact .inl (by unfold Oper.wp; rw [hr]; exact h)
theorem wl_act {P : Program} {ops : Array Oper} {Q : Exit → Act → World → Prop} {a : Act} {w : World} {rest : List Oper} {o : Oper} (hw : Region.wanted o (yielded ops a.tmps) = true)
    (h : o.wp P a w (wpList P ops Q rest) Q) : wpList P ops Q (o :: rest) a w := by
  unfold wpList
  rw [if_pos hw]
  exact .inl h
def isOb (cs : Array Value) (t : TypeId) (ob : Obj) : Prop := ob = .cells cs t (0, 0)
def ptrTo (b : Nat) (v : Value) : Prop := v = .pointer (some ⟨b, 0, none⟩)
def slTo (n b : Nat) (v : Value) : Prop := v = .slice (some ⟨b, 0, none⟩) n n
/-- A slot that holds this value. -/
def kv (x : Value) : Kw := .val (fun v => v = x)
/-- A new row, then stored into by operation s. -/
def kp (cs : Array Value) (t : TypeId) (s : Nat) (cs' : Array Value) : Kw := .new ptrTo ⟨isOb cs t, [(s, isOb cs' t)]⟩
/-- A new slice. -/
def ks (n : Nat) (cs : Array Value) (t : TypeId) : Kw := .new (slTo n) ⟨isOb cs t, []⟩
def once (cs : Array Value) (t : TypeId) (s : Nat) (cs' : Array Value) : Cont := ⟨isOb cs t, [(s, isOb cs' t)]⟩
theorem obAt {cs : Array Value} {t : TypeId} {w : World} {b : Nat} (h : ContOK (isOb cs t) w b) : w.heap[b]? = some (.cells cs t (0, 0)) := by
  obtain ⟨ob, h, rfl⟩ := h
  exact h
theorem obIn {cs : Array Value} {t : TypeId} {w : World} {b : Nat} (h : w.heap[b]? = some (.cells cs t (0, 0))) : ContOK (isOb cs t) w b := ⟨_, h, rfl⟩
theorem touch_below {w w' : World} (h : Below w.heap.size w w') : Touch (fun _ => False) w w' := ⟨h.os, h.tape, h.output, h.size, fun k hk _ => h.block k hk⟩
theorem touch_only {b : Nat} {w w' : World} (h : Only b w w') : Touch (fun k => k = b) w w' := ⟨h.os, h.tape, h.output, by rw [h.size]; exact Nat.le_refl _, fun k _ hn => h.block k hn⟩
theorem exec_call {f : FuncId} (hc : ∀ args w, (callFunc f args).run Tryd.prog w = .ok (.enter f args) w) (xs : Array Operand) (ts : Array TypeId) {o : Oper} {a : Act} {w : World} (ho : o.op = .call { callee := .value (.func f), args := xs, argTypes := ts }) :
    (execOp a.eval o).run Tryd.prog w = .ok (.enter f (xs.map a.eval)) w := by
  unfold execOp
  rw [ho]
  simp only [resolve, Sem.run_bind]
  generalize xs.map a.eval = args
  simp [Act.eval, Deferred.ofValue, invoke, go_sem, hc]
/-- A call with whatever it gives. -/
theorem stepp {f : FuncId} (hc : ∀ args w, (callFunc f args).run Tryd.prog w = .ok (.enter f args) w) {xs : Array Operand} {ts : Array TypeId} {o : Oper} {a : Act} {w : World} {K : Act → World → Prop} {Q : Exit → Act → World → Prop} {R : Value → World → Prop}
    (ho : o.op = .call { callee := .value (.func f), args := xs, argTypes := ts }) {vs : Array Value} (hx : xs.map a.eval = vs) (hC : Calls Tryd.prog f vs w fun r w' => ∃ v, r = .returned v ∧ R v w')
    (h : ∀ v w', R v w' → K (a.put o.dst v) w') : o.wp Tryd.prog a w K Q := by
  refine wp_enter (exec_call hc xs ts ho) ?_
  rw [hx]
  exact hC.mono (fun e w' ⟨v, he, hr⟩ => ⟨v, he, h v w' hr⟩)
/-- A call with the value that it gives. -/
theorem stepc {f : FuncId} (hc : ∀ args w, (callFunc f args).run Tryd.prog w = .ok (.enter f args) w) {xs : Array Operand} {ts : Array TypeId} {o : Oper} {a : Act} {w : World} {K : Act → World → Prop} {Q : Exit → Act → World → Prop}
    (ho : o.op = .call { callee := .value (.func f), args := xs, argTypes := ts }) {vs : Array Value} {v : Value} (hx : xs.map a.eval = vs) (hC : Calls Tryd.prog f vs w fun r w' => r = .returned v ∧ Below w.heap.size w w')
    (h : ∀ w', Below w.heap.size w w' → K (a.put o.dst v) w') : o.wp Tryd.prog a w K Q :=
  stepp hc ho hx (hC.mono (fun e w' ⟨he, hb⟩ => ⟨v, he, rfl, hb⟩)) (R := fun u w' => u = v ∧ Below w.heap.size w w') (fun u w' ⟨hu, hb⟩ => by subst hu; exact h w' hb)
theorem args0 {a : Act} : (#[] : Array Operand).map a.eval = #[] := by simp
theorem args1 {a : Act} {x : Operand} {X : Value} (hx : a.eval x = X) : #[x].map a.eval = #[X] := by simp [hx]
theorem args2 {a : Act} {x y : Operand} {X Y : Value} (hx : a.eval x = X) (hy : a.eval y = Y) : #[x, y].map a.eval = #[X, Y] := by simp [hx, hy]
theorem args3 {a : Act} {x y z : Operand} {X Y Z : Value} (hx : a.eval x = X) (hy : a.eval y = Y) (hz : a.eval z = Z) : #[x, y, z].map a.eval = #[X, Y, Z] := by simp [hx, hy, hz]
theorem args4 {a : Act} {x y z u : Operand} {X Y Z U : Value} (hx : a.eval x = X) (hy : a.eval y = Y) (hz : a.eval z = Z) (hu : a.eval u = U) : #[x, y, z, u].map a.eval = #[X, Y, Z, U] := by simp [hx, hy, hz, hu]
theorem exec_move {a : Act} {o : Oper} {w : World} {x : Operand} (ho : o.op = .move x) {v : Value} (h : a.eval x = v) : (execOp a.eval o).run Tryd.prog w = .ok (.value v) w := by unfold execOp; simp only [ho, Sem.run_pure, h]
theorem exec_assign {a : Act} {o : Oper} {w : World} {x : Operand} (ho : o.op = .assign x) {v : Value} (h : a.eval x = v) : (execOp a.eval o).run Tryd.prog w = .ok (.value v) w := by unfold execOp; simp only [ho, Sem.run_pure, h]
theorem exec_pick {a : Act} {o : Oper} {w : World} {c x y : Operand} (ho : o.op = .pick c x y) (hc : a.eval c = .bool true) {v : Value} (h : a.eval x = v) : (execOp a.eval o).run Tryd.prog w = .ok (.value v) w := by
  unfold execOp; simp [ho, hc, asBool, Sem.run_pure, h]
theorem exec_pickF {a : Act} {o : Oper} {w : World} {c x y : Operand} (ho : o.op = .pick c x y) (hc : a.eval c = .bool false) {v : Value} (h : a.eval y = v) : (execOp a.eval o).run Tryd.prog w = .ok (.value v) w := by
  unfold execOp; simp [ho, hc, asBool, Sem.run_pure, h]
theorem exec_ext {a : Act} {o : Oper} {w : World} {x : Operand} {i : Nat} (ho : o.op = .extract x i) {vs : Array Value} (hx : a.eval x = .tuple vs) {v : Value} (hv : vs[i]? = some v) : (execOp a.eval o).run Tryd.prog w = .ok (.value v) w := by
  unfold execOp; simp only [ho, hx]; simp [go_sem, hv]
theorem act_alloc {o : Oper} {a : Act} {w : World} {K : Act → World → Prop} {Q : Exit → Act → World → Prop} {t : TypeId} {cs : Array Value} (hz : ∀ w, (zeroValue t).run Tryd.prog w = .ok (.agg cs) w) (ho : o.op = .alloc t)
    (h : ∀ w', Below w.heap.size w w' → w'.heap[w.heap.size]? = some (.cells cs t (0, 0)) → K (a.put o.dst (.pointer (some ⟨w.heap.size, 0, none⟩))) w') : o.wp Tryd.prog a w K Q := by
  have hz := hz w
  unfold Oper.wp execOp
  simp only [ho]
  simp [go_sem, hz]
  exact h _ ((Below.refl _ _).alloc (Nat.le_refl _) _) (heap_alloc_new w _)
end Go.Proofs.YtojekoakgpkkdabDoor

/-
  Own text. Rows and arrays of numbers in memory; steps over them for walks and for regions that leave their order open.
-/
namespace Go.Proofs.YtojekoakgpkkdabDoor
open Go.RowKit Go.Proofs
set_option maxRecDepth 100000
/-- A row of n numbers. -/
def WA (k : IntKind) (n : Nat) (s : Nat → Int) : Array Value := ((List.range n).map fun i => Value.int k (s i)).toArray
theorem WA_size (k : IntKind) (n : Nat) (s : Nat → Int) : (WA k n s).size = n := by simp [WA]
theorem WA_get (k : IntKind) (n : Nat) (s : Nat → Int) (i : Nat) (h : i < n) : (WA k n s)[i]? = some (.int k (s i)) := by simp [WA, h]
def upd (s : Nat → Int) (i : Nat) (v : Int) : Nat → Int := fun j => if j = i then v else s j
theorem WA_ext {cs : Array Value} {k : IntKind} {n : Nat} {s : Nat → Int} (hs : cs.size = n) (h : ∀ i, i < n → cs[i]? = some (.int k (s i))) : cs = WA k n s := by
  apply Array.ext_getElem?
  intro i
  by_cases hi : i < n
  · rw [h i hi, WA_get k n s i hi]
  · rw [Array.getElem?_eq_none (by omega), Array.getElem?_eq_none (by rw [WA_size]; omega)]
theorem WA_set (k : IntKind) (n : Nat) (s : Nat → Int) (i : Nat) (v : Int) (_h : i < n) : (WA k n s).setIfInBounds i (.int k v) = WA k n (upd s i v) := by
  apply WA_ext
  · simp [WA_size]
  · intro j hj
    rw [Array.getElem?_setIfInBounds]
    by_cases e : i = j
    · subst e; simp [WA_size, hj, upd]
    · rw [if_neg e, WA_get k n s j hj]; simp only [upd]; rw [if_neg (fun h => e h.symm)]
theorem WA_congr {k : IntKind} {n : Nat} {s t : Nat → Int} (h : ∀ i, i < n → s i = t i) : WA k n s = WA k n t :=
  WA_ext (WA_size k n s) (fun i hi => by rw [WA_get k n s i hi, h i hi])
/-- The first n cells hold these numbers. -/
def rowOb (k : IntKind) (t : TypeId) (n : Nat) (s : Nat → Int) (ob : Obj) : Prop := ∃ C fr, ob = .cells C t fr ∧ n ≤ C.size ∧ (∀ i, i < n → ¬ (fr.1 ≤ i ∧ i < fr.2)) ∧ ∀ i, i < n → C[i]? = some (.int k (s i))
def RowAt (w : World) (b : Nat) (k : IntKind) (t : TypeId) (n : Nat) (s : Nat → Int) : Prop := ContOK (rowOb k t n s) w b
theorem RowAt.cell {w : World} {b : Nat} {k : IntKind} {t : TypeId} {n : Nat} {s : Nat → Int} (h : RowAt w b k t n s) (i : Nat) (hi : i < n) : w.cell? ⟨b, i, none⟩ = some (.int k (s i)) := by
  obtain ⟨_, hg, C, fr, rfl, hs, hf, hc⟩ := h
  rw [cell_of_row w b i _ _ _ hg, hc i hi]
theorem RowAt.of {w : World} {b : Nat} {k : IntKind} {t : TypeId} {n : Nat} {s : Nat → Int} (h : w.heap[b]? = some (.cells (WA k n s) t (0, 0))) : RowAt w b k t n s :=
  ⟨_, h, _, _, rfl, by rw [WA_size]; exact Nat.le_refl _, fun i hi => by simp, fun i hi => WA_get k n s i hi⟩
theorem exec_ld {a : Act} {o : Oper} {w : World} {x : Operand} {t : TypeId} (ho : o.op = .load t x) {p : Addr} (hx : a.eval x = .pointer (some p)) {v : Value} (hr : (Instr.loadAt t (.pointer (some p))).run Tryd.prog w = .ok v w) : (execOp a.eval o).run Tryd.prog w = .ok (.value v) w := by
  unfold execOp
  simp [ho, hx, hr]
theorem exec_bin {a : Act} {o : Oper} {w : World} {x y : Operand} {op : BinOp} {t u : TypeId} (ho : o.op = .binOp op t x y u) {X Y V : Value} (hg : (eqGuard op t x y X Y).run Tryd.prog w = .ok () w) (hx : a.eval x = X) (hy : a.eval y = Y) (hr : (binOp op t X Y).run Tryd.prog w = .ok V w) :
    (execOp a.eval o).run Tryd.prog w = .ok (.value V) w := by
  unfold execOp
  simp only [ho, hx, hy, Sem.run_bind]
  rw [hg]
  simp [hr]
theorem i64_wrap {n : Int} (h0 : -9223372036854775808 ≤ n) (h1 : n < 9223372036854775808) : IntKind.i64.wrap n = n := by
  rw [IntKind.wrap_i64]; omega
theorem exec_add {a : Act} {o : Oper} {w : World} {x y : Operand} (ho : o.op = .binOp .add 3 x y 3) {m n : Int} (hx : a.eval x = .int .i64 m) (hy : a.eval y = .int .i64 n) (h0 : -9223372036854775808 ≤ m + n) (h1 : m + n < 9223372036854775808) :
    (execOp a.eval o).run Tryd.prog w = .ok (.value (.int .i64 (m + n))) w := exec_bin ho rfl hx hy (by simp [go_sem, i64_wrap h0 h1])
theorem Touch.drew {T : Nat → Prop} {w w' : World} (h : Touch T w w') : Touch T w w'.drew := ⟨h.os, h.tape, h.output, h.size, h.block⟩
def Byts (n : Nat) (s : Nat → Int) : Prop := ∀ i, i < n → 0 ≤ s i ∧ s i < 256
/-- Block b is an array of n numbers. -/
def ArrAt (w : World) (b : Nat) (k : IntKind) (t : TypeId) (n : Nat) (s : Nat → Int) : Prop := w.heap[b]? = some (.cells (WA k n s) t (0, 0))
theorem ArrAt.row {w : World} {b : Nat} {k : IntKind} {t : TypeId} {n : Nat} {s : Nat → Int} (h : ArrAt w b k t n s) : RowAt w b k t n s := RowAt.of h
theorem ArrAt.cell {w : World} {b : Nat} {k : IntKind} {t : TypeId} {n : Nat} {s : Nat → Int} (h : ArrAt w b k t n s) (i : Nat) (hi : i < n) : w.cell? ⟨b, i, none⟩ = some (.int k (s i)) := h.row.cell i hi
theorem ArrAt.free {w : World} {b : Nat} {k : IntKind} {t : TypeId} {n : Nat} {s : Nat → Int} (h : ArrAt w b k t n s) (i : Nat) : w.frozen? ⟨b, i, none⟩ = false := frozen_of_row w b i _ _ h
theorem ArrAt.set {w : World} {b : Nat} {k : IntKind} {t : TypeId} {n : Nat} {s : Nat → Int} (h : ArrAt w b k t n s) (i : Nat) (v : Int) (hi : i < n) : ArrAt (w.setCell ⟨b, i, none⟩ (.int k v)) b k t n (upd s i v) := by
  have := heap_setCell_same w b i _ t (.int k v) h
  rw [WA_set k n s i v hi] at this
  exact this
theorem ArrAt.congr {w : World} {b : Nat} {k : IntKind} {t : TypeId} {n : Nat} {s s' : Nat → Int} (h : ArrAt w b k t n s) (e : ∀ i, i < n → s i = s' i) : ArrAt w b k t n s' := by
  unfold ArrAt; rw [← WA_congr e]; exact h
theorem exec_sl {a : Act} {o : Oper} {w : World} {x : Operand} {t : TypeId} (ho : o.op = .slice t x none none none) {v r : Value} (hx : a.eval x = v) (hr : (Instr.sliceAt t v none none none).run Tryd.prog w = .ok r w) : (execOp a.eval o).run Tryd.prog w = .ok (.value r) w := by
  unfold execOp
  simp [ho, hx, hr]
theorem exec_idxA {a : Act} {o : Oper} {w : World} {x y : Operand} {t : TypeId} {n : Nat} (ho : o.op = .indexAddr t x y) (ht : Tryd.prog.underlying t = some (.array (Tryd.prog.arrayLen t) (Tryd.prog.elem t))) (hn : Tryd.prog.arrayLen t = n) (h1 : ∀ w, (sizeOf (Tryd.prog.elem t)).run Tryd.prog w = .ok 1 w)
    {b i : Nat} (hx : a.eval x = .pointer (some ⟨b, 0, none⟩)) (hy : a.eval y = .int .i64 (i : Int)) (hi : i < n) : (execOp a.eval o).run Tryd.prog w = .ok (.value (.pointer (some ⟨b, i, none⟩))) w := by
  unfold execOp
  simp only [ho, hx, hy, Sem.run_bind]
  rw [run_indexAt_array w t _ .i64 (i : Int) ht, if_pos ⟨by omega, by omega⟩, h1]
  simp only [Result.andThen_ok, Addr.add_lit, Int.toNat_natCast, Nat.mul_one, Nat.zero_add, Sem.run_pure]
theorem exec_slL {a : Act} {o : Oper} {w : World} {x y : Operand} {t : TypeId} (ho : o.op = .slice t x (some y) none none) {v u r : Value} (hx : a.eval x = v) (hy : a.eval y = u) (hr : (Instr.sliceAt t v (some u) none none).run Tryd.prog w = .ok r w) : (execOp a.eval o).run Tryd.prog w = .ok (.value r) w := by
  unfold execOp
  simp [ho, hx, hy, hr]
theorem slArrL {t : TypeId} {n : Nat} (ht : Tryd.prog.underlying t = some (.array (Tryd.prog.arrayLen t) (Tryd.prog.elem t))) (hn : Tryd.prog.arrayLen t = n) (h1 : ∀ w, (sizeOf (Tryd.prog.elem t)).run Tryd.prog w = .ok 1 w) (b l : Nat) (w : World) (hl : l < n) :
    (Instr.sliceAt t (.pointer (some ⟨b, 0, none⟩)) (some (.int .i64 (l : Int))) none none).run Tryd.prog w = .ok (.slice (some ⟨b, l, none⟩) (n - l) (n - l)) w := by
  rw [run_sliceAt_array_l (P := Tryd.prog) w t ⟨b, 0, none⟩ ht .i64 (l : Int) (by omega) (by rw [hn]; omega), h1, hn]
  simp only [Result.andThen_ok, slicedAt, Int.toNat_natCast, Nat.mul_one]
  rw [if_neg (by omega), Addr.add_lit, Nat.zero_add]
theorem exec_conv {a : Act} {o : Oper} {w : World} {x : Operand} {s t : TypeId} (ho : o.op = .convert s t x) {v r : Value} (hx : a.eval x = v) (hr : (convert s t v).run Tryd.prog w = .ok r w) : (execOp a.eval o).run Tryd.prog w = .ok (.value r) w := by
  unfold execOp
  simp [ho, hx, hr]
theorem exec_bin2 {a : Act} {o : Oper} {w : World} {x y : Operand} {op : BinOp} {t u : TypeId} (ho : o.op = .binOp op t x y u) {X Y V : Value} (hx : a.eval x = X) (hy : a.eval y = Y) (hg : (eqGuard op t x y X Y).run Tryd.prog w = .ok () w) (hr : (binOp op t X Y).run Tryd.prog w = .ok V w) :
    (execOp a.eval o).run Tryd.prog w = .ok (.value V) w := exec_bin ho hg hx hy hr
theorem exec_slH {a : Act} {o : Oper} {w : World} {x y : Operand} {t : TypeId} (ho : o.op = .slice t x none (some y) none) {v u r : Value} (hx : a.eval x = v) (hy : a.eval y = u) (hr : (Instr.sliceAt t v none (some u) none).run Tryd.prog w = .ok r w) : (execOp a.eval o).run Tryd.prog w = .ok (.value r) w := by
  unfold execOp
  simp [ho, hx, hy, hr]
end Go.Proofs.YtojekoakgpkkdabDoor

/-
  Own text. Rows that grow by append, copies, == on arrays of bytes.
-/
namespace Go.Proofs.YtojekoakgpkkdabDoor
open Go.RowKit Go.Proofs
set_option maxRecDepth 100000
theorem infoByte : (Tryd.prog.info? 5).map (fun i => (i.zero, i.size, i.bytes)) = some (some (.int .u8 0), 1, 1) := by kernel_rfl
/-- A row, with others laid over a part of it. -/
def over (s : Nat → Int) (off m : Nat) (r : Nat → Int) (i : Nat) : Int := if off ≤ i ∧ i < off + m then r (i - off) else s i
theorem exec_nilc {a : Act} {o : Oper} {w : World} {x : Operand} {p : Addr} (ho : o.op = .nilCheck x) (hx : a.eval x = .pointer (some p)) : (execOp a.eval o).run Tryd.prog w = .ok (.value (.pointer (some p))) w := by
  unfold execOp
  simp only [ho, hx, Sem.run_pure]
end Go.Proofs.YtojekoakgpkkdabDoor

/-
  Own text. Texts: their bytes as numbers, slices, sums, conversions.
-/
namespace Go.Proofs.YtojekoakgpkkdabDoor
open Go.RowKit Go.Proofs
set_option maxRecDepth 100000
/-- Byte j of a text. -/
def txt (s : ByteArray) (j : Nat) : Int := ((s.data.toList.getD j 0).toNat : Int)
theorem txt_b (s : ByteArray) (j : Nat) : 0 ≤ txt s j ∧ txt s j < 256 := by
  unfold txt
  have := (s.data.toList.getD j 0).toNat_lt
  omega
def bytesL (n : Nat) (f : Nat → Int) : List UInt8 := (List.range n).map fun j => UInt8.ofNat (f j).toNat
/-- The text of these bytes. -/
def mkS (n : Nat) (f : Nat → Int) : ByteArray := ⟨(bytesL n f).toArray⟩
theorem mkS_size (n : Nat) (f : Nat → Int) : (mkS n f).size = n := by
  show (bytesL n f).toArray.size = n
  simp [bytesL]
theorem bytesL_len (n : Nat) (f : Nat → Int) : (bytesL n f).length = n := by simp [bytesL]
theorem txt_mkS {n : Nat} {f : Nat → Int} {j : Nat} (hf : 0 ≤ f j ∧ f j < 256) (h : j < n) : txt (mkS n f) j = f j := by
  unfold txt mkS bytesL
  simp [h]
  omega
theorem mkS_congr {n : Nat} {f g : Nat → Int} (h : ∀ j, j < n → f j = g j) : mkS n f = mkS n g := by
  unfold mkS bytesL
  congr 2
  exact List.map_congr_left (fun j hj => by rw [h j (List.mem_range.1 hj)])
theorem mkS_txt (s : ByteArray) : mkS s.size (txt s) = s := by
  unfold mkS bytesL
  obtain ⟨d⟩ := s
  congr 1
  apply Array.ext
  · simp
    rfl
  · intro i h1 h2
    simp [txt, h2]
theorem txt_get {s : ByteArray} {j : Nat} (h : j < s.size) : (((s[j]'h).toNat : Nat) : Int) = txt s j := by
  unfold txt
  have : j < s.data.toList.length := by simpa using h
  rw [List.getD_eq_getElem?_getD, List.getElem?_eq_getElem this]
  rfl
theorem exec_ixs {a : Act} {o : Oper} {w : World} {x y : Operand} (ho : o.op = .index 9 x y) {s : ByteArray} {j : Nat} (hx : a.eval x = .string s) (hy : a.eval y = .int .i64 (j : Int)) (hj : j < s.size) : (execOp a.eval o).run Tryd.prog w = .ok (.value (.int .u8 (txt s j))) w := by
  unfold execOp
  simp only [ho, hx, hy, Sem.run_bind]
  rw [run_index_string w 9 s .i64 (j : Int) Tryd.underlying9, dif_pos ⟨by omega, by omega⟩]
  simp only [Result.andThen_ok, Sem.run_pure, Int.toNat_natCast]
  rw [txt_get hj]
theorem exec_lenS {a : Act} {o : Oper} {w : World} {x : Operand} (ho : o.op = .call { callee := .builtin .len, args := #[x], argTypes := #[9] }) {s : ByteArray} (hx : a.eval x = .string s) : (execOp a.eval o).run Tryd.prog w = .ok (.value (.int .i64 (s.size : Int))) w := by
  have hr := run_len_string (P := Tryd.prog) w 9 o.type s Tryd.underlying9
  simp [execOp, ho, resolve, invoke, builtin, hx, hr, goInt]
theorem exec_catS {a : Act} {o : Oper} {w : World} {x y : Operand} (ho : o.op = .binOp .add 9 x y 9) {s t : ByteArray} (hx : a.eval x = .string s) (hy : a.eval y = .string t) (hl : s.size + t.size ≤ 9223372036854775807) : (execOp a.eval o).run Tryd.prog w = .ok (.value (.string (s ++ t))) w := by
  exact exec_bin2 ho hx hy rfl (by simp [go_sem, hl])
theorem strH (s : ByteArray) (n : Nat) (w : World) (h : n ≤ s.size) : (Instr.sliceAt 9 (.string s) none (some (.int .i64 (n : Int))) none).run Tryd.prog w = .ok (.string (s.extract 0 n)) w := by
  have h2 : (n : Int) ≤ (s.size : Int) := by omega
  simp [go_sem, h2]
theorem strL (s : ByteArray) (n : Nat) (w : World) (h : n ≤ s.size) : (Instr.sliceAt 9 (.string s) (some (.int .i64 (n : Int))) none none).run Tryd.prog w = .ok (.string (s.extract n s.size)) w := by
  have h2 : (n : Int) ≤ (s.size : Int) := by omega
  simp [go_sem, h2]
theorem exec_neqST {a : Act} {o : Oper} {w : World} {x y : Operand} (ho : o.op = .binOp .neq 9 x y 9) {s t : ByteArray} (hx : a.eval x = .string s) (hy : a.eval y = .string t) (e : s ≠ t) : (execOp a.eval o).run Tryd.prog w = .ok (.value (.bool true)) w := exec_bin2 ho hx hy rfl (by simp [go_sem]; intro h; rw [ByteArray.toList_eq, ByteArray.toList_eq] at h; exact e (ByteArray.ext (Array.ext' h)))
theorem exec_eqS {a : Act} {o : Oper} {w : World} {x y : Operand} (ho : o.op = .binOp .eql 9 x y 9) {s : ByteArray} (hx : a.eval x = .string s) (hy : a.eval y = .string s) : (execOp a.eval o).run Tryd.prog w = .ok (.value (.bool true)) w := exec_bin2 ho hx hy rfl (by simp [go_sem])
theorem exec_eqSd {a : Act} {o : Oper} {w : World} {x y : Operand} (ho : o.op = .binOp .eql 9 x y 9) {s t : ByteArray} (hx : a.eval x = .string s) (hy : a.eval y = .string t) : (execOp a.eval o).run Tryd.prog w = .ok (.value (.bool (decide (s = t)))) w := by
  by_cases e : s = t
  · subst e
    rw [decide_eq_true rfl]
    exact exec_eqS ho hx hy
  · rw [decide_eq_false e]
    exact exec_bin2 ho hx hy rfl (by simp [go_sem]; intro h; rw [ByteArray.toList_eq, ByteArray.toList_eq] at h; exact e (ByteArray.ext (Array.ext' h)))
theorem results_two {fn : Func} {p q : Tmp} (h : fn.results = #[.tmp p, .tmp q]) {tmps : Array Value} {w : World} {u v : Value} (hp : tmps.getD p undef = u) (hq : tmps.getD q undef = v) : (results fn tmps).run Tryd.prog w = .ok (.tuple #[u, v]) w := by
  have hp' : tmps[p]?.getD undef = u := by simpa using hp
  have hq' : tmps[q]?.getD undef = v := by simpa using hq
  simp [results, h, hp', hq']
end Go.Proofs.YtojekoakgpkkdabDoor

/-
  Own text. Arrays of bytes as arguments.
-/
namespace Go.Proofs.YtojekoakgpkkdabDoor
open Go.ChangeShapes Go.WideShapes Go.ChangeAt Go.WideMaps Go.WideElems Go.RowKit Go.Proofs
set_option maxRecDepth 100000
end Go.Proofs.YtojekoakgpkkdabDoor

/-
  Own text. Slices of texts; texts one behind the other.
-/
namespace Go.Proofs.YtojekoakgpkkdabDoor
open Go.RowKit Go.Proofs Go.Lib
set_option maxRecDepth 100000
/-- The texts of a row, one behind the other. -/
def joinB (ts : Nat → ByteArray) : Nat → ByteArray
  | 0 => ByteArray.empty
  | n + 1 => joinB ts n ++ ts n
theorem joinB_mono (ts : Nat → ByteArray) {i n : Nat} (h : i ≤ n) : (joinB ts i).size ≤ (joinB ts n).size := by
  induction h with
  | refl => exact Nat.le_refl _
  | step _ ih => refine Nat.le_trans ih ?_; rw [joinB, ByteArray.size_append]; omega
/-- A slice of texts. -/
def Strs (w : World) (v : Value) (n : Nat) (ts : Nat → ByteArray) : Prop := ∃ a c, v = .slice a n c ∧ (0 < n → ∃ p, a = some p ∧ ∀ j, j < n → w.cell? (p.add j) = some (.string (ts j)))
theorem txt_append (A B : ByteArray) (j : Nat) : txt (A ++ B) j = if j < A.size then txt A j else txt B (j - A.size) := by
  unfold txt
  rw [ByteArray.data_append, Array.toList_append]
  have hA : A.data.toList.length = A.size := by simp
  simp only [List.getD_eq_getElem?_getD]
  by_cases h : j < A.size
  · rw [if_pos h, List.getElem?_append_left (by rw [hA]; exact h)]
  · rw [if_neg h, List.getElem?_append_right (by rw [hA]; omega), hA]
def two2 (s t : ByteArray) : Nat → ByteArray
  | 0 => s
  | _ => t
theorem join2 (s t : ByteArray) : joinB (two2 s t) 2 = s ++ t := by simp [joinB, two2]
theorem strs2 {w : World} {b : Nat} {s t : ByteArray} (h : w.heap[b]? = some (.cells #[.string s, .string t] 9 (0, 0))) : Strs w (.slice (some ⟨b, 0, none⟩) 2 2) 2 (two2 s t) :=
  ⟨_, _, rfl, fun _ => ⟨_, rfl, fun j hj => by
    rw [Addr.add_lit, cell_of_row w b _ _ _ _ h]
    match j, hj with
    | 0, _ => rfl
    | 1, _ => rfl⟩⟩
theorem strs_row' {w : World} {g n cap : Nat} {cur : Array Value} {ts : Nat → ByteArray} (h : w.heap[g]? = some (.cells cur 9 (0, 0))) (hc : ∀ j, j < n → cur[j]? = some (.string (ts j))) : Strs w (.slice (some ⟨g, 0, none⟩) n cap) n ts :=
  ⟨_, _, rfl, fun _ => ⟨_, rfl, fun j hj => by
    rw [Addr.add_lit, cell_of_row w g _ _ _ _ h, Nat.zero_add]
    exact hc j hj⟩⟩
theorem same_ext {a b : ByteArray} (hl : a.size = b.size) (h : ∀ j, j < a.size → txt a j = txt b j) : a = b := by
  refine ByteArray.ext (Array.ext hl (fun i h1 h2 => ?_))
  have := h i h1
  rw [← txt_get h1, ← txt_get (s := b) h2] at this
  have h3 : (a.data[i].toNat : Int) = b.data[i].toNat := this
  exact UInt8.toNat_inj.1 (Int.ofNat.inj h3)
end Go.Proofs.YtojekoakgpkkdabDoor

/-
  Own text. A slice of texts as an argument, and what the bound on its bulk gives.
-/
namespace Go.Proofs.YtojekoakgpkkdabDoor
open Go.ChangeShapes Go.WideShapes Go.ChangeAt Go.WideMaps Go.WideElems Go.RowKit Go.Proofs Go.Lib
set_option maxRecDepth 100000
end Go.Proofs.YtojekoakgpkkdabDoor

/-
  Own text. A region that leaves its order open, cut in two: behind the first m operations, whatever their order, the others come one by one. No program is named here.
-/
namespace Go.Proofs.YtojekoakgpkkdabDoor
open Go
section
variable {P : Program} {ops : Array Oper} {Q : Exit → Act → World → Prop}
def headOps (ops : Array Oper) (m : Nat) : Array Oper := (ops.toList.take m).toArray
def cutQ (P : Program) (ops : Array Oper) (Q : Exit → Act → World → Prop) (m : Nat) : Exit → Act → World → Prop
  | .normal, a, w => wpList P ops Q (ops.toList.drop m) a w
  | e, a, w => Q e a w
theorem upon_cut {m : Nat} {o : Oper} {a : Act} {K : Act → World → Prop} {r : Result Next} : o.upon P a K (cutQ P ops Q m) r = o.upon P a K Q r := by
  cases r with
  | ok n w => cases n <;> rfl
  | halt x w => cases x <;> rfl
theorem head_at {m i : Nat} (h : i < m) : (headOps ops m)[i]? = ops[i]? := by
  simp [headOps, h]
def waits (o : Oper) (j : Nat) : Bool := o.after.any (fun e => Region.binds .any e && e.on == j)
def cutB (ops : Array Oper) (m : Nat) : Bool :=
  decide (m < ops.size) && ops.all (·.guard.isNone) &&
  (List.range ops.size).all (fun i => match ops[i]? with | some o => o.after.all (fun e => !Region.binds .any e || decide (e.on < i)) | none => true) &&
  (List.range m).all (fun j => (List.range (m + 1)).any (fun i => decide (j < i) && (match ops[i]? with | some o => waits o j | none => false))) &&
  (List.range ops.size).all (fun i => decide (i ≤ m) || (match ops[i]? with | some o => waits o (i - 1) | none => false))
theorem any_mem {α : Type} {l : Array α} {p : α → Bool} (h : l.any p = true) : ∃ e ∈ l, p e = true := by
  obtain ⟨i, hi, hp⟩ := Array.any_eq_true.1 h
  exact ⟨l[i], Array.getElem_mem hi, hp⟩
theorem getD_rep (n j : Nat) : (Array.replicate n false).getD j false = false := by
  rw [Array.getD_eq_getD_getElem?]
  by_cases h : j < n
  · rw [Array.getElem?_eq_getElem (by simpa using h)]
    simp
  · rw [Array.getElem?_eq_none (by simp; omega)]
    rfl
theorem wanted_none {o : Oper} {ys : Nat → Option Bool} (h : o.guard.isNone = true) : Region.wanted o ys = true := by
  cases hg : o.guard with
  | none => simp [Region.wanted, hg]
  | some x => rw [hg] at h; cases h
/-- Which came up already, and that with each all that it waits for did. -/
structure Closed (ops : Array Oper) (listed : Array Bool) : Prop where
  size : listed.size = ops.size
  down : ∀ (i : Nat) (o : Oper), listed.getD i false = true → ops[i]? = some o → ∀ e ∈ o.after, Region.binds .any e = true → listed.getD e.on false = true
theorem getD_both {listed : Array Bool} {i : Nat} (h : i < listed.size) : listed.getD i true = listed.getD i false := by simp [h]
theorem Closed.set {listed : Array Bool} {i : Nat} (h : Closed ops listed) (hi : i ∈ Region.ready .any ops listed) : Closed ops (listed.setIfInBounds i true) := by
  obtain ⟨hun, o, ho, hall⟩ := mem_ready.1 hi
  refine ⟨by simp [h.size], fun j oj hj hoj e he hb => ?_⟩
  have key : listed.getD e.on false = true := by
    by_cases hij : i = j
    · subst hij
      rw [ho] at hoj
      obtain rfl := Option.some.inj hoj
      exact hall e he hb
    · rw [getD_set_ne false hij] at hj
      exact h.down j oj hj hoj e he hb
  by_cases hie : i = e.on
  · have hl : i < listed.size := by
      rcases Nat.lt_or_ge i listed.size with h1 | h1
      · exact h1
      · simp [Array.getElem?_eq_none h1] at hun
    rw [← hie]
    simp [hl]
  · rw [getD_set_ne false hie]
    exact key
/-- THE LAW: a region, cut. -/
theorem wp_region_cut {id : Nat} {a0 : Act} {w0 : World} (m : Nat) (hm : P.follows .mixedOrders = true) (hc : cutB ops m = true)
    (h : wpAny P .any (headOps ops m) (cutQ P ops Q m) (headOps ops m).size (Array.replicate (headOps ops m).size false) a0 { w0 with drawn := w0.drawn + 1 }) : (Code.region id ops true).wp P Q a0 w0 := by
  simp only [cutB, Bool.and_eq_true, decide_eq_true_eq] at hc
  obtain ⟨⟨⟨⟨hlt, hgd⟩, hdn⟩, hwt⟩, hch⟩ := hc
  have hhs : (headOps ops m).size = m := by simp [headOps]; omega
  have guard : ∀ (i : Nat) (o : Oper), ops[i]? = some o → o.guard.isNone = true := fun i o ho => by
    have hi := (Array.getElem?_eq_some_iff.1 ho)
    have := Array.all_eq_true.1 hgd i hi.1
    rw [hi.2] at this
    exact this
  have down : ∀ (i : Nat) (o : Oper), ops[i]? = some o → ∀ e ∈ o.after, Region.binds .any e = true → e.on < i := fun i o ho e he hbb => by
    have h1 := List.all_eq_true.1 hdn i (List.mem_range.2 (Array.getElem?_eq_some_iff.1 ho).1)
    simp only [ho] at h1
    have h2 := Array.all_eq_true_iff_forall_mem.1 h1 e he
    rw [hbb] at h2
    simpa using h2
  have chain : ∀ (i : Nat) (o : Oper), ops[i]? = some o → m < i → ∃ e ∈ o.after, Region.binds .any e = true ∧ e.on = i - 1 := fun i o ho hi => by
    have h1 := List.all_eq_true.1 hch i (List.mem_range.2 (Array.getElem?_eq_some_iff.1 ho).1)
    simp only [ho, Bool.or_eq_true, decide_eq_true_eq] at h1
    rcases h1 with h1 | h1
    · omega
    · unfold waits at h1
      obtain ⟨e, he, hh⟩ := any_mem h1
      simp only [Bool.and_eq_true, beq_iff_eq] at hh
      exact ⟨e, he, hh.1, hh.2⟩
  have succ : ∀ j, j < m → ∃ (i : Nat) (o : Oper), j < i ∧ i ≤ m ∧ ops[i]? = some o ∧ ∃ e ∈ o.after, Region.binds .any e = true ∧ e.on = j := fun j hj => by
    have h1 := List.all_eq_true.1 hwt j (List.mem_range.2 hj)
    obtain ⟨i, hi, hh⟩ := List.any_eq_true.1 h1
    simp only [Bool.and_eq_true, decide_eq_true_eq] at hh
    obtain ⟨hji, hw⟩ := hh
    cases ho : ops[i]? with
    | none => simp only [ho] at hw; cases hw
    | some o =>
      simp only [ho] at hw
      unfold waits at hw
      obtain ⟨e, he, hh⟩ := any_mem hw
      simp only [Bool.and_eq_true, beq_iff_eq] at hh
      exact ⟨i, o, hji, by have := List.mem_range.1 hi; omega, ho, e, he, hh.1, hh.2⟩
  have full : ∀ listed, Closed ops listed → m ∈ Region.ready .any ops listed → ∀ j, j < m → listed.getD j false = true := fun listed hcl hr => by
    obtain ⟨_, om, hom, hall⟩ := mem_ready.1 hr
    have key : ∀ d j, j < m → m - j ≤ d → listed.getD j false = true := by
      intro d
      induction d with
      | zero => intro j hj hd; omega
      | succ d ih =>
        intro j hj hd
        obtain ⟨i, o, hji, him, ho, e, he, hb, hon⟩ := succ j hj
        by_cases e1 : i = m
        · subst e1
          rw [hom] at ho
          obtain rfl := Option.some.inj ho
          rw [← hon]
          exact hall e he hb
        · rw [← hon]
          exact hcl.down i o (ih i (by omega) (by omega)) ho e he hb
    exact fun j hj => key m j hj (by omega)
  have done : ∀ listed, Closed ops listed → Region.ready .any ops listed = [] → ∀ j, j < ops.size → listed.getD j false = true := fun listed hcl hr => by
    have key : ∀ d j, j ≤ d → j < ops.size → listed.getD j false = true := by
      intro d
      induction d with
      | zero =>
        intro j hj hjs
        have hj0 : j = 0 := by omega
        subst hj0
        rcases Bool.eq_false_or_eq_true (listed.getD 0 false) with h1 | h1
        · exact h1
        · exfalso
          have ho : ops[0]? = some (ops[0]'hjs) := Array.getElem?_eq_getElem hjs
          have : 0 ∈ Region.ready .any ops listed := mem_ready.2 ⟨by rw [getD_both (by rw [hcl.size]; exact hjs)]; exact h1, _, ho, fun e he hbb => by have := down 0 _ ho e he hbb; omega⟩
          rw [hr] at this
          cases this
      | succ d ih =>
        intro j hj hjs
        rcases Bool.eq_false_or_eq_true (listed.getD j false) with h1 | h1
        · exact h1
        · exfalso
          have ho : ops[j]? = some (ops[j]'hjs) := Array.getElem?_eq_getElem hjs
          have : j ∈ Region.ready .any ops listed := mem_ready.2 ⟨by rw [getD_both (by rw [hcl.size]; exact hjs)]; exact h1, _, ho, fun e he hbb => by have := down j _ ho e he hbb; exact ih e.on (by omega) (by omega)⟩
          rw [hr] at this
          cases this
    exact fun j hj => key j j (Nat.le_refl _) hj
  refine wp_region_any hm (wpAny_inv (fun listed a w => Closed ops listed ∧
    ((∃ fuel lh, lh.size = m ∧ (∀ j, j < m → lh.getD j false = listed.getD j false) ∧ (∀ j, m ≤ j → listed.getD j false = false) ∧ wpAny P .any (headOps ops m) (cutQ P ops Q m) fuel lh a w) ∨
     (∃ t, 0 < t ∧ (∀ j, j < ops.size → (listed.getD j false = true ↔ j < m + t)) ∧ wpList P ops Q (ops.toList.drop (m + t)) a w))) ?_ ?_ ops.size _ a0 _ ?_ ?_)
  · rintro listed a w i ⟨hcl, hI⟩ hi
    have hi0 := hi
    obtain ⟨hun, o, ho, hall⟩ := mem_ready.1 hi
    have his : i < ops.size := (Array.getElem?_eq_some_iff.1 ho).1
    have hls : i < listed.size := by rw [hcl.size]; exact his
    have hunf : listed.getD i false = false := by rw [← getD_both hls]; exact hun
    have hcl' := hcl.set hi0
    have tailStep : ∀ t, (∀ j, j < ops.size → (listed.getD j false = true ↔ j < m + t)) → i = m + t → wpList P ops Q (ops.toList.drop (m + t)) a w → wpOp P ops Q i (fun a' w' => Closed ops (listed.setIfInBounds i true) ∧
        ((∃ fuel lh, lh.size = m ∧ (∀ j, j < m → lh.getD j false = (listed.setIfInBounds i true).getD j false) ∧ (∀ j, m ≤ j → (listed.setIfInBounds i true).getD j false = false) ∧ wpAny P .any (headOps ops m) (cutQ P ops Q m) fuel lh a' w') ∨
         (∃ t, 0 < t ∧ (∀ j, j < ops.size → ((listed.setIfInBounds i true).getD j false = true ↔ j < m + t)) ∧ wpList P ops Q (ops.toList.drop (m + t)) a' w'))) a w := fun t hl hit hw => by
      have hd : ops.toList.drop (m + t) = o :: ops.toList.drop (m + (t + 1)) := by
        rw [List.drop_eq_getElem_cons (by simpa [← hit] using his)]
        congr 1
        have := (Array.getElem?_eq_some_iff.1 ho).2
        simpa [← hit] using this
      rw [hd] at hw
      unfold wpList at hw
      rw [if_pos (wanted_none (guard i o ho))] at hw
      unfold wpOp
      simp only [ho]
      rw [if_pos (wanted_none (guard i o ho))]
      refine hw.imp (Oper.wp_mono fun a' w' hh => ⟨hcl', .inr ⟨t + 1, by omega, fun j hj => ?_, hh⟩⟩) (fun x => x)
      by_cases hij : i = j
      · subst hij
        simp [hls]
        omega
      · rw [getD_set_ne false hij, hl j hj]
        omega
    rcases hI with ⟨fuel, lh, hlh, heq, hta, hw⟩ | ⟨t, ht, hl, hw⟩
    · by_cases him : i < m
      · have hmem : i ∈ Region.ready .any (headOps ops m) lh := mem_ready.2 ⟨by rw [getD_both (by omega), heq i him]; exact hunf, o, by rw [head_at him]; exact ho, fun e he hb => by
          have h1 := hall e he hb
          have h2 := down i o ho e he hb
          rw [heq _ (by omega)]
          exact h1⟩
        cases fuel with
        | zero =>
          rw [hw.1] at hmem
          cases hmem
        | succ fuel =>
          have h1 := hw.2 i hmem
          unfold wpOp at h1 ⊢
          simp only [head_at him, ho] at h1 ⊢
          rw [if_pos (wanted_none (guard i o ho))] at h1 ⊢
          have mk : ∀ a' w', wpAny P .any (headOps ops m) (cutQ P ops Q m) fuel (lh.setIfInBounds i true) a' w' → Closed ops (listed.setIfInBounds i true) ∧
              ((∃ fuel lh, lh.size = m ∧ (∀ j, j < m → lh.getD j false = (listed.setIfInBounds i true).getD j false) ∧ (∀ j, m ≤ j → (listed.setIfInBounds i true).getD j false = false) ∧ wpAny P .any (headOps ops m) (cutQ P ops Q m) fuel lh a' w') ∨
               (∃ t, 0 < t ∧ (∀ j, j < ops.size → ((listed.setIfInBounds i true).getD j false = true ↔ j < m + t)) ∧ wpList P ops Q (ops.toList.drop (m + t)) a' w')) := fun a' w' hh =>
            ⟨hcl', .inl ⟨fuel, lh.setIfInBounds i true, by simp [hlh], fun j hj => by
              by_cases hij : i = j
              · subst hij
                simp [hls, hlh, him]
              · rw [getD_set_ne false hij, getD_set_ne false hij]
                exact heq j hj, fun j hj => by rw [getD_set_ne false (by omega)]; exact hta j hj, hh⟩⟩
          rcases h1 with h1 | ⟨h1, h2⟩
          · left
            unfold Oper.wp at h1
            rw [upon_cut] at h1
            exact Oper.wp_mono mk h1
          · exact .inr ⟨h1, h2⟩
      · have hie : i = m := by
          rcases Nat.lt_or_ge m i with h1 | h1
          · obtain ⟨e, he, hb, hon⟩ := chain i o ho h1
            have h2 := hall e he hb
            rw [hon, hta _ (by omega)] at h2
            cases h2
          · omega
        subst hie
        have hf := full listed hcl hi0
        have hnil : Region.ready .any (headOps ops i) lh = [] := by
          cases hr : Region.ready .any (headOps ops i) lh with
          | nil => rfl
          | cons x l =>
            exfalso
            have hx : x ∈ Region.ready .any (headOps ops i) lh := by rw [hr]; simp
            obtain ⟨h1, ox, hox, _⟩ := mem_ready.1 hx
            have hxs := (Array.getElem?_eq_some_iff.1 hox).1
            rw [hhs] at hxs
            rw [getD_both (by omega), heq x hxs, hf x hxs] at h1
            cases h1
        have hq : wpList P ops Q (ops.toList.drop (i + 0)) a w := by
          cases fuel with
          | zero => exact hw.2
          | succ fuel => exact hw.1 hnil
        refine tailStep 0 (fun j hj => ?_) rfl hq
        constructor
        · intro h1
          rcases Nat.lt_or_ge j i with h2 | h2
          · omega
          · rw [hta j h2] at h1
            cases h1
        · intro h1
          exact hf j (by omega)
    · have hit : i = m + t := by
        have h0 : ¬ i < m + t := fun h1 => by
          rw [(hl i his).2 h1] at hunf
          cases hunf
        rcases Nat.lt_or_ge (m + t) i with h1 | h1
        · obtain ⟨e, he, hb, hon⟩ := chain i o ho (by omega)
          have h2 := hall e he hb
          rw [hon] at h2
          have := (hl (i - 1) (by omega)).1 h2
          omega
        · omega
      exact tailStep t hl hit hw
  · rintro listed a w ⟨hcl, hI⟩ hr
    have hd := done listed hcl hr
    rcases hI with ⟨fuel, lh, hlh, heq, hta, hw⟩ | ⟨t, ht, hl, hw⟩
    · exfalso
      have h1 := hd m hlt
      rw [hta m (Nat.le_refl _)] at h1
      cases h1
    · have hle : ops.size ≤ m + t := by
        rcases Nat.lt_or_ge (m + t) ops.size with h1 | h1
        · have := (hl (m + t) h1).1 (hd _ h1)
          omega
        · exact h1
      rw [List.drop_eq_nil_of_le (by simpa using hle)] at hw
      exact hw
  · unfold leftOf
    refine Nat.le_trans (List.length_filter_le _ _) ?_
    simp
  · refine ⟨⟨by simp, fun i o hi => ?_⟩, .inl ⟨_, _, by rw [Array.size_replicate, hhs], fun j hj => ?_, fun j hj => ?_, h⟩⟩
    · rw [getD_rep] at hi
      cases hi
    · rw [getD_rep, getD_rep]
    · exact getD_rep _ _
end
end Go.Proofs.YtojekoakgpkkdabDoor

/-
  Own text. Inv's laws for the first operations of a region that is cut (Cut). No program is named here.
-/
namespace Go.Proofs.YtojekoakgpkkdabDoor
open Go
section
variable {P : Program} {ops : Array Oper} {Q : Exit → Act → World → Prop}
theorem any_inv {a0 : Act} {w0 : World} (S : World → Prop) (R : World → World → Prop) (φ : Nat → Value → World → Prop) (hB : invB ops = true)
    (hS0 : S w0.drew) (hSR : ∀ w w', S w → R w w' → S w') (hφ : ∀ i v w w', φ i v w → R w w' → φ i v w')
    (step : ∀ (i : Nat) (o : Oper), ops[i]? = some o → ∀ (a : Act) (w : World), S w → (∀ t : Nat, (∀ (j : Nat) (oj : Oper), ops[j]? = some oj → oj.dst = some t → predOf oj i = true) → a.tmps[t]? = a0.tmps[t]?) →
      (∀ (j : Nat) (oj : Oper) (d : Nat), ops[j]? = some oj → oj.dst = some d → predOf o j = true → φ j (a.tmps.getD d undef) w) →
      wpOp P ops Q i (fun a' w' => ∃ v, a' = a.put o.dst v ∧ φ i v w' ∧ R w w') a w)
    (fin : ∀ (vs : Nat → Value) (w : World), S w → (∀ (i : Nat) (o : Oper) (d : Nat), ops[i]? = some o → o.dst = some d → φ i (vs d) w) → Q .normal (putAll a0 vs (dsts ops)) w)
    (hsz : ∀ d ∈ dsts ops, d < a0.tmps.size) : wpAny P .any ops Q ops.size (Array.replicate ops.size false) a0 { w0 with drawn := w0.drawn + 1 } := by
  simp only [invB, Bool.and_eq_true, decide_eq_true_eq] at hB
  obtain ⟨⟨hsome, hnd⟩, hord⟩ := hB
  refine (wpAny_inv (Mid ops a0 S φ) ?_ ?_ ops.size _ a0 _ ?_ ?_)
  · intro listed a w i mid hi
    obtain ⟨hun, oi, hoi, hall⟩ := mem_ready.1 hi
    have hils : i < listed.size := by
      rcases Nat.lt_or_ge i listed.size with h | h
      · exact h
      · simp [Array.getElem?_eq_none h] at hun
    have hunf : listed.getD i false = false := by simp [hils] at hun ⊢; exact hun
    have hst := step i oi hoi a w mid.world
      (fun t ht => mid.frame t (fun j oj hj hl hd => by
        obtain ⟨e, he, hb⟩ := Array.any_eq_true'.1 (ht j oj hj hd)
        simp only [Bool.and_eq_true, beq_iff_eq] at hb
        have := mid.closed j oj hj hl e he hb.1
        rw [hb.2, hunf] at this
        cases this))
      (fun j oj d hj hd hp => by
        obtain ⟨e, he, hb⟩ := Array.any_eq_true'.1 hp
        simp only [Bool.and_eq_true, beq_iff_eq] at hb
        have := hall e he hb.1
        rw [hb.2] at this
        exact mid.known j oj d hj hd this)
    refine wpOp_mono (fun a' w' h' => ?_) hst
    obtain ⟨v, rfl, hv, hR⟩ := h'
    have hsi : oi.dst.isSome = true := List.all_eq_true.1 hsome oi (by simpa using Array.mem_of_getElem? hoi)
    obtain ⟨di, hdi⟩ := Option.isSome_iff_exists.1 hsi
    have hmem : di ∈ dsts ops := List.mem_filterMap.2 ⟨oi, by simpa using Array.mem_of_getElem? hoi, hdi⟩
    have hdlt : di < a.tmps.size := by rw [mid.size]; exact hsz di hmem
    have hself : (listed.setIfInBounds i true).getD i false = true := by simp [hils]
    rw [hdi]
    refine ⟨by simp [mid.lsize], fun j oj hj hl e he hb => ?_, by simpa [Act.put] using mid.size, mid.defers, hSR w w' mid.world hR, fun t ht => ?_, fun j oj d hj hd hl => ?_⟩
    · rcases getD_set_false hl with rfl | hl
      · obtain rfl : oj = oi := Option.some.inj (hj.symm.trans hoi)
        have h1 := hall e he hb
        by_cases hie : j = e.on
        · rw [hie]; rw [hie] at hself; exact hself
        · rw [getD_set_ne false hie]; exact h1
      · have h1 := mid.closed j oj hj hl e he hb
        by_cases hie : i = e.on
        · rw [← hie]; exact hself
        · rw [getD_set_ne false hie]; exact h1
    · have hne : di ≠ t := fun h => ht i oi hoi hself (by rw [hdi, h])
      rw [show (a.put (some di) v).tmps[t]? = a.tmps[t]? from by simp [Act.put, hne]]
      exact mid.frame t (fun j oj hj hl => ht j oj hj (by
        by_cases hij : i = j
        · subst hij; exact hself
        · rw [getD_set_ne false hij]; exact hl))
    · rcases getD_set_false hl with rfl | hl
      · obtain rfl : oj = oi := Option.some.inj (hj.symm.trans hoi)
        obtain rfl : d = di := Option.some.inj (hd.symm.trans hdi)
        rw [show (a.put (some d) v).tmps.getD d undef = v from by simp [Act.put, hdlt]]
        exact hv
      · have hne : di ≠ d := fun h => by
          subst h
          have := nodup_dst hnd hoi hj hdi hd
          subst this
          rw [hunf] at hl
          cases hl
        rw [show (a.put (some di) v).tmps.getD d undef = a.tmps.getD d undef from by simp [Act.put, hne]]
        exact hφ j _ w w' (mid.known j oj d hj hd hl) hR
  · intro listed a w mid hr
    have hall : ∀ n i, i < n → i < ops.size → listed.getD i false = true := by
      intro n
      induction n with
      | zero => intro i h; cases h
      | succ n ih =>
        intro i hin hil
        by_cases hlt : i < n
        · exact ih i hlt hil
        · have hin' : i = n := by omega
          subst hin'
          cases hg : listed.getD i false with
          | true => rfl
          | false =>
            have ho : ops[i]? = some ops[i] := Array.getElem?_eq_getElem hil
            have h1 := List.all_eq_true.1 hord i (List.mem_range.2 hil)
            simp only [ho] at h1
            have hin2 : i ∈ Region.ready .any ops listed := mem_ready.2 ⟨by
              have : i < listed.size := by rw [mid.lsize]; exact hil
              simp [this] at hg ⊢; exact hg, _, ho, fun e he hb => by
              have h2 := Array.all_eq_true'.1 h1 e he
              simp only [hb, Bool.not_true, Bool.false_or, decide_eq_true_eq] at h2
              exact ih e.on h2 (by omega)⟩
            rw [hr] at hin2
            cases hin2
    have hq := fin (fun d => a.tmps.getD d undef) w mid.world (fun i o d ho hd => mid.known i o d ho hd (hall (i + 1) i (by omega) (Array.getElem?_eq_some_iff.1 ho).1))
    have ha : putAll a0 (fun d => a.tmps.getD d undef) (dsts ops) = a := by
      have h1 := putAll_defers (fun d => a.tmps.getD d undef) (dsts ops) a0
      have h2 : (putAll a0 (fun d => a.tmps.getD d undef) (dsts ops)).tmps = a.tmps := by
        apply Array.ext_getElem?
        intro t
        by_cases ht : t < a0.tmps.size
        · rw [putAll_get _ _ _ _ ht]
          by_cases hm2 : t ∈ dsts ops
          · rw [if_pos hm2]
            have : t < a.tmps.size := by rw [mid.size]; exact ht
            simp [this]
          · rw [if_neg hm2]
            exact (mid.frame t (fun i o hi _ hd => hm2 (List.mem_filterMap.2 ⟨o, by simpa using Array.mem_of_getElem? hi, hd⟩))).symm
        · rw [Array.getElem?_eq_none (by rw [putAll_size]; omega), Array.getElem?_eq_none (by rw [mid.size]; omega)]
      rw [← mid.defers] at h1
      generalize putAll a0 (fun d => a.tmps.getD d undef) (dsts ops) = b at h1 h2
      cases a; cases b
      simp only at h1 h2
      rw [h1, h2]
    rw [ha] at hq
    exact hq
  · unfold leftOf
    exact Nat.le_trans (List.length_filter_le _ _) (by simp)
  · exact ⟨by simp, fun j oj _ hl => (by rw [getD_replicate_f] at hl; cases hl), rfl, rfl, hS0, fun _ _ => rfl, fun i o d _ _ hl => (by rw [getD_replicate_f] at hl; cases hl)⟩
theorem any_steps {a0 : Act} {w0 : World} (S : World → Prop) (R : World → World → Prop) (φ : Nat → Value → World → Prop) (ds : List Nat) (base : List (Nat × Value)) (p : List (List Nat))
    (hB : (invB ops && tabB ops ds (base.map (·.1)) p && ds.all (fun d => decide (d < a0.tmps.size))) = true)
    (hb0 : Holds a0 base) (hS0 : S w0.drew) (hSR : ∀ w w', S w → R w w' → S w') (hφ : ∀ i v w w', φ i v w → R w w' → φ i v w')
    (steps : AllSteps P S R φ ds base p 0 ops.toList)
    (fin : ∀ (vs : Nat → Value) (w : World), S w → (∀ j : Nat, j < ds.length → φ j (vs (ds.getD j 0)) w) → Q .normal (putAll a0 vs ds) w) : wpAny P .any ops Q ops.size (Array.replicate ops.size false) a0 { w0 with drawn := w0.drawn + 1 } := by
  simp only [Bool.and_eq_true] at hB
  obtain ⟨⟨hI, hT⟩, hsz⟩ := hB
  simp only [tabB, Bool.and_eq_true, beq_iff_eq] at hT
  obtain ⟨⟨hds, hbase⟩, htab⟩ := hT
  have hdst : ∀ (j : Nat) (oj : Oper), ops[j]? = some oj → oj.dst = some (ds.getD j 0) ∧ j < ds.length := fun j oj hj => by
    have h1 : (ops.toList.map (·.dst))[j]? = some oj.dst := by rw [List.getElem?_map]; simp [hj]
    rw [hds, List.getElem?_map] at h1
    cases hq : ds[j]? with
    | none => rw [hq] at h1; simp at h1
    | some d =>
      rw [hq] at h1
      have hl : j < ds.length := (List.getElem?_eq_some_iff.1 hq).1
      refine ⟨?_, hl⟩
      rw [List.getD_eq_getElem?_getD, hq]
      simpa using h1.symm
  have hdsts : dsts ops = ds := by
    unfold dsts
    have h1 : ops.toList.filterMap (·.dst) = (ops.toList.map (·.dst)).filterMap (fun x => x) := by rw [List.filterMap_map]; rfl
    rw [h1, hds, List.filterMap_map]
    exact List.filterMap_some
  refine any_inv S R φ hI hS0 hSR hφ (fun i o hi a w hS hfr hkn => ?_) (fun vs w hS h => ?_) (fun d hd => by rw [hdsts] at hd; simpa using List.all_eq_true.1 hsz d hd)
  · have hil : i < ops.size := (Array.getElem?_eq_some_iff.1 hi).1
    have ht := List.all_eq_true.1 htab i (List.mem_range.2 hil)
    simp only [hi, Bool.and_eq_true] at ht
    have st := AllSteps.at ops.toList p 0 steps i o (by simpa using hi)
    rw [Nat.zero_add] at st
    obtain ⟨hg, hk⟩ := st Q a w hS
      (holds_of base (fun t htm => eval_tmp_of (hfr t (fun j oj hj hd => by
        exfalso
        have h1 := List.all_eq_true.1 hbase t htm
        have h2 := (hdst j oj hj).1
        rw [hd] at h2
        have h3 : t = ds.getD j 0 := Option.some.inj h2
        have h4 : t ∈ ds := by
          rw [h3, List.getD_eq_getElem?_getD, List.getElem?_eq_getElem (hdst j oj hj).2]
          simp
        simp [h4] at h1))) hb0)
      (knows_of _ (fun j hj => by
        have h1 := List.all_eq_true.1 ht.1 j hj
        simp only [Bool.and_eq_true, decide_eq_true_eq] at h1
        have hoj : ops[j]? = some ops[j] := Array.getElem?_eq_getElem h1.2
        have h2 := hkn j _ _ hoj (hdst j _ hoj).1 h1.1
        simpa [Act.eval] using h2))
    have hw : Region.wanted o (yielded ops a.tmps) = true := by
      unfold Region.wanted
      cases hgd : o.guard with
      | none => rfl
      | some x =>
        obtain ⟨g, b⟩ := x
        rw [hgd] at hg
        have h2 := ht.2
        rw [hgd] at h2
        simp only [decide_eq_true_eq] at h2
        have hog : ops[g]? = some ops[g] := Array.getElem?_eq_getElem h2
        have hd := (hdst g _ hog).1
        have h4 : a.tmps[ds.getD g 0]? = some (.bool b) := by
          simp only [Act.eval] at hg
          rw [Array.getD_eq_getD_getElem?] at hg
          cases hq : a.tmps[ds.getD g 0]? with
          | none => rw [hq] at hg; simp [undef] at hg
          | some v => rw [hq] at hg; simpa using hg
        have hy : yielded ops a.tmps g = some b := by
          unfold yielded
          rw [hog]
          simp only [Option.bind_some, hd, h4]
        simp [hy]
    unfold wpOp
    simp only [hi, hw, if_true]
    exact .inl (hk _ (fun v w' h1 h2 => ⟨v, rfl, h1, h2⟩))
  · rw [hdsts]
    refine fin vs w hS (fun j hj => ?_)
    have hlen : ops.toList.length = ds.length := by have := congrArg List.length hds; simpa using this
    have hjl : j < ops.size := by rw [← hlen] at hj; simpa using hj
    have hoj : ops[j]? = some ops[j] := Array.getElem?_eq_getElem hjl
    exact h j _ _ hoj (hdst j _ hoj).1
end
end Go.Proofs.YtojekoakgpkkdabDoor

/-
  Own text. A region that leaves its order open and in which operations change what others may meet: what holds of the world hangs on which operations are behind (L). No program is named here.
-/
namespace Go.Proofs.YtojekoakgpkkdabDoor
open Go
section
variable {P : Program} {ops : Array Oper} {Q : Exit → Act → World → Prop}
/-- Of the operations that are listed what is known of their slots. -/
def Knows4 (φ : Nat → Value → Prop) (ds : List Nat) (a : Act) : List Nat → Prop
  | [] => True
  | j :: l => φ j (a.eval (.tmp (ds.getD j 0))) ∧ Knows4 φ ds a l
/-- These are behind. -/
def Behind (L : Nat → Bool) : List Nat → Prop
  | [] => True
  | j :: l => L j = true ∧ Behind L l
end
end Go.Proofs.YtojekoakgpkkdabDoor

/-
  Own text. Structs of cells in memory, and rows of structs: names no type of the program but int, uint32, uint8, string.
-/
namespace Go.Proofs.YtojekoakgpkkdabDoor
open Go.RowKit Go.Proofs
set_option maxRecDepth 100000
/-- The cells of a struct, each by its number. -/
def SC (n : Nat) (V : Nat → Value) : Array Value := ((List.range n).map V).toArray
theorem SC_size (n : Nat) (V : Nat → Value) : (SC n V).size = n := by simp [SC]
theorem SC_get (n : Nat) (V : Nat → Value) (i : Nat) (h : i < n) : (SC n V)[i]? = some (V i) := by simp [SC, h]
theorem SC_one {n : Nat} {V : Nat → Value} (h : ∀ i, (V i).oneCell' = true) : (SC n V).all (·.oneCell') = true := by
  rw [Array.all_eq_true_iff_forall_mem]
  intro v hv
  simp only [SC, List.mem_toArray, List.mem_map] at hv
  obtain ⟨i, _, rfl⟩ := hv
  exact h i
def IsSt (ty n : Nat) : Prop := ∃ d, Tryd.prog.underlying ty = some d ∧ (match d with | .struct _ | .array _ _ => true | _ => false) = true ∧ (Tryd.prog.info? ty).map (·.size) = some n
def SAt (w : World) (b : Nat) (ty : TypeId) (n : Nat) (V : Nat → Value) : Prop := w.heap[b]? = some (.cells (SC n V) ty (0, 0))
section
variable {w w' : World} {b n : Nat} {ty : TypeId} {V : Nat → Value}
theorem SAt.at (h : SAt w b ty n V) (i : Nat) (hi : i < n) : w.cell? ⟨b, i, none⟩ = some (V i) := by
  rw [cell_of_row w b i _ _ _ h, SC_get n V i hi]
theorem SAt.lt (h : SAt w b ty n V) : b < w.heap.size := heap_lt h
theorem SAt.block (h : SAt w b ty n V) (e : w'.heap[b]? = w.heap[b]?) : SAt w' b ty n V := e.trans h
theorem SAt.kept (h : SAt w b ty n V) (hb : Below w.heap.size w w') : SAt w' b ty n V := h.block (hb.block b h.lt)
theorem SAt.only {g : Nat} (h : SAt w b ty n V) (ho : Only g w w') (hB : b ≠ g) : SAt w' b ty n V := h.block (ho.block b hB)
theorem SAt.tou {g : Nat} (h : SAt w b ty n V) (t : Touch (fun x => x = g) w w') (hB : b ≠ g) : SAt w' b ty n V := h.block (t.block b h.lt hB)
end
theorem look_st {a : Act} {o : Oper} {w : World} {x : Operand} {ty : TypeId} {g n : Nat} {V : Nat → Value} (ho : o.op = .load ty x) (hA : IsSt ty n) (hg : SAt w g ty n V) (hx : a.eval x = .pointer (some ⟨g, 0, none⟩)) : (execOp a.eval o).run Tryd.prog w = .ok (.value (.agg (SC n V))) w := by
  obtain ⟨d, h1, h2, h3⟩ := hA
  unfold execOp
  simp only [ho, hx]
  have := run_loadVar_row (P := Tryd.prog) w g ty ty (SC n V) (0, 0) _ hg h1 (by cases d <;> first | rfl | exact h2) (by rw [SC_size]; exact h3)
  simp [Instr.loadAt, Instr.sureAddr, this]
theorem act_st7 {o : Oper} {a : Act} {w : World} {K : Act → World → Prop} {Q : Exit → Act → World → Prop} {x y : Operand} {ty : TypeId} {g n : Nat} {V V' : Nat → Value} (ho : o.op = .store ty x y)
    (hA : IsSt ty n) (h1 : ∀ i, (V i).oneCell' = true) (hx : a.eval x = .pointer (some ⟨g, 0, none⟩)) (hy : a.eval y = .agg (SC n V)) (hg : SAt w g ty n V')
    (h : ∀ w2, SAt w2 g ty n V → Only g w w2 → K (a.put o.dst undef) w2) : o.wp Tryd.prog a w K Q := by
  obtain ⟨_, _, _, h3⟩ := hA
  have hrun := run_storeVar_row (P := Tryd.prog) w g ty ty (SC n V') (SC n V) hg (by rw [SC_size]; exact h3) (by rw [SC_size, SC_size]) (SC_one h1)
  unfold Oper.wp execOp
  simp only [ho, hx, hy, Instr.storeAt, Instr.sureAddr, Sem.run_bind, Sem.run_pure, Result.andThen_ok, hrun]
  exact h _ (setRow_heap w g (SC n V') (SC n V) ty (0, 0) hg) (only_setRow w g _)
theorem SAt.congr {w : World} {b n : Nat} {ty : TypeId} {V V' : Nat → Value} (h : SAt w b ty n V) (e : ∀ i, i < n → V i = V' i) : SAt w b ty n V' := by
  have : SC n V = SC n V' := by
    unfold SC
    congr 1
    exact List.map_congr_left (fun i hi => e i (List.mem_range.1 hi))
  unfold SAt
  rw [← this]
  exact h
theorem SC_ext {n : Nat} {V : Nat → Value} {C : Array Value} (hs : C.size = n) (h : ∀ i, i < n → C[i]? = some (V i)) : C = SC n V := by
  apply Array.ext
  · rw [hs, SC_size]
  · intro i h1 h2
    have a1 := h i (by omega)
    have a2 := SC_get n V i (by omega)
    rw [← a2, Array.getElem?_eq_getElem h1, Array.getElem?_eq_getElem h2] at a1
    exact Option.some.inj a1
theorem SAt.set {w : World} {b n : Nat} {ty : TypeId} {V : Nat → Value} (h : SAt w b ty n V) (i : Nat) (v : Value) (hi : i < n) : SAt (w.setCell ⟨b, i, none⟩ v) b ty n (fun x => if x = i then v else V x) := by
  have := heap_setCell_same w b i _ ty v h
  unfold SAt
  rw [this]
  congr 2
  refine SC_ext (by simp [SC_size]) (fun j hj => ?_)
  rw [Array.getElem?_setIfInBounds]
  by_cases e : j = i
  · subst e; simp [SC_size, hj]
  · rw [if_neg (fun h => e h.symm), if_neg e, SC_get n V j hj]
theorem res_st {fn : Func} {q : Tmp} {ty : TypeId} (h : fn.results = #[.cell q ty]) {tmps : Array Value} {w : World} {g n : Nat} {V : Nat → Value} (hA : IsSt ty n) (hg : SAt w g ty n V) (hq : tmps.getD q undef = .pointer (some ⟨g, 0, none⟩)) :
    (results fn tmps).run Tryd.prog w = .ok (.agg (SC n V)) w := by
  obtain ⟨d, h1, h2, h3⟩ := hA
  exact results_cell_row h tmps w g ty _ (0, 0) _ hq hg h1 (by cases d <;> first | rfl | exact h2) (by rw [SC_size]; exact h3)
theorem run_loadAt_addr (w : World) (p : Addr) (ty : TypeId) (cs : List Value) (d : TypeDesc) (hc : ∀ j v, cs[j]? = some v → w.cell? (p.add j) = some v)
    (hu : Tryd.prog.underlying ty = some d) (hd : d.isRow = true) (hi : (Tryd.prog.info? ty).map (·.size) = some cs.length) : (Instr.loadAt ty (.pointer (some p))).run Tryd.prog w = .ok (.agg cs.toArray) w := by
  have hl : (loadCells p cs.length).run Tryd.prog w = .ok cs.toArray w := run_loadCells_list (P := Tryd.prog) w p cs hc
  have hv : (loadVar ty p).run Tryd.prog w = .ok (.agg cs.toArray) w := by
    cases hq : Tryd.prog.info? ty with
    | none => simp [hq] at hi
    | some i =>
      have hs : i.size = cs.length := by simpa [hq] using hi
      have hagg : (isAgg ty).run Tryd.prog w = .ok true w := by
        unfold isAgg
        rw [Sem.run_bind, run_underlying hu w]
        cases d <;> simp_all
      simp [loadVar, Sem.run_bind, hagg, sizeOf, typeInfo, hq, hs, hl]
  simp only [Instr.loadAt, Instr.sureAddr, Sem.run_bind, Sem.run_pure, Result.andThen_ok, hv]
theorem add_blk (a : Addr) (n : Nat) : (a.add n).block = a.block := by unfold Addr.add; split <;> rfl
-- laws for an operation by its text: where another one stands, they fail at once
theorem wl_alO {ops : Array Oper} {rest : List Oper} {o : Oper} {ty : TypeId} {a : Act} {w : World} {Q : Exit → Act → World → Prop} {n : Nat} {V : Nat → Value} (ho : o.op = .alloc ty) (hgd : Region.wanted o (yielded ops a.tmps) = true) (hz : ∀ w, (zeroValue ty).run Tryd.prog w = .ok (.agg (SC n V)) w)
    (h : ∀ g w', w.heap.size ≤ g → SAt w' g ty n V → Below w.heap.size w w' → wpList Tryd.prog ops Q rest (a.put o.dst (.pointer (some ⟨g, 0, none⟩))) w') : wpList Tryd.prog ops Q (o :: rest) a w :=
  wl_act hgd (act_alloc hz ho (fun w' hb hg => h _ w' (Nat.le_refl _) hg hb))
theorem st_stO {ops : Array Oper} {rest : List Oper} {o : Oper} {x y : Operand} {ty : TypeId} {a : Act} {w : World} {Q : Exit → Act → World → Prop} {g n : Nat} {V V' : Nat → Value} (ho : o.op = .store ty x y) (hw : Region.wanted o (yielded ops a.tmps) = true)
    (hA : IsSt ty n) (h1 : ∀ i, (V i).oneCell' = true) (hg : SAt w g ty n V') (hx : a.eval x = .pointer (some ⟨g, 0, none⟩)) (hy : a.eval y = .agg (SC n V))
    (h : ∀ w2, SAt w2 g ty n V → Only g w w2 → wpList Tryd.prog ops Q rest (a.put o.dst undef) w2) : wpList Tryd.prog ops Q (o :: rest) a w :=
  wl_act hw (act_st7 ho hA h1 hx hy hg h)
-- a drawn region in which one operation, n, changes what holds
section
variable {A B : World → Prop} {n i : Nat} {L : Nat → Bool} {w w' : World}
end
end Go.Proofs.YtojekoakgpkkdabDoor

/-
  Own text. Addresses and prefixes as plain data; the document's valid, Right, bit.
-/
namespace Go.Proofs.YtojekoakgpkkdabDoor
open Go.RowKit Go.Proofs
set_option maxRecDepth 100000
/-- The cells of an address, of a prefix. -/
def adV (v : Bool) (b : Nat → Int) (j : Nat) : Value := if j < 1 then .bool v else .int .u8 (b (j - 1))
theorem adV_one (v : Bool) (b : Nat → Int) (j : Nat) : (adV v b j).oneCell' = true := by unfold adV; split <;> rfl
theorem isAddr : IsSt 30 17 := ⟨_, Tryd.underlying30, rfl, by kernel_rfl⟩
/-- May an address be? -/
def validF (v : Bool) (b : Nat → Int) : Bool := v || (List.range 16).all (fun i => decide (i < 4) || decide (b i = 0))
theorem valid_iff {v : Bool} {b : Nat → Int} : validF v b = true ↔ v = true ∨ ∀ i, 4 ≤ i → i < 16 → b i = 0 := by
  unfold validF
  rw [Bool.or_eq_true, List.all_eq_true]
  constructor
  · rintro (h | h)
    · exact .inl h
    · refine .inr (fun i h4 h16 => ?_)
      have := h i (List.mem_range.2 h16)
      simp at this
      omega
  · rintro (h | h)
    · exact .inl h
    · refine .inr (fun i hi => ?_)
      have hi := List.mem_range.1 hi
      simp
      by_cases h4 : i < 4
      · exact .inl h4
      · exact .inr (h i (by omega) hi)
section
variable {w : World} {g : Nat} {v : Bool} {b : Nat → Int} {n : Int}
theorem ad_v (h : SAt w g 30 17 (adV v b)) : w.cell? ⟨g, 0, none⟩ = some (.bool v) := SAt.at h 0 (by omega)
theorem ad_b (h : SAt w g 30 17 (adV v b)) (i : Nat) (hi : i < 16) : w.cell? ⟨g, 1 + i, none⟩ = some (.int .u8 (b i)) := by
  rw [SAt.at h (1 + i) (by omega)]
  unfold adV
  rw [if_neg (by omega), Nat.add_sub_cancel_left]
end
theorem wl_boxO {ops : Array Oper} {rest : List Oper} {o : Oper} {x : Operand} {ty : TypeId} {a : Act} {w : World} {Q : Exit → Act → World → Prop} {n : Nat} {V : Nat → Value} (ho : o.op = .box ty x) (hw : Region.wanted o (yielded ops a.tmps) = true) (_hA : IsSt ty n) (hx : a.eval x = .agg (SC n V))
    (h : ∀ g w', w.heap.size ≤ g → SAt w' g ty n V → Below w.heap.size w w' → wpList Tryd.prog ops Q rest (a.put o.dst (.pointer (some ⟨g, 0, none⟩))) w') : wpList Tryd.prog ops Q (o :: rest) a w := by
  refine wl_act hw ?_
  unfold Oper.wp execOp
  simp only [ho, hx]
  simp [go_sem]
  exact h _ _ (Nat.le_refl _) (heap_alloc_new w _) ((Below.refl _ _).alloc (Nat.le_refl _) _)
end Go.Proofs.YtojekoakgpkkdabDoor

/-
  Own text. Laws of single operations for the layers 12 and above.
-/
namespace Go.Proofs.YtojekoakgpkkdabDoor
open Go.RowKit Go.Proofs
set_option maxRecDepth 100000
section
variable {a : Act} {o : Oper} {w : World} {x y : Operand}
theorem exec_remW (ho : o.op = .binOp .rem 3 x y 3) {i m q : Nat} (hx : a.eval x = .int .i64 (i : Int)) (hy : a.eval y = .int .i64 (m : Int)) (hq : i % m = q) (hm : 0 < m) : (execOp a.eval o).run Tryd.prog w = .ok (.value (.int .i64 (q : Int))) w := by
  subst hq
  refine exec_bin2 ho hx hy rfl ?_
  have h0 : ¬ m = 0 := by omega
  have e : Int.tmod (i : Int) (m : Int) = (i : Int) % (m : Int) := Int.tmod_eq_emod_of_nonneg (by omega)
  simp [go_sem, h0, e]
theorem exec_quoW (ho : o.op = .binOp .quo 3 x y 3) {i m q : Nat} (hx : a.eval x = .int .i64 (i : Int)) (hy : a.eval y = .int .i64 (m : Int)) (hq : i / m = q) (hm : 0 < m) (hi : i < 9223372036854775808) : (execOp a.eval o).run Tryd.prog w = .ok (.value (.int .i64 (q : Int))) w := by
  subst hq
  refine exec_bin2 ho hx hy rfl ?_
  have h0 : ¬ m = 0 := by omega
  have e : Int.tdiv (i : Int) (m : Int) = (i : Int) / (m : Int) := Int.tdiv_eq_ediv_of_nonneg (by omega)
  have hl : i / m ≤ i := Nat.div_le_self i m
  have hc : (i : Int) / (m : Int) = ((i / m : Nat) : Int) := rfl
  have e2 : IntKind.i64.wrap ((i : Int) / (m : Int)) = (i : Int) / (m : Int) := by rw [hc]; generalize i / m = q at *; rw [IntKind.wrap_i64]; omega
  simp [go_sem, h0, e, e2]
theorem exec_addW (ho : o.op = .binOp .add 3 x y 3) {i m q : Nat} (hx : a.eval x = .int .i64 (i : Int)) (hy : a.eval y = .int .i64 (m : Int)) (hq : i + m = q) (hl : q < 9223372036854775808) : (execOp a.eval o).run Tryd.prog w = .ok (.value (.int .i64 (q : Int))) w := by
  refine exec_bin2 ho hx hy rfl ?_
  have hc : (i : Int) + (m : Int) = (q : Int) := by omega
  have e2 : IntKind.i64.wrap (q : Int) = (q : Int) := by rw [IntKind.wrap_i64]; omega
  simp [go_sem, hc, e2]
theorem exec_subW (ho : o.op = .binOp .sub 3 x y 3) {i m q : Nat} (hx : a.eval x = .int .i64 (i : Int)) (hy : a.eval y = .int .i64 (m : Int)) (hq : i = m + q) (hl : q < 9223372036854775808) : (execOp a.eval o).run Tryd.prog w = .ok (.value (.int .i64 (q : Int))) w := by
  refine exec_bin2 ho hx hy rfl ?_
  have hc : (i : Int) - (m : Int) = (q : Int) := by omega
  have e2 : IntKind.i64.wrap (q : Int) = (q : Int) := by rw [IntKind.wrap_i64]; omega
  simp [go_sem, hc, e2]
theorem exec_mulW (ho : o.op = .binOp .mul 3 x y 3) {i m q : Nat} (hx : a.eval x = .int .i64 (i : Int)) (hy : a.eval y = .int .i64 (m : Int)) (hq : i * m = q) (hl : q < 9223372036854775808) : (execOp a.eval o).run Tryd.prog w = .ok (.value (.int .i64 (q : Int))) w := by
  refine exec_bin2 ho hx hy rfl ?_
  have hc : (i : Int) * (m : Int) = (q : Int) := by rw [← hq]; simp
  have e2 : IntKind.i64.wrap (q : Int) = (q : Int) := by rw [IntKind.wrap_i64]; omega
  simp [go_sem, hc, e2]
theorem exec_cvW (ho : o.op = .convert 5 3 x) {m : Int} (hx : a.eval x = .int .u8 m) (h0 : 0 ≤ m) (h1 : m < 256) : (execOp a.eval o).run Tryd.prog w = .ok (.value (.int .i64 m)) w := by
  have e : IntKind.i64.wrap m = m := by rw [IntKind.wrap_i64]; omega
  unfold execOp
  simp only [ho, hx]
  simp [go_sem, e]
theorem exec_addU (ho : o.op = .binOp .add 79 x y 79) {i m q : Nat} (hx : a.eval x = .int .u64 (i : Int)) (hy : a.eval y = .int .u64 (m : Int)) (hq : i + m = q) (hl : q < 18446744073709551616) : (execOp a.eval o).run Tryd.prog w = .ok (.value (.int .u64 (q : Int))) w := by
  refine exec_bin2 ho hx hy rfl ?_
  have hc : (i : Int) + (m : Int) = (q : Int) := by omega
  have e2 : IntKind.u64.wrap (q : Int) = (q : Int) := by rw [IntKind.wrap_u64]; omega
  simp [go_sem, hc, e2]
theorem exec_cv8U (ho : o.op = .convert 5 79 x) {m : Nat} (hx : a.eval x = .int .u8 (m : Int)) (h1 : m < 256) : (execOp a.eval o).run Tryd.prog w = .ok (.value (.int .u64 (m : Int))) w := by
  have e : IntKind.u64.wrap (m : Int) = (m : Int) := by rw [IntKind.wrap_u64]; omega
  unfold execOp
  simp only [ho, hx]
  simp [go_sem, e]
end
/-- Two structs as parameters. -/
theorem wl_boxWW {ops : Array Oper} {rest : List Oper} {o1 o2 : Oper} {x y : Operand} {ty ty' : TypeId} {a : Act} {w : World} {Q : Exit → Act → World → Prop} {n n' : Nat} {V V' : Nat → Value} (h1 : o1.op = .box ty x) (h2 : o2.op = .box ty' y) (w1 : o1.guard = none) (w2 : o2.guard = none) (hA : IsSt ty n) (hA' : IsSt ty' n') (hx : a.eval x = .agg (SC n V)) (hy : ∀ u, (a.put o1.dst u).eval y = .agg (SC n' V'))
    (h : ∀ g g' w', w.heap.size ≤ g → g < g' → SAt w' g ty n V → SAt w' g' ty' n' V' → Below w.heap.size w w' → wpList Tryd.prog ops Q rest ((a.put o1.dst (.pointer (some ⟨g, 0, none⟩))).put o2.dst (.pointer (some ⟨g', 0, none⟩))) w') : wpList Tryd.prog ops Q (o1 :: o2 :: rest) a w := by
  have q1 : Region.wanted o1 (yielded ops a.tmps) = true := by unfold Region.wanted; rw [w1]
  refine wl_boxO h1 q1 hA hx (fun g u hg s1 b1 => ?_)
  have q2 : Region.wanted o2 (yielded ops (a.put o1.dst (.pointer (some ⟨g, 0, none⟩))).tmps) = true := by unfold Region.wanted; rw [w2]
  refine wl_boxO h2 q2 hA' (hy _) (fun g' u' hg' s2 b2 => ?_)
  exact h g g' u' hg (by have := SAt.lt s1; omega) (SAt.kept s1 b2) s2 (b1.trans (b2.mono b1.size))
end Go.Proofs.YtojekoakgpkkdabDoor

/-
  Own text. The document's joined and Sum: the Internet checksum as a number.
-/
namespace Go.Proofs.YtojekoakgpkkdabDoor
open Go.RowKit Go.Proofs Go.Lib
set_option maxRecDepth 100000
/-- The sum of the first n bytes, each at an even place 256 times. -/
def sw (f : Nat → Int) : Nat → Int
  | 0 => 0
  | i + 1 => sw f i + (if i % 2 = 0 then 256 * f i else f i)
/-- A sum from which 65535 was taken while it was above that. -/
def cano (s : Int) : Int := if s = 0 then 0 else (s - 1) % 65535 + 1
def sumT (T : ByteArray) : Int := 65535 - cano (sw (txt T) T.size)
theorem cano_b (s : Int) : 0 ≤ cano s ∧ cano s ≤ 65535 := by
  unfold cano
  split <;> omega
theorem sumT_b (T : ByteArray) : 0 ≤ sumT T ∧ sumT T ≤ 65535 := by
  have := cano_b (sw (txt T) T.size)
  unfold sumT
  omega
end Go.Proofs.YtojekoakgpkkdabDoor

