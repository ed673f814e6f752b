/-
  Own text. A region that leaves its order open, operation by operation, whatever came before: calls, new blocks, stores into blocks that were there or came in the region. What a block holds goes on from store to store. No program is named here.
-/
import Derived.Test.YtfbeclleeehaaaaInv
namespace Go.Proofs.Ytfbeclleeehaaaa
open Go
section
variable {P : Program} {ops : Array Oper} {Q : Exit → Act → World → Prop}
/-- All that was there but the blocks of T is as it was. -/
structure Touch (T : Nat → Prop) (w w' : World) : Prop where
  os : w'.os = w.os
  tape : w'.tape = w.tape
  output : w'.output = w.output
  size : w.heap.size ≤ w'.heap.size
  block : ∀ k, k < w.heap.size → ¬ T k → w'.heap[k]? = w.heap[k]?
theorem Touch.refl (T : Nat → Prop) (w : World) : Touch T w w := ⟨rfl, rfl, rfl, Nat.le_refl _, fun _ _ _ => rfl⟩
theorem Touch.mono {T T' : Nat → Prop} {w w' : World} (h : Touch T w w') (ht : ∀ k, k < w.heap.size → T k → T' k) : Touch T' w w' := ⟨h.os, h.tape, h.output, h.size, fun k hk hn => h.block k hk (fun h => hn (ht k hk h))⟩
/-- What a block holds: at first, and behind each of its stores (by the storing operation's number). -/
structure Cont where
  first : Obj → Prop
  stores : List (Nat × (Obj → Prop))
def Cont.at (c : Cont) (L : Nat → Bool) : Obj → Prop := c.stores.foldl (fun acc x => if L x.1 then x.2 else acc) c.first
def Cont.stage (c : Cont) (k : Nat) : Obj → Prop := (c.stores.take k).foldl (fun _ x => x.2) c.first
theorem foldl_true {L : Nat → Bool} : ∀ (l : List (Nat × (Obj → Prop))) (f : Obj → Prop), (∀ x ∈ l, L x.1 = true) → l.foldl (fun acc x => if L x.1 then x.2 else acc) f = l.foldl (fun _ x => x.2) f
  | [], _, _ => rfl
  | x :: l, f, h => by
    simp only [List.foldl_cons, h x (by simp), if_true]
    exact foldl_true l _ (fun y hy => h y (by simp [hy]))
theorem foldl_false {L : Nat → Bool} : ∀ (l : List (Nat × (Obj → Prop))) (f : Obj → Prop), (∀ x ∈ l, L x.1 = false) → l.foldl (fun acc x => if L x.1 then x.2 else acc) f = f
  | [], _, _ => rfl
  | x :: l, f, h => by
    simp only [List.foldl_cons, h x (by simp), Bool.false_eq_true, if_false]
    exact foldl_false l _ (fun y hy => h y (by simp [hy]))
theorem Cont.at_stage {c : Cont} {L : Nat → Bool} (k : Nat) (h1 : ∀ s ∈ (c.stores.map (·.1)).take k, L s = true) (h2 : ∀ s ∈ (c.stores.map (·.1)).drop k, L s = false) : c.at L = c.stage k := by
  unfold Cont.at Cont.stage
  have e : c.stores = c.stores.take k ++ c.stores.drop k := (List.take_append_drop k _).symm
  rw [← List.map_take] at h1
  rw [← List.map_drop] at h2
  conv => lhs; rw [e, List.foldl_append]
  rw [foldl_true _ _ (fun x hx => h1 x.1 (List.mem_map_of_mem hx)), foldl_false _ _ (fun x hx => h2 x.1 (List.mem_map_of_mem hx))]
theorem Cont.at_congr {c : Cont} {L L' : Nat → Bool} (h : ∀ s ∈ c.stores.map (·.1), L' s = L s) : c.at L' = c.at L := by
  unfold Cont.at
  have key : ∀ (l : List (Nat × (Obj → Prop))) (f : Obj → Prop), (∀ x ∈ l, L' x.1 = L x.1) → l.foldl (fun acc x => if L' x.1 then x.2 else acc) f = l.foldl (fun acc x => if L x.1 then x.2 else acc) f := by
    intro l
    induction l with
    | nil => intro f _; rfl
    | cons x l ih => intro f h; simp only [List.foldl_cons, h x (by simp)]; exact ih _ (fun y hy => h y (by simp [hy]))
  exact key _ _ (fun x hx => h x.1 (List.mem_map_of_mem hx))
/-- What is known of a slot: a fact of its value; or that it names a block of its own. -/
inductive Kw where
  | val (p : Value → Prop)
  | new (rel : Nat → Value → Prop) (c : Cont)
def Kw.isNew : Kw → Bool
  | .val _ => false
  | .new _ _ => true
def Kw.sts : Kw → List Nat
  | .val _ => []
  | .new _ c => c.stores.map (·.1)
/-- Where an operation stores: nowhere; into the block of operation j, or into that of the list's place x: as its store number k (from 1 on). -/
inductive Tg where
  | none
  | own (j k : Nat)
  | base (x k : Nat)
/-- What an operation may want to know. -/
inductive Wt where
  | slot (j : Nat)
  | cont (j k : Nat)
  | base (x k : Nat)
def kwAt (kn : List Kw) (j : Nat) : Kw := kn.getD j (.val fun _ => True)
def slAt (ds : List (Option Nat)) (j : Nat) : Nat := (ds.getD j none).getD 0
def ContOK (c : Obj → Prop) (w : World) (b : Nat) : Prop := ∃ ob, w.heap[b]? = some ob ∧ c ob
def WtAt (B : Nat) (G : List (Nat × Cont)) (kn : List Kw) (ds : List (Option Nat)) (own : Nat → Nat) (sv : Nat → Value) (w : World) : Wt → Prop
  | .slot j => match kwAt kn j with
    | .val p => p (sv (slAt ds j))
    | .new rel _ => rel (own j) (sv (slAt ds j)) ∧ B ≤ own j ∧ own j < w.heap.size
  | .cont j k => match kwAt kn j with
    | .val _ => True
    | .new _ c => ContOK (c.stage k) w (own j)
  | .base x k => match G[x]? with
    | some g => ContOK (g.2.stage k) w g.1
    | none => True
def Knows3 (B : Nat) (G : List (Nat × Cont)) (kn : List Kw) (ds : List (Option Nat)) (own : Nat → Nat) (sv : Nat → Value) (w : World) : List Wt → Prop
  | [] => True
  | x :: l => WtAt B G kn ds own sv w x ∧ Knows3 B G kn ds own sv w l
theorem knows3_of {B : Nat} {G : List (Nat × Cont)} {kn : List Kw} {ds : List (Option Nat)} {own : Nat → Nat} {sv : Nat → Value} {w : World} : ∀ (l : List Wt), (∀ x ∈ l, WtAt B G kn ds own sv w x) → Knows3 B G kn ds own sv w l
  | [], _ => trivial
  | x :: l, h => ⟨h x (by simp), knows3_of l (fun y hy => h y (by simp [hy]))⟩
/-- What an operation does. -/
def Post3 (G : List (Nat × Cont)) (kn : List Kw) (tg : List Tg) (own : Nat → Nat) (w : World) (i : Nat) (v : Value) (w' : World) : Prop :=
  match tg.getD i .none with
  | .none => Touch (fun _ => False) w w' ∧ (match kwAt kn i with
    | .val p => p v
    | .new rel c => ∃ b, w.heap.size ≤ b ∧ rel b v ∧ ContOK c.first w' b)
  | .own j k => Touch (fun b => b = own j) w w' ∧ (match kwAt kn j with
    | .val _ => False
    | .new _ c => ContOK (c.stage k) w' (own j)) ∧ (match kwAt kn i with | .val p => p v | .new _ _ => False)
  | .base x k => (match G[x]? with
    | some g => Touch (fun b => b = g.1) w w' ∧ ContOK (g.2.stage k) w' g.1
    | none => False) ∧ (match kwAt kn i with | .val p => p v | .new _ _ => False)
/-- Operation i, whatever came before it. -/
def Step3 (P : Program) (S : World → Prop) (B : Nat) (G : List (Nat × Cont)) (kn : List Kw) (tg : List Tg) (ds : List (Option Nat)) (base : List (Nat × Value)) (wt : List Wt) (i : Nat) (o : Oper) : Prop :=
  ∀ (Q : Exit → Act → World → Prop) (a : Act) (w : World) (own : Nat → Nat), S w → B ≤ w.heap.size → Holds a base → Knows3 B G kn ds own (fun d => a.eval (.tmp d)) w wt →
    ((match o.guard with | none => True | some (g, b) => a.eval (.tmp (slAt ds g)) = .bool b) ∧
      ∀ K : Act → World → Prop, (∀ v w', Post3 G kn tg own w i v w' → K (a.put o.dst v) w') → o.wp P a w K Q) ∨
    ((match o.guard with | none => False | some (g, b) => a.eval (.tmp (slAt ds g)) = .bool (!b) ∨ a.eval (.tmp (slAt ds g)) = undef) ∧ Post3 G kn tg own w i undef w)
def AllSteps3 (P : Program) (S : World → Prop) (B : Nat) (G : List (Nat × Cont)) (kn : List Kw) (tg : List Tg) (ds : List (Option Nat)) (base : List (Nat × Value)) : List (List Wt) → Nat → List Oper → Prop
  | _, _, [] => True
  | p, k, o :: l => Step3 P S B G kn tg ds base (p.headD []) k o ∧ AllSteps3 P S B G kn tg ds base p.tail (k + 1) l
theorem AllSteps3.at {S : World → Prop} {B : Nat} {G : List (Nat × Cont)} {kn : List Kw} {tg : List Tg} {ds : List (Option Nat)} {base : List (Nat × Value)} : ∀ (l : List Oper) (p : List (List Wt)) (k : Nat), AllSteps3 P S B G kn tg ds base p k l →
    ∀ (i : Nat) (o : Oper), l[i]? = some o → Step3 P S B G kn tg ds base (p.getD i []) (k + i) o
  | [], _, _, _, _, _, h => by simp at h
  | x :: l, p, k, h, i, o, ho => by
    cases i with
    | zero =>
      simp at ho; subst ho
      have := h.1
      cases p <;> simpa using this
    | succ i =>
      simp at ho
      have := AllSteps3.at l p.tail (k + 1) h.2 i o ho
      rw [show k + 1 + i = k + (i + 1) by omega] at this
      cases p <;> simpa using this
def waitsFor (ops : Array Oper) (s i : Nat) : Bool := match ops[s]? with | some o => predOf o i | none => false
/-- At operation i the first k of these stores are behind, the others ahead. -/
def stageB (ops : Array Oper) (i : Nat) (o : Oper) (ss : List Nat) (k : Nat) : Bool := (ss.take k).all (fun s => predOf o s) && (ss.drop k).all (fun s => s == i || waitsFor ops s i)
def wtB (ops : Array Oper) (Gs : List (List Nat)) (kn : List Kw) (ds : List (Option Nat)) (i : Nat) (o : Oper) : Wt → Bool
  | .slot j => predOf o j && decide (j < ops.size) && (ds.getD j none).isSome
  | .cont j k => predOf o j && decide (j < ops.size) && (ds.getD j none).isSome && stageB ops i o (kwAt kn j).sts k
  | .base x k => stageB ops i o (Gs.getD x []) k
def finB (ops : Array Oper) (Gs : List (List Nat)) (kn : List Kw) (ds : List (Option Nat)) : Wt → Bool
  | .slot j => decide (j < ops.size) && (ds.getD j none).isSome
  | .cont j k => decide (j < ops.size) && (ds.getD j none).isSome && (decide ((kwAt kn j).sts.length ≤ k) && (kwAt kn j).sts.all (fun s => decide (s < ops.size)))
  | .base x k => decide ((Gs.getD x []).length ≤ k) && (Gs.getD x []).all (fun s => decide (s < ops.size))
def storeB (ops : Array Oper) (i : Nat) (o : Oper) (ss : List Nat) (k : Nat) : Bool :=
  decide (1 ≤ k) && decide (ss[k - 1]? = some i) && (ss.take (k - 1)).all (fun s => predOf o s) && (ss.drop k).all (fun s => waitsFor ops s i)
def opB (ops : Array Oper) (Gs : List (List Nat)) (kn : List Kw) (tg : List Tg) (ds : List (Option Nat)) (wt : List (List Wt)) (i : Nat) (o : Oper) : Bool :=
  o.after.all (fun e => !Region.binds .any e || decide (e.on < i)) &&
  (match o.guard with | some (g, _) => decide (g < ops.size) && (ds.getD g none).isSome | none => true) &&
  (wt.getD i []).all (wtB ops Gs kn ds i o) &&
  (!(kwAt kn i).isNew || ((ds.getD i none).isSome && (kwAt kn i).sts.all (fun s => waitsFor ops s i))) &&
  (List.range ops.size).all (fun j => !(kwAt kn j).sts.contains i || (match tg.getD i .none with | .own j' _ => j == j' | _ => false)) &&
  (List.range Gs.length).all (fun x => !(Gs.getD x []).contains i || (match tg.getD i .none with | .base x' _ => x == x' | _ => false)) &&
  (match tg.getD i .none with
    | .none => true
    | .own j k => !(kwAt kn i).isNew && (kwAt kn j).isNew && predOf o j && decide (j < ops.size) && (ds.getD j none).isSome && storeB ops i o (kwAt kn j).sts k
    | .base x k => !(kwAt kn i).isNew && decide (x < Gs.length) && storeB ops i o (Gs.getD x []) k)
def Cont.still (c : Cont) : Bool := c.stores.isEmpty
def ApartFrom (g : Nat × Cont) : List (Nat × Cont) → Prop
  | [] => True
  | h :: l => (match g.2.still && h.2.still with | true => True | false => g.1 ≠ h.1) ∧ ApartFrom g l
/-- A block that is stored into is none of the others. -/
def Apart : List (Nat × Cont) → Prop
  | [] => True
  | g :: l => ApartFrom g l ∧ Apart l
theorem ApartFrom.at {g : Nat × Cont} : ∀ {l : List (Nat × Cont)}, ApartFrom g l → ∀ h ∈ l, (g.2.still && h.2.still) = false → g.1 ≠ h.1
  | [], _, _, hm, _ => by cases hm
  | x :: l, ha, h, hm, hs => by
    rcases List.mem_cons.1 hm with rfl | hm
    · have := ha.1
      rw [hs] at this
      exact this
    · exact ApartFrom.at ha.2 h hm hs
theorem Apart.at : ∀ {l : List (Nat × Cont)}, Apart l → ∀ (x y : Nat) (g h : Nat × Cont), l[x]? = some g → l[y]? = some h → g.2.still = false → g.1 = h.1 → x = y
  | [], _, _, _, _, _, hx, _, _, _ => by simp at hx
  | k :: l, ha, x, y, g, h, hx, hy, hs, he => by
    cases x with
    | zero =>
      cases y with
      | zero => rfl
      | succ y =>
        simp at hx hy
        subst hx
        exact absurd he (ha.1.at h (List.mem_of_getElem? hy) (by rw [hs]; rfl))
    | succ x =>
      cases y with
      | zero =>
        simp at hx hy
        subst hy
        exact absurd he.symm (ha.1.at g (List.mem_of_getElem? hx) (by rw [hs]; exact Bool.and_false _))
      | succ y =>
        simp at hx hy
        rw [Apart.at ha.2 x y g h hx hy hs he]
def sts (G : List (Nat × Cont)) : List (List Nat) := G.map fun x => x.2.stores.map (·.1)
/-- Do the tables fit the region? -/
def tab3 (ops : Array Oper) (n : Nat) (Gs : List (List Nat)) (kn : List Kw) (tg : List Tg) (ds : List (Option Nat)) (base : List Nat) (wt : List (List Wt)) (fw : List Wt) (dl : List Nat) : Bool :=
  decide (ds.filterMap (fun x => x) = dl) && (ops.toList.map (·.dst) == ds) && decide (dsts ops).Nodup && (dsts ops).all (fun d => decide (d < n)) && base.all (fun t => !(dsts ops).contains t) && fw.all (finB ops Gs kn ds) &&
  (List.range ops.size).all (fun i => match ops[i]? with | some o => opB ops Gs kn tg ds wt i o | none => true)
structure Mid3 (ops : Array Oper) (a0 : Act) (S : World → Prop) (B : Nat) (G : List (Nat × Cont)) (kn : List Kw) (own : Nat → Nat) (listed : Array Bool) (a : Act) (w : World) : Prop where
  lsize : listed.size = ops.size
  closed : ∀ (j : Nat) (oj : Oper), ops[j]? = some oj → listed.getD j false = true → ∀ e ∈ oj.after, Region.binds .any e = true → listed.getD e.on false = true
  size : a.tmps.size = a0.tmps.size
  defers : a.defers = a0.defers
  world : S w
  big : B ≤ w.heap.size
  frame : ∀ t : Nat, (∀ (i : Nat) (o : Oper), ops[i]? = some o → listed.getD i false = true → o.dst ≠ some t) → a.tmps[t]? = a0.tmps[t]?
  known : ∀ (i : Nat) (o : Oper) (d : Nat), ops[i]? = some o → o.dst = some d → listed.getD i false = true → match kwAt kn i with
    | .val p => p (a.tmps.getD d undef)
    | .new rel c => rel (own i) (a.tmps.getD d undef) ∧ B ≤ own i ∧ ContOK (c.at (fun s => listed.getD s false)) w (own i)
  blocks : ∀ x ∈ G, ContOK (x.2.at (fun s => listed.getD s false)) w x.1
  inj : ∀ i j, listed.getD i false = true → listed.getD j false = true → (kwAt kn i).isNew = true → (kwAt kn j).isNew = true → own i = own j → i = j
theorem ContOK.lt {c : Obj → Prop} {w : World} {b : Nat} (h : ContOK c w b) : b < w.heap.size := by
  obtain ⟨ob, h, _⟩ := h
  exact (Array.getElem?_eq_some_iff.1 h).1
theorem ContOK.keep {c c' : Obj → Prop} {w w' : World} {b : Nat} {T : Nat → Prop} (h : ContOK c w b) (ht : Touch T w w') (hb : ¬ T b) (hc : c' = c) : ContOK c' w' b := by
  have hl := h.lt
  obtain ⟨ob, h, hp⟩ := h
  exact ⟨ob, (ht.block b hl hb).trans h, hc ▸ hp⟩
def GAll (B : Nat) (w : World) : List (Nat × Cont) → Prop
  | [] => True
  | x :: l => (x.1 < B ∧ ContOK x.2.first w x.1) ∧ GAll B w l
theorem GAll.at {B : Nat} {w : World} : ∀ {l : List (Nat × Cont)}, GAll B w l → ∀ x ∈ l, x.1 < B ∧ ContOK x.2.first w x.1
  | [], _, _, h => by cases h
  | y :: l, h, x, hx => by
    rcases List.mem_cons.1 hx with rfl | hx
    · exact h.1
    · exact GAll.at h.2 x hx
theorem storeB_spec {i : Nat} {o : Oper} {ss : List Nat} {k : Nat} (h : storeB ops i o ss k = true) : (∀ s ∈ ss.take k, s = i ∨ predOf o s = true) ∧ (∀ s ∈ ss.drop k, waitsFor ops s i = true) := by
  simp only [storeB, Bool.and_eq_true, decide_eq_true_eq] at h
  obtain ⟨⟨⟨h1, h2⟩, h3⟩, h4⟩ := h
  refine ⟨fun s hs => ?_, fun s hs => List.all_eq_true.1 h4 s hs⟩
  have e : ss.take k = ss.take (k - 1) ++ [i] := by
    have hl : k - 1 < ss.length := (List.getElem?_eq_some_iff.1 h2).1
    have h5 := (List.getElem?_eq_some_iff.1 h2).2
    have := List.take_succ_eq_append_getElem hl
    rw [show k - 1 + 1 = k by omega, h5] at this
    exact this
  rw [e] at hs
  rcases List.mem_append.1 hs with hs | hs
  · exact .inr (List.all_eq_true.1 h3 s hs)
  · exact .inl (by simpa using hs)
theorem getD_self {listed : Array Bool} {i : Nat} (h : i < listed.size) : (listed.setIfInBounds i true).getD i false = true := by simp [h]
theorem predOf_spec {o : Oper} {j : Nat} (h : predOf o j = true) : ∃ e ∈ o.after, Region.binds .any e = true ∧ e.on = j := by
  obtain ⟨e, he, hb⟩ := Array.any_eq_true'.1 h
  simp only [Bool.and_eq_true, beq_iff_eq] at hb
  exact ⟨e, he, hb.1, hb.2⟩
/-- One operation hands the knowledge on. -/
theorem Mid3.next {a0 : Act} {S : World → Prop} {B : Nat} {G : List (Nat × Cont)} {kn : List Kw} {tg : List Tg} {ds : List (Option Nat)} {wt : List (List Wt)} {own : Nat → Nat} {listed : Array Bool} {a : Act} {w : World} {i : Nat} {o : Oper} {v : Value} {w' : World}
    (hnd : (dsts ops).Nodup) (hsz : ∀ d ∈ dsts ops, d < a0.tmps.size) (hop : opB ops (sts G) kn tg ds wt i o = true) (hGB : ∀ x ∈ G, x.1 < B) (hGd : Apart G)
    (hnewd : ∀ (j : Nat) (oj : Oper), ops[j]? = some oj → (kwAt kn j).isNew = true → oj.dst.isSome = true)
    (hSR : ∀ w w', S w → Touch (fun k => B ≤ k ∨ k ∈ G.map (·.1)) w w' → S w')
    (mid : Mid3 ops a0 S B G kn own listed a w) (ho : ops[i]? = some o) (hun : listed.getD i true = false) (hall : ∀ e ∈ o.after, Region.binds .any e = true → listed.getD e.on false = true)
    (post : Post3 G kn tg own w i v w') : ∃ own', Mid3 ops a0 S B G kn own' (listed.setIfInBounds i true) (a.put o.dst v) w' := by
  have hils : i < listed.size := by
    rcases Nat.lt_or_ge i listed.size with h | h
    · exact h
    · simp [Array.getElem?_eq_none h] at hun
  have hilt : i < ops.size := by rw [← mid.lsize]; exact hils
  have hunf : listed.getD i false = false := by simp [hils] at hun ⊢; exact hun
  have hself := getD_self hils
  simp only [opB, Bool.and_eq_true] at hop
  obtain ⟨⟨⟨⟨⟨⟨hord, hgd⟩, hwt⟩, hnew⟩, hst1⟩, hst2⟩, htg⟩ := hop
  have hpl : ∀ j, predOf o j = true → listed.getD j false = true := fun j hj => by
    obtain ⟨e, he, hb, rfl⟩ := predOf_spec hj
    exact hall e he hb
  have hwl : ∀ s, waitsFor ops s i = true → listed.getD s false = false := fun s hs => by
    unfold waitsFor at hs
    cases hq : ops[s]? with
    | none => rw [hq] at hs; cases hs
    | some os =>
      rw [hq] at hs
      obtain ⟨e, he, hb, hon⟩ := predOf_spec hs
      cases hl : listed.getD s false with
      | false => rfl
      | true =>
        have := mid.closed s os hq hl e he hb
        rw [hon, hunf] at this
        cases this
  have hother : ∀ s, s ≠ i → (listed.setIfInBounds i true).getD s false = listed.getD s false := fun s hs => getD_set_ne false (Ne.symm hs)
  have hstage : ∀ (c : Cont) (k : Nat), storeB ops i o (c.stores.map (·.1)) k = true → c.at (fun s => (listed.setIfInBounds i true).getD s false) = c.stage k := fun c k hs => by
    obtain ⟨h1, h2⟩ := storeB_spec hs
    refine Cont.at_stage k (fun s hs' => ?_) (fun s hs' => ?_)
    · rcases h1 s hs' with rfl | h
      · exact hself
      · by_cases hsi : s = i
        · subst hsi; exact hself
        · rw [hother s hsi]; exact hpl s h
    · have := hwl s (h2 s hs')
      have hsi : s ≠ i := fun e => by
        subst e
        have h3 := h2 s hs'
        simp only [waitsFor, ho] at h3
        obtain ⟨e, he, hb, hon⟩ := predOf_spec h3
        have h4 := Array.all_eq_true'.1 hord e he
        simp only [hb, Bool.not_true, Bool.false_or, decide_eq_true_eq] at h4
        omega
      rw [hother s hsi]; exact this
  have hfree : ∀ (c : Cont), i ∉ c.stores.map (·.1) → c.at (fun s => (listed.setIfInBounds i true).getD s false) = c.at (fun s => listed.getD s false) := fun c hc =>
    Cont.at_congr (fun s hs => hother s (fun e => hc (e ▸ hs)))
  have hclosed : ∀ (j : Nat) (oj : Oper), ops[j]? = some oj → (listed.setIfInBounds i true).getD j false = true → ∀ e ∈ oj.after, Region.binds .any e = true → (listed.setIfInBounds i true).getD e.on false = true := by
    intro j oj hj hl e he hb
    have h1 : listed.getD e.on false = true := by
      rcases getD_set_false hl with rfl | hl
      · obtain rfl : oj = o := Option.some.inj (hj.symm.trans ho)
        exact hall e he hb
      · exact mid.closed j oj hj hl e he hb
    by_cases hie : e.on = i
    · rw [hie]; exact hself
    · rw [hother _ hie]; exact h1
  have hframe : ∀ t : Nat, (∀ (j : Nat) (oj : Oper), ops[j]? = some oj → (listed.setIfInBounds i true).getD j false = true → oj.dst ≠ some t) → (a.put o.dst v).tmps[t]? = a0.tmps[t]? := by
    intro t ht
    have h1 : (a.put o.dst v).tmps[t]? = a.tmps[t]? := by
      cases hd : o.dst with
      | none => rfl
      | some d =>
        have hne : d ≠ t := fun h => ht i o ho hself (by rw [hd, h])
        simp [Act.put, hne]
    rw [h1]
    exact mid.frame t (fun j oj hj hl => ht j oj hj (by
      by_cases hij : j = i
      · subst hij; exact hself
      · rw [hother _ hij]; exact hl))
  have hsize : (a.put o.dst v).tmps.size = a0.tmps.size := by
    cases hd : o.dst with
    | none => exact mid.size
    | some d => simpa [Act.put] using mid.size
  have hdef : (a.put o.dst v).defers = a0.defers := by
    cases hd : o.dst with
    | none => exact mid.defers
    | some d => exact mid.defers
  -- a slot of another operation
  have hslot : ∀ (j : Nat) (oj : Oper) (d : Nat), ops[j]? = some oj → oj.dst = some d → j ≠ i → (a.put o.dst v).tmps.getD d undef = a.tmps.getD d undef := by
    intro j oj d hj hd hji
    cases hdi : o.dst with
    | none => rfl
    | some di =>
      have hne : di ≠ d := fun h => by
        subst h
        exact hji (nodup_dst hnd hj ho hd hdi)
      simp [Act.put, hne]
  have hmine : ∀ d, o.dst = some d → (a.put o.dst v).tmps.getD d undef = v := by
    intro d hd
    have hm : d ∈ dsts ops := List.mem_filterMap.2 ⟨o, by simpa using Array.mem_of_getElem? ho, hd⟩
    have : d < a.tmps.size := by rw [mid.size]; exact hsz d hm
    rw [hd]; simp [Act.put, this]
  have hjlt : ∀ j, listed.getD j false = true → j < ops.size := fun j hj => by
    rw [← mid.lsize]
    rcases Nat.lt_or_ge j listed.size with h | h
    · exact h
    · simp [Array.getElem?_eq_none h] at hj
  have hst1' : ∀ j, j < ops.size → (∀ k, tg.getD i .none ≠ .own j k) → i ∉ (kwAt kn j).sts := fun j hj hn hmem => by
    have h1 := List.all_eq_true.1 hst1 j (List.mem_range.2 hj)
    simp only [List.contains_iff_mem.2 hmem, Bool.not_true, Bool.false_or] at h1
    split at h1
    · rename_i j' k' heq
      simp only [beq_iff_eq] at h1
      subst h1
      exact hn _ heq
    · cases h1
  have hst2' : ∀ (x : Nat) (hx : x < G.length), (∀ k, tg.getD i .none ≠ .base x k) → i ∉ G[x].2.stores.map (·.1) := fun x hx hn hmem => by
    have h1 := List.all_eq_true.1 hst2 x (List.mem_range.2 (by simpa [sts] using hx))
    have h2 : (sts G).getD x [] = G[x].2.stores.map (·.1) := by simp [sts, hx]
    rw [h2] at h1
    simp only [List.contains_iff_mem.2 hmem, Bool.not_true, Bool.false_or] at h1
    split at h1
    · rename_i j' k' heq
      simp only [beq_iff_eq] at h1
      subst h1
      exact hn _ heq
    · cases h1
  unfold Post3 at post
  cases htgi : tg.getD i .none with
  | none =>
    rw [htgi] at post htg
    simp only at post
    obtain ⟨ht, hv⟩ := post
    have hS' := hSR w w' mid.world (ht.mono (fun _ _ h => h.elim))
    have hblocks : ∀ x ∈ G, ContOK (x.2.at (fun s => (listed.setIfInBounds i true).getD s false)) w' x.1 := fun x hx => by
      obtain ⟨n, hn, rfl⟩ := List.getElem_of_mem hx
      exact (mid.blocks _ hx).keep ht (fun h => h) (hfree _ (hst2' n hn (fun _ h => by rw [htgi] at h; cases h)))
    cases hk : kwAt kn i with
    | val p =>
      rw [hk] at hv
      simp only at hv
      refine ⟨own, ⟨by simp [mid.lsize], hclosed, hsize, hdef, hS', Nat.le_trans mid.big ht.size, hframe, ?_, hblocks, ?_⟩⟩
      · intro j oj d hj hd hl
        by_cases hji : j = i
        · subst hji
          obtain rfl : oj = o := Option.some.inj (hj.symm.trans ho)
          rw [hk, hmine d hd]; exact hv
        · rw [hslot j oj d hj hd hji]
          rw [hother j hji] at hl
          have h1 := mid.known j oj d hj hd hl
          cases hkj : kwAt kn j with
          | val p => rw [hkj] at h1; exact h1
          | new rel c =>
            rw [hkj] at h1
            have h2 := hst1' j (hjlt j hl) (fun _ h => by rw [htgi] at h; cases h)
            rw [hkj] at h2
            exact ⟨h1.1, h1.2.1, h1.2.2.keep ht (fun h => h) (hfree c h2)⟩
      · intro j j' hl hl' hn hn' he
        have hni : ∀ j, (kwAt kn j).isNew = true → j ≠ i := fun j h e => by subst e; rw [hk] at h; cases h
        rw [hother j (hni j hn)] at hl
        rw [hother j' (hni j' hn')] at hl'
        exact mid.inj j j' hl hl' hn hn' he
    | new rel c =>
      rw [hk] at hv
      simp only at hv
      obtain ⟨b, hb, hrel, hc⟩ := hv
      refine ⟨fun j => if j = i then b else own j, ⟨by simp [mid.lsize], hclosed, hsize, hdef, hS', Nat.le_trans mid.big ht.size, hframe, ?_, hblocks, ?_⟩⟩
      · intro j oj d hj hd hl
        by_cases hji : j = i
        · subst hji
          obtain rfl : oj = o := Option.some.inj (hj.symm.trans ho)
          have hno : j ∉ c.stores.map (·.1) := by
            have h2 := hst1' j hilt (fun _ h => by rw [htgi] at h; cases h)
            rw [hk] at h2
            exact h2
          have hstg : c.at (fun s => (listed.setIfInBounds j true).getD s false) = c.first := by
            rw [hfree c hno]
            have hz : ∀ s ∈ c.stores.map (·.1), listed.getD s false = false := fun s hs => by
              rw [hk] at hnew
              simp only [Kw.isNew, Bool.not_true, Bool.false_or, Bool.and_eq_true] at hnew
              exact hwl s (List.all_eq_true.1 hnew.2 s hs)
            exact Cont.at_stage 0 (fun s hs => by simp at hs) (fun s hs => hz s (by simpa using hs))
          rw [hk, hmine d hd]
          simp only [if_true]
          exact ⟨hrel, Nat.le_trans mid.big hb, by rw [hstg]; exact hc⟩
        · rw [hslot j oj d hj hd hji]
          rw [hother j hji] at hl
          have h1 := mid.known j oj d hj hd hl
          cases hkj : kwAt kn j with
          | val p => rw [hkj] at h1; exact h1
          | new rel c =>
            rw [hkj] at h1
            have h2 := hst1' j (hjlt j hl) (fun _ h => by rw [htgi] at h; cases h)
            rw [hkj] at h2
            simp only [hji, if_false]
            exact ⟨h1.1, h1.2.1, h1.2.2.keep ht (fun h => h) (hfree c h2)⟩
      · have hlow : ∀ j, j ≠ i → (listed.setIfInBounds i true).getD j false = true → (kwAt kn j).isNew = true → own j < w.heap.size := fun j hji hl hn => by
          rw [hother j hji] at hl
          have hlt := hjlt j hl
          have hoj : ops[j]? = some ops[j] := Array.getElem?_eq_getElem hlt
          obtain ⟨d, hd⟩ := Option.isSome_iff_exists.1 (hnewd j _ hoj hn)
          have h1 := mid.known j _ d hoj hd hl
          cases hkj : kwAt kn j with
          | val p => rw [hkj] at hn; cases hn
          | new rel c => rw [hkj] at h1; exact h1.2.2.lt
        intro j j' hl hl' hn hn' he
        by_cases h1 : j = i
        · by_cases h2 : j' = i
          · rw [h1, h2]
          · have := hlow j' h2 hl' hn'
            simp only [h1, if_true, h2, if_false] at he
            omega
        · by_cases h2 : j' = i
          · have := hlow j h1 hl hn
            simp only [h1, if_false, h2, if_true] at he
            omega
          · simp only [h1, h2, if_false] at he
            rw [hother j h1] at hl
            rw [hother j' h2] at hl'
            exact mid.inj j j' hl hl' hn hn' he
  | own j0 k =>
    rw [htgi] at post htg
    simp only [Bool.and_eq_true, decide_eq_true_eq] at post htg
    obtain ⟨ht, hc, hv⟩ := post
    obtain ⟨⟨⟨⟨⟨hni, hnj⟩, hpj⟩, hj0⟩, hdj⟩, hsb⟩ := htg
    have hl0 := hpl j0 hpj
    have hk : ∃ p, kwAt kn i = .val p := by
      cases hk : kwAt kn i with
      | val p => exact ⟨p, rfl⟩
      | new _ _ => rw [hk] at hni; cases hni
    obtain ⟨p, hk⟩ := hk
    rw [hk] at hv
    simp only at hv
    have hoj0 : ops[j0]? = some ops[j0] := Array.getElem?_eq_getElem hj0
    obtain ⟨d0, hd0⟩ := Option.isSome_iff_exists.1 (hnewd j0 _ hoj0 hnj)
    have hkn0 := mid.known j0 _ d0 hoj0 hd0 hl0
    cases hkj0 : kwAt kn j0 with
    | val _ => rw [hkj0] at hnj; cases hnj
    | new rel0 c0 =>
    rw [hkj0] at hc hkn0 hsb
    simp only at hc hkn0
    have hB0 := hkn0.2.1
    have hS' := hSR w w' mid.world (ht.mono (fun b _ h => .inl (by rw [h]; exact hB0)))
    refine ⟨own, ⟨by simp [mid.lsize], hclosed, hsize, hdef, hS', Nat.le_trans mid.big ht.size, hframe, ?_, ?_, ?_⟩⟩
    · intro j oj d hj hd hl
      by_cases hji : j = i
      · subst hji
        obtain rfl : oj = o := Option.some.inj (hj.symm.trans ho)
        rw [hk, hmine d hd]; exact hv
      · rw [hslot j oj d hj hd hji]
        rw [hother j hji] at hl
        have h1 := mid.known j oj d hj hd hl
        cases hkj : kwAt kn j with
        | val p => rw [hkj] at h1; exact h1
        | new rel c =>
          rw [hkj] at h1
          by_cases hjj : j = j0
          · subst hjj
            rw [hkj0] at hkj
            cases hkj
            exact ⟨h1.1, h1.2.1, by rw [hstage c0 k hsb]; exact hc⟩
          · have h2 := hst1' j (hjlt j hl) (fun _ h => by rw [htgi] at h; cases h; exact hjj rfl)
            rw [hkj] at h2
            exact ⟨h1.1, h1.2.1, h1.2.2.keep ht (fun h => hjj (mid.inj j j0 hl hl0 (by rw [hkj]; rfl) hnj h)) (hfree c h2)⟩
    · intro x hx
      obtain ⟨n, hn, rfl⟩ := List.getElem_of_mem hx
      exact (mid.blocks _ hx).keep ht (fun h => by have := hGB _ hx; omega) (hfree _ (hst2' n hn (fun _ h => by rw [htgi] at h; cases h)))
    · intro j j' hl hl' hn hn' he
      have hni : ∀ j, (kwAt kn j).isNew = true → j ≠ i := fun j h e => by subst e; rw [hk] at h; cases h
      rw [hother j (hni j hn)] at hl
      rw [hother j' (hni j' hn')] at hl'
      exact mid.inj j j' hl hl' hn hn' he
  | base x0 k =>
    rw [htgi] at post htg
    simp only [Bool.and_eq_true, decide_eq_true_eq] at post htg
    obtain ⟨hc, hv⟩ := post
    obtain ⟨⟨hni, hx0⟩, hsb⟩ := htg
    have hx0 : x0 < G.length := by simpa [sts] using hx0
    rw [List.getElem?_eq_getElem hx0] at hc
    simp only at hc
    obtain ⟨ht, hc⟩ := hc
    have hsb : storeB ops i o (G[x0].2.stores.map (·.1)) k = true := by
      have h2 : (sts G).getD x0 [] = G[x0].2.stores.map (·.1) := by simp [sts, hx0]
      rw [h2] at hsb; exact hsb
    have hk : ∃ p, kwAt kn i = .val p := by
      cases hk : kwAt kn i with
      | val p => exact ⟨p, rfl⟩
      | new _ _ => rw [hk] at hni; cases hni
    obtain ⟨p, hk⟩ := hk
    rw [hk] at hv
    simp only at hv
    have hxm : G[x0] ∈ G := List.getElem_mem hx0
    have hS' := hSR w w' mid.world (ht.mono (fun b _ h => .inr (by rw [h]; exact List.mem_map_of_mem hxm)))
    refine ⟨own, ⟨by simp [mid.lsize], hclosed, hsize, hdef, hS', Nat.le_trans mid.big ht.size, hframe, ?_, ?_, ?_⟩⟩
    · intro j oj d hj hd hl
      by_cases hji : j = i
      · subst hji
        obtain rfl : oj = o := Option.some.inj (hj.symm.trans ho)
        rw [hk, hmine d hd]; exact hv
      · rw [hslot j oj d hj hd hji]
        rw [hother j hji] at hl
        have h1 := mid.known j oj d hj hd hl
        cases hkj : kwAt kn j with
        | val p => rw [hkj] at h1; exact h1
        | new rel c =>
          rw [hkj] at h1
          have h2 := hst1' j (hjlt j hl) (fun _ h => by rw [htgi] at h; cases h)
          rw [hkj] at h2
          exact ⟨h1.1, h1.2.1, h1.2.2.keep ht (fun h => by have := hGB _ hxm; have := h1.2.1; omega) (hfree c h2)⟩
    · intro x hx
      obtain ⟨n, hn, rfl⟩ := List.getElem_of_mem hx
      by_cases hnx : n = x0
      · subst hnx
        rw [hstage _ k hsb]; exact hc
      · refine (mid.blocks _ hx).keep ht (fun h => hnx ?_) (hfree _ (hst2' n hn (fun _ h => by rw [htgi] at h; cases h; exact hnx rfl)))
        have hst0 : G[x0].2.still = false := by
          cases hq : G[x0].2.stores with
          | nil =>
            simp only [storeB, hq, List.map_nil, Bool.and_eq_true, decide_eq_true_eq] at hsb
            simp at hsb
          | cons _ _ => simp [Cont.still, hq]
        exact (hGd.at x0 n _ _ (List.getElem?_eq_getElem hx0) (List.getElem?_eq_getElem hn) hst0 h.symm).symm
    · intro j j' hl hl' hn hn' he
      have hni : ∀ j, (kwAt kn j).isNew = true → j ≠ i := fun j h e => by subst e; rw [hk] at h; cases h
      rw [hother j (hni j hn)] at hl
      rw [hother j' (hni j' hn')] at hl'
      exact mid.inj j j' hl hl' hn hn' he
/-- THE LAW. -/
theorem wp_region3 {id : Nat} {a0 : Act} {w0 : World} (S : World → Prop) (B : Nat) (G : List (Nat × Cont)) (kn : List Kw) (tg : List Tg) (ds : List (Option Nat)) (base : List (Nat × Value)) (wt : List (List Wt)) (fw : List Wt) (dl : List Nat)
    (hm : P.follows .mixedOrders = true) (hB : tab3 ops a0.tmps.size (sts G) kn tg ds (base.map (·.1)) wt fw dl = true)
    (hb0 : Holds a0 base) (hS0 : S w0.drew) (hBig : B ≤ w0.heap.size) (hG0 : GAll B w0.drew G) (hGd : Apart G)
    (hSR : ∀ w w', S w → Touch (fun k => B ≤ k ∨ k ∈ G.map (·.1)) w w' → S w')
    (steps : AllSteps3 P S B G kn tg ds base wt 0 ops.toList)
    (fin : ∀ (vs own : Nat → _) (w : World), S w → B ≤ w.heap.size → Knows3 B G kn ds own vs w fw → (∀ i j, i < ops.size → j < ops.size → (kwAt kn i).isNew = true → (kwAt kn j).isNew = true → own i = own j → i = j) → Q .normal (putAll a0 vs dl) w) :
    (Code.region id ops true).wp P Q a0 w0 := by
  simp only [tab3, Bool.and_eq_true, beq_iff_eq, decide_eq_true_eq] at hB
  obtain ⟨⟨⟨⟨⟨⟨hdl, hds⟩, hnd⟩, hsz⟩, hbase⟩, hfw⟩, hops⟩ := hB
  have hsz' : ∀ d ∈ dsts ops, d < a0.tmps.size := fun d hd => by simpa using List.all_eq_true.1 hsz d hd
  have hop : ∀ (i : Nat) (o : Oper), ops[i]? = some o → opB ops (sts G) kn tg ds wt i o = true := fun i o ho => by
    have h1 := List.all_eq_true.1 hops i (List.mem_range.2 (Array.getElem?_eq_some_iff.1 ho).1)
    simpa only [ho] using h1
  have hdst : ∀ (j : Nat) (oj : Oper), ops[j]? = some oj → ds.getD j none = oj.dst := fun j oj hj => by
    have h1 : (ops.toList.map (·.dst))[j]? = some oj.dst := by rw [List.getElem?_map]; simp [hj]
    rw [hds] at h1
    rw [List.getD_eq_getElem?_getD, h1]
    rfl
  have hdsts : dsts ops = dl := by
    unfold dsts
    rw [← hdl, ← hds, List.filterMap_map]
    rfl
  have hnewd : ∀ (j : Nat) (oj : Oper), ops[j]? = some oj → (kwAt kn j).isNew = true → oj.dst.isSome = true := fun j oj hj hn => by
    have h1 := hop j oj hj
    simp only [opB, Bool.and_eq_true] at h1
    have h2 := h1.1.1.1.2
    rw [hn, hdst j oj hj] at h2
    simp only [Bool.not_true, Bool.false_or, Bool.and_eq_true] at h2
    exact h2.1
  have hGB : ∀ x ∈ G, x.1 < B := fun x hx => (hG0.at x hx).1
  refine wp_region_any hm (wpAny_inv (fun listed a w => ∃ own, Mid3 ops a0 S B G kn own listed a w) ?_ ?_ ops.size _ a0 _ ?_ ?_)
  · intro listed a w i inv hi
    obtain ⟨own, mid⟩ := inv
    obtain ⟨hun, o, ho, hall⟩ := mem_ready.1 hi
    have hils : i < listed.size := by
      rcases Nat.lt_or_ge i listed.size with h | h
      · exact h
      · simp [Array.getElem?_eq_none h] at hun
    have hunf : listed.getD i false = false := by simp [hils] at hun ⊢; exact hun
    have hopi := hop i o ho
    have hopi2 := hopi
    simp only [opB, Bool.and_eq_true] at hopi2
    obtain ⟨⟨⟨⟨⟨⟨hord, hgd⟩, hwt⟩, hnew⟩, hst1⟩, hst2⟩, htg⟩ := hopi2
    have hpl : ∀ j, predOf o j = true → listed.getD j false = true := fun j hj => by
      obtain ⟨e, he, hb, rfl⟩ := predOf_spec hj
      exact hall e he hb
    have hwl : ∀ s, waitsFor ops s i = true → listed.getD s false = false := fun s hs => by
      unfold waitsFor at hs
      cases hq : ops[s]? with
      | none => rw [hq] at hs; cases hs
      | some os =>
        rw [hq] at hs
        obtain ⟨e, he, hb, hon⟩ := predOf_spec hs
        cases hl : listed.getD s false with
        | false => rfl
        | true =>
          have := mid.closed s os hq hl e he hb
          rw [hon, hunf] at this
          cases this
    have hstage : ∀ (c : Cont) (k : Nat), stageB ops i o (c.stores.map (·.1)) k = true → c.at (fun s => listed.getD s false) = c.stage k := fun c k hs => by
      simp only [stageB, Bool.and_eq_true] at hs
      refine Cont.at_stage k (fun s h => hpl s (List.all_eq_true.1 hs.1 s h)) (fun s h => ?_)
      have h1 := List.all_eq_true.1 hs.2 s h
      simp only [Bool.or_eq_true, beq_iff_eq] at h1
      rcases h1 with rfl | h1
      · exact hunf
      · exact hwl s h1
    have hslot : ∀ (j : Nat) (oj : Oper) (d : Nat), ops[j]? = some oj → oj.dst = some d → slAt ds j = d := fun j oj d hj hd => by
      unfold slAt
      rw [hdst j oj hj, hd]
      rfl
    have hkn : Knows3 B G kn ds own (fun d => a.eval (.tmp d)) w (wt.getD i []) := knows3_of _ (fun x hx => by
      have h1 := List.all_eq_true.1 hwt x hx
      cases x with
      | slot j =>
        simp only [wtB, Bool.and_eq_true, decide_eq_true_eq] at h1
        have hoj : ops[j]? = some ops[j] := Array.getElem?_eq_getElem h1.1.2
        rw [hdst j _ hoj] at h1
        obtain ⟨d, hd⟩ := Option.isSome_iff_exists.1 h1.2
        have h2 := mid.known j _ d hoj hd (hpl j h1.1.1)
        simp only [WtAt, hslot j _ d hoj hd]
        cases hk : kwAt kn j with
        | val p => rw [hk] at h2; simpa [Act.eval] using h2
        | new rel c => rw [hk] at h2; exact ⟨by simpa [Act.eval] using h2.1, h2.2.1, h2.2.2.lt⟩
      | cont j k =>
        simp only [wtB, Bool.and_eq_true, decide_eq_true_eq] at h1
        have hoj : ops[j]? = some ops[j] := Array.getElem?_eq_getElem h1.1.1.2
        rw [hdst j _ hoj] at h1
        obtain ⟨d, hd⟩ := Option.isSome_iff_exists.1 h1.1.2
        have h2 := mid.known j _ d hoj hd (hpl j h1.1.1.1)
        simp only [WtAt]
        cases hk : kwAt kn j with
        | val p => trivial
        | new rel c =>
          rw [hk] at h2
          have h3 := h1.2
          rw [hk] at h3
          show ContOK (c.stage k) w (own j)
          rw [← hstage c k h3]; exact h2.2.2
      | base x k =>
        simp only [wtB] at h1
        simp only [WtAt]
        cases hg : G[x]? with
        | none => trivial
        | some g =>
          have hxl : x < G.length := (List.getElem?_eq_some_iff.1 hg).1
          have h2 : (sts G).getD x [] = g.2.stores.map (·.1) := by simp [sts, hg]
          rw [h2] at h1
          show ContOK (g.2.stage k) w g.1
          rw [← hstage g.2 k h1]
          exact mid.blocks g (List.mem_of_getElem? hg))
    have hhold : Holds a base := holds_of base (fun t htm => eval_tmp_of (mid.frame t (fun j oj hj _ hd => by
      have h1 := List.all_eq_true.1 hbase t htm
      have h2 : t ∈ dsts ops := List.mem_filterMap.2 ⟨oj, by simpa using Array.mem_of_getElem? hj, hd⟩
      simp [h2] at h1))) hb0
    have st := AllSteps3.at ops.toList wt 0 steps i o (by simpa using ho)
    rw [Nat.zero_add] at st
    have hnext : ∀ v w', Post3 G kn tg own w i v w' → ∃ own', Mid3 ops a0 S B G kn own' (listed.setIfInBounds i true) (a.put o.dst v) w' := fun v w' hp =>
      Mid3.next hnd hsz' hopi hGB hGd hnewd hSR mid ho hun hall hp
    have hyield : ∀ (g : Nat) (b : Bool), (decide (g < ops.size) && (ds.getD g none).isSome) = true → ∃ d, slAt ds g = d ∧ yielded ops a.tmps g = (match a.tmps[d]? with | some (.bool b) => some b | _ => none) := fun g b hg => by
      simp only [Bool.and_eq_true, decide_eq_true_eq] at hg
      have hog : ops[g]? = some ops[g] := Array.getElem?_eq_getElem hg.1
      rw [hdst g _ hog] at hg
      obtain ⟨d, hd⟩ := Option.isSome_iff_exists.1 hg.2
      refine ⟨d, hslot g _ d hog hd, ?_⟩
      unfold yielded
      rw [hog]
      simp only [Option.bind_some, hd]
      cases a.tmps[d]? <;> rfl
    unfold wpOp
    simp only [ho]
    rcases st Q a w own mid.world mid.big hhold hkn with ⟨hg, hk⟩ | ⟨hg, hp⟩
    · have hw : Region.wanted o (yielded ops a.tmps) = true := by
        unfold Region.wanted
        cases hgo : o.guard with
        | none => rfl
        | some x =>
          obtain ⟨g, b⟩ := x
          rw [hgo] at hg hgd
          obtain ⟨d, hd, hy⟩ := hyield g b hgd
          simp only [hd, Act.eval] at hg
          have h4 : a.tmps[d]? = some (.bool b) := by
            rw [Array.getD_eq_getD_getElem?] at hg
            cases hq : a.tmps[d]? with
            | none => rw [hq] at hg; simp [undef] at hg
            | some v => rw [hq] at hg; simpa using hg
          simp [hy, h4]
      rw [if_pos hw]
      exact .inl (hk _ (fun v w' h => hnext v w' h))
    · have hw : Region.wanted o (yielded ops a.tmps) = false := by
        unfold Region.wanted
        cases hgo : o.guard with
        | none => rw [hgo] at hg; exact hg.elim
        | some x =>
          obtain ⟨g, b⟩ := x
          rw [hgo] at hg hgd
          obtain ⟨d, hd, hy⟩ := hyield g b hgd
          simp only [hd, Act.eval, Array.getD_eq_getD_getElem?] at hg
          show (yielded ops a.tmps g == some b) = false
          rw [hy]
          cases hq : a.tmps[d]? with
          | none => simp
          | some v =>
            rw [hq] at hg
            simp only [Option.getD_some] at hg
            rcases hg with rfl | rfl
            · cases b <;> simp
            · simp [undef]
      rw [if_neg (by rw [hw]; decide)]
      exact hnext _ _ hp
  · intro listed a w inv hr
    obtain ⟨own, mid⟩ := inv
    have hall : ∀ n i, i < n → i < ops.size → listed.getD i false = true := by
      intro n
      induction n with
      | zero => intro i h; cases h
      | succ n ih =>
        intro i hin hil
        by_cases hlt : i < n
        · exact ih i hlt hil
        · have hin' : i = n := by omega
          subst hin'
          cases hg : listed.getD i false with
          | true => rfl
          | false =>
            have ho : ops[i]? = some ops[i] := Array.getElem?_eq_getElem hil
            have h1 := hop i _ ho
            simp only [opB, Bool.and_eq_true] at h1
            have h1 := h1.1.1.1.1.1.1
            have hin2 : i ∈ Region.ready .any ops listed := mem_ready.2 ⟨by
              have : i < listed.size := by rw [mid.lsize]; exact hil
              simp [this] at hg ⊢; exact hg, _, ho, fun e he hb => by
              have h2 := Array.all_eq_true'.1 h1 e he
              simp only [hb, Bool.not_true, Bool.false_or, decide_eq_true_eq] at h2
              exact ih e.on h2 (by omega)⟩
            rw [hr] at hin2
            cases hin2
    have hal : ∀ i, i < ops.size → listed.getD i false = true := fun i hi => hall (i + 1) i (by omega) hi
    have hlt : ∀ i, listed.getD i false = true → i < ops.size := fun i hi => by
      rw [← mid.lsize]
      rcases Nat.lt_or_ge i listed.size with h | h
      · exact h
      · simp [Array.getElem?_eq_none h] at hi
    have hst : ∀ (c : Cont) (k : Nat), (∀ s ∈ c.stores.map (·.1), s < ops.size) → (c.stores.map (·.1)).length ≤ k → c.at (fun s => listed.getD s false) = c.stage k := fun c k hs hk =>
      Cont.at_stage k (fun s h => hal s (hs s (List.mem_of_mem_take h))) (fun s h => by rw [List.drop_eq_nil_of_le hk] at h; cases h)
    have hq := fin (fun d => a.tmps.getD d undef) own w mid.world mid.big (knows3_of _ (fun x hx => by
      have h1 := List.all_eq_true.1 hfw x hx
      cases x with
      | slot j =>
        simp only [finB, Bool.and_eq_true, decide_eq_true_eq] at h1
        have hoj : ops[j]? = some ops[j] := Array.getElem?_eq_getElem h1.1
        rw [hdst j _ hoj] at h1
        obtain ⟨d, hd⟩ := Option.isSome_iff_exists.1 h1.2
        have h2 := mid.known j _ d hoj hd (hal j h1.1)
        have hsl : slAt ds j = d := by unfold slAt; rw [hdst j _ hoj, hd]; rfl
        simp only [WtAt, hsl]
        cases hk : kwAt kn j with
        | val p => rw [hk] at h2; exact h2
        | new rel c => rw [hk] at h2; exact ⟨h2.1, h2.2.1, h2.2.2.lt⟩
      | cont j k =>
        simp only [finB, Bool.and_eq_true, decide_eq_true_eq] at h1
        have hoj : ops[j]? = some ops[j] := Array.getElem?_eq_getElem h1.1.1
        rw [hdst j _ hoj] at h1
        obtain ⟨d, hd⟩ := Option.isSome_iff_exists.1 h1.1.2
        have h2 := mid.known j _ d hoj hd (hal j h1.1.1)
        simp only [WtAt]
        cases hk : kwAt kn j with
        | val p => trivial
        | new rel c =>
          rw [hk] at h2
          have h3 := h1.2.1
          rw [hk] at h3
          have h4 := List.all_eq_true.1 h1.2.2
          rw [hk] at h4
          show ContOK (c.stage k) w (own j)
          rw [← hst c k (fun s hs => by simpa using h4 s hs) h3]; exact h2.2.2
      | base x k =>
        simp only [finB, Bool.and_eq_true, decide_eq_true_eq] at h1
        simp only [WtAt]
        cases hg : G[x]? with
        | none => trivial
        | some g =>
          have h2 : (sts G).getD x [] = g.2.stores.map (·.1) := by simp [sts, hg]
          rw [h2] at h1
          show ContOK (g.2.stage k) w g.1
          rw [← hst g.2 k (fun s hs => by simpa using List.all_eq_true.1 h1.2 s hs) h1.1]
          exact mid.blocks g (List.mem_of_getElem? hg)))
      (fun i j hi hj hn hn' he => mid.inj i j (hal i hi) (hal j hj) hn hn' he)
    have ha : putAll a0 (fun d => a.tmps.getD d undef) (dsts ops) = a := by
      have h1 := putAll_defers (fun d => a.tmps.getD d undef) (dsts ops) a0
      have h2 : (putAll a0 (fun d => a.tmps.getD d undef) (dsts ops)).tmps = a.tmps := by
        apply Array.ext_getElem?
        intro t
        by_cases ht : t < a0.tmps.size
        · rw [putAll_get _ _ _ _ ht]
          by_cases hm2 : t ∈ dsts ops
          · rw [if_pos hm2]
            have : t < a.tmps.size := by rw [mid.size]; exact ht
            simp [this]
          · rw [if_neg hm2]
            exact (mid.frame t (fun i o hi _ hd => hm2 (List.mem_filterMap.2 ⟨o, by simpa using Array.mem_of_getElem? hi, hd⟩))).symm
        · rw [Array.getElem?_eq_none (by rw [putAll_size]; omega), Array.getElem?_eq_none (by rw [mid.size]; omega)]
      rw [← mid.defers] at h1
      generalize putAll a0 (fun d => a.tmps.getD d undef) (dsts ops) = b at h1 h2
      cases a; cases b
      simp only at h1 h2
      rw [h1, h2]
    rw [← hdsts, ha] at hq
    exact hq
  · unfold leftOf
    exact Nat.le_trans (List.length_filter_le _ _) (by simp)
  · refine ⟨fun _ => 0, ⟨by simp, fun j oj _ hl => (by rw [getD_replicate_f] at hl; cases hl), rfl, rfl, hS0, hBig, fun _ _ => rfl, fun i o d _ _ hl => (by rw [getD_replicate_f] at hl; cases hl), fun x hx => ?_, fun i j hl => (by rw [getD_replicate_f] at hl; cases hl)⟩⟩
    have e : x.2.at (fun s => (Array.replicate ops.size false).getD s false) = x.2.stage 0 := Cont.at_stage 0 (fun s h => by simp at h) (fun s _ => getD_replicate_f _ _)
    rw [e]
    exact (hG0.at x hx).2
end
end Go.Proofs.Ytfbeclleeehaaaa
