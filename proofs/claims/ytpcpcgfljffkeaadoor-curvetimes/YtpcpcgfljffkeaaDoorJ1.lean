/-
  Own text. A region that leaves its order open and in which several operations act (calls, new rows): each operation is walked once, whatever came before it: behind operation i its slot holds a value of which phi i is known, and what acts keeps all that is known. No program is named here.
-/
import Derived.Orders
import Derived.Laws.World
import Derived.Test.YtpcpcgfljffkeaaDoorProg
import Derived.WalkKit
import Derived.WalkSpells
import Derived.WalkLawsBesides
import Derived.Laws.Externs
import Derived.Laws.MathBits
import Derived.Deep.QuietTactic
import Derived.BigQuiet
import Derived.Laws.Bits64b
import Derived.Deep.RegionWith
import Derived.BigRegion
import Derived.Shelf.Spec.BitsCarry
import Derived.OrdersHeld
namespace Go.Proofs.YtpcpcgfljffkeaaDoor
open Go
section
variable {P : Program} {ops : Array Oper} {Q : Exit → Act → World → Prop}
/-- How many have not come up yet. -/
def leftOf (ops : Array Oper) (listed : Array Bool) : Nat := ((List.range ops.size).filter fun j => !listed.getD j true).length
theorem filter_le {p q : Nat → Bool} (h : ∀ j, p j = true → q j = true) : ∀ l : List Nat, (l.filter p).length ≤ (l.filter q).length
  | [] => by simp
  | x :: l => by
    have ih := filter_le h l
    cases hp : p x with
    | true => rw [List.filter_cons_of_pos hp, List.filter_cons_of_pos (h x hp)]; simpa using ih
    | false =>
      rw [List.filter_cons_of_neg (by simp [hp])]
      cases hq : q x with
      | true => rw [List.filter_cons_of_pos hq]; simp; omega
      | false => rw [List.filter_cons_of_neg (by simp [hq])]; exact ih
theorem filter_lt {p q : Nat → Bool} {i : Nat} (h : ∀ j, p j = true → q j = true) (hp : p i = false) (hq : q i = true) : ∀ l : List Nat, i ∈ l → (l.filter p).length + 1 ≤ (l.filter q).length
  | [], hl => by cases hl
  | x :: l, hl => by
    by_cases hx : i = x
    · subst hx
      rw [List.filter_cons_of_neg (by simp [hp]), List.filter_cons_of_pos hq]
      have := filter_le h l
      simp only [List.length_cons]
      omega
    · have hm : i ∈ l := by
        rcases List.mem_cons.1 hl with h | h
        · exact absurd h hx
        · exact h
      have ih := filter_lt h hp hq l hm
      cases hpx : p x with
      | true => rw [List.filter_cons_of_pos hpx, List.filter_cons_of_pos (h x hpx)]; simp only [List.length_cons]; omega
      | false =>
        rw [List.filter_cons_of_neg (by simp [hpx])]
        cases hqx : q x with
        | true => rw [List.filter_cons_of_pos hqx]; simp only [List.length_cons]; omega
        | false => rw [List.filter_cons_of_neg (by simp [hqx])]; exact ih
theorem leftOf_set {listed : Array Bool} {i : Nat} (hi : i ∈ Region.ready .any ops listed) : leftOf ops (listed.setIfInBounds i true) + 1 ≤ leftOf ops listed := by
  obtain ⟨hun, oi, hoi, _⟩ := mem_ready.1 hi
  have hlt : i < ops.size := (Array.getElem?_eq_some_iff.1 hoi).1
  have hls : i < listed.size := by
    rcases Nat.lt_or_ge i listed.size with h | h
    · exact h
    · simp [Array.getElem?_eq_none h] at hun
  have hset : (listed.setIfInBounds i true).getD i true = true := by simp [hls]
  refine filter_lt (fun j hj => ?_) (by rw [hset]; rfl) (by rw [hun]; rfl) _ (List.mem_range.2 hlt)
  by_cases hij : i = j
  · subst hij; rw [hset] at hj; cases hj
  · rw [getD_set_ne true hij] at hj; exact hj
/-- Whatever order: an invariant that every operation that may come up hands on. -/
theorem wpAny_inv (I : Array Bool → Act → World → Prop)
    (step : ∀ listed a w i, I listed a w → i ∈ Region.ready .any ops listed → wpOp P ops Q i (fun a' w' => I (listed.setIfInBounds i true) a' w') a w)
    (fin : ∀ listed a w, I listed a w → Region.ready .any ops listed = [] → Q .normal a w) :
    ∀ (fuel : Nat) (listed : Array Bool) (a : Act) (w : World), leftOf ops listed ≤ fuel → I listed a w → wpAny P .any ops Q fuel listed a w
  | 0, listed, a, w, hf, h => by
    have hr : Region.ready .any ops listed = [] := by
      cases hr : Region.ready .any ops listed with
      | nil => rfl
      | cons i l =>
        have := leftOf_set (ops := ops) (listed := listed) (i := i) (by rw [hr]; simp)
        omega
    exact ⟨hr, fin listed a w h hr⟩
  | fuel + 1, listed, a, w, hf, h =>
    ⟨fun hr => fin listed a w h hr, fun i hi => wpOp_mono (fun a' w' h' => wpAny_inv I step fin fuel _ a' w' (by have := leftOf_set hi; omega) h') (step listed a w i h hi)⟩
/-- Which numbers operation o waits for. -/
def predOf (o : Oper) (j : Nat) : Bool := o.after.any fun e => Region.binds .any e && e.on == j
/-- The slots that the region's operations write. -/
def dsts (ops : Array Oper) : List Nat := ops.toList.filterMap (·.dst)
/-- Each operation writes a slot of its own, and waits for earlier ones alone. -/
def invB (ops : Array Oper) : Bool :=
  ops.toList.all (fun o => o.dst.isSome) && decide (dsts ops).Nodup &&
  (List.range ops.size).all (fun i => match ops[i]? with
    | some o => o.after.all (fun e => !Region.binds .any e || decide (e.on < i))
    | none => true)
/-- The state with other values in the slots that the region writes. -/
def putAll (a : Act) (vs : Nat → Value) : List Nat → Act
  | [] => a
  | d :: l => putAll (a.put (some d) (vs d)) vs l
theorem putAll_defers (vs : Nat → Value) : ∀ (l : List Nat) (a : Act), (putAll a vs l).defers = a.defers
  | [], _ => rfl
  | _ :: l, a => by simp only [putAll]; rw [putAll_defers vs l]; rfl
theorem putAll_size (vs : Nat → Value) : ∀ (l : List Nat) (a : Act), (putAll a vs l).tmps.size = a.tmps.size
  | [], _ => rfl
  | _ :: l, a => by simp only [putAll]; rw [putAll_size vs l]; simp [Act.put]
theorem putAll_get (vs : Nat → Value) : ∀ (l : List Nat) (a : Act) (t : Nat), t < a.tmps.size → (putAll a vs l).tmps[t]? = if t ∈ l then some (vs t) else a.tmps[t]?
  | [], _, _, _ => by simp [putAll]
  | d :: l, a, t, ht => by
    simp only [putAll]
    rw [putAll_get vs l _ t (by simpa [Act.put] using ht)]
    by_cases h1 : t ∈ l
    · simp [h1]
    · by_cases h2 : d = t
      · subst h2; simp [h1, Act.put, ht]
      · have h3 : ¬ t = d := fun h => h2 h.symm
        simp [h1, h3, Act.put, h2]
/-- What is known midway. -/
structure Mid (ops : Array Oper) (a0 : Act) (S : World → Prop) (φ : Nat → Value → World → Prop) (listed : Array Bool) (a : Act) (w : World) : Prop where
  lsize : listed.size = ops.size
  closed : ∀ (j : Nat) (oj : Oper), ops[j]? = some oj → listed.getD j false = true → ∀ e ∈ oj.after, Region.binds .any e = true → listed.getD e.on false = true
  size : a.tmps.size = a0.tmps.size
  defers : a.defers = a0.defers
  world : S w
  frame : ∀ t : Nat, (∀ (i : Nat) (o : Oper), ops[i]? = some o → listed.getD i false = true → o.dst ≠ some t) → a.tmps[t]? = a0.tmps[t]?
  known : ∀ (i : Nat) (o : Oper) (d : Nat), ops[i]? = some o → o.dst = some d → listed.getD i false = true → φ i (a.tmps.getD d undef) w
theorem getD_replicate_f (m j : Nat) : (Array.replicate m false).getD j false = false := by
  rcases Nat.lt_or_ge j m with h | h
  · simp [h]
  · simp [h]
theorem getD_set_false {listed : Array Bool} {i j : Nat} (h : (listed.setIfInBounds i true).getD j false = true) : j = i ∨ listed.getD j false = true := by
  by_cases hij : i = j
  · exact Or.inl hij.symm
  · rw [getD_set_ne false hij] at h; exact Or.inr h
theorem nodup_dst (h : (dsts ops).Nodup) {i j : Nat} {oi oj : Oper} {d : Nat} (hi : ops[i]? = some oi) (hj : ops[j]? = some oj) (di : oi.dst = some d) (dj : oj.dst = some d) : i = j := by
  have key : ∀ (l : List Oper), (l.filterMap (·.dst)).Nodup → ∀ (i j : Nat), l[i]? = some oi → l[j]? = some oj → i = j := by
    intro l
    induction l with
    | nil => intro _ i j h; simp at h
    | cons o l ih =>
      intro hn i j h1 h2
      have mem : ∀ (k : Nat) (o' : Oper), l[k]? = some o' → o'.dst = some d → d ∈ l.filterMap (·.dst) := fun k o' hk hd => List.mem_filterMap.2 ⟨o', List.mem_of_getElem? hk, hd⟩
      cases i with
      | zero =>
        cases j with
        | zero => rfl
        | succ j =>
          simp at h1 h2
          subst h1
          rw [List.filterMap_cons, di] at hn
          exact absurd (mem j oj h2 dj) (List.nodup_cons.1 hn).1
      | succ i =>
        cases j with
        | zero =>
          simp at h1 h2
          subst h2
          rw [List.filterMap_cons, dj] at hn
          exact absurd (mem i oi h1 di) (List.nodup_cons.1 hn).1
        | succ j =>
          simp at h1 h2
          have hn' : (l.filterMap (·.dst)).Nodup := by
            rw [List.filterMap_cons] at hn
            cases ho : o.dst with
            | none => rw [ho] at hn; exact hn
            | some x => rw [ho] at hn; exact (List.nodup_cons.1 hn).2
          rw [ih hn' i j h1 h2]
  exact key ops.toList h i j (by simpa using hi) (by simpa using hj)
/-- THE LAW. -/
theorem wp_region_inv {id : Nat} {a0 : Act} {w0 : World} (S : World → Prop) (R : World → World → Prop) (φ : Nat → Value → World → Prop) (hm : P.follows .mixedOrders = true) (hB : invB ops = true)
    (hS0 : S w0.drew) (hSR : ∀ w w', S w → R w w' → S w') (hφ : ∀ i v w w', φ i v w → R w w' → φ i v w')
    (step : ∀ (i : Nat) (o : Oper), ops[i]? = some o → ∀ (a : Act) (w : World), S w → (∀ t : Nat, (∀ (j : Nat) (oj : Oper), ops[j]? = some oj → oj.dst = some t → predOf oj i = true) → a.tmps[t]? = a0.tmps[t]?) →
      (∀ (j : Nat) (oj : Oper) (d : Nat), ops[j]? = some oj → oj.dst = some d → predOf o j = true → φ j (a.tmps.getD d undef) w) →
      wpOp P ops Q i (fun a' w' => ∃ v, a' = a.put o.dst v ∧ φ i v w' ∧ R w w') a w)
    (fin : ∀ (vs : Nat → Value) (w : World), S w → (∀ (i : Nat) (o : Oper) (d : Nat), ops[i]? = some o → o.dst = some d → φ i (vs d) w) → Q .normal (putAll a0 vs (dsts ops)) w)
    (hsz : ∀ d ∈ dsts ops, d < a0.tmps.size) : (Code.region id ops true).wp P Q a0 w0 := by
  simp only [invB, Bool.and_eq_true, decide_eq_true_eq] at hB
  obtain ⟨⟨hsome, hnd⟩, hord⟩ := hB
  refine wp_region_any hm (wpAny_inv (Mid ops a0 S φ) ?_ ?_ ops.size _ a0 _ ?_ ?_)
  · intro listed a w i mid hi
    obtain ⟨hun, oi, hoi, hall⟩ := mem_ready.1 hi
    have hils : i < listed.size := by
      rcases Nat.lt_or_ge i listed.size with h | h
      · exact h
      · simp [Array.getElem?_eq_none h] at hun
    have hunf : listed.getD i false = false := by simp [hils] at hun ⊢; exact hun
    have hst := step i oi hoi a w mid.world
      (fun t ht => mid.frame t (fun j oj hj hl hd => by
        obtain ⟨e, he, hb⟩ := Array.any_eq_true'.1 (ht j oj hj hd)
        simp only [Bool.and_eq_true, beq_iff_eq] at hb
        have := mid.closed j oj hj hl e he hb.1
        rw [hb.2, hunf] at this
        cases this))
      (fun j oj d hj hd hp => by
        obtain ⟨e, he, hb⟩ := Array.any_eq_true'.1 hp
        simp only [Bool.and_eq_true, beq_iff_eq] at hb
        have := hall e he hb.1
        rw [hb.2] at this
        exact mid.known j oj d hj hd this)
    refine wpOp_mono (fun a' w' h' => ?_) hst
    obtain ⟨v, rfl, hv, hR⟩ := h'
    have hsi : oi.dst.isSome = true := List.all_eq_true.1 hsome oi (by simpa using Array.mem_of_getElem? hoi)
    obtain ⟨di, hdi⟩ := Option.isSome_iff_exists.1 hsi
    have hmem : di ∈ dsts ops := List.mem_filterMap.2 ⟨oi, by simpa using Array.mem_of_getElem? hoi, hdi⟩
    have hdlt : di < a.tmps.size := by rw [mid.size]; exact hsz di hmem
    have hself : (listed.setIfInBounds i true).getD i false = true := by simp [hils]
    rw [hdi]
    refine ⟨by simp [mid.lsize], fun j oj hj hl e he hb => ?_, by simpa [Act.put] using mid.size, mid.defers, hSR w w' mid.world hR, fun t ht => ?_, fun j oj d hj hd hl => ?_⟩
    · rcases getD_set_false hl with rfl | hl
      · obtain rfl : oj = oi := Option.some.inj (hj.symm.trans hoi)
        have h1 := hall e he hb
        by_cases hie : j = e.on
        · rw [hie]; rw [hie] at hself; exact hself
        · rw [getD_set_ne false hie]; exact h1
      · have h1 := mid.closed j oj hj hl e he hb
        by_cases hie : i = e.on
        · rw [← hie]; exact hself
        · rw [getD_set_ne false hie]; exact h1
    · have hne : di ≠ t := fun h => ht i oi hoi hself (by rw [hdi, h])
      rw [show (a.put (some di) v).tmps[t]? = a.tmps[t]? from by simp [Act.put, hne]]
      exact mid.frame t (fun j oj hj hl => ht j oj hj (by
        by_cases hij : i = j
        · subst hij; exact hself
        · rw [getD_set_ne false hij]; exact hl))
    · rcases getD_set_false hl with rfl | hl
      · obtain rfl : oj = oi := Option.some.inj (hj.symm.trans hoi)
        obtain rfl : d = di := Option.some.inj (hd.symm.trans hdi)
        rw [show (a.put (some d) v).tmps.getD d undef = v from by simp [Act.put, hdlt]]
        exact hv
      · have hne : di ≠ d := fun h => by
          subst h
          have := nodup_dst hnd hoi hj hdi hd
          subst this
          rw [hunf] at hl
          cases hl
        rw [show (a.put (some di) v).tmps.getD d undef = a.tmps.getD d undef from by simp [Act.put, hne]]
        exact hφ j _ w w' (mid.known j oj d hj hd hl) hR
  · intro listed a w mid hr
    have hall : ∀ n i, i < n → i < ops.size → listed.getD i false = true := by
      intro n
      induction n with
      | zero => intro i h; cases h
      | succ n ih =>
        intro i hin hil
        by_cases hlt : i < n
        · exact ih i hlt hil
        · have hin' : i = n := by omega
          subst hin'
          cases hg : listed.getD i false with
          | true => rfl
          | false =>
            have ho : ops[i]? = some ops[i] := Array.getElem?_eq_getElem hil
            have h1 := List.all_eq_true.1 hord i (List.mem_range.2 hil)
            simp only [ho] at h1
            have hin2 : i ∈ Region.ready .any ops listed := mem_ready.2 ⟨by
              have : i < listed.size := by rw [mid.lsize]; exact hil
              simp [this] at hg ⊢; exact hg, _, ho, fun e he hb => by
              have h2 := Array.all_eq_true'.1 h1 e he
              simp only [hb, Bool.not_true, Bool.false_or, decide_eq_true_eq] at h2
              exact ih e.on h2 (by omega)⟩
            rw [hr] at hin2
            cases hin2
    have hq := fin (fun d => a.tmps.getD d undef) w mid.world (fun i o d ho hd => mid.known i o d ho hd (hall (i + 1) i (by omega) (Array.getElem?_eq_some_iff.1 ho).1))
    have ha : putAll a0 (fun d => a.tmps.getD d undef) (dsts ops) = a := by
      have h1 := putAll_defers (fun d => a.tmps.getD d undef) (dsts ops) a0
      have h2 : (putAll a0 (fun d => a.tmps.getD d undef) (dsts ops)).tmps = a.tmps := by
        apply Array.ext_getElem?
        intro t
        by_cases ht : t < a0.tmps.size
        · rw [putAll_get _ _ _ _ ht]
          by_cases hm2 : t ∈ dsts ops
          · rw [if_pos hm2]
            have : t < a.tmps.size := by rw [mid.size]; exact ht
            simp [this]
          · rw [if_neg hm2]
            exact (mid.frame t (fun i o hi _ hd => hm2 (List.mem_filterMap.2 ⟨o, by simpa using Array.mem_of_getElem? hi, hd⟩))).symm
        · rw [Array.getElem?_eq_none (by rw [putAll_size]; omega), Array.getElem?_eq_none (by rw [mid.size]; omega)]
      rw [← mid.defers] at h1
      generalize putAll a0 (fun d => a.tmps.getD d undef) (dsts ops) = b at h1 h2
      cases a; cases b
      simp only at h1 h2
      rw [h1, h2]
    rw [ha] at hq
    exact hq
  · unfold leftOf
    exact Nat.le_trans (List.length_filter_le _ _) (by simp)
  · exact ⟨by simp, fun j oj _ hl => (by rw [getD_replicate_f] at hl; cases hl), rfl, rfl, hS0, fun _ _ => rfl, fun i o d _ _ hl => (by rw [getD_replicate_f] at hl; cases hl)⟩
/-- The slots that are listed hold these values. -/
def Holds (a : Act) : List (Nat × Value) → Prop
  | [] => True
  | x :: l => a.eval (.tmp x.1) = x.2 ∧ Holds a l
/-- Of the operations that are listed what is known of their slots. -/
def Knows (φ : Nat → Value → World → Prop) (ds : List Nat) (a : Act) (w : World) : List Nat → Prop
  | [] => True
  | j :: l => φ j (a.eval (.tmp (ds.getD j 0))) w ∧ Knows φ ds a w l
/-- Operation k, whatever came before it: p: those that it waits for and of which it wants to know; base: slots that the region does not write. -/
def StepOK (P : Program) (S : World → Prop) (R : World → World → Prop) (φ : Nat → Value → World → Prop) (ds : List Nat) (base : List (Nat × Value)) (p : List Nat) (k : Nat) (o : Oper) : Prop :=
  ∀ (Q : Exit → Act → World → Prop) (a : Act) (w : World), S w → Holds a base → Knows φ ds a w p →
    (match o.guard with | none => True | some (g, b) => a.eval (.tmp (ds.getD g 0)) = .bool b) ∧
    ∀ K : Act → World → Prop, (∀ v w', φ k v w' → R w w' → K (a.put o.dst v) w') → o.wp P a w K Q
/-- All of them, in the text's order. -/
def AllSteps (P : Program) (S : World → Prop) (R : World → World → Prop) (φ : Nat → Value → World → Prop) (ds : List Nat) (base : List (Nat × Value)) : List (List Nat) → Nat → List Oper → Prop
  | _, _, [] => True
  | p, k, o :: l => StepOK P S R φ ds base (p.headD []) k o ∧ AllSteps P S R φ ds base p.tail (k + 1) l
theorem AllSteps.at {S : World → Prop} {R : World → World → Prop} {φ : Nat → Value → World → Prop} {ds : List Nat} {base : List (Nat × Value)} : ∀ (l : List Oper) (p : List (List Nat)) (k : Nat), AllSteps P S R φ ds base p k l →
    ∀ (i : Nat) (o : Oper), l[i]? = some o → StepOK P S R φ ds base (p.getD i []) (k + i) o
  | [], _, _, _, _, _, h => by simp at h
  | x :: l, p, k, h, i, o, ho => by
    cases i with
    | zero =>
      simp at ho; subst ho
      have := h.1
      cases p <;> simpa using this
    | succ i =>
      simp at ho
      have := AllSteps.at l p.tail (k + 1) h.2 i o ho
      rw [show k + 1 + i = k + (i + 1) by omega] at this
      cases p <;> simpa using this
/-- Do the tables fit the region: ds: the slots that its operations write; p: of each operation some of those that it waits for; its guard's number is among the operations; base's slots are written by none. -/
def tabB (ops : Array Oper) (ds : List Nat) (base : List Nat) (p : List (List Nat)) : Bool :=
  (ops.toList.map (·.dst) == ds.map some) && base.all (fun t => !ds.contains t) &&
  (List.range ops.size).all (fun k => match ops[k]? with
    | some o => (p.getD k []).all (fun j => predOf o j && decide (j < ops.size)) && (match o.guard with | some (g, _) => decide (g < ops.size) | none => true)
    | none => true)
theorem eval_tmp_of {a a0 : Act} {t : Nat} (h : a.tmps[t]? = a0.tmps[t]?) : a.eval (.tmp t) = a0.eval (.tmp t) := by
  simp only [Act.eval]
  rw [Array.getD_eq_getD_getElem?, Array.getD_eq_getD_getElem?, h]
theorem holds_of {a a0 : Act} : ∀ (l : List (Nat × Value)), (∀ t ∈ l.map (·.1), a.eval (.tmp t) = a0.eval (.tmp t)) → Holds a0 l → Holds a l
  | [], _, _ => trivial
  | x :: l, h, h0 => ⟨(h x.1 (by simp)).trans h0.1, holds_of l (fun t ht => h t (by simp at ht ⊢; exact Or.inr ht)) h0.2⟩
theorem knows_of {φ : Nat → Value → World → Prop} {ds : List Nat} {a : Act} {w : World} : ∀ (l : List Nat), (∀ j ∈ l, φ j (a.eval (.tmp (ds.getD j 0))) w) → Knows φ ds a w l
  | [], _ => trivial
  | x :: l, h => ⟨h x (by simp), knows_of l (fun j hj => h j (by simp [hj]))⟩
/-- THE LAW, operation by operation. -/
theorem wp_region_steps {id : Nat} {a0 : Act} {w0 : World} (S : World → Prop) (R : World → World → Prop) (φ : Nat → Value → World → Prop) (ds : List Nat) (base : List (Nat × Value)) (p : List (List Nat))
    (hm : P.follows .mixedOrders = true) (hB : (invB ops && tabB ops ds (base.map (·.1)) p && ds.all (fun d => decide (d < a0.tmps.size))) = true)
    (hb0 : Holds a0 base) (hS0 : S w0.drew) (hSR : ∀ w w', S w → R w w' → S w') (hφ : ∀ i v w w', φ i v w → R w w' → φ i v w')
    (steps : AllSteps P S R φ ds base p 0 ops.toList)
    (fin : ∀ (vs : Nat → Value) (w : World), S w → (∀ j : Nat, j < ds.length → φ j (vs (ds.getD j 0)) w) → Q .normal (putAll a0 vs ds) w) : (Code.region id ops true).wp P Q a0 w0 := by
  simp only [Bool.and_eq_true] at hB
  obtain ⟨⟨hI, hT⟩, hsz⟩ := hB
  simp only [tabB, Bool.and_eq_true, beq_iff_eq] at hT
  obtain ⟨⟨hds, hbase⟩, htab⟩ := hT
  have hdst : ∀ (j : Nat) (oj : Oper), ops[j]? = some oj → oj.dst = some (ds.getD j 0) ∧ j < ds.length := fun j oj hj => by
    have h1 : (ops.toList.map (·.dst))[j]? = some oj.dst := by rw [List.getElem?_map]; simp [hj]
    rw [hds, List.getElem?_map] at h1
    cases hq : ds[j]? with
    | none => rw [hq] at h1; simp at h1
    | some d =>
      rw [hq] at h1
      have hl : j < ds.length := (List.getElem?_eq_some_iff.1 hq).1
      refine ⟨?_, hl⟩
      rw [List.getD_eq_getElem?_getD, hq]
      simpa using h1.symm
  have hdsts : dsts ops = ds := by
    unfold dsts
    have h1 : ops.toList.filterMap (·.dst) = (ops.toList.map (·.dst)).filterMap (fun x => x) := by rw [List.filterMap_map]; rfl
    rw [h1, hds, List.filterMap_map]
    exact List.filterMap_some
  refine wp_region_inv S R φ hm hI hS0 hSR hφ (fun i o hi a w hS hfr hkn => ?_) (fun vs w hS h => ?_) (fun d hd => by rw [hdsts] at hd; simpa using List.all_eq_true.1 hsz d hd)
  · have hil : i < ops.size := (Array.getElem?_eq_some_iff.1 hi).1
    have ht := List.all_eq_true.1 htab i (List.mem_range.2 hil)
    simp only [hi, Bool.and_eq_true] at ht
    have st := AllSteps.at ops.toList p 0 steps i o (by simpa using hi)
    rw [Nat.zero_add] at st
    obtain ⟨hg, hk⟩ := st Q a w hS
      (holds_of base (fun t htm => eval_tmp_of (hfr t (fun j oj hj hd => by
        exfalso
        have h1 := List.all_eq_true.1 hbase t htm
        have h2 := (hdst j oj hj).1
        rw [hd] at h2
        have h3 : t = ds.getD j 0 := Option.some.inj h2
        have h4 : t ∈ ds := by
          rw [h3, List.getD_eq_getElem?_getD, List.getElem?_eq_getElem (hdst j oj hj).2]
          simp
        simp [h4] at h1))) hb0)
      (knows_of _ (fun j hj => by
        have h1 := List.all_eq_true.1 ht.1 j hj
        simp only [Bool.and_eq_true, decide_eq_true_eq] at h1
        have hoj : ops[j]? = some ops[j] := Array.getElem?_eq_getElem h1.2
        have h2 := hkn j _ _ hoj (hdst j _ hoj).1 h1.1
        simpa [Act.eval] using h2))
    have hw : Region.wanted o (yielded ops a.tmps) = true := by
      unfold Region.wanted
      cases hgd : o.guard with
      | none => rfl
      | some x =>
        obtain ⟨g, b⟩ := x
        rw [hgd] at hg
        have h2 := ht.2
        rw [hgd] at h2
        simp only [decide_eq_true_eq] at h2
        have hog : ops[g]? = some ops[g] := Array.getElem?_eq_getElem h2
        have hd := (hdst g _ hog).1
        have h4 : a.tmps[ds.getD g 0]? = some (.bool b) := by
          simp only [Act.eval] at hg
          rw [Array.getD_eq_getD_getElem?] at hg
          cases hq : a.tmps[ds.getD g 0]? with
          | none => rw [hq] at hg; simp [undef] at hg
          | some v => rw [hq] at hg; simpa using hg
        have hy : yielded ops a.tmps g = some b := by
          unfold yielded
          rw [hog]
          simp only [Option.bind_some, hd, h4]
        simp [hy]
    unfold wpOp
    simp only [hi, hw, if_true]
    exact .inl (hk _ (fun v w' h1 h2 => ⟨v, rfl, h1, h2⟩))
  · rw [hdsts]
    refine fin vs w hS (fun j hj => ?_)
    have hlen : ops.toList.length = ds.length := by have := congrArg List.length hds; simpa using this
    have hjl : j < ops.size := by rw [← hlen] at hj; simpa using hj
    have hoj : ops[j]? = some ops[j] := Array.getElem?_eq_getElem hjl
    exact h j _ _ hoj (hdst j _ hoj).1
theorem wp_value {o : Oper} {a : Act} {w : World} {v : Value} {K : Act → World → Prop} (hr : (execOp a.eval o).run P w = .ok (.value v) w) (h : K (a.put o.dst v) w) : o.wp P a w K Q := by
  unfold Oper.wp; rw [hr]; exact h
theorem wp_enter {o : Oper} {a : Act} {w : World} {f : FuncId} {args : Array Value} {K : Act → World → Prop} (hr : (execOp a.eval o).run P w = .ok (.enter f args) w)
    (h : Calls P f args w fun e w' => ∃ v, e = .returned v ∧ K (a.put o.dst v) w') : o.wp P a w K Q := by
  unfold Oper.wp; rw [hr]
  exact h.mono (fun e w' ⟨v, he, hk⟩ => by subst he; exact hk)
end
end Go.Proofs.YtpcpcgfljffkeaaDoor
/-
  Own text. A region that leaves its order open, operation by operation, whatever came before: calls, new blocks, stores into blocks that were there or came in the region. What a block holds goes on from store to store. No program is named here.
-/
namespace Go.Proofs.YtpcpcgfljffkeaaDoor
open Go
section
variable {P : Program} {ops : Array Oper} {Q : Exit → Act → World → Prop}
/-- All that was there but the blocks of T is as it was. -/
structure Touch (T : Nat → Prop) (w w' : World) : Prop where
  os : w'.os = w.os
  tape : w'.tape = w.tape
  output : w'.output = w.output
  size : w.heap.size ≤ w'.heap.size
  block : ∀ k, k < w.heap.size → ¬ T k → w'.heap[k]? = w.heap[k]?
theorem Touch.refl (T : Nat → Prop) (w : World) : Touch T w w := ⟨rfl, rfl, rfl, Nat.le_refl _, fun _ _ _ => rfl⟩
theorem Touch.mono {T T' : Nat → Prop} {w w' : World} (h : Touch T w w') (ht : ∀ k, k < w.heap.size → T k → T' k) : Touch T' w w' := ⟨h.os, h.tape, h.output, h.size, fun k hk hn => h.block k hk (fun h => hn (ht k hk h))⟩
/-- What a block holds: at first, and behind each of its stores (by the storing operation's number). -/
structure Cont where
  first : Obj → Prop
  stores : List (Nat × (Obj → Prop))
def Cont.at (c : Cont) (L : Nat → Bool) : Obj → Prop := c.stores.foldl (fun acc x => if L x.1 then x.2 else acc) c.first
def Cont.stage (c : Cont) (k : Nat) : Obj → Prop := (c.stores.take k).foldl (fun _ x => x.2) c.first
theorem foldl_true {L : Nat → Bool} : ∀ (l : List (Nat × (Obj → Prop))) (f : Obj → Prop), (∀ x ∈ l, L x.1 = true) → l.foldl (fun acc x => if L x.1 then x.2 else acc) f = l.foldl (fun _ x => x.2) f
  | [], _, _ => rfl
  | x :: l, f, h => by
    simp only [List.foldl_cons, h x (by simp), if_true]
    exact foldl_true l _ (fun y hy => h y (by simp [hy]))
theorem foldl_false {L : Nat → Bool} : ∀ (l : List (Nat × (Obj → Prop))) (f : Obj → Prop), (∀ x ∈ l, L x.1 = false) → l.foldl (fun acc x => if L x.1 then x.2 else acc) f = f
  | [], _, _ => rfl
  | x :: l, f, h => by
    simp only [List.foldl_cons, h x (by simp), Bool.false_eq_true, if_false]
    exact foldl_false l _ (fun y hy => h y (by simp [hy]))
theorem Cont.at_stage {c : Cont} {L : Nat → Bool} (k : Nat) (h1 : ∀ s ∈ (c.stores.map (·.1)).take k, L s = true) (h2 : ∀ s ∈ (c.stores.map (·.1)).drop k, L s = false) : c.at L = c.stage k := by
  unfold Cont.at Cont.stage
  have e : c.stores = c.stores.take k ++ c.stores.drop k := (List.take_append_drop k _).symm
  rw [← List.map_take] at h1
  rw [← List.map_drop] at h2
  conv => lhs; rw [e, List.foldl_append]
  rw [foldl_true _ _ (fun x hx => h1 x.1 (List.mem_map_of_mem hx)), foldl_false _ _ (fun x hx => h2 x.1 (List.mem_map_of_mem hx))]
theorem Cont.at_congr {c : Cont} {L L' : Nat → Bool} (h : ∀ s ∈ c.stores.map (·.1), L' s = L s) : c.at L' = c.at L := by
  unfold Cont.at
  have key : ∀ (l : List (Nat × (Obj → Prop))) (f : Obj → Prop), (∀ x ∈ l, L' x.1 = L x.1) → l.foldl (fun acc x => if L' x.1 then x.2 else acc) f = l.foldl (fun acc x => if L x.1 then x.2 else acc) f := by
    intro l
    induction l with
    | nil => intro f _; rfl
    | cons x l ih => intro f h; simp only [List.foldl_cons, h x (by simp)]; exact ih _ (fun y hy => h y (by simp [hy]))
  exact key _ _ (fun x hx => h x.1 (List.mem_map_of_mem hx))
/-- What is known of a slot: a fact of its value; or that it names a block of its own. -/
inductive Kw where
  | val (p : Value → Prop)
  | new (rel : Nat → Value → Prop) (c : Cont)
def Kw.isNew : Kw → Bool
  | .val _ => false
  | .new _ _ => true
def Kw.sts : Kw → List Nat
  | .val _ => []
  | .new _ c => c.stores.map (·.1)
/-- Where an operation stores: nowhere; into the block of operation j, or into that of the list's place x: as its store number k (from 1 on). -/
inductive Tg where
  | none
  | own (j k : Nat)
  | base (x k : Nat)
/-- What an operation may want to know. -/
inductive Wt where
  | slot (j : Nat)
  | cont (j k : Nat)
  | base (x k : Nat)
def kwAt (kn : List Kw) (j : Nat) : Kw := kn.getD j (.val fun _ => True)
def slAt (ds : List (Option Nat)) (j : Nat) : Nat := (ds.getD j none).getD 0
def ContOK (c : Obj → Prop) (w : World) (b : Nat) : Prop := ∃ ob, w.heap[b]? = some ob ∧ c ob
def WtAt (B : Nat) (G : List (Nat × Cont)) (kn : List Kw) (ds : List (Option Nat)) (own : Nat → Nat) (sv : Nat → Value) (w : World) : Wt → Prop
  | .slot j => match kwAt kn j with
    | .val p => p (sv (slAt ds j))
    | .new rel _ => rel (own j) (sv (slAt ds j)) ∧ B ≤ own j ∧ own j < w.heap.size
  | .cont j k => match kwAt kn j with
    | .val _ => True
    | .new _ c => ContOK (c.stage k) w (own j)
  | .base x k => match G[x]? with
    | some g => ContOK (g.2.stage k) w g.1
    | none => True
def Knows3 (B : Nat) (G : List (Nat × Cont)) (kn : List Kw) (ds : List (Option Nat)) (own : Nat → Nat) (sv : Nat → Value) (w : World) : List Wt → Prop
  | [] => True
  | x :: l => WtAt B G kn ds own sv w x ∧ Knows3 B G kn ds own sv w l
theorem knows3_of {B : Nat} {G : List (Nat × Cont)} {kn : List Kw} {ds : List (Option Nat)} {own : Nat → Nat} {sv : Nat → Value} {w : World} : ∀ (l : List Wt), (∀ x ∈ l, WtAt B G kn ds own sv w x) → Knows3 B G kn ds own sv w l
  | [], _ => trivial
  | x :: l, h => ⟨h x (by simp), knows3_of l (fun y hy => h y (by simp [hy]))⟩
/-- What an operation does. -/
def Post3 (G : List (Nat × Cont)) (kn : List Kw) (tg : List Tg) (own : Nat → Nat) (w : World) (i : Nat) (v : Value) (w' : World) : Prop :=
  match tg.getD i .none with
  | .none => Touch (fun _ => False) w w' ∧ (match kwAt kn i with
    | .val p => p v
    | .new rel c => ∃ b, w.heap.size ≤ b ∧ rel b v ∧ ContOK c.first w' b)
  | .own j k => Touch (fun b => b = own j) w w' ∧ (match kwAt kn j with
    | .val _ => False
    | .new _ c => ContOK (c.stage k) w' (own j)) ∧ (match kwAt kn i with | .val p => p v | .new _ _ => False)
  | .base x k => (match G[x]? with
    | some g => Touch (fun b => b = g.1) w w' ∧ ContOK (g.2.stage k) w' g.1
    | none => False) ∧ (match kwAt kn i with | .val p => p v | .new _ _ => False)
/-- Operation i, whatever came before it. -/
def Step3 (P : Program) (S : World → Prop) (B : Nat) (G : List (Nat × Cont)) (kn : List Kw) (tg : List Tg) (ds : List (Option Nat)) (base : List (Nat × Value)) (wt : List Wt) (i : Nat) (o : Oper) : Prop :=
  ∀ (Q : Exit → Act → World → Prop) (a : Act) (w : World) (own : Nat → Nat), S w → B ≤ w.heap.size → Holds a base → Knows3 B G kn ds own (fun d => a.eval (.tmp d)) w wt →
    ((match o.guard with | none => True | some (g, b) => a.eval (.tmp (slAt ds g)) = .bool b) ∧
      ∀ K : Act → World → Prop, (∀ v w', Post3 G kn tg own w i v w' → K (a.put o.dst v) w') → o.wp P a w K Q) ∨
    ((match o.guard with | none => False | some (g, b) => a.eval (.tmp (slAt ds g)) = .bool (!b) ∨ a.eval (.tmp (slAt ds g)) = undef) ∧ Post3 G kn tg own w i undef w)
def AllSteps3 (P : Program) (S : World → Prop) (B : Nat) (G : List (Nat × Cont)) (kn : List Kw) (tg : List Tg) (ds : List (Option Nat)) (base : List (Nat × Value)) : List (List Wt) → Nat → List Oper → Prop
  | _, _, [] => True
  | p, k, o :: l => Step3 P S B G kn tg ds base (p.headD []) k o ∧ AllSteps3 P S B G kn tg ds base p.tail (k + 1) l
theorem AllSteps3.at {S : World → Prop} {B : Nat} {G : List (Nat × Cont)} {kn : List Kw} {tg : List Tg} {ds : List (Option Nat)} {base : List (Nat × Value)} : ∀ (l : List Oper) (p : List (List Wt)) (k : Nat), AllSteps3 P S B G kn tg ds base p k l →
    ∀ (i : Nat) (o : Oper), l[i]? = some o → Step3 P S B G kn tg ds base (p.getD i []) (k + i) o
  | [], _, _, _, _, _, h => by simp at h
  | x :: l, p, k, h, i, o, ho => by
    cases i with
    | zero =>
      simp at ho; subst ho
      have := h.1
      cases p <;> simpa using this
    | succ i =>
      simp at ho
      have := AllSteps3.at l p.tail (k + 1) h.2 i o ho
      rw [show k + 1 + i = k + (i + 1) by omega] at this
      cases p <;> simpa using this
def waitsFor (ops : Array Oper) (s i : Nat) : Bool := match ops[s]? with | some o => predOf o i | none => false
/-- At operation i the first k of these stores are behind, the others ahead. -/
def stageB (ops : Array Oper) (i : Nat) (o : Oper) (ss : List Nat) (k : Nat) : Bool := (ss.take k).all (fun s => predOf o s) && (ss.drop k).all (fun s => s == i || waitsFor ops s i)
def wtB (ops : Array Oper) (Gs : List (List Nat)) (kn : List Kw) (ds : List (Option Nat)) (i : Nat) (o : Oper) : Wt → Bool
  | .slot j => predOf o j && decide (j < ops.size) && (ds.getD j none).isSome
  | .cont j k => predOf o j && decide (j < ops.size) && (ds.getD j none).isSome && stageB ops i o (kwAt kn j).sts k
  | .base x k => stageB ops i o (Gs.getD x []) k
def finB (ops : Array Oper) (Gs : List (List Nat)) (kn : List Kw) (ds : List (Option Nat)) : Wt → Bool
  | .slot j => decide (j < ops.size) && (ds.getD j none).isSome
  | .cont j k => decide (j < ops.size) && (ds.getD j none).isSome && (decide ((kwAt kn j).sts.length ≤ k) && (kwAt kn j).sts.all (fun s => decide (s < ops.size)))
  | .base x k => decide ((Gs.getD x []).length ≤ k) && (Gs.getD x []).all (fun s => decide (s < ops.size))
def storeB (ops : Array Oper) (i : Nat) (o : Oper) (ss : List Nat) (k : Nat) : Bool :=
  decide (1 ≤ k) && decide (ss[k - 1]? = some i) && (ss.take (k - 1)).all (fun s => predOf o s) && (ss.drop k).all (fun s => waitsFor ops s i)
def opB (ops : Array Oper) (Gs : List (List Nat)) (kn : List Kw) (tg : List Tg) (ds : List (Option Nat)) (wt : List (List Wt)) (i : Nat) (o : Oper) : Bool :=
  o.after.all (fun e => !Region.binds .any e || decide (e.on < i)) &&
  (match o.guard with | some (g, _) => decide (g < ops.size) && (ds.getD g none).isSome | none => true) &&
  (wt.getD i []).all (wtB ops Gs kn ds i o) &&
  (!(kwAt kn i).isNew || ((ds.getD i none).isSome && (kwAt kn i).sts.all (fun s => waitsFor ops s i))) &&
  (List.range ops.size).all (fun j => !(kwAt kn j).sts.contains i || (match tg.getD i .none with | .own j' _ => j == j' | _ => false)) &&
  (List.range Gs.length).all (fun x => !(Gs.getD x []).contains i || (match tg.getD i .none with | .base x' _ => x == x' | _ => false)) &&
  (match tg.getD i .none with
    | .none => true
    | .own j k => !(kwAt kn i).isNew && (kwAt kn j).isNew && predOf o j && decide (j < ops.size) && (ds.getD j none).isSome && storeB ops i o (kwAt kn j).sts k
    | .base x k => !(kwAt kn i).isNew && decide (x < Gs.length) && storeB ops i o (Gs.getD x []) k)
def Cont.still (c : Cont) : Bool := c.stores.isEmpty
def ApartFrom (g : Nat × Cont) : List (Nat × Cont) → Prop
  | [] => True
  | h :: l => (match g.2.still && h.2.still with | true => True | false => g.1 ≠ h.1) ∧ ApartFrom g l
/-- A block that is stored into is none of the others. -/
def Apart : List (Nat × Cont) → Prop
  | [] => True
  | g :: l => ApartFrom g l ∧ Apart l
theorem ApartFrom.at {g : Nat × Cont} : ∀ {l : List (Nat × Cont)}, ApartFrom g l → ∀ h ∈ l, (g.2.still && h.2.still) = false → g.1 ≠ h.1
  | [], _, _, hm, _ => by cases hm
  | x :: l, ha, h, hm, hs => by
    rcases List.mem_cons.1 hm with rfl | hm
    · have := ha.1
      rw [hs] at this
      exact this
    · exact ApartFrom.at ha.2 h hm hs
theorem Apart.at : ∀ {l : List (Nat × Cont)}, Apart l → ∀ (x y : Nat) (g h : Nat × Cont), l[x]? = some g → l[y]? = some h → g.2.still = false → g.1 = h.1 → x = y
  | [], _, _, _, _, _, hx, _, _, _ => by simp at hx
  | k :: l, ha, x, y, g, h, hx, hy, hs, he => by
    cases x with
    | zero =>
      cases y with
      | zero => rfl
      | succ y =>
        simp at hx hy
        subst hx
        exact absurd he (ha.1.at h (List.mem_of_getElem? hy) (by rw [hs]; rfl))
    | succ x =>
      cases y with
      | zero =>
        simp at hx hy
        subst hy
        exact absurd he.symm (ha.1.at g (List.mem_of_getElem? hx) (by rw [hs]; exact Bool.and_false _))
      | succ y =>
        simp at hx hy
        rw [Apart.at ha.2 x y g h hx hy hs he]
def sts (G : List (Nat × Cont)) : List (List Nat) := G.map fun x => x.2.stores.map (·.1)
/-- Do the tables fit the region? -/
def tab3 (ops : Array Oper) (n : Nat) (Gs : List (List Nat)) (kn : List Kw) (tg : List Tg) (ds : List (Option Nat)) (base : List Nat) (wt : List (List Wt)) (fw : List Wt) (dl : List Nat) : Bool :=
  decide (ds.filterMap (fun x => x) = dl) && (ops.toList.map (·.dst) == ds) && decide (dsts ops).Nodup && (dsts ops).all (fun d => decide (d < n)) && base.all (fun t => !(dsts ops).contains t) && fw.all (finB ops Gs kn ds) &&
  (List.range ops.size).all (fun i => match ops[i]? with | some o => opB ops Gs kn tg ds wt i o | none => true)
structure Mid3 (ops : Array Oper) (a0 : Act) (S : World → Prop) (B : Nat) (G : List (Nat × Cont)) (kn : List Kw) (own : Nat → Nat) (listed : Array Bool) (a : Act) (w : World) : Prop where
  lsize : listed.size = ops.size
  closed : ∀ (j : Nat) (oj : Oper), ops[j]? = some oj → listed.getD j false = true → ∀ e ∈ oj.after, Region.binds .any e = true → listed.getD e.on false = true
  size : a.tmps.size = a0.tmps.size
  defers : a.defers = a0.defers
  world : S w
  big : B ≤ w.heap.size
  frame : ∀ t : Nat, (∀ (i : Nat) (o : Oper), ops[i]? = some o → listed.getD i false = true → o.dst ≠ some t) → a.tmps[t]? = a0.tmps[t]?
  known : ∀ (i : Nat) (o : Oper) (d : Nat), ops[i]? = some o → o.dst = some d → listed.getD i false = true → match kwAt kn i with
    | .val p => p (a.tmps.getD d undef)
    | .new rel c => rel (own i) (a.tmps.getD d undef) ∧ B ≤ own i ∧ ContOK (c.at (fun s => listed.getD s false)) w (own i)
  blocks : ∀ x ∈ G, ContOK (x.2.at (fun s => listed.getD s false)) w x.1
  inj : ∀ i j, listed.getD i false = true → listed.getD j false = true → (kwAt kn i).isNew = true → (kwAt kn j).isNew = true → own i = own j → i = j
theorem ContOK.lt {c : Obj → Prop} {w : World} {b : Nat} (h : ContOK c w b) : b < w.heap.size := by
  obtain ⟨ob, h, _⟩ := h
  exact (Array.getElem?_eq_some_iff.1 h).1
theorem ContOK.keep {c c' : Obj → Prop} {w w' : World} {b : Nat} {T : Nat → Prop} (h : ContOK c w b) (ht : Touch T w w') (hb : ¬ T b) (hc : c' = c) : ContOK c' w' b := by
  have hl := h.lt
  obtain ⟨ob, h, hp⟩ := h
  exact ⟨ob, (ht.block b hl hb).trans h, hc ▸ hp⟩
def GAll (B : Nat) (w : World) : List (Nat × Cont) → Prop
  | [] => True
  | x :: l => (x.1 < B ∧ ContOK x.2.first w x.1) ∧ GAll B w l
theorem GAll.at {B : Nat} {w : World} : ∀ {l : List (Nat × Cont)}, GAll B w l → ∀ x ∈ l, x.1 < B ∧ ContOK x.2.first w x.1
  | [], _, _, h => by cases h
  | y :: l, h, x, hx => by
    rcases List.mem_cons.1 hx with rfl | hx
    · exact h.1
    · exact GAll.at h.2 x hx
theorem storeB_spec {i : Nat} {o : Oper} {ss : List Nat} {k : Nat} (h : storeB ops i o ss k = true) : (∀ s ∈ ss.take k, s = i ∨ predOf o s = true) ∧ (∀ s ∈ ss.drop k, waitsFor ops s i = true) := by
  simp only [storeB, Bool.and_eq_true, decide_eq_true_eq] at h
  obtain ⟨⟨⟨h1, h2⟩, h3⟩, h4⟩ := h
  refine ⟨fun s hs => ?_, fun s hs => List.all_eq_true.1 h4 s hs⟩
  have e : ss.take k = ss.take (k - 1) ++ [i] := by
    have hl : k - 1 < ss.length := (List.getElem?_eq_some_iff.1 h2).1
    have h5 := (List.getElem?_eq_some_iff.1 h2).2
    have := List.take_succ_eq_append_getElem hl
    rw [show k - 1 + 1 = k by omega, h5] at this
    exact this
  rw [e] at hs
  rcases List.mem_append.1 hs with hs | hs
  · exact .inr (List.all_eq_true.1 h3 s hs)
  · exact .inl (by simpa using hs)
theorem getD_self {listed : Array Bool} {i : Nat} (h : i < listed.size) : (listed.setIfInBounds i true).getD i false = true := by simp [h]
theorem predOf_spec {o : Oper} {j : Nat} (h : predOf o j = true) : ∃ e ∈ o.after, Region.binds .any e = true ∧ e.on = j := by
  obtain ⟨e, he, hb⟩ := Array.any_eq_true'.1 h
  simp only [Bool.and_eq_true, beq_iff_eq] at hb
  exact ⟨e, he, hb.1, hb.2⟩
/-- One operation hands the knowledge on. -/
theorem Mid3.next {a0 : Act} {S : World → Prop} {B : Nat} {G : List (Nat × Cont)} {kn : List Kw} {tg : List Tg} {ds : List (Option Nat)} {wt : List (List Wt)} {own : Nat → Nat} {listed : Array Bool} {a : Act} {w : World} {i : Nat} {o : Oper} {v : Value} {w' : World}
    (hnd : (dsts ops).Nodup) (hsz : ∀ d ∈ dsts ops, d < a0.tmps.size) (hop : opB ops (sts G) kn tg ds wt i o = true) (hGB : ∀ x ∈ G, x.1 < B) (hGd : Apart G)
    (hnewd : ∀ (j : Nat) (oj : Oper), ops[j]? = some oj → (kwAt kn j).isNew = true → oj.dst.isSome = true)
    (hSR : ∀ w w', S w → Touch (fun k => B ≤ k ∨ k ∈ G.map (·.1)) w w' → S w')
    (mid : Mid3 ops a0 S B G kn own listed a w) (ho : ops[i]? = some o) (hun : listed.getD i true = false) (hall : ∀ e ∈ o.after, Region.binds .any e = true → listed.getD e.on false = true)
    (post : Post3 G kn tg own w i v w') : ∃ own', Mid3 ops a0 S B G kn own' (listed.setIfInBounds i true) (a.put o.dst v) w' := by
  have hils : i < listed.size := by
    rcases Nat.lt_or_ge i listed.size with h | h
    · exact h
    · simp [Array.getElem?_eq_none h] at hun
  have hilt : i < ops.size := by rw [← mid.lsize]; exact hils
  have hunf : listed.getD i false = false := by simp [hils] at hun ⊢; exact hun
  have hself := getD_self hils
  simp only [opB, Bool.and_eq_true] at hop
  obtain ⟨⟨⟨⟨⟨⟨hord, hgd⟩, hwt⟩, hnew⟩, hst1⟩, hst2⟩, htg⟩ := hop
  have hpl : ∀ j, predOf o j = true → listed.getD j false = true := fun j hj => by
    obtain ⟨e, he, hb, rfl⟩ := predOf_spec hj
    exact hall e he hb
  have hwl : ∀ s, waitsFor ops s i = true → listed.getD s false = false := fun s hs => by
    unfold waitsFor at hs
    cases hq : ops[s]? with
    | none => rw [hq] at hs; cases hs
    | some os =>
      rw [hq] at hs
      obtain ⟨e, he, hb, hon⟩ := predOf_spec hs
      cases hl : listed.getD s false with
      | false => rfl
      | true =>
        have := mid.closed s os hq hl e he hb
        rw [hon, hunf] at this
        cases this
  have hother : ∀ s, s ≠ i → (listed.setIfInBounds i true).getD s false = listed.getD s false := fun s hs => getD_set_ne false (Ne.symm hs)
  have hstage : ∀ (c : Cont) (k : Nat), storeB ops i o (c.stores.map (·.1)) k = true → c.at (fun s => (listed.setIfInBounds i true).getD s false) = c.stage k := fun c k hs => by
    obtain ⟨h1, h2⟩ := storeB_spec hs
    refine Cont.at_stage k (fun s hs' => ?_) (fun s hs' => ?_)
    · rcases h1 s hs' with rfl | h
      · exact hself
      · by_cases hsi : s = i
        · subst hsi; exact hself
        · rw [hother s hsi]; exact hpl s h
    · have := hwl s (h2 s hs')
      have hsi : s ≠ i := fun e => by
        subst e
        have h3 := h2 s hs'
        simp only [waitsFor, ho] at h3
        obtain ⟨e, he, hb, hon⟩ := predOf_spec h3
        have h4 := Array.all_eq_true'.1 hord e he
        simp only [hb, Bool.not_true, Bool.false_or, decide_eq_true_eq] at h4
        omega
      rw [hother s hsi]; exact this
  have hfree : ∀ (c : Cont), i ∉ c.stores.map (·.1) → c.at (fun s => (listed.setIfInBounds i true).getD s false) = c.at (fun s => listed.getD s false) := fun c hc =>
    Cont.at_congr (fun s hs => hother s (fun e => hc (e ▸ hs)))
  have hclosed : ∀ (j : Nat) (oj : Oper), ops[j]? = some oj → (listed.setIfInBounds i true).getD j false = true → ∀ e ∈ oj.after, Region.binds .any e = true → (listed.setIfInBounds i true).getD e.on false = true := by
    intro j oj hj hl e he hb
    have h1 : listed.getD e.on false = true := by
      rcases getD_set_false hl with rfl | hl
      · obtain rfl : oj = o := Option.some.inj (hj.symm.trans ho)
        exact hall e he hb
      · exact mid.closed j oj hj hl e he hb
    by_cases hie : e.on = i
    · rw [hie]; exact hself
    · rw [hother _ hie]; exact h1
  have hframe : ∀ t : Nat, (∀ (j : Nat) (oj : Oper), ops[j]? = some oj → (listed.setIfInBounds i true).getD j false = true → oj.dst ≠ some t) → (a.put o.dst v).tmps[t]? = a0.tmps[t]? := by
    intro t ht
    have h1 : (a.put o.dst v).tmps[t]? = a.tmps[t]? := by
      cases hd : o.dst with
      | none => rfl
      | some d =>
        have hne : d ≠ t := fun h => ht i o ho hself (by rw [hd, h])
        simp [Act.put, hne]
    rw [h1]
    exact mid.frame t (fun j oj hj hl => ht j oj hj (by
      by_cases hij : j = i
      · subst hij; exact hself
      · rw [hother _ hij]; exact hl))
  have hsize : (a.put o.dst v).tmps.size = a0.tmps.size := by
    cases hd : o.dst with
    | none => exact mid.size
    | some d => simpa [Act.put] using mid.size
  have hdef : (a.put o.dst v).defers = a0.defers := by
    cases hd : o.dst with
    | none => exact mid.defers
    | some d => exact mid.defers
  -- a slot of another operation
  have hslot : ∀ (j : Nat) (oj : Oper) (d : Nat), ops[j]? = some oj → oj.dst = some d → j ≠ i → (a.put o.dst v).tmps.getD d undef = a.tmps.getD d undef := by
    intro j oj d hj hd hji
    cases hdi : o.dst with
    | none => rfl
    | some di =>
      have hne : di ≠ d := fun h => by
        subst h
        exact hji (nodup_dst hnd hj ho hd hdi)
      simp [Act.put, hne]
  have hmine : ∀ d, o.dst = some d → (a.put o.dst v).tmps.getD d undef = v := by
    intro d hd
    have hm : d ∈ dsts ops := List.mem_filterMap.2 ⟨o, by simpa using Array.mem_of_getElem? ho, hd⟩
    have : d < a.tmps.size := by rw [mid.size]; exact hsz d hm
    rw [hd]; simp [Act.put, this]
  have hjlt : ∀ j, listed.getD j false = true → j < ops.size := fun j hj => by
    rw [← mid.lsize]
    rcases Nat.lt_or_ge j listed.size with h | h
    · exact h
    · simp [Array.getElem?_eq_none h] at hj
  have hst1' : ∀ j, j < ops.size → (∀ k, tg.getD i .none ≠ .own j k) → i ∉ (kwAt kn j).sts := fun j hj hn hmem => by
    have h1 := List.all_eq_true.1 hst1 j (List.mem_range.2 hj)
    simp only [List.contains_iff_mem.2 hmem, Bool.not_true, Bool.false_or] at h1
    split at h1
    · rename_i j' k' heq
      simp only [beq_iff_eq] at h1
      subst h1
      exact hn _ heq
    · cases h1
  have hst2' : ∀ (x : Nat) (hx : x < G.length), (∀ k, tg.getD i .none ≠ .base x k) → i ∉ G[x].2.stores.map (·.1) := fun x hx hn hmem => by
    have h1 := List.all_eq_true.1 hst2 x (List.mem_range.2 (by simpa [sts] using hx))
    have h2 : (sts G).getD x [] = G[x].2.stores.map (·.1) := by simp [sts, hx]
    rw [h2] at h1
    simp only [List.contains_iff_mem.2 hmem, Bool.not_true, Bool.false_or] at h1
    split at h1
    · rename_i j' k' heq
      simp only [beq_iff_eq] at h1
      subst h1
      exact hn _ heq
    · cases h1
  unfold Post3 at post
  cases htgi : tg.getD i .none with
  | none =>
    rw [htgi] at post htg
    simp only at post
    obtain ⟨ht, hv⟩ := post
    have hS' := hSR w w' mid.world (ht.mono (fun _ _ h => h.elim))
    have hblocks : ∀ x ∈ G, ContOK (x.2.at (fun s => (listed.setIfInBounds i true).getD s false)) w' x.1 := fun x hx => by
      obtain ⟨n, hn, rfl⟩ := List.getElem_of_mem hx
      exact (mid.blocks _ hx).keep ht (fun h => h) (hfree _ (hst2' n hn (fun _ h => by rw [htgi] at h; cases h)))
    cases hk : kwAt kn i with
    | val p =>
      rw [hk] at hv
      simp only at hv
      refine ⟨own, ⟨by simp [mid.lsize], hclosed, hsize, hdef, hS', Nat.le_trans mid.big ht.size, hframe, ?_, hblocks, ?_⟩⟩
      · intro j oj d hj hd hl
        by_cases hji : j = i
        · subst hji
          obtain rfl : oj = o := Option.some.inj (hj.symm.trans ho)
          rw [hk, hmine d hd]; exact hv
        · rw [hslot j oj d hj hd hji]
          rw [hother j hji] at hl
          have h1 := mid.known j oj d hj hd hl
          cases hkj : kwAt kn j with
          | val p => rw [hkj] at h1; exact h1
          | new rel c =>
            rw [hkj] at h1
            have h2 := hst1' j (hjlt j hl) (fun _ h => by rw [htgi] at h; cases h)
            rw [hkj] at h2
            exact ⟨h1.1, h1.2.1, h1.2.2.keep ht (fun h => h) (hfree c h2)⟩
      · intro j j' hl hl' hn hn' he
        have hni : ∀ j, (kwAt kn j).isNew = true → j ≠ i := fun j h e => by subst e; rw [hk] at h; cases h
        rw [hother j (hni j hn)] at hl
        rw [hother j' (hni j' hn')] at hl'
        exact mid.inj j j' hl hl' hn hn' he
    | new rel c =>
      rw [hk] at hv
      simp only at hv
      obtain ⟨b, hb, hrel, hc⟩ := hv
      refine ⟨fun j => if j = i then b else own j, ⟨by simp [mid.lsize], hclosed, hsize, hdef, hS', Nat.le_trans mid.big ht.size, hframe, ?_, hblocks, ?_⟩⟩
      · intro j oj d hj hd hl
        by_cases hji : j = i
        · subst hji
          obtain rfl : oj = o := Option.some.inj (hj.symm.trans ho)
          have hno : j ∉ c.stores.map (·.1) := by
            have h2 := hst1' j hilt (fun _ h => by rw [htgi] at h; cases h)
            rw [hk] at h2
            exact h2
          have hstg : c.at (fun s => (listed.setIfInBounds j true).getD s false) = c.first := by
            rw [hfree c hno]
            have hz : ∀ s ∈ c.stores.map (·.1), listed.getD s false = false := fun s hs => by
              rw [hk] at hnew
              simp only [Kw.isNew, Bool.not_true, Bool.false_or, Bool.and_eq_true] at hnew
              exact hwl s (List.all_eq_true.1 hnew.2 s hs)
            exact Cont.at_stage 0 (fun s hs => by simp at hs) (fun s hs => hz s (by simpa using hs))
          rw [hk, hmine d hd]
          simp only [if_true]
          exact ⟨hrel, Nat.le_trans mid.big hb, by rw [hstg]; exact hc⟩
        · rw [hslot j oj d hj hd hji]
          rw [hother j hji] at hl
          have h1 := mid.known j oj d hj hd hl
          cases hkj : kwAt kn j with
          | val p => rw [hkj] at h1; exact h1
          | new rel c =>
            rw [hkj] at h1
            have h2 := hst1' j (hjlt j hl) (fun _ h => by rw [htgi] at h; cases h)
            rw [hkj] at h2
            simp only [hji, if_false]
            exact ⟨h1.1, h1.2.1, h1.2.2.keep ht (fun h => h) (hfree c h2)⟩
      · have hlow : ∀ j, j ≠ i → (listed.setIfInBounds i true).getD j false = true → (kwAt kn j).isNew = true → own j < w.heap.size := fun j hji hl hn => by
          rw [hother j hji] at hl
          have hlt := hjlt j hl
          have hoj : ops[j]? = some ops[j] := Array.getElem?_eq_getElem hlt
          obtain ⟨d, hd⟩ := Option.isSome_iff_exists.1 (hnewd j _ hoj hn)
          have h1 := mid.known j _ d hoj hd hl
          cases hkj : kwAt kn j with
          | val p => rw [hkj] at hn; cases hn
          | new rel c => rw [hkj] at h1; exact h1.2.2.lt
        intro j j' hl hl' hn hn' he
        by_cases h1 : j = i
        · by_cases h2 : j' = i
          · rw [h1, h2]
          · have := hlow j' h2 hl' hn'
            simp only [h1, if_true, h2, if_false] at he
            omega
        · by_cases h2 : j' = i
          · have := hlow j h1 hl hn
            simp only [h1, if_false, h2, if_true] at he
            omega
          · simp only [h1, h2, if_false] at he
            rw [hother j h1] at hl
            rw [hother j' h2] at hl'
            exact mid.inj j j' hl hl' hn hn' he
  | own j0 k =>
    rw [htgi] at post htg
    simp only [Bool.and_eq_true, decide_eq_true_eq] at post htg
    obtain ⟨ht, hc, hv⟩ := post
    obtain ⟨⟨⟨⟨⟨hni, hnj⟩, hpj⟩, hj0⟩, hdj⟩, hsb⟩ := htg
    have hl0 := hpl j0 hpj
    have hk : ∃ p, kwAt kn i = .val p := by
      cases hk : kwAt kn i with
      | val p => exact ⟨p, rfl⟩
      | new _ _ => rw [hk] at hni; cases hni
    obtain ⟨p, hk⟩ := hk
    rw [hk] at hv
    simp only at hv
    have hoj0 : ops[j0]? = some ops[j0] := Array.getElem?_eq_getElem hj0
    obtain ⟨d0, hd0⟩ := Option.isSome_iff_exists.1 (hnewd j0 _ hoj0 hnj)
    have hkn0 := mid.known j0 _ d0 hoj0 hd0 hl0
    cases hkj0 : kwAt kn j0 with
    | val _ => rw [hkj0] at hnj; cases hnj
    | new rel0 c0 =>
    rw [hkj0] at hc hkn0 hsb
    simp only at hc hkn0
    have hB0 := hkn0.2.1
    have hS' := hSR w w' mid.world (ht.mono (fun b _ h => .inl (by rw [h]; exact hB0)))
    refine ⟨own, ⟨by simp [mid.lsize], hclosed, hsize, hdef, hS', Nat.le_trans mid.big ht.size, hframe, ?_, ?_, ?_⟩⟩
    · intro j oj d hj hd hl
      by_cases hji : j = i
      · subst hji
        obtain rfl : oj = o := Option.some.inj (hj.symm.trans ho)
        rw [hk, hmine d hd]; exact hv
      · rw [hslot j oj d hj hd hji]
        rw [hother j hji] at hl
        have h1 := mid.known j oj d hj hd hl
        cases hkj : kwAt kn j with
        | val p => rw [hkj] at h1; exact h1
        | new rel c =>
          rw [hkj] at h1
          by_cases hjj : j = j0
          · subst hjj
            rw [hkj0] at hkj
            cases hkj
            exact ⟨h1.1, h1.2.1, by rw [hstage c0 k hsb]; exact hc⟩
          · have h2 := hst1' j (hjlt j hl) (fun _ h => by rw [htgi] at h; cases h; exact hjj rfl)
            rw [hkj] at h2
            exact ⟨h1.1, h1.2.1, h1.2.2.keep ht (fun h => hjj (mid.inj j j0 hl hl0 (by rw [hkj]; rfl) hnj h)) (hfree c h2)⟩
    · intro x hx
      obtain ⟨n, hn, rfl⟩ := List.getElem_of_mem hx
      exact (mid.blocks _ hx).keep ht (fun h => by have := hGB _ hx; omega) (hfree _ (hst2' n hn (fun _ h => by rw [htgi] at h; cases h)))
    · intro j j' hl hl' hn hn' he
      have hni : ∀ j, (kwAt kn j).isNew = true → j ≠ i := fun j h e => by subst e; rw [hk] at h; cases h
      rw [hother j (hni j hn)] at hl
      rw [hother j' (hni j' hn')] at hl'
      exact mid.inj j j' hl hl' hn hn' he
  | base x0 k =>
    rw [htgi] at post htg
    simp only [Bool.and_eq_true, decide_eq_true_eq] at post htg
    obtain ⟨hc, hv⟩ := post
    obtain ⟨⟨hni, hx0⟩, hsb⟩ := htg
    have hx0 : x0 < G.length := by simpa [sts] using hx0
    rw [List.getElem?_eq_getElem hx0] at hc
    simp only at hc
    obtain ⟨ht, hc⟩ := hc
    have hsb : storeB ops i o (G[x0].2.stores.map (·.1)) k = true := by
      have h2 : (sts G).getD x0 [] = G[x0].2.stores.map (·.1) := by simp [sts, hx0]
      rw [h2] at hsb; exact hsb
    have hk : ∃ p, kwAt kn i = .val p := by
      cases hk : kwAt kn i with
      | val p => exact ⟨p, rfl⟩
      | new _ _ => rw [hk] at hni; cases hni
    obtain ⟨p, hk⟩ := hk
    rw [hk] at hv
    simp only at hv
    have hxm : G[x0] ∈ G := List.getElem_mem hx0
    have hS' := hSR w w' mid.world (ht.mono (fun b _ h => .inr (by rw [h]; exact List.mem_map_of_mem hxm)))
    refine ⟨own, ⟨by simp [mid.lsize], hclosed, hsize, hdef, hS', Nat.le_trans mid.big ht.size, hframe, ?_, ?_, ?_⟩⟩
    · intro j oj d hj hd hl
      by_cases hji : j = i
      · subst hji
        obtain rfl : oj = o := Option.some.inj (hj.symm.trans ho)
        rw [hk, hmine d hd]; exact hv
      · rw [hslot j oj d hj hd hji]
        rw [hother j hji] at hl
        have h1 := mid.known j oj d hj hd hl
        cases hkj : kwAt kn j with
        | val p => rw [hkj] at h1; exact h1
        | new rel c =>
          rw [hkj] at h1
          have h2 := hst1' j (hjlt j hl) (fun _ h => by rw [htgi] at h; cases h)
          rw [hkj] at h2
          exact ⟨h1.1, h1.2.1, h1.2.2.keep ht (fun h => by have := hGB _ hxm; have := h1.2.1; omega) (hfree c h2)⟩
    · intro x hx
      obtain ⟨n, hn, rfl⟩ := List.getElem_of_mem hx
      by_cases hnx : n = x0
      · subst hnx
        rw [hstage _ k hsb]; exact hc
      · refine (mid.blocks _ hx).keep ht (fun h => hnx ?_) (hfree _ (hst2' n hn (fun _ h => by rw [htgi] at h; cases h; exact hnx rfl)))
        have hst0 : G[x0].2.still = false := by
          cases hq : G[x0].2.stores with
          | nil =>
            simp only [storeB, hq, List.map_nil, Bool.and_eq_true, decide_eq_true_eq] at hsb
            simp at hsb
          | cons _ _ => simp [Cont.still, hq]
        exact (hGd.at x0 n _ _ (List.getElem?_eq_getElem hx0) (List.getElem?_eq_getElem hn) hst0 h.symm).symm
    · intro j j' hl hl' hn hn' he
      have hni : ∀ j, (kwAt kn j).isNew = true → j ≠ i := fun j h e => by subst e; rw [hk] at h; cases h
      rw [hother j (hni j hn)] at hl
      rw [hother j' (hni j' hn')] at hl'
      exact mid.inj j j' hl hl' hn hn' he
/-- THE LAW. -/
theorem wp_region3 {id : Nat} {a0 : Act} {w0 : World} (S : World → Prop) (B : Nat) (G : List (Nat × Cont)) (kn : List Kw) (tg : List Tg) (ds : List (Option Nat)) (base : List (Nat × Value)) (wt : List (List Wt)) (fw : List Wt) (dl : List Nat)
    (hm : P.follows .mixedOrders = true) (hB : tab3 ops a0.tmps.size (sts G) kn tg ds (base.map (·.1)) wt fw dl = true)
    (hb0 : Holds a0 base) (hS0 : S w0.drew) (hBig : B ≤ w0.heap.size) (hG0 : GAll B w0.drew G) (hGd : Apart G)
    (hSR : ∀ w w', S w → Touch (fun k => B ≤ k ∨ k ∈ G.map (·.1)) w w' → S w')
    (steps : AllSteps3 P S B G kn tg ds base wt 0 ops.toList)
    (fin : ∀ (vs own : Nat → _) (w : World), S w → B ≤ w.heap.size → Knows3 B G kn ds own vs w fw → (∀ i j, i < ops.size → j < ops.size → (kwAt kn i).isNew = true → (kwAt kn j).isNew = true → own i = own j → i = j) → Q .normal (putAll a0 vs dl) w) :
    (Code.region id ops true).wp P Q a0 w0 := by
  simp only [tab3, Bool.and_eq_true, beq_iff_eq, decide_eq_true_eq] at hB
  obtain ⟨⟨⟨⟨⟨⟨hdl, hds⟩, hnd⟩, hsz⟩, hbase⟩, hfw⟩, hops⟩ := hB
  have hsz' : ∀ d ∈ dsts ops, d < a0.tmps.size := fun d hd => by simpa using List.all_eq_true.1 hsz d hd
  have hop : ∀ (i : Nat) (o : Oper), ops[i]? = some o → opB ops (sts G) kn tg ds wt i o = true := fun i o ho => by
    have h1 := List.all_eq_true.1 hops i (List.mem_range.2 (Array.getElem?_eq_some_iff.1 ho).1)
    simpa only [ho] using h1
  have hdst : ∀ (j : Nat) (oj : Oper), ops[j]? = some oj → ds.getD j none = oj.dst := fun j oj hj => by
    have h1 : (ops.toList.map (·.dst))[j]? = some oj.dst := by rw [List.getElem?_map]; simp [hj]
    rw [hds] at h1
    rw [List.getD_eq_getElem?_getD, h1]
    rfl
  have hdsts : dsts ops = dl := by
    unfold dsts
    rw [← hdl, ← hds, List.filterMap_map]
    rfl
  have hnewd : ∀ (j : Nat) (oj : Oper), ops[j]? = some oj → (kwAt kn j).isNew = true → oj.dst.isSome = true := fun j oj hj hn => by
    have h1 := hop j oj hj
    simp only [opB, Bool.and_eq_true] at h1
    have h2 := h1.1.1.1.2
    rw [hn, hdst j oj hj] at h2
    simp only [Bool.not_true, Bool.false_or, Bool.and_eq_true] at h2
    exact h2.1
  have hGB : ∀ x ∈ G, x.1 < B := fun x hx => (hG0.at x hx).1
  refine wp_region_any hm (wpAny_inv (fun listed a w => ∃ own, Mid3 ops a0 S B G kn own listed a w) ?_ ?_ ops.size _ a0 _ ?_ ?_)
  · intro listed a w i inv hi
    obtain ⟨own, mid⟩ := inv
    obtain ⟨hun, o, ho, hall⟩ := mem_ready.1 hi
    have hils : i < listed.size := by
      rcases Nat.lt_or_ge i listed.size with h | h
      · exact h
      · simp [Array.getElem?_eq_none h] at hun
    have hunf : listed.getD i false = false := by simp [hils] at hun ⊢; exact hun
    have hopi := hop i o ho
    have hopi2 := hopi
    simp only [opB, Bool.and_eq_true] at hopi2
    obtain ⟨⟨⟨⟨⟨⟨hord, hgd⟩, hwt⟩, hnew⟩, hst1⟩, hst2⟩, htg⟩ := hopi2
    have hpl : ∀ j, predOf o j = true → listed.getD j false = true := fun j hj => by
      obtain ⟨e, he, hb, rfl⟩ := predOf_spec hj
      exact hall e he hb
    have hwl : ∀ s, waitsFor ops s i = true → listed.getD s false = false := fun s hs => by
      unfold waitsFor at hs
      cases hq : ops[s]? with
      | none => rw [hq] at hs; cases hs
      | some os =>
        rw [hq] at hs
        obtain ⟨e, he, hb, hon⟩ := predOf_spec hs
        cases hl : listed.getD s false with
        | false => rfl
        | true =>
          have := mid.closed s os hq hl e he hb
          rw [hon, hunf] at this
          cases this
    have hstage : ∀ (c : Cont) (k : Nat), stageB ops i o (c.stores.map (·.1)) k = true → c.at (fun s => listed.getD s false) = c.stage k := fun c k hs => by
      simp only [stageB, Bool.and_eq_true] at hs
      refine Cont.at_stage k (fun s h => hpl s (List.all_eq_true.1 hs.1 s h)) (fun s h => ?_)
      have h1 := List.all_eq_true.1 hs.2 s h
      simp only [Bool.or_eq_true, beq_iff_eq] at h1
      rcases h1 with rfl | h1
      · exact hunf
      · exact hwl s h1
    have hslot : ∀ (j : Nat) (oj : Oper) (d : Nat), ops[j]? = some oj → oj.dst = some d → slAt ds j = d := fun j oj d hj hd => by
      unfold slAt
      rw [hdst j oj hj, hd]
      rfl
    have hkn : Knows3 B G kn ds own (fun d => a.eval (.tmp d)) w (wt.getD i []) := knows3_of _ (fun x hx => by
      have h1 := List.all_eq_true.1 hwt x hx
      cases x with
      | slot j =>
        simp only [wtB, Bool.and_eq_true, decide_eq_true_eq] at h1
        have hoj : ops[j]? = some ops[j] := Array.getElem?_eq_getElem h1.1.2
        rw [hdst j _ hoj] at h1
        obtain ⟨d, hd⟩ := Option.isSome_iff_exists.1 h1.2
        have h2 := mid.known j _ d hoj hd (hpl j h1.1.1)
        simp only [WtAt, hslot j _ d hoj hd]
        cases hk : kwAt kn j with
        | val p => rw [hk] at h2; simpa [Act.eval] using h2
        | new rel c => rw [hk] at h2; exact ⟨by simpa [Act.eval] using h2.1, h2.2.1, h2.2.2.lt⟩
      | cont j k =>
        simp only [wtB, Bool.and_eq_true, decide_eq_true_eq] at h1
        have hoj : ops[j]? = some ops[j] := Array.getElem?_eq_getElem h1.1.1.2
        rw [hdst j _ hoj] at h1
        obtain ⟨d, hd⟩ := Option.isSome_iff_exists.1 h1.1.2
        have h2 := mid.known j _ d hoj hd (hpl j h1.1.1.1)
        simp only [WtAt]
        cases hk : kwAt kn j with
        | val p => trivial
        | new rel c =>
          rw [hk] at h2
          have h3 := h1.2
          rw [hk] at h3
          show ContOK (c.stage k) w (own j)
          rw [← hstage c k h3]; exact h2.2.2
      | base x k =>
        simp only [wtB] at h1
        simp only [WtAt]
        cases hg : G[x]? with
        | none => trivial
        | some g =>
          have hxl : x < G.length := (List.getElem?_eq_some_iff.1 hg).1
          have h2 : (sts G).getD x [] = g.2.stores.map (·.1) := by simp [sts, hg]
          rw [h2] at h1
          show ContOK (g.2.stage k) w g.1
          rw [← hstage g.2 k h1]
          exact mid.blocks g (List.mem_of_getElem? hg))
    have hhold : Holds a base := holds_of base (fun t htm => eval_tmp_of (mid.frame t (fun j oj hj _ hd => by
      have h1 := List.all_eq_true.1 hbase t htm
      have h2 : t ∈ dsts ops := List.mem_filterMap.2 ⟨oj, by simpa using Array.mem_of_getElem? hj, hd⟩
      simp [h2] at h1))) hb0
    have st := AllSteps3.at ops.toList wt 0 steps i o (by simpa using ho)
    rw [Nat.zero_add] at st
    have hnext : ∀ v w', Post3 G kn tg own w i v w' → ∃ own', Mid3 ops a0 S B G kn own' (listed.setIfInBounds i true) (a.put o.dst v) w' := fun v w' hp =>
      Mid3.next hnd hsz' hopi hGB hGd hnewd hSR mid ho hun hall hp
    have hyield : ∀ (g : Nat) (b : Bool), (decide (g < ops.size) && (ds.getD g none).isSome) = true → ∃ d, slAt ds g = d ∧ yielded ops a.tmps g = (match a.tmps[d]? with | some (.bool b) => some b | _ => none) := fun g b hg => by
      simp only [Bool.and_eq_true, decide_eq_true_eq] at hg
      have hog : ops[g]? = some ops[g] := Array.getElem?_eq_getElem hg.1
      rw [hdst g _ hog] at hg
      obtain ⟨d, hd⟩ := Option.isSome_iff_exists.1 hg.2
      refine ⟨d, hslot g _ d hog hd, ?_⟩
      unfold yielded
      rw [hog]
      simp only [Option.bind_some, hd]
      cases a.tmps[d]? <;> rfl
    unfold wpOp
    simp only [ho]
    rcases st Q a w own mid.world mid.big hhold hkn with ⟨hg, hk⟩ | ⟨hg, hp⟩
    · have hw : Region.wanted o (yielded ops a.tmps) = true := by
        unfold Region.wanted
        cases hgo : o.guard with
        | none => rfl
        | some x =>
          obtain ⟨g, b⟩ := x
          rw [hgo] at hg hgd
          obtain ⟨d, hd, hy⟩ := hyield g b hgd
          simp only [hd, Act.eval] at hg
          have h4 : a.tmps[d]? = some (.bool b) := by
            rw [Array.getD_eq_getD_getElem?] at hg
            cases hq : a.tmps[d]? with
            | none => rw [hq] at hg; simp [undef] at hg
            | some v => rw [hq] at hg; simpa using hg
          simp [hy, h4]
      rw [if_pos hw]
      exact .inl (hk _ (fun v w' h => hnext v w' h))
    · have hw : Region.wanted o (yielded ops a.tmps) = false := by
        unfold Region.wanted
        cases hgo : o.guard with
        | none => rw [hgo] at hg; exact hg.elim
        | some x =>
          obtain ⟨g, b⟩ := x
          rw [hgo] at hg hgd
          obtain ⟨d, hd, hy⟩ := hyield g b hgd
          simp only [hd, Act.eval, Array.getD_eq_getD_getElem?] at hg
          show (yielded ops a.tmps g == some b) = false
          rw [hy]
          cases hq : a.tmps[d]? with
          | none => simp
          | some v =>
            rw [hq] at hg
            simp only [Option.getD_some] at hg
            rcases hg with rfl | rfl
            · cases b <;> simp
            · simp [undef]
      rw [if_neg (by rw [hw]; decide)]
      exact hnext _ _ hp
  · intro listed a w inv hr
    obtain ⟨own, mid⟩ := inv
    have hall : ∀ n i, i < n → i < ops.size → listed.getD i false = true := by
      intro n
      induction n with
      | zero => intro i h; cases h
      | succ n ih =>
        intro i hin hil
        by_cases hlt : i < n
        · exact ih i hlt hil
        · have hin' : i = n := by omega
          subst hin'
          cases hg : listed.getD i false with
          | true => rfl
          | false =>
            have ho : ops[i]? = some ops[i] := Array.getElem?_eq_getElem hil
            have h1 := hop i _ ho
            simp only [opB, Bool.and_eq_true] at h1
            have h1 := h1.1.1.1.1.1.1
            have hin2 : i ∈ Region.ready .any ops listed := mem_ready.2 ⟨by
              have : i < listed.size := by rw [mid.lsize]; exact hil
              simp [this] at hg ⊢; exact hg, _, ho, fun e he hb => by
              have h2 := Array.all_eq_true'.1 h1 e he
              simp only [hb, Bool.not_true, Bool.false_or, decide_eq_true_eq] at h2
              exact ih e.on h2 (by omega)⟩
            rw [hr] at hin2
            cases hin2
    have hal : ∀ i, i < ops.size → listed.getD i false = true := fun i hi => hall (i + 1) i (by omega) hi
    have hlt : ∀ i, listed.getD i false = true → i < ops.size := fun i hi => by
      rw [← mid.lsize]
      rcases Nat.lt_or_ge i listed.size with h | h
      · exact h
      · simp [Array.getElem?_eq_none h] at hi
    have hst : ∀ (c : Cont) (k : Nat), (∀ s ∈ c.stores.map (·.1), s < ops.size) → (c.stores.map (·.1)).length ≤ k → c.at (fun s => listed.getD s false) = c.stage k := fun c k hs hk =>
      Cont.at_stage k (fun s h => hal s (hs s (List.mem_of_mem_take h))) (fun s h => by rw [List.drop_eq_nil_of_le hk] at h; cases h)
    have hq := fin (fun d => a.tmps.getD d undef) own w mid.world mid.big (knows3_of _ (fun x hx => by
      have h1 := List.all_eq_true.1 hfw x hx
      cases x with
      | slot j =>
        simp only [finB, Bool.and_eq_true, decide_eq_true_eq] at h1
        have hoj : ops[j]? = some ops[j] := Array.getElem?_eq_getElem h1.1
        rw [hdst j _ hoj] at h1
        obtain ⟨d, hd⟩ := Option.isSome_iff_exists.1 h1.2
        have h2 := mid.known j _ d hoj hd (hal j h1.1)
        have hsl : slAt ds j = d := by unfold slAt; rw [hdst j _ hoj, hd]; rfl
        simp only [WtAt, hsl]
        cases hk : kwAt kn j with
        | val p => rw [hk] at h2; exact h2
        | new rel c => rw [hk] at h2; exact ⟨h2.1, h2.2.1, h2.2.2.lt⟩
      | cont j k =>
        simp only [finB, Bool.and_eq_true, decide_eq_true_eq] at h1
        have hoj : ops[j]? = some ops[j] := Array.getElem?_eq_getElem h1.1.1
        rw [hdst j _ hoj] at h1
        obtain ⟨d, hd⟩ := Option.isSome_iff_exists.1 h1.1.2
        have h2 := mid.known j _ d hoj hd (hal j h1.1.1)
        simp only [WtAt]
        cases hk : kwAt kn j with
        | val p => trivial
        | new rel c =>
          rw [hk] at h2
          have h3 := h1.2.1
          rw [hk] at h3
          have h4 := List.all_eq_true.1 h1.2.2
          rw [hk] at h4
          show ContOK (c.stage k) w (own j)
          rw [← hst c k (fun s hs => by simpa using h4 s hs) h3]; exact h2.2.2
      | base x k =>
        simp only [finB, Bool.and_eq_true, decide_eq_true_eq] at h1
        simp only [WtAt]
        cases hg : G[x]? with
        | none => trivial
        | some g =>
          have h2 : (sts G).getD x [] = g.2.stores.map (·.1) := by simp [sts, hg]
          rw [h2] at h1
          show ContOK (g.2.stage k) w g.1
          rw [← hst g.2 k (fun s hs => by simpa using List.all_eq_true.1 h1.2 s hs) h1.1]
          exact mid.blocks g (List.mem_of_getElem? hg)))
      (fun i j hi hj hn hn' he => mid.inj i j (hal i hi) (hal j hj) hn hn' he)
    have ha : putAll a0 (fun d => a.tmps.getD d undef) (dsts ops) = a := by
      have h1 := putAll_defers (fun d => a.tmps.getD d undef) (dsts ops) a0
      have h2 : (putAll a0 (fun d => a.tmps.getD d undef) (dsts ops)).tmps = a.tmps := by
        apply Array.ext_getElem?
        intro t
        by_cases ht : t < a0.tmps.size
        · rw [putAll_get _ _ _ _ ht]
          by_cases hm2 : t ∈ dsts ops
          · rw [if_pos hm2]
            have : t < a.tmps.size := by rw [mid.size]; exact ht
            simp [this]
          · rw [if_neg hm2]
            exact (mid.frame t (fun i o hi _ hd => hm2 (List.mem_filterMap.2 ⟨o, by simpa using Array.mem_of_getElem? hi, hd⟩))).symm
        · rw [Array.getElem?_eq_none (by rw [putAll_size]; omega), Array.getElem?_eq_none (by rw [mid.size]; omega)]
      rw [← mid.defers] at h1
      generalize putAll a0 (fun d => a.tmps.getD d undef) (dsts ops) = b at h1 h2
      cases a; cases b
      simp only at h1 h2
      rw [h1, h2]
    rw [← hdsts, ha] at hq
    exact hq
  · unfold leftOf
    exact Nat.le_trans (List.length_filter_le _ _) (by simp)
  · refine ⟨fun _ => 0, ⟨by simp, fun j oj _ hl => (by rw [getD_replicate_f] at hl; cases hl), rfl, rfl, hS0, hBig, fun _ _ => rfl, fun i o d _ _ hl => (by rw [getD_replicate_f] at hl; cases hl), fun x hx => ?_, fun i j hl => (by rw [getD_replicate_f] at hl; cases hl)⟩⟩
    have e : x.2.at (fun s => (Array.replicate ops.size false).getD s false) = x.2.stage 0 := Cont.at_stage 0 (fun s h => by simp at h) (fun s _ => getD_replicate_f _ _)
    rw [e]
    exact (hG0.at x hx).2
end
end Go.Proofs.YtpcpcgfljffkeaaDoor
/-
  Own text. The numbers beneath the words of package field: words of 64 bits, carries, four words as one number, the rest by 2^255 - 19. No program is named here.
-/
namespace Go.Proofs.YtpcpcgfljffkeaaDoor
def U64 (x : Int) : Prop := 0 ≤ x ∧ x < 18446744073709551616
def Bit (c : Int) : Prop := c = 0 ∨ c = 1
/-- lo and hi are the low word and the carry of x + y + c. -/
def Sum3 (x y c lo hi : Int) : Prop := U64 lo ∧ Bit hi ∧ lo + 18446744073709551616 * hi = x + y + c
theorem Sum3.lo {x y c lo hi : Int} (h : Sum3 x y c lo hi) : U64 lo := h.1
theorem Sum3.hi {x y c lo hi : Int} (h : Sum3 x y c lo hi) : Bit hi := h.2.1
theorem Bit.u64 {c : Int} (h : Bit c) : U64 c := by unfold Bit at h; unfold U64; omega
theorem bit0 : Bit 0 := Or.inl rfl
theorem u64_0 : U64 0 := bit0.u64
/-- Four words, the lowest first, as a number. -/
def V4 (a b c d : Int) : Int := a + 18446744073709551616 * b + 340282366920938463463374607431768211456 * c + 6277101735386680763835789423207666416102355444464034512896 * d
/-- 2^256 -/
def W256 : Int := 115792089237316195423570985008687907853269984665640564039457584007913129639936
/-- 2^255 - 19 -/
def P255 : Int := 57896044618658097711785492504343953926634992332820282019728792003956564819949
theorem V4_range {a b c d : Int} (ha : U64 a) (hb : U64 b) (hc : U64 c) (hd : U64 d) : 0 ≤ V4 a b c d ∧ V4 a b c d < W256 := by
  unfold U64 at ha hb hc hd; unfold V4 W256; omega
theorem plusWord_num {x0 x1 x2 x3 n y0 y1 y2 y3 c0 c1 c2 c3 : Int} (s0 : Sum3 x0 n 0 y0 c0) (s1 : Sum3 x1 c0 0 y1 c1) (s2 : Sum3 x2 c1 0 y2 c2) (s3 : Sum3 x3 c2 0 y3 c3) :
    V4 y0 y1 y2 y3 + W256 * c3 = V4 x0 x1 x2 x3 + n := by
  unfold Sum3 at s0 s1 s2 s3
  unfold V4 W256
  omega
theorem fold_num {X Y Z a b c : Int} (hX : 0 ≤ X ∧ X < W256) (hY : 0 ≤ Y ∧ Y < W256) (hZ : 0 ≤ Z ∧ Z < W256) (hc0 : 0 ≤ c) (hc : c ≤ 38) (ha : Bit a)
    (h1 : Y + W256 * a = X + 38 * c) (h2 : Z + W256 * b = Y + 38 * a) : ∃ k : Int, Z = X + W256 * c + k * P255 := by
  unfold W256 P255 at *
  unfold Bit at ha
  rcases ha with rfl | rfl
  · exact ⟨-2 * c, by omega⟩
  · exact ⟨-2 * c - 2, by omega⟩
theorem least_core {A R Z Y t u v a b c : Int} (hA : 0 ≤ A ∧ A < 57896044618658097711785492504343953926634992332820282019728792003956564819968) (hR : 0 ≤ R ∧ R < 57896044618658097711785492504343953926634992332820282019728792003956564819968)
    (hZ : 0 ≤ Z ∧ Z < 57896044618658097711785492504343953926634992332820282019728792003956564819968) (hY : 0 ≤ Y) (ha : Bit a) (ht : Bit t) (hu : Bit u) (hv : Bit v) (hb : Bit b) (hc : Bit c)
    (h1 : Y + W256 * a = A + 19 * t) (h2 : R + 57896044618658097711785492504343953926634992332820282019728792003956564819968 * u + W256 * b = Y + 19)
    (h3 : Z + 57896044618658097711785492504343953926634992332820282019728792003956564819968 * v + W256 * c = Y + 19 * u) :
    Z + P255 * (t + u) = A + 57896044618658097711785492504343953926634992332820282019728792003956564819968 * t ∧ 0 ≤ Z ∧ Z < P255 := by
  unfold W256 P255 at *
  unfold Bit at *
  have ea : a = 0 := by omega
  subst ea
  have eb : b = 0 := by omega
  subst eb
  have ec : c = 0 := by omega
  subst ec
  rcases hu with rfl | rfl
  · have ev : v = 0 := by omega
    subst ev
    exact ⟨by omega, by omega, by omega⟩
  · have ev : v = 1 := by omega
    subst ev
    exact ⟨by omega, by omega, by omega⟩
theorem top_bit {x : Int} (h : U64 x) : Bit (x / 9223372036854775808) := by unfold U64 at h; unfold Bit; omega
theorem low_part {a b c d : Int} (ha : U64 a) (hb : U64 b) (hc : U64 c) : 0 ≤ V4 a b c (d % 9223372036854775808) ∧ V4 a b c (d % 9223372036854775808) < 57896044618658097711785492504343953926634992332820282019728792003956564819968 := by
  unfold U64 V4 at *
  have : 0 ≤ d % 9223372036854775808 ∧ d % 9223372036854775808 < 9223372036854775808 := by omega
  omega
theorem split_top (a b c d : Int) : V4 a b c d = V4 a b c (d % 9223372036854775808) + 57896044618658097711785492504343953926634992332820282019728792003956564819968 * (d / 9223372036854775808) := by
  unfold V4
  have : d = d % 9223372036854775808 + 9223372036854775808 * (d / 9223372036854775808) := by omega
  omega
/-- least's steps. -/
theorem least_num {x0 x1 x2 x3 y0 y1 y2 y3 a r0 r1 r2 r3 b z0 z1 z2 z3 c : Int} (hx0 : U64 x0) (hx1 : U64 x1) (hx2 : U64 x2) (hx3 : U64 x3)
    (hy0 : U64 y0) (hy1 : U64 y1) (hy2 : U64 y2) (hy3 : U64 y3) (hr0 : U64 r0) (hr1 : U64 r1) (hr2 : U64 r2) (hr3 : U64 r3) (hz0 : U64 z0) (hz1 : U64 z1) (hz2 : U64 z2) (hz3 : U64 z3) (ha : Bit a) (hb : Bit b) (hc : Bit c)
    (h1 : V4 y0 y1 y2 y3 + W256 * a = V4 x0 x1 x2 (x3 % 9223372036854775808) + 19 * (x3 / 9223372036854775808))
    (h2 : V4 r0 r1 r2 r3 + W256 * b = V4 y0 y1 y2 y3 + 19)
    (h3 : V4 z0 z1 z2 z3 + W256 * c = V4 y0 y1 y2 y3 + 19 * (r3 / 9223372036854775808)) :
    V4 z0 z1 z2 (z3 % 9223372036854775808) = V4 x0 x1 x2 x3 % P255 := by
  rw [split_top r0 r1 r2 r3] at h2
  rw [split_top z0 z1 z2 z3] at h3
  obtain ⟨e, l1, l2⟩ := least_core (low_part hx0 hx1 hx2) (low_part hr0 hr1 hr2) (low_part hz0 hz1 hz2) (V4_range hy0 hy1 hy2 hy3).1 ha (top_bit hx3) (top_bit hr3) (top_bit hz3) hb hc h1 h2 h3
  rw [split_top x0 x1 x2 x3, ← e, Int.add_mul_emod_self_left, Int.emod_eq_of_lt l1 l2]
end Go.Proofs.YtpcpcgfljffkeaaDoor
/-
  Own text. What plusWord, fold and least of package field answer, for every four words: contracts over the translation.
-/
namespace Go.Proofs.YtpcpcgfljffkeaaDoor
open Go.RowKit Go.Proofs
theorem bcell {W w1 : World} (hb : Below W.heap.size W w1) : (∀ b o, b < W.heap.size → w1.cell? ⟨b, o, none⟩ = W.cell? ⟨b, o, none⟩) ∧ (∀ b o, b < W.heap.size → w1.frozen? ⟨b, o, none⟩ = W.frozen? ⟨b, o, none⟩) :=
  ⟨fun b o h => hb.cell (p := ⟨b, o, none⟩) h, fun b o h => hb.frozen (p := ⟨b, o, none⟩) h⟩
theorem and_low63 (z : Int) (h0 : 0 ≤ z) (h1 : z < 18446744073709551616) : bits .and .u64 z 9223372036854775807 = z % 9223372036854775808 := by go_bits2
theorem top19 (z : Int) (h : U64 z) : IntKind.u64.wrap (19 * (z / 9223372036854775808)) = 19 * (z / 9223372036854775808) := by
  unfold U64 at h; rw [IntKind.wrap_u64]; omega
theorem u64_mod63 (z : Int) : U64 (z % 9223372036854775808) := by unfold U64; omega
theorem u64_top19 {z : Int} (h : U64 z) : U64 (19 * (z / 9223372036854775808)) := by unfold U64 at *; omega
theorem u64_19 : U64 19 := by unfold U64; omega
theorem Hid.mk {p : Prop} (h : p) : Hid p := h
theorem add64_run (x y c : Int) (hx : U64 x) (hy : U64 y) (hc : Bit c) (w : World) :
    ∃ lo hi, Sum3 x y c lo hi ∧ (callFunc 55 #[.int .u64 x, .int .u64 y, .int .u64 c]).run Tryd.prog w =
      .ok (.value (.tuple #[.int .u64 lo, .int .u64 hi])) w := by
  unfold U64 at hx hy
  unfold Bit at hc
  refine ⟨(x + y + c) % 18446744073709551616, (x + y + c) / 18446744073709551616, ⟨⟨?_, ?_⟩, ?_, ?_⟩, ?_⟩
  · omega
  · omega
  · unfold Bit; omega
  · omega
  rw [run_callFunc_extern Tryd.func55 (by kernel_rfl) (by kernel_rfl) (by kernel_rfl) (e := add64Entry) (by kernel_rfl), run_add64 x y c (by omega) (by omega) (by omega) (by omega)]
  rfl
theorem add64_upon {o : Oper} {a : Act} {next : Act → World → Prop} {Q : Exit → Act → World → Prop} {x y c : Int} {w : World}
    (hx : U64 x) (hy : U64 y) (hc : Bit c) (h : ∀ lo hi, Sum3 x y c lo hi → U64 lo → U64 hi → Bit hi → next (a.put o.dst (.tuple #[.int .u64 lo, .int .u64 hi])) w) :
    o.upon Tryd.prog a next Q ((callFunc 55 #[.int .u64 x, .int .u64 y, .int .u64 c]).run Tryd.prog w) := by
  obtain ⟨lo, hi, hs, e⟩ := add64_run x y c hx hy hc w
  rw [e]
  exact h lo hi hs hs.lo hs.hi.u64 hs.hi
set_option maxHeartbeats 1000000 in
theorem plusWord_any (x0 x1 x2 x3 n : Int) (w : World) (h0 : U64 x0) (h1 : U64 x1) (h2 : U64 x2) (h3 : U64 x3) (hn : U64 n) :
    Calls Tryd.prog 52 #[.agg #[.int .u64 x0, .int .u64 x1, .int .u64 x2, .int .u64 x3], .int .u64 n] w fun e w' =>
      ∃ y0 y1 y2 y3 c, U64 y0 ∧ U64 y1 ∧ U64 y2 ∧ U64 y3 ∧ Bit c ∧ V4 y0 y1 y2 y3 + W256 * c = V4 x0 x1 x2 x3 + n ∧
        e = .returned (.tuple #[.agg #[.int .u64 y0, .int .u64 y1, .int .u64 y2, .int .u64 y3], .int .u64 c]) ∧
        w' = (w.alloc (.cells #[.int .u64 y0, .int .u64 y1, .int .u64 y2, .int .u64 y3] 43)).alloc (.cells #[.int .u64 y0, .int .u64 y1, .int .u64 y2, .int .u64 y3] 43) := by
  have hb0 := bit0
  go_enter Tryd.func52, Tryd.ntmps52
  go_wp2
  refine wp_loop_rounds 5 ?_
  rw [rounds_succ]
  go_wp2
  refine add64_upon (by assumption) (by assumption) (by assumption) ?_
  intro y0 c0 s0 l0 k0 b0
  go_wp2
  rw [rounds_succ]
  go_wp2
  refine add64_upon (by assumption) (by assumption) (by assumption) ?_
  intro y1 c1 s1 l1 k1 b1
  go_wp2
  rw [rounds_succ]
  go_wp2
  refine add64_upon (by assumption) (by assumption) (by assumption) ?_
  intro y2 c2 s2 l2 k2 b2
  go_wp2
  rw [rounds_succ]
  go_wp2
  refine add64_upon (by assumption) (by assumption) (by assumption) ?_
  intro y3 c3 s3 l3 k3 b3
  go_wp2
  rw [rounds_succ]
  go_wp2
  exact bodyPost_ret (v := .tuple #[.agg #[.int .u64 y0, .int .u64 y1, .int .u64 y2, .int .u64 y3], .int .u64 c3]) (by simp [results, Tryd.results52, go_sem]) rfl
    ⟨y0, y1, y2, y3, c3, l0, l1, l2, l3, b3, plusWord_num s0 s1 s2 s3, rfl, rfl⟩
set_option maxHeartbeats 1000000 in
theorem fold_any (x0 x1 x2 x3 n : Int) (w : World) (h0 : U64 x0) (h1 : U64 x1) (h2 : U64 x2) (h3 : U64 x3) (hn : 0 ≤ n) (hn2 : n ≤ 38) :
    Calls Tryd.prog 51 #[.agg #[.int .u64 x0, .int .u64 x1, .int .u64 x2, .int .u64 x3], .int .u64 n] w fun e w' =>
      ∃ y0 y1 y2 y3, U64 y0 ∧ U64 y1 ∧ U64 y2 ∧ U64 y3 ∧ (∃ k : Int, V4 y0 y1 y2 y3 = V4 x0 x1 x2 x3 + W256 * n + k * P255) ∧
        e = .returned (.agg #[.int .u64 y0, .int .u64 y1, .int .u64 y2, .int .u64 y3]) ∧ Below w.heap.size w w' := by
  go_enter Tryd.func51, Tryd.ntmps51
  go_wp2_with fail
  refine (plusWord_any _ _ _ _ _ _ h0 h1 h2 h3 (by unfold U64; omega)).mono ?_
  rintro e w1 ⟨y0, y1, y2, y3, a, hy0, hy1, hy2, hy3, ha, e1, rfl, rfl⟩
  have E1 : Hid (V4 y0 y1 y2 y3 + W256 * a = V4 x0 x1 x2 x3 + 38 * n) := e1
  clear e1
  have ha0 : 0 ≤ a := by unfold Bit at ha; omega
  have ha1 : a ≤ 1 := by unfold Bit at ha; omega
  go_wp2_with fail
  refine (plusWord_any _ _ _ _ _ _ hy0 hy1 hy2 hy3 (by unfold U64; omega)).mono ?_
  rintro e w1 ⟨z0, z1, z2, z3, b, hz0, hz1, hz2, hz3, hb, e2, rfl, rfl⟩
  have E2 : Hid (V4 z0 z1 z2 z3 + W256 * b = V4 y0 y1 y2 y3 + 38 * a) := e2
  clear e2
  go_wp2
  refine bodyPost_ret (v := .agg #[.int .u64 z0, .int .u64 z1, .int .u64 z2, .int .u64 z3]) (by simp [results, Tryd.results51, go_sem]) rfl
    ⟨z0, z1, z2, z3, hz0, hz1, hz2, hz3, fold_num (V4_range h0 h1 h2 h3) (V4_range hy0 hy1 hy2 hy3) (V4_range hz0 hz1 hz2 hz3) hn hn2 ha E1.out E2.out, rfl, ?_⟩
  repeat first | exact Below.refl _ _ | refine Below.alloc ?_ (by simp <;> omega) _
set_option maxHeartbeats 1000000 in
theorem least_any (x0 x1 x2 x3 : Int) (w : World) (h0 : U64 x0) (h1 : U64 x1) (h2 : U64 x2) (h3 : U64 x3) :
    Calls Tryd.prog 37 #[.agg #[.int .u64 x0, .int .u64 x1, .int .u64 x2, .int .u64 x3]] w fun e w' =>
      ∃ y0 y1 y2 y3, U64 y0 ∧ U64 y1 ∧ U64 y2 ∧ U64 y3 ∧ V4 y0 y1 y2 y3 = V4 x0 x1 x2 x3 % P255 ∧
        e = .returned (.agg #[.int .u64 y0, .int .u64 y1, .int .u64 y2, .int .u64 y3]) ∧ Below w.heap.size w w' := by
  have m3 := and_low63 x3 h3.1 h3.2
  have t3 := top19 x3 h3
  go_enter Tryd.func37, Tryd.ntmps37
  go_wp2_with fail
  refine (plusWord_any _ _ _ _ _ _ h0 h1 h2 (u64_mod63 x3) (u64_top19 h3)).mono ?_
  rintro e w1 ⟨y0, y1, y2, y3, a, hy0, hy1, hy2, hy3, ha, e1, rfl, rfl⟩
  have E1 := Hid.mk e1
  clear e1
  go_wp2_with fail
  refine (plusWord_any _ _ _ _ _ _ hy0 hy1 hy2 hy3 u64_19).mono ?_
  rintro e w1 ⟨r0, r1, r2, r3, b, hr0, hr1, hr2, hr3, hb, e2, rfl, rfl⟩
  have E2 := Hid.mk e2
  clear e2
  have tr := top19 r3 hr3
  go_wp2_with fail
  refine (plusWord_any _ _ _ _ _ _ hy0 hy1 hy2 hy3 (u64_top19 hr3)).mono ?_
  rintro e w1 ⟨z0, z1, z2, z3, c, hz0, hz1, hz2, hz3, hc, e3, rfl, rfl⟩
  have E3 := Hid.mk e3
  clear e3
  have mz := and_low63 z3 hz3.1 hz3.2
  go_wp2
  refine bodyPost_ret (v := .agg #[.int .u64 z0, .int .u64 z1, .int .u64 z2, .int .u64 (z3 % 9223372036854775808)]) (by simp [results, Tryd.results37, go_sem]) rfl
    ⟨z0, z1, z2, _, hz0, hz1, hz2, u64_mod63 z3, least_num h0 h1 h2 h3 hy0 hy1 hy2 hy3 hr0 hr1 hr2 hr3 hz0 hz1 hz2 hz3 ha hb hc E1.out E2.out E3.out, rfl, ?_⟩
  repeat first | exact Below.refl _ _ | refine Below.alloc ?_ (by simp <;> omega) _
end Go.Proofs.YtpcpcgfljffkeaaDoor
/-
  Own text. What word, load, putWord and store of package field answer, for every 32 bytes and every four words: contracts over the translation.
-/
namespace Go.Proofs.YtpcpcgfljffkeaaDoor
open Go.RowKit Go.Proofs
def Byte (x : Int) : Prop := 0 ≤ x ∧ x < 256
theorem or_shift (a b : Int) (k : Nat) (ha : 0 ≤ a) (hb : 0 ≤ b) (hk : a < 2 ^ k) (hs : a + b * 2 ^ k < 18446744073709551616) :
    bits BinOp.or IntKind.u64 a (b * 2 ^ k) = a + b * 2 ^ k := by
  obtain ⟨A, rfl⟩ := Int.eq_ofNat_of_zero_le ha
  obtain ⟨B, rfl⟩ := Int.eq_ofNat_of_zero_le hb
  have e : ((B : Int) * 2 ^ k) = ((B * 2 ^ k : Nat) : Int) := by rw [Int.natCast_mul, Int.natCast_pow]; rfl
  have hA : A < 2 ^ k := by exact_mod_cast hk
  rw [e] at hs ⊢
  rw [bits_or_u64_nat _ _ (by omega) (by omega), Nat.or_comm, Nat.mul_comm, ← Nat.two_pow_add_eq_or_of_lt hA B]
  omega
theorem wrap_u64_id (z : Int) (h0 : 0 ≤ z) (h1 : z < 18446744073709551616) : IntKind.u64.wrap z = z := by rw [IntKind.wrap_u64]; omega
theorem or_256 (a b : Int) (ha : 0 ≤ a) (h : a < 256) (hb : Byte b) : bits BinOp.or IntKind.u64 a (IntKind.u64.wrap (IntKind.u64.wrap b * 256)) = a + b * 256 := by
  unfold Byte at hb
  rw [wrap_u64_id b (by omega) (by omega), wrap_u64_id _ (by omega) (by omega)]
  exact or_shift a b 8 ha hb.1 h (by omega)
theorem word_num (x0 x1 x2 x3 x4 x5 x6 x7 : Int) (h0 : Byte x0) (h1 : Byte x1) (h2 : Byte x2) (h3 : Byte x3) (h4 : Byte x4) (h5 : Byte x5) (h6 : Byte x6) (h7 : Byte x7) :
    bits BinOp.or IntKind.u64
      (bits BinOp.or IntKind.u64
        (bits BinOp.or IntKind.u64
          (bits BinOp.or IntKind.u64
            (bits BinOp.or IntKind.u64
              (bits BinOp.or IntKind.u64
                (bits BinOp.or IntKind.u64 (IntKind.u64.wrap x0)
                  (IntKind.u64.wrap (IntKind.u64.wrap x1 * 256)))
                (IntKind.u64.wrap (IntKind.u64.wrap x2 * 65536)))
              (IntKind.u64.wrap (IntKind.u64.wrap x3 * 16777216)))
            (IntKind.u64.wrap (IntKind.u64.wrap x4 * 4294967296)))
          (IntKind.u64.wrap (IntKind.u64.wrap x5 * 1099511627776)))
        (IntKind.u64.wrap (IntKind.u64.wrap x6 * 281474976710656)))
      (IntKind.u64.wrap (IntKind.u64.wrap x7 * 72057594037927936)) =
    x0 + x1 * 256 + x2 * 65536 + x3 * 16777216 + x4 * 4294967296 + x5 * 1099511627776 + x6 * 281474976710656 + x7 * 72057594037927936 := by
  unfold Byte at *
  rw [wrap_u64_id x0 (by omega) (by omega), wrap_u64_id x1 (by omega) (by omega), wrap_u64_id x2 (by omega) (by omega), wrap_u64_id x3 (by omega) (by omega),
    wrap_u64_id x4 (by omega) (by omega), wrap_u64_id x5 (by omega) (by omega), wrap_u64_id x6 (by omega) (by omega), wrap_u64_id x7 (by omega) (by omega)]
  rw [wrap_u64_id (x1 * 256) (by omega) (by omega), wrap_u64_id (x2 * 65536) (by omega) (by omega), wrap_u64_id (x3 * 16777216) (by omega) (by omega),
    wrap_u64_id (x4 * 4294967296) (by omega) (by omega), wrap_u64_id (x5 * 1099511627776) (by omega) (by omega), wrap_u64_id (x6 * 281474976710656) (by omega) (by omega), wrap_u64_id (x7 * 72057594037927936) (by omega) (by omega)]
  rw [show bits BinOp.or IntKind.u64 x0 (x1 * 256) = x0 + x1 * 256 from or_shift _ _ 8 (by omega) (by omega) (by omega) (by omega)]
  rw [show bits BinOp.or IntKind.u64 (x0 + x1 * 256) (x2 * 65536) = x0 + x1 * 256 + x2 * 65536 from or_shift _ _ 16 (by omega) (by omega) (by omega) (by omega)]
  rw [show bits BinOp.or IntKind.u64 (x0 + x1 * 256 + x2 * 65536) (x3 * 16777216) = x0 + x1 * 256 + x2 * 65536 + x3 * 16777216 from or_shift _ _ 24 (by omega) (by omega) (by omega) (by omega)]
  rw [show bits BinOp.or IntKind.u64 (x0 + x1 * 256 + x2 * 65536 + x3 * 16777216) (x4 * 4294967296) = x0 + x1 * 256 + x2 * 65536 + x3 * 16777216 + x4 * 4294967296 from or_shift _ _ 32 (by omega) (by omega) (by omega) (by omega)]
  rw [show bits BinOp.or IntKind.u64 (x0 + x1 * 256 + x2 * 65536 + x3 * 16777216 + x4 * 4294967296) (x5 * 1099511627776) = x0 + x1 * 256 + x2 * 65536 + x3 * 16777216 + x4 * 4294967296 + x5 * 1099511627776 from or_shift _ _ 40 (by omega) (by omega) (by omega) (by omega)]
  rw [show bits BinOp.or IntKind.u64 (x0 + x1 * 256 + x2 * 65536 + x3 * 16777216 + x4 * 4294967296 + x5 * 1099511627776) (x6 * 281474976710656) = x0 + x1 * 256 + x2 * 65536 + x3 * 16777216 + x4 * 4294967296 + x5 * 1099511627776 + x6 * 281474976710656 from or_shift _ _ 48 (by omega) (by omega) (by omega) (by omega)]
  exact or_shift _ _ 56 (by omega) (by omega) (by omega) (by omega)
/-- Eight bytes, the lowest first, as a number. -/
def V8 (x0 x1 x2 x3 x4 x5 x6 x7 : Int) : Int := x0 + x1 * 256 + x2 * 65536 + x3 * 16777216 + x4 * 4294967296 + x5 * 1099511627776 + x6 * 281474976710656 + x7 * 72057594037927936
theorem V8_u64 {x0 x1 x2 x3 x4 x5 x6 x7 : Int} (h0 : Byte x0) (h1 : Byte x1) (h2 : Byte x2) (h3 : Byte x3) (h4 : Byte x4) (h5 : Byte x5) (h6 : Byte x6) (h7 : Byte x7) : U64 (V8 x0 x1 x2 x3 x4 x5 x6 x7) := by
  unfold U64 V8 Byte at *; omega
theorem ret_int {k : IntKind} {a b : Int} (h : a = b) : Ending.returned (.int k a) = .returned (.int k b) := by rw [h]
set_option maxHeartbeats 1000000 in
theorem word_any (b off cap : Nat) (x0 x1 x2 x3 x4 x5 x6 x7 : Int) (w : World) (h0 : Byte x0) (h1 : Byte x1) (h2 : Byte x2) (h3 : Byte x3) (h4 : Byte x4) (h5 : Byte x5) (h6 : Byte x6) (h7 : Byte x7)
    (c0 : w.cell? ⟨b, off, none⟩ = some (.int .u8 x0)) (c1 : w.cell? ⟨b, off + 1, none⟩ = some (.int .u8 x1))
    (c2 : w.cell? ⟨b, off + 2, none⟩ = some (.int .u8 x2)) (c3 : w.cell? ⟨b, off + 3, none⟩ = some (.int .u8 x3))
    (c4 : w.cell? ⟨b, off + 4, none⟩ = some (.int .u8 x4)) (c5 : w.cell? ⟨b, off + 5, none⟩ = some (.int .u8 x5))
    (c6 : w.cell? ⟨b, off + 6, none⟩ = some (.int .u8 x6)) (c7 : w.cell? ⟨b, off + 7, none⟩ = some (.int .u8 x7)) :
    Calls Tryd.prog 39 #[.slice (some ⟨b, off, none⟩) 8 cap] w fun e w' => e = .returned (.int .u64 (V8 x0 x1 x2 x3 x4 x5 x6 x7)) ∧ ∃ n, w' = w.drewN n := by
  go_enter Tryd.func39, Tryd.ntmps39
  go_wp2
  go_quiet (fail)
  go_wp2
  go_ret
  exact ⟨ret_int (word_num x0 x1 x2 x3 x4 x5 x6 x7 h0 h1 h2 h3 h4 h5 h6 h7), _, rfl⟩
end Go.Proofs.YtpcpcgfljffkeaaDoor
/-
  Own text. What load and putWord of package field answer, for every 32 bytes and every word: contracts over the translation.
-/
namespace Go.Proofs.YtpcpcgfljffkeaaDoor
open Go.RowKit Go.Proofs
/-- 32 bytes as cells: the number's bytes, the lowest first. -/
def byt (n : Int) (i : Nat) : Int := n / 256 ^ i % 256
def BA (n : Int) : Array Value := ((List.range 32).map fun i => Value.int .u8 (byt n i)).toArray
theorem BA_size (n : Int) : (BA n).size = 32 := by simp [BA]
theorem BA_get (n : Int) (i : Nat) (h : i < 32) : (BA n)[i]? = some (.int .u8 (byt n i)) := by
  simp [BA, h]
theorem byt_byte (n : Int) (i : Nat) : Byte (byt n i) := by unfold byt Byte; omega
def limb (n : Int) (k : Nat) : Int := n / 256 ^ k % 18446744073709551616
theorem limb_u64 (n : Int) (k : Nat) : U64 (limb n k) := by unfold limb U64; omega
theorem limb_eq (n : Int) (k : Nat) : V8 (byt n k) (byt n (k + 1)) (byt n (k + 2)) (byt n (k + 3)) (byt n (k + 4)) (byt n (k + 5)) (byt n (k + 6)) (byt n (k + 7)) = limb n k := by
  unfold V8 byt limb
  have e : ∀ j : Nat, n / 256 ^ (k + j) = n / 256 ^ k / 256 ^ j := fun j => by rw [Int.pow_add, Int.ediv_ediv_of_nonneg (Int.pow_nonneg (by decide))]
  rw [e 1, e 2, e 3, e 4, e 5, e 6, e 7]
  generalize n / 256 ^ k = z
  simp only [Int.pow_succ, Int.pow_zero, Int.reduceMul, Int.one_mul]
  omega
theorem Below.drewN' {B : Nat} {a w : World} (h : Below B a w) (n : Nat) : Below B a (w.drewN n) := ⟨h.os, h.tape, h.output, h.size, h.block⟩
theorem word_of (n : Int) (b k cap : Nat) (w : World) (hk : k + 8 ≤ 32) (hc : ∀ i, i < 32 → w.cell? ⟨b, i, none⟩ = some (.int .u8 (byt n i))) :
    Calls Tryd.prog 39 #[.slice (some ⟨b, k, none⟩) 8 cap] w fun e w' => e = .returned (.int .u64 (limb n k)) ∧ ∃ m, w' = w.drewN m := by
  rw [← limb_eq]
  exact word_any b k cap _ _ _ _ _ _ _ _ w (byt_byte _ _) (byt_byte _ _) (byt_byte _ _) (byt_byte _ _) (byt_byte _ _) (byt_byte _ _) (byt_byte _ _) (byt_byte _ _)
    (hc _ (by omega)) (hc _ (by omega)) (hc _ (by omega)) (hc _ (by omega)) (hc _ (by omega)) (hc _ (by omega)) (hc _ (by omega)) (hc _ (by omega))
set_option maxHeartbeats 1000000 in
theorem load_any (n : Int) (w : World) :
    Calls Tryd.prog 26 #[.agg (BA n)] w fun e w' => e = .returned (.agg #[.int .u64 (limb n 0), .int .u64 (limb n 8), .int .u64 (limb n 16), .int .u64 (limb n 24)]) ∧ Below w.heap.size w w' := by
  have hsz := BA_size n
  go_enter Tryd.func26, Tryd.ntmps26
  go_wp2
  go_region_with (go_at_call 39; refine (word_of n _ _ _ _ ?_ ?_).mono ?_; omega; exact (fun i hi => (cell_of_row _ _ i _ _ (0, 0) (heap_alloc2_old w _ _)).trans (BA_get n i hi)); rintro e w' ⟨rfl, m, rfl⟩)
  go_wp2
  refine bodyPost_ret (v := .agg #[.int .u64 (limb n 0), .int .u64 (limb n 8), .int .u64 (limb n 16), .int .u64 (limb n 24)]) (by simp [results, Tryd.results26, go_sem]) rfl ⟨rfl, ?_⟩
  repeat first | exact Below.refl _ _ | refine Below.alloc ?_ (by simp <;> omega) _ | refine Below.setCell ?_ (by simp <;> omega) _ | refine Below.drewN' ?_ _
set_option maxHeartbeats 1000000 in
theorem putWord_walk (b off cap : Nat) (x : Int) (v0 v1 v2 v3 v4 v5 v6 v7 : Value) (w : World)
    (c0 : w.cell? ⟨b, off, none⟩ = some v0) (c1 : w.cell? ⟨b, off + 1, none⟩ = some v1)
    (c2 : w.cell? ⟨b, off + 2, none⟩ = some v2) (c3 : w.cell? ⟨b, off + 3, none⟩ = some v3)
    (c4 : w.cell? ⟨b, off + 4, none⟩ = some v4) (c5 : w.cell? ⟨b, off + 5, none⟩ = some v5)
    (c6 : w.cell? ⟨b, off + 6, none⟩ = some v6) (c7 : w.cell? ⟨b, off + 7, none⟩ = some v7)
    (f0 : w.frozen? ⟨b, off, none⟩ = false) (f1 : w.frozen? ⟨b, off + 1, none⟩ = false)
    (f2 : w.frozen? ⟨b, off + 2, none⟩ = false) (f3 : w.frozen? ⟨b, off + 3, none⟩ = false)
    (f4 : w.frozen? ⟨b, off + 4, none⟩ = false) (f5 : w.frozen? ⟨b, off + 5, none⟩ = false)
    (f6 : w.frozen? ⟨b, off + 6, none⟩ = false) (f7 : w.frozen? ⟨b, off + 7, none⟩ = false) :
    Calls Tryd.prog 38 #[.slice (some ⟨b, off, none⟩) 8 cap, .int .u64 x] w fun e w' => e = .returned (.tuple #[]) ∧
      w' = (((((((w.setCell ⟨b, off, none⟩ (.int .u8 (x % 256))).setCell ⟨b, off + 1, none⟩ (.int .u8 (x / 256 % 256))).setCell ⟨b, off + 2, none⟩ (.int .u8 (x / 65536 % 256))).setCell
        ⟨b, off + 3, none⟩ (.int .u8 (x / 16777216 % 256))).setCell ⟨b, off + 4, none⟩ (.int .u8 (x / 4294967296 % 256))).setCell ⟨b, off + 5, none⟩ (.int .u8 (x / 1099511627776 % 256))).setCell
        ⟨b, off + 6, none⟩ (.int .u8 (x / 281474976710656 % 256))).setCell ⟨b, off + 7, none⟩ (.int .u8 (x / 72057594037927936 % 256)) := by
  go_enter Tryd.func38, Tryd.ntmps38
  go_wp2
  go_end0
  exact ⟨rfl, rfl⟩
/-- All but block b is as it was. -/
structure Only (b : Nat) (w w' : World) : Prop where
  os : w'.os = w.os
  tape : w'.tape = w.tape
  output : w'.output = w.output
  size : w'.heap.size = w.heap.size
  block : ∀ k, k ≠ b → w'.heap[k]? = w.heap[k]?
theorem Only.setCell {b : Nat} {w w' : World} (h : Only b w w') (i : Nat) (v : Value) : Only b w (w'.setCell ⟨b, i, none⟩ v) :=
  ⟨h.os, h.tape, h.output, by rw [← h.size]; simp [World.setCell], fun k hk => by rw [Below.heap_setCell _ _ _ _ hk]; exact h.block k hk⟩
theorem Only.refl (b : Nat) (w : World) : Only b w w := ⟨rfl, rfl, rfl, rfl, fun _ _ => rfl⟩
theorem Only.cell {b : Nat} {w w' : World} (h : Only b w w') (k i : Nat) (hk : k ≠ b) : w'.cell? ⟨k, i, none⟩ = w.cell? ⟨k, i, none⟩ := World.cell?_of_block (w := w) (h.block k hk)
theorem Only.below {b B : Nat} {w w' : World} (h : Only b w w') (hb : B ≤ b) : Below B w w' := ⟨h.os, h.tape, h.output, by rw [h.size]; exact Nat.le_refl _, fun k hk => h.block k (by omega)⟩
/-- The eight bytes of a word, laid from off on. -/
def put8 (cs : Array Value) (off : Nat) (x : Int) : Array Value :=
  (((((((cs.setIfInBounds off (.int .u8 (x % 256))).setIfInBounds (off + 1) (.int .u8 (x / 256 % 256))).setIfInBounds (off + 2) (.int .u8 (x / 65536 % 256))).setIfInBounds
    (off + 3) (.int .u8 (x / 16777216 % 256))).setIfInBounds (off + 4) (.int .u8 (x / 4294967296 % 256))).setIfInBounds (off + 5) (.int .u8 (x / 1099511627776 % 256))).setIfInBounds
    (off + 6) (.int .u8 (x / 281474976710656 % 256))).setIfInBounds (off + 7) (.int .u8 (x / 72057594037927936 % 256))
theorem put8_size (cs : Array Value) (off : Nat) (x : Int) : (put8 cs off x).size = cs.size := by simp [put8]
theorem putWord_any (b off cap : Nat) (x : Int) (cs : Array Value) (t : TypeId) (w : World) (hg : w.heap[b]? = some (.cells cs t (0, 0))) (ho : off + 8 ≤ cs.size) :
    Calls Tryd.prog 38 #[.slice (some ⟨b, off, none⟩) 8 cap, .int .u64 x] w fun e w' => e = .returned (.tuple #[]) ∧ w'.heap[b]? = some (.cells (put8 cs off x) t (0, 0)) ∧ Only b w w' := by
  have c : ∀ i, i < 8 → ∃ v, w.cell? ⟨b, off + i, none⟩ = some v := fun i hi => ⟨cs[off + i]'(by omega), by rw [cell_of_row w b (off + i) cs t _ hg]; exact Array.getElem?_eq_getElem (by omega)⟩
  have f : ∀ i, w.frozen? ⟨b, i, none⟩ = false := fun i => frozen_of_row w b i cs t hg
  obtain ⟨v0, c0⟩ := c 0 (by omega)
  obtain ⟨v1, c1⟩ := c 1 (by omega)
  obtain ⟨v2, c2⟩ := c 2 (by omega)
  obtain ⟨v3, c3⟩ := c 3 (by omega)
  obtain ⟨v4, c4⟩ := c 4 (by omega)
  obtain ⟨v5, c5⟩ := c 5 (by omega)
  obtain ⟨v6, c6⟩ := c 6 (by omega)
  obtain ⟨v7, c7⟩ := c 7 (by omega)
  refine (putWord_walk b off cap x v0 v1 v2 v3 v4 v5 v6 v7 w c0 c1 c2 c3 c4 c5 c6 c7 (f _) (f _) (f _) (f _) (f _) (f _) (f _) (f _)).mono ?_
  rintro e w' ⟨rfl, rfl⟩
  refine ⟨rfl, ?_, ((((((((Only.refl b w).setCell _ _).setCell _ _).setCell _ _).setCell _ _).setCell _ _).setCell _ _).setCell _ _).setCell _ _⟩
  unfold put8
  exact heap_setCell_same _ b _ _ t _ (heap_setCell_same _ b _ _ t _ (heap_setCell_same _ b _ _ t _ (heap_setCell_same _ b _ _ t _ (heap_setCell_same _ b _ _ t _ (heap_setCell_same _ b _ _ t _ (heap_setCell_same _ b _ _ t _ (heap_setCell_same _ b _ _ t _ hg)))))))
end Go.Proofs.YtpcpcgfljffkeaaDoor
/-
  Own text. What store of package field answers, for every four words: a contract over the translation; and laws for whole rows in whatever world.
-/
namespace Go.Proofs.YtpcpcgfljffkeaaDoor
open Go.RowKit Go.Proofs
theorem byt_V4_0 {y0 y1 y2 y3 : Int} (_h0 : U64 y0) (_h1 : U64 y1) (_h2 : U64 y2) (_h3 : U64 y3) : byt (V4 y0 y1 y2 y3) 0 = y0 % 256 := by
  unfold U64 at *; unfold byt V4; omega
theorem byt_V4_1 {y0 y1 y2 y3 : Int} (_h0 : U64 y0) (_h1 : U64 y1) (_h2 : U64 y2) (_h3 : U64 y3) : byt (V4 y0 y1 y2 y3) 1 = y0 / 256 % 256 := by
  unfold U64 at *; unfold byt V4; omega
theorem byt_V4_2 {y0 y1 y2 y3 : Int} (_h0 : U64 y0) (_h1 : U64 y1) (_h2 : U64 y2) (_h3 : U64 y3) : byt (V4 y0 y1 y2 y3) 2 = y0 / 65536 % 256 := by
  unfold U64 at *; unfold byt V4; omega
theorem byt_V4_3 {y0 y1 y2 y3 : Int} (_h0 : U64 y0) (_h1 : U64 y1) (_h2 : U64 y2) (_h3 : U64 y3) : byt (V4 y0 y1 y2 y3) 3 = y0 / 16777216 % 256 := by
  unfold U64 at *; unfold byt V4; omega
theorem byt_V4_4 {y0 y1 y2 y3 : Int} (_h0 : U64 y0) (_h1 : U64 y1) (_h2 : U64 y2) (_h3 : U64 y3) : byt (V4 y0 y1 y2 y3) 4 = y0 / 4294967296 % 256 := by
  unfold U64 at *; unfold byt V4; omega
theorem byt_V4_5 {y0 y1 y2 y3 : Int} (_h0 : U64 y0) (_h1 : U64 y1) (_h2 : U64 y2) (_h3 : U64 y3) : byt (V4 y0 y1 y2 y3) 5 = y0 / 1099511627776 % 256 := by
  unfold U64 at *; unfold byt V4; omega
theorem byt_V4_6 {y0 y1 y2 y3 : Int} (_h0 : U64 y0) (_h1 : U64 y1) (_h2 : U64 y2) (_h3 : U64 y3) : byt (V4 y0 y1 y2 y3) 6 = y0 / 281474976710656 % 256 := by
  unfold U64 at *; unfold byt V4; omega
theorem byt_V4_7 {y0 y1 y2 y3 : Int} (_h0 : U64 y0) (_h1 : U64 y1) (_h2 : U64 y2) (_h3 : U64 y3) : byt (V4 y0 y1 y2 y3) 7 = y0 / 72057594037927936 % 256 := by
  unfold U64 at *; unfold byt V4; omega
theorem byt_V4_8 {y0 y1 y2 y3 : Int} (_h0 : U64 y0) (_h1 : U64 y1) (_h2 : U64 y2) (_h3 : U64 y3) : byt (V4 y0 y1 y2 y3) 8 = y1 % 256 := by
  unfold U64 at *; unfold byt V4; omega
theorem byt_V4_9 {y0 y1 y2 y3 : Int} (_h0 : U64 y0) (_h1 : U64 y1) (_h2 : U64 y2) (_h3 : U64 y3) : byt (V4 y0 y1 y2 y3) 9 = y1 / 256 % 256 := by
  unfold U64 at *; unfold byt V4; omega
theorem byt_V4_10 {y0 y1 y2 y3 : Int} (_h0 : U64 y0) (_h1 : U64 y1) (_h2 : U64 y2) (_h3 : U64 y3) : byt (V4 y0 y1 y2 y3) 10 = y1 / 65536 % 256 := by
  unfold U64 at *; unfold byt V4; omega
theorem byt_V4_11 {y0 y1 y2 y3 : Int} (_h0 : U64 y0) (_h1 : U64 y1) (_h2 : U64 y2) (_h3 : U64 y3) : byt (V4 y0 y1 y2 y3) 11 = y1 / 16777216 % 256 := by
  unfold U64 at *; unfold byt V4; omega
theorem byt_V4_12 {y0 y1 y2 y3 : Int} (_h0 : U64 y0) (_h1 : U64 y1) (_h2 : U64 y2) (_h3 : U64 y3) : byt (V4 y0 y1 y2 y3) 12 = y1 / 4294967296 % 256 := by
  unfold U64 at *; unfold byt V4; omega
theorem byt_V4_13 {y0 y1 y2 y3 : Int} (_h0 : U64 y0) (_h1 : U64 y1) (_h2 : U64 y2) (_h3 : U64 y3) : byt (V4 y0 y1 y2 y3) 13 = y1 / 1099511627776 % 256 := by
  unfold U64 at *; unfold byt V4; omega
theorem byt_V4_14 {y0 y1 y2 y3 : Int} (_h0 : U64 y0) (_h1 : U64 y1) (_h2 : U64 y2) (_h3 : U64 y3) : byt (V4 y0 y1 y2 y3) 14 = y1 / 281474976710656 % 256 := by
  unfold U64 at *; unfold byt V4; omega
theorem byt_V4_15 {y0 y1 y2 y3 : Int} (_h0 : U64 y0) (_h1 : U64 y1) (_h2 : U64 y2) (_h3 : U64 y3) : byt (V4 y0 y1 y2 y3) 15 = y1 / 72057594037927936 % 256 := by
  unfold U64 at *; unfold byt V4; omega
theorem byt_V4_16 {y0 y1 y2 y3 : Int} (_h0 : U64 y0) (_h1 : U64 y1) (_h2 : U64 y2) (_h3 : U64 y3) : byt (V4 y0 y1 y2 y3) 16 = y2 % 256 := by
  unfold U64 at *; unfold byt V4; omega
theorem byt_V4_17 {y0 y1 y2 y3 : Int} (_h0 : U64 y0) (_h1 : U64 y1) (_h2 : U64 y2) (_h3 : U64 y3) : byt (V4 y0 y1 y2 y3) 17 = y2 / 256 % 256 := by
  unfold U64 at *; unfold byt V4; omega
theorem byt_V4_18 {y0 y1 y2 y3 : Int} (_h0 : U64 y0) (_h1 : U64 y1) (_h2 : U64 y2) (_h3 : U64 y3) : byt (V4 y0 y1 y2 y3) 18 = y2 / 65536 % 256 := by
  unfold U64 at *; unfold byt V4; omega
theorem byt_V4_19 {y0 y1 y2 y3 : Int} (_h0 : U64 y0) (_h1 : U64 y1) (_h2 : U64 y2) (_h3 : U64 y3) : byt (V4 y0 y1 y2 y3) 19 = y2 / 16777216 % 256 := by
  unfold U64 at *; unfold byt V4; omega
theorem byt_V4_20 {y0 y1 y2 y3 : Int} (_h0 : U64 y0) (_h1 : U64 y1) (_h2 : U64 y2) (_h3 : U64 y3) : byt (V4 y0 y1 y2 y3) 20 = y2 / 4294967296 % 256 := by
  unfold U64 at *; unfold byt V4; omega
theorem byt_V4_21 {y0 y1 y2 y3 : Int} (_h0 : U64 y0) (_h1 : U64 y1) (_h2 : U64 y2) (_h3 : U64 y3) : byt (V4 y0 y1 y2 y3) 21 = y2 / 1099511627776 % 256 := by
  unfold U64 at *; unfold byt V4; omega
theorem byt_V4_22 {y0 y1 y2 y3 : Int} (_h0 : U64 y0) (_h1 : U64 y1) (_h2 : U64 y2) (_h3 : U64 y3) : byt (V4 y0 y1 y2 y3) 22 = y2 / 281474976710656 % 256 := by
  unfold U64 at *; unfold byt V4; omega
theorem byt_V4_23 {y0 y1 y2 y3 : Int} (_h0 : U64 y0) (_h1 : U64 y1) (_h2 : U64 y2) (_h3 : U64 y3) : byt (V4 y0 y1 y2 y3) 23 = y2 / 72057594037927936 % 256 := by
  unfold U64 at *; unfold byt V4; omega
theorem byt_V4_24 {y0 y1 y2 y3 : Int} (_h0 : U64 y0) (_h1 : U64 y1) (_h2 : U64 y2) (_h3 : U64 y3) : byt (V4 y0 y1 y2 y3) 24 = y3 % 256 := by
  unfold U64 at *; unfold byt V4; omega
theorem byt_V4_25 {y0 y1 y2 y3 : Int} (_h0 : U64 y0) (_h1 : U64 y1) (_h2 : U64 y2) (_h3 : U64 y3) : byt (V4 y0 y1 y2 y3) 25 = y3 / 256 % 256 := by
  unfold U64 at *; unfold byt V4; omega
theorem byt_V4_26 {y0 y1 y2 y3 : Int} (_h0 : U64 y0) (_h1 : U64 y1) (_h2 : U64 y2) (_h3 : U64 y3) : byt (V4 y0 y1 y2 y3) 26 = y3 / 65536 % 256 := by
  unfold U64 at *; unfold byt V4; omega
theorem byt_V4_27 {y0 y1 y2 y3 : Int} (_h0 : U64 y0) (_h1 : U64 y1) (_h2 : U64 y2) (_h3 : U64 y3) : byt (V4 y0 y1 y2 y3) 27 = y3 / 16777216 % 256 := by
  unfold U64 at *; unfold byt V4; omega
theorem byt_V4_28 {y0 y1 y2 y3 : Int} (_h0 : U64 y0) (_h1 : U64 y1) (_h2 : U64 y2) (_h3 : U64 y3) : byt (V4 y0 y1 y2 y3) 28 = y3 / 4294967296 % 256 := by
  unfold U64 at *; unfold byt V4; omega
theorem byt_V4_29 {y0 y1 y2 y3 : Int} (_h0 : U64 y0) (_h1 : U64 y1) (_h2 : U64 y2) (_h3 : U64 y3) : byt (V4 y0 y1 y2 y3) 29 = y3 / 1099511627776 % 256 := by
  unfold U64 at *; unfold byt V4; omega
theorem byt_V4_30 {y0 y1 y2 y3 : Int} (_h0 : U64 y0) (_h1 : U64 y1) (_h2 : U64 y2) (_h3 : U64 y3) : byt (V4 y0 y1 y2 y3) 30 = y3 / 281474976710656 % 256 := by
  unfold U64 at *; unfold byt V4; omega
theorem byt_V4_31 {y0 y1 y2 y3 : Int} (_h0 : U64 y0) (_h1 : U64 y1) (_h2 : U64 y2) (_h3 : U64 y3) : byt (V4 y0 y1 y2 y3) 31 = y3 / 72057594037927936 % 256 := by
  unfold U64 at *; unfold byt V4; omega
theorem range32 : List.range 32 = [0, 1, 2, 3, 4, 5, 6, 7, 8, 9, 10, 11, 12, 13, 14, 15, 16, 17, 18, 19, 20, 21, 22, 23, 24, 25, 26, 27, 28, 29, 30, 31] := rfl
theorem put8_all {y0 y1 y2 y3 : Int} (h0 : U64 y0) (h1 : U64 y1) (h2 : U64 y2) (h3 : U64 y3) : put8 (put8 (put8 (put8 (BA 0) 0 y0) 8 y1) 16 y2) 24 y3 = BA (V4 y0 y1 y2 y3) := by
  simp only [put8, BA, range32, List.map_cons, List.map_nil, List.setIfInBounds_toArray, List.set_cons_zero, List.set_cons_succ, Nat.reduceAdd]
  rw [byt_V4_0 h0 h1 h2 h3]
  rw [byt_V4_1 h0 h1 h2 h3]
  rw [byt_V4_2 h0 h1 h2 h3]
  rw [byt_V4_3 h0 h1 h2 h3]
  rw [byt_V4_4 h0 h1 h2 h3]
  rw [byt_V4_5 h0 h1 h2 h3]
  rw [byt_V4_6 h0 h1 h2 h3]
  rw [byt_V4_7 h0 h1 h2 h3]
  rw [byt_V4_8 h0 h1 h2 h3]
  rw [byt_V4_9 h0 h1 h2 h3]
  rw [byt_V4_10 h0 h1 h2 h3]
  rw [byt_V4_11 h0 h1 h2 h3]
  rw [byt_V4_12 h0 h1 h2 h3]
  rw [byt_V4_13 h0 h1 h2 h3]
  rw [byt_V4_14 h0 h1 h2 h3]
  rw [byt_V4_15 h0 h1 h2 h3]
  rw [byt_V4_16 h0 h1 h2 h3]
  rw [byt_V4_17 h0 h1 h2 h3]
  rw [byt_V4_18 h0 h1 h2 h3]
  rw [byt_V4_19 h0 h1 h2 h3]
  rw [byt_V4_20 h0 h1 h2 h3]
  rw [byt_V4_21 h0 h1 h2 h3]
  rw [byt_V4_22 h0 h1 h2 h3]
  rw [byt_V4_23 h0 h1 h2 h3]
  rw [byt_V4_24 h0 h1 h2 h3]
  rw [byt_V4_25 h0 h1 h2 h3]
  rw [byt_V4_26 h0 h1 h2 h3]
  rw [byt_V4_27 h0 h1 h2 h3]
  rw [byt_V4_28 h0 h1 h2 h3]
  rw [byt_V4_29 h0 h1 h2 h3]
  rw [byt_V4_30 h0 h1 h2 h3]
  rw [byt_V4_31 h0 h1 h2 h3]
theorem bheap {B : Nat} {w w' : World} (h : Below B w w') {k : Nat} {o : Obj} (hk : w.heap[k]? = some o) (hB : k < B) : w'.heap[k]? = some o := (h.block k hB).trans hk
theorem heap_lt {w : World} {k : Nat} {o : Obj} (h : w.heap[k]? = some o) : k < w.heap.size := (Array.getElem?_eq_some_iff.1 h).1
theorem only_setRow (w : World) (g : Nat) (cs : Array Value) : Only g w (w.setRow g cs) :=
  ⟨rfl, rfl, rfl, by simp, fun k hk => setRow_other w g k cs hk⟩
/-- A whole row into block g of whatever world: behind it a world of which only this is known. -/
theorem st_row {P : Program} {ops : Array Oper} {rest : List Oper} {o : Oper} {a : Act} {w : World} {Q : Exit → Act → World → Prop} (hgd : o.guard = none) (ty : TypeId) (x y : Operand) (ho : o.op = .store ty x y)
    (g : Nat) (cells : Array Value) (hx : a.eval x = .pointer (some ⟨g, 0, none⟩)) (hy : a.eval y = .agg cells)
    (t : TypeId) (old : Array Value) (hg : w.heap[g]? = some (.cells old t (0, 0))) (hi : (P.info? ty).map (·.size) = some cells.size)
    (hold : old.size = cells.size) (h1 : cells.all (·.oneCell') = true)
    (h : ∀ w2, w2.heap[g]? = some (.cells cells t (0, 0)) → Only g w w2 → wpList P ops Q rest (a.put o.dst undef) w2) : wpList P ops Q (o :: rest) a w :=
  wpList_store_row hgd ty x y ho g cells hx hy t old hg hi hold h1 (h _ (setRow_heap w g old cells t (0, 0) hg) (only_setRow w g cells))
theorem wp_gen {P : Program} {c : Code} {Q : Exit → Act → World → Prop} {a : Act} {w : World} (I : World → Prop) (hI : I w) (h : ∀ w', I w' → c.wp P Q a w') : c.wp P Q a w := h w hI
theorem wrap_0 : IntKind.i64.wrap 0 = 0 := by decide +kernel
theorem wrap_8 : IntKind.i64.wrap 8 = 8 := by decide +kernel
theorem wrap_16 : IntKind.i64.wrap 16 = 16 := by decide +kernel
theorem wrap_24 : IntKind.i64.wrap 24 = 24 := by decide +kernel
theorem wrap_32 : IntKind.i64.wrap 32 = 32 := by decide +kernel
theorem st_limbs {ops : Array Oper} {rest : List Oper} {o : Oper} {a : Act} {w : World} {Q : Exit → Act → World → Prop} (hgd : o.guard = none) (x y : Operand) (ho : o.op = .store 43 x y)
    (g : Nat) (y0 y1 y2 y3 : Int) (hx : a.eval x = .pointer (some ⟨g, 0, none⟩)) (hy : a.eval y = .agg #[.int .u64 y0, .int .u64 y1, .int .u64 y2, .int .u64 y3])
    (v0 v1 v2 v3 : Value) (hg : w.heap[g]? = some (.cells #[v0, v1, v2, v3] 43 (0, 0)))
    (h : ∀ w2, w2.heap[g]? = some (.cells #[.int .u64 y0, .int .u64 y1, .int .u64 y2, .int .u64 y3] 43 (0, 0)) → Only g w w2 → wpList Tryd.prog ops Q rest (a.put o.dst undef) w2) : wpList Tryd.prog ops Q (o :: rest) a w :=
  st_row hgd 43 x y ho g _ hx hy 43 _ hg (by kernel_rfl) rfl (by simp [Value.oneCell']) h
theorem BA_one (n : Int) : (BA n).all (·.oneCell') = true := by simp [BA, Value.oneCell']
theorem info32 : (Tryd.prog.info? 22).map (·.size) = some 32 := by kernel_rfl
theorem st_bytes {ops : Array Oper} {rest : List Oper} {o : Oper} {a : Act} {w : World} {Q : Exit → Act → World → Prop} (hgd : o.guard = none) (x y : Operand) (ho : o.op = .store 22 x y)
    (g : Nat) (n : Int) (hx : a.eval x = .pointer (some ⟨g, 0, none⟩)) (hy : a.eval y = .agg (BA n))
    (old : Array Value) (hg : w.heap[g]? = some (.cells old 22 (0, 0))) (hold : old.size = 32)
    (h : ∀ w2, w2.heap[g]? = some (.cells (BA n) 22 (0, 0)) → Only g w w2 → wpList Tryd.prog ops Q rest (a.put o.dst undef) w2) : wpList Tryd.prog ops Q (o :: rest) a w :=
  st_row hgd 22 x y ho g _ hx hy 22 _ hg (by rw [BA_size]; exact info32) (by rw [BA_size]; exact hold) (BA_one n) h
theorem ld_bytes {ops : Array Oper} {rest : List Oper} {o : Oper} {a : Act} {w : World} {Q : Exit → Act → World → Prop} (hgd : o.guard = none) (x : Operand) (ho : o.op = .load 22 x)
    (g : Nat) (cs : Array Value) (hx : a.eval x = .pointer (some ⟨g, 0, none⟩)) (hg : w.heap[g]? = some (.cells cs 22 (0, 0))) (hs : cs.size = 32)
    (h : wpList Tryd.prog ops Q rest (a.put o.dst (.agg cs)) w) : wpList Tryd.prog ops Q (o :: rest) a w :=
  wpList_load_row hgd 22 x ho g hx 22 cs (0, 0) _ hg Tryd.underlying22 rfl (by rw [hs]; exact info32) h
set_option maxHeartbeats 1000000 in
theorem store_any (x0 x1 x2 x3 : Int) (w : World) (h0 : U64 x0) (h1 : U64 x1) (h2 : U64 x2) (h3 : U64 x3) :
    Calls Tryd.prog 25 #[.agg #[.int .u64 x0, .int .u64 x1, .int .u64 x2, .int .u64 x3]] w fun e w' =>
      e = .returned (.agg (BA (V4 x0 x1 x2 x3 % P255))) ∧ Below w.heap.size w w' := by
  have e0 := wrap_0
  have e8 := wrap_8
  have e16 := wrap_16
  have e24 := wrap_24
  have e32 := wrap_32
  go_enter Tryd.func25, Tryd.ntmps25
  go_wp2_with fail
  refine (least_any _ _ _ _ _ h0 h1 h2 h3).mono ?_
  rintro e w1 ⟨y0, y1, y2, y3, hy0, hy1, hy2, hy3, e1, rfl, hb1⟩
  have E1 := Hid.mk e1
  clear e1
  have g1 := bheap hb1 (heap_alloc2_old w _ _) (by simp <;> omega)
  have g2 := bheap hb1 (heap_alloc2_new w _ _) (by simp <;> omega)
  have hB1 : Hid (Below w.heap.size w w1) := Below.trans (((Below.refl _ _).alloc (Nat.le_refl _) _).alloc (by simp) _) (hb1.mono (by simp <;> omega))
  clear hb1
  go_wp2_with (refine st_limbs rfl _ _ rfl _ _ _ _ _ rfl rfl _ _ _ _ g1 ?_; intro w2 g1 o2; have g2 := (o2.block _ (by omega)).trans g2; have hB2 : Hid (Below w.heap.size w w2) := Below.trans hB1.out (o2.below (Nat.le_refl _)); clear o2)
  have hz : w.heap.size + 1 < w2.heap.size := heap_lt g2
  refine wp_gen (fun w3 => w3.heap[w.heap.size]? = some (.cells #[.int .u64 y0, .int .u64 y1, .int .u64 y2, .int .u64 y3] 43 (0, 0)) ∧
    (∃ z : Array Value, w3.heap[w.heap.size + 1]? = some (.cells z 22 (0, 0)) ∧ z.size = 32) ∧ w3.heap[w2.heap.size]? = some (.cells (BA 0) 22 (0, 0)) ∧ Below w.heap.size w w3)
    ⟨(Below.heap_alloc _ _ _ (by omega)).trans g1, ⟨_, (Below.heap_alloc _ _ _ (by omega)).trans g2, rfl⟩, heap_alloc_new _ _, hB2.out.alloc (by omega) _⟩ ?_
  generalize w2.heap.size = b3 at *
  clear g1 g2 hB2
  rintro w3 ⟨g1, ⟨z, g2, sz⟩, g3, hB3⟩
  have cN : ∀ i, w3.cell? ⟨w.heap.size, i, none⟩ = _ := fun i => cell_of_row _ _ i _ _ _ g1
  refine wp_loop_rounds 5 ?_
  rw [rounds_succ]
  go_wp2
  go_region_with (go_at_call 38; refine (putWord_any _ _ _ _ (BA 0) 22 _ ?_ ?_).mono ?_; exact g3; (simp only [BA_size]; omega); rintro e v0 ⟨rfl, p0, o0⟩)
  have g3 := p0
  have g2 := (o0.block _ (by omega)).trans g2
  have cN := fun i => (o0.cell w.heap.size i (by omega)).trans (cN i)
  have hB3 := Below.trans (Below.drew hB3) (Only.below (b := b3) (B := w.heap.size) o0 (by omega))
  clear o0 p0
  go_wp2
  rw [rounds_succ]
  go_wp2
  go_region_with (go_at_call 38; refine (putWord_any _ _ _ _ (put8 (BA 0) 0 y0) 22 _ ?_ ?_).mono ?_; exact g3; (simp only [put8_size, BA_size]; omega); rintro e v1 ⟨rfl, p1, o1⟩)
  have g3 := p1
  have g2 := (o1.block _ (by omega)).trans g2
  have cN := fun i => (o1.cell w.heap.size i (by omega)).trans (cN i)
  have hB3 := Below.trans (Below.drew hB3) (Only.below (b := b3) (B := w.heap.size) o1 (by omega))
  clear o1 p1
  go_wp2
  rw [rounds_succ]
  go_wp2
  go_region_with (go_at_call 38; refine (putWord_any _ _ _ _ (put8 (put8 (BA 0) 0 y0) 8 y1) 22 _ ?_ ?_).mono ?_; exact g3; (simp only [put8_size, BA_size]; omega); rintro e v2 ⟨rfl, p2, o2⟩)
  have g3 := p2
  have g2 := (o2.block _ (by omega)).trans g2
  have cN := fun i => (o2.cell w.heap.size i (by omega)).trans (cN i)
  have hB3 := Below.trans (Below.drew hB3) (Only.below (b := b3) (B := w.heap.size) o2 (by omega))
  clear o2 p2
  go_wp2
  rw [rounds_succ]
  go_wp2
  go_region_with (go_at_call 38; refine (putWord_any _ _ _ _ (put8 (put8 (put8 (BA 0) 0 y0) 8 y1) 16 y2) 22 _ ?_ ?_).mono ?_; exact g3; (simp only [put8_size, BA_size]; omega); rintro e v3 ⟨rfl, p3, o3⟩)
  have g3 := p3
  have g2 := (o3.block _ (by omega)).trans g2
  have cN := fun i => (o3.cell w.heap.size i (by omega)).trans (cN i)
  have hB3 := Below.trans (Below.drew hB3) (Only.below (b := b3) (B := w.heap.size) o3 (by omega))
  clear o3 p3
  go_wp2
  rw [put8_all hy0 hy1 hy2 hy3] at g3
  rw [rounds_succ]
  go_wp2_with (first | (refine ld_bytes rfl _ rfl _ _ rfl g3 (BA_size _) ?_) | (refine st_bytes rfl _ _ rfl _ _ rfl rfl _ g2 sz ?_; intro w5 g5 o5))
  refine bodyPost_ret (v := .agg (BA (V4 x0 x1 x2 x3 % P255))) ?_ rfl ⟨rfl, Below.trans hB3 (Only.below (b := w.heap.size + 1) (B := w.heap.size) o5 (by omega))⟩
  rw [← E1.out]
  exact results_cell_row rfl _ _ _ _ _ _ _ rfl g5 Tryd.underlying22 rfl (by rw [BA_size]; exact info32)
end Go.Proofs.YtpcpcgfljffkeaaDoor
/-
  Own text. What plus of package field answers, for every two numbers of four words: a contract over the translation.
-/
namespace Go.Proofs.YtpcpcgfljffkeaaDoor
open Go.RowKit Go.Proofs
theorem add64_all {x y c : Int} (hx : U64 x) (hy : U64 y) (hc : Bit c) :
    ∃ lo hi, Sum3 x y c lo hi ∧ ∀ w, (callFunc 55 #[.int .u64 x, .int .u64 y, .int .u64 c]).run Tryd.prog w =
      .ok (.value (.tuple #[.int .u64 lo, .int .u64 hi])) w := by
  obtain ⟨lo, hi, hs, _⟩ := add64_run x y c hx hy hc default
  refine ⟨lo, hi, hs, fun w => ?_⟩
  obtain ⟨lo', hi', hs', e⟩ := add64_run x y c hx hy hc w
  have e1 : lo' = lo ∧ hi' = hi := by unfold Sum3 U64 Bit at hs hs'; omega
  rw [e, e1.1, e1.2]
theorem heap_a3 (w : World) (A B C : Obj) : (((w.alloc A).alloc B).alloc C).heap[w.heap.size + 1 + 1]? = some C := by
  have := heap_alloc_new ((w.alloc A).alloc B) C
  simpa using this
theorem bit_range {c : Int} (h : Bit c) : 0 ≤ c ∧ c ≤ 1 := by unfold Bit at h; omega
theorem plus_num {x0 x1 x2 x3 y0 y1 y2 y3 z0 z1 z2 z3 c0 c1 c2 c3 : Int} (s0 : Sum3 x0 y0 0 z0 c0) (s1 : Sum3 x1 y1 c0 z1 c1) (s2 : Sum3 x2 y2 c1 z2 c2) (s3 : Sum3 x3 y3 c2 z3 c3) :
    V4 z0 z1 z2 z3 + W256 * c3 = V4 x0 x1 x2 x3 + V4 y0 y1 y2 y3 := by
  unfold Sum3 at s0 s1 s2 s3
  unfold V4 W256
  omega
set_option maxHeartbeats 1000000 in
theorem plus_any (x0 x1 x2 x3 y0 y1 y2 y3 : Int) (w : World) (h0 : U64 x0) (h1 : U64 x1) (h2 : U64 x2) (h3 : U64 x3) (k0 : U64 y0) (k1 : U64 y1) (k2 : U64 y2) (k3 : U64 y3) :
    Calls Tryd.prog 53 #[.agg #[.int .u64 x0, .int .u64 x1, .int .u64 x2, .int .u64 x3], .agg #[.int .u64 y0, .int .u64 y1, .int .u64 y2, .int .u64 y3]] w fun e w' =>
      ∃ z0 z1 z2 z3, U64 z0 ∧ U64 z1 ∧ U64 z2 ∧ U64 z3 ∧ (∃ k : Int, V4 z0 z1 z2 z3 = V4 x0 x1 x2 x3 + V4 y0 y1 y2 y3 + k * P255) ∧
        e = .returned (.agg #[.int .u64 z0, .int .u64 z1, .int .u64 z2, .int .u64 z3]) ∧ Below w.heap.size w w' := by
  obtain ⟨z0, c0, s0, r0⟩ := add64_all h0 k0 bit0
  obtain ⟨z1, c1, s1, r1⟩ := add64_all h1 k1 s0.hi
  obtain ⟨z2, c2, s2, r2⟩ := add64_all h2 k2 s1.hi
  obtain ⟨z3, c3, s3, r3⟩ := add64_all h3 k3 s2.hi
  go_enter Tryd.func53, Tryd.ntmps53
  go_wp2
  refine wp_loop_rounds 5 ?_
  rw [rounds_succ]
  go_wp2
  go_region
  go_wp2
  rw [rounds_succ]
  go_wp2
  go_region
  go_wp2
  rw [rounds_succ]
  go_wp2
  go_region
  go_wp2
  rw [rounds_succ]
  go_wp2
  go_region
  go_wp2
  rw [rounds_succ]
  clear r0 r1 r2 r3
  have hc := bit_range s3.hi
  have hc0 := hc.1
  have hc1 := hc.2
  go_wp2_with fail
  refine (fold_any _ _ _ _ _ _ s0.lo s1.lo s2.lo s3.lo (by omega) (by omega)).mono ?_
  rintro e w1 ⟨q0, q1, q2, q3, hq0, hq1, hq2, hq3, ⟨k, ek⟩, rfl, hb1⟩
  have g4 := bheap hb1 (heap_a3 w _ _ _) (by simp <;> omega)
  have hB1 : Hid (Below w.heap.size w w1) := by
    refine Below.trans ?_ (hb1.mono (by simp <;> omega))
    repeat first | exact Below.refl _ _ | refine Below.alloc ?_ (by simp <;> omega) _ | refine Below.drew ?_ | refine Below.drewN' ?_ _
  clear hb1
  have EK := Hid.mk ek
  clear ek
  go_wp2_with (refine st_limbs rfl _ _ rfl _ _ _ _ _ rfl rfl _ _ _ _ g4 ?_; intro w2 g5 o5)
  refine bodyPost_ret (v := .agg #[.int .u64 q0, .int .u64 q1, .int .u64 q2, .int .u64 q3]) (results_cell_row rfl _ _ _ _ _ _ _ rfl g5 Tryd.underlying43 rfl (by kernel_rfl)) rfl
    ⟨q0, q1, q2, q3, hq0, hq1, hq2, hq3, ⟨k, ?_⟩, rfl, Below.trans hB1.out (Only.below (b := w.heap.size + 1 + 1) (B := w.heap.size) o5 (by omega))⟩
  rw [EK.out, plus_num s0 s1 s2 s3]
end Go.Proofs.YtpcpcgfljffkeaaDoor
/-
  Own text. What Canon of package field answers, for every 32 bytes: a contract over the translation.
-/
namespace Go.Proofs.YtpcpcgfljffkeaaDoor
open Go.RowKit Go.Proofs
theorem limb_V4 {n : Int} (h0 : 0 ≤ n) (h1 : n < W256) : V4 (limb n 0) (limb n 8) (limb n 16) (limb n 24) = n := by
  unfold V4 limb W256 at *
  omega
set_option maxHeartbeats 1000000 in
theorem canon_any (n : Int) (w : World) (h0 : 0 ≤ n) (h1 : n < W256) :
    Calls Tryd.prog 16 #[.agg (BA n)] w fun e w' => e = .returned (.agg (BA (n % P255))) ∧ Below w.heap.size w w' := by
  go_enter Tryd.func16, Tryd.ntmps16
  go_wp2_with (refine ld_bytes rfl _ rfl _ _ rfl (heap_alloc2_old w _ _) (BA_size _) ?_)
  refine (load_any n _).mono ?_
  rintro e w1 ⟨rfl, hb1⟩
  have g1 := bheap hb1 (heap_alloc2_new w _ _) (by simp <;> omega)
  have hB1 : Hid (Below w.heap.size w w1) := by
    refine Below.trans ?_ (hb1.mono (by simp <;> omega))
    repeat first | exact Below.refl _ _ | refine Below.alloc ?_ (by simp <;> omega) _
  clear hb1
  go_wp2_with fail
  refine (store_any _ _ _ _ _ (limb_u64 _ _) (limb_u64 _ _) (limb_u64 _ _) (limb_u64 _ _)).mono ?_
  rintro e w2 ⟨rfl, hb2⟩
  have g2 := bheap hb2 g1 (heap_lt g1)
  have hB2 : Hid (Below w.heap.size w w2) := Below.trans hB1.out (hb2.mono hB1.out.size)
  clear hb2 g1
  go_wp2_with (refine st_bytes rfl _ _ rfl _ _ rfl rfl _ g2 rfl ?_; intro w3 g3 o3)
  refine bodyPost_ret (v := .agg (BA (n % P255))) ?_ rfl ⟨rfl, Below.trans hB2.out (Only.below (b := w.heap.size + 1) (B := w.heap.size) o3 (by omega))⟩
  rw [limb_V4 h0 h1] at g3
  exact results_cell_row rfl _ _ _ _ _ _ _ rfl g3 Tryd.underlying22 rfl (by rw [BA_size]; exact info32)
end Go.Proofs.YtpcpcgfljffkeaaDoor
/-
  Own text. What math/bits.Mul64, math/bits.Sub64 and opposite of package field answer: contracts over the translation.
-/
namespace Go.Proofs.YtpcpcgfljffkeaaDoor
open Go.RowKit Go.Proofs
theorem mul64_hi (x y : Int) (hx : U64 x) (hy : U64 y) :
    IntKind.u64.wrap
      (IntKind.u64.wrap
          (IntKind.u64.wrap (x / 4294967296 * (y / 4294967296)) +
            IntKind.u64.wrap
                (IntKind.u64.wrap (x / 4294967296 * bits BinOp.and IntKind.u64 y 4294967295) +
                  IntKind.u64.wrap (bits BinOp.and IntKind.u64 x 4294967295 * bits BinOp.and IntKind.u64 y 4294967295) / 4294967296) /
              4294967296) +
        IntKind.u64.wrap
            (bits BinOp.and IntKind.u64
                (IntKind.u64.wrap
                  (IntKind.u64.wrap (x / 4294967296 * bits BinOp.and IntKind.u64 y 4294967295) +
                    IntKind.u64.wrap (bits BinOp.and IntKind.u64 x 4294967295 * bits BinOp.and IntKind.u64 y 4294967295) / 4294967296))
                4294967295 +
              IntKind.u64.wrap (bits BinOp.and IntKind.u64 x 4294967295 * (y / 4294967296))) /
          4294967296) = x * y / 18446744073709551616 := by
  rw [and_low32 x hx.1 hx.2, and_low32 y hy.1 hy.2]
  simp only [IntKind.wrap_u64]
  rw [and_low32 (_ % 18446744073709551616) (by omega) (by omega)]
  exact mul64_arith x y hx.1 hx.2 hy.1 hy.2
theorem ret_two {k : IntKind} {a b c d : Int} (h : a = b) (h' : c = d) : Ending.returned (.tuple #[.int k a, .int k c]) = .returned (.tuple #[.int k b, .int k d]) := by rw [h, h']
set_option maxHeartbeats 1000000 in
theorem mul64_any (x y : Int) (w : World) (hx : U64 x) (hy : U64 y) :
    Calls Tryd.prog 54 #[.int .u64 x, .int .u64 y] w fun e w' => e = .returned (.tuple #[.int .u64 (x * y / 18446744073709551616), .int .u64 (x * y % 18446744073709551616)]) ∧ w' = w := by
  have H := Hid.mk (mul64_hi x y hx hy)
  go_enter Tryd.func54, Tryd.ntmps54
  go_wp2
  go_ret2
  exact ⟨ret_two H.out (IntKind.wrap_u64 _), rfl⟩
/-- lo and hi are the low word and the borrow of x - y - b. -/
def Dif3 (x y b lo hi : Int) : Prop := U64 lo ∧ Bit hi ∧ lo = x - y - b + 18446744073709551616 * hi
theorem Dif3.lo {x y c lo hi : Int} (h : Dif3 x y c lo hi) : U64 lo := h.1
theorem Dif3.hi {x y c lo hi : Int} (h : Dif3 x y c lo hi) : Bit hi := h.2.1
theorem sub64_all {x y b : Int} (hx : U64 x) (hy : U64 y) (hb : Bit b) :
    ∃ lo hi, Dif3 x y b lo hi ∧ ∀ w, (callFunc 46 #[.int .u64 x, .int .u64 y, .int .u64 b]).run Tryd.prog w =
      .ok (.value (.tuple #[.int .u64 lo, .int .u64 hi])) w := by
  unfold U64 at hx hy
  unfold Bit at hb
  obtain ⟨X, rfl⟩ := Int.eq_ofNat_of_zero_le hx.1
  obtain ⟨Y, rfl⟩ := Int.eq_ofNat_of_zero_le hy.1
  obtain ⟨B, rfl⟩ := Int.eq_ofNat_of_zero_le (show 0 ≤ b by omega)
  refine ⟨(((X + 18446744073709551616 - Y - B) % 18446744073709551616 : Nat) : Int), ((if X < Y + B then 1 else 0 : Nat) : Int), ?_, fun w => ?_⟩
  · unfold Dif3 U64 Bit
    split <;> omega
  · rw [run_callFunc_extern Tryd.func46 (by kernel_rfl) (by kernel_rfl) (by kernel_rfl) (e := sub64Entry) (by kernel_rfl), run_sub64 X Y B (by omega)]
    rfl
/-- The cells of the package's variable 'prime'. -/
def PrimeAt (w : World) : Prop := w.cell? ⟨0, 0, none⟩ = some (.int .u64 18446744073709551597) ∧ w.cell? ⟨0, 1, none⟩ = some (.int .u64 18446744073709551615) ∧
  w.cell? ⟨0, 2, none⟩ = some (.int .u64 18446744073709551615) ∧ w.cell? ⟨0, 3, none⟩ = some (.int .u64 9223372036854775807)
theorem primeAt_below {B : Nat} {w w' : World} (h : PrimeAt w) (hb : Below B w w') (hB : 0 < B) : PrimeAt w' :=
  ⟨(hb.cell hB).trans h.1, (hb.cell hB).trans h.2.1, (hb.cell hB).trans h.2.2.1, (hb.cell hB).trans h.2.2.2⟩
theorem primeAt_pos {w : World} (h : PrimeAt w) : 0 < w.heap.size := World.block_lt_of_cell? w _ h.1
theorem opp_num {x0 x1 x2 x3 z0 z1 z2 z3 b0 b1 b2 b3 : Int} (h0 : U64 x0) (h1 : U64 x1) (h2 : U64 x2) (h3 : U64 x3) (hx : V4 x0 x1 x2 x3 ≤ P255)
    (s0 : Dif3 18446744073709551597 x0 0 z0 b0) (s1 : Dif3 18446744073709551615 x1 b0 z1 b1) (s2 : Dif3 18446744073709551615 x2 b1 z2 b2) (s3 : Dif3 9223372036854775807 x3 b2 z3 b3) :
    V4 z0 z1 z2 z3 = P255 - V4 x0 x1 x2 x3 := by
  have hz := V4_range s0.lo s1.lo s2.lo s3.lo
  have hb := s3.hi
  unfold Dif3 at s0 s1 s2 s3
  have e : V4 z0 z1 z2 z3 = P255 - V4 x0 x1 x2 x3 + W256 * b3 := by unfold V4 P255 W256; omega
  have hv := V4_range h0 h1 h2 h3
  unfold Bit at hb
  generalize V4 z0 z1 z2 z3 = Z at *
  generalize V4 x0 x1 x2 x3 = X at *
  unfold P255 W256 at *
  rcases hb with rfl | rfl <;> omega
set_option maxHeartbeats 1000000 in
theorem opposite_any (x0 x1 x2 x3 : Int) (w : World) (hP : PrimeAt w) (h0 : U64 x0) (h1 : U64 x1) (h2 : U64 x2) (h3 : U64 x3) (hx : V4 x0 x1 x2 x3 ≤ P255) :
    Calls Tryd.prog 30 #[.agg #[.int .u64 x0, .int .u64 x1, .int .u64 x2, .int .u64 x3]] w fun e w' =>
      ∃ z0 z1 z2 z3, U64 z0 ∧ U64 z1 ∧ U64 z2 ∧ U64 z3 ∧ V4 z0 z1 z2 z3 = P255 - V4 x0 x1 x2 x3 ∧
        e = .returned (.agg #[.int .u64 z0, .int .u64 z1, .int .u64 z2, .int .u64 z3]) ∧ Below w.heap.size w w' := by
  obtain ⟨z0, c0, s0, r0⟩ := sub64_all (x := 18446744073709551597) (by unfold U64; omega) h0 bit0
  obtain ⟨z1, c1, s1, r1⟩ := sub64_all (x := 18446744073709551615) (by unfold U64; omega) h1 s0.hi
  obtain ⟨z2, c2, s2, r2⟩ := sub64_all (x := 18446744073709551615) (by unfold U64; omega) h2 s1.hi
  obtain ⟨z3, c3, s3, r3⟩ := sub64_all (x := 9223372036854775807) (by unfold U64; omega) h3 s2.hi
  have HX := Hid.mk hx
  clear hx
  have hw0 : 0 < w.heap.size := primeAt_pos hP
  obtain ⟨q0, q1, q2, q3⟩ := hP
  go_enter Tryd.func30, Tryd.ntmps30
  go_wp2
  refine wp_loop_rounds 5 ?_
  rw [rounds_succ]
  go_wp2
  go_region
  go_wp2
  rw [rounds_succ]
  go_wp2
  go_region
  go_wp2
  rw [rounds_succ]
  go_wp2
  go_region
  go_wp2
  rw [rounds_succ]
  go_wp2
  go_region
  go_wp2
  rw [rounds_succ]
  go_wp2
  refine bodyPost_ret (v := .agg #[.int .u64 z0, .int .u64 z1, .int .u64 z2, .int .u64 z3]) (by simp [results, Tryd.results30, go_sem]) rfl
    ⟨z0, z1, z2, z3, s0.lo, s1.lo, s2.lo, s3.lo, opp_num h0 h1 h2 h3 HX.out s0 s1 s2 s3, rfl, ?_⟩
  repeat first | exact Below.refl _ _ | refine Below.alloc ?_ (by simp <;> omega) _ | refine Below.drew ?_ | refine Below.drewN' ?_ _
end Go.Proofs.YtpcpcgfljffkeaaDoor
/-
  Own text. What Of of package field answers, for every whole number of 64 bits: a contract over the translation.
-/
namespace Go.Proofs.YtpcpcgfljffkeaaDoor
open Go.RowKit Go.Proofs
theorem neg_wrap (n : Int) (h0 : -9223372036854775808 ≤ n) (h1 : n < 0) : IntKind.u64.wrap (-IntKind.u64.wrap n) = -n := by
  rw [IntKind.wrap_u64, IntKind.wrap_u64]; omega
theorem pos_wrap (n : Int) (h0 : 0 ≤ n) (h1 : n < 9223372036854775808) : IntKind.u64.wrap n = n := by
  rw [IntKind.wrap_u64]; omega
theorem V4_one (n : Int) : V4 n 0 0 0 = n := by unfold V4; omega
theorem neg_mod {n z : Int} (h : z = P255 - (-n)) : z % P255 = n % P255 := by
  rw [h, show P255 - (-n) = n + P255 by omega, Int.add_emod_right]
set_option maxHeartbeats 1000000 in
theorem of_any (n : Int) (w : World) (hP : PrimeAt w) (h0 : -9223372036854775808 ≤ n) (h1 : n < 9223372036854775808) :
    Calls Tryd.prog 18 #[.int .i64 n] w fun e w' => e = .returned (.agg (BA (n % P255))) ∧ Below w.heap.size w w' := by
  have hp0 := primeAt_pos hP
  have HP := Hid.mk hP
  clear hP
  by_cases hn : n < 0
  · have hw := neg_wrap n h0 hn
    go_enter Tryd.func18, Tryd.ntmps18
    go_wp2_with fail
    refine (opposite_any _ _ _ _ _ (primeAt_below HP.out ((Below.refl _ _).alloc (Nat.le_refl _) _) hp0) (by unfold U64; omega) u64_0 u64_0 u64_0 (by rw [V4_one]; unfold P255; omega)).mono ?_
    rintro e w1 ⟨z0, z1, z2, z3, hz0, hz1, hz2, hz3, ez, rfl, hb1⟩
    have g1 := bheap hb1 (heap_alloc_new w _) (by simp <;> omega)
    have hB1 : Hid (Below w.heap.size w w1) := Below.trans ((Below.refl _ _).alloc (Nat.le_refl _) _) (hb1.mono (by simp <;> omega))
    have EZ := Hid.mk ez
    clear hb1 ez
    go_wp2_with fail
    refine (store_any _ _ _ _ _ hz0 hz1 hz2 hz3).mono ?_
    rintro e w2 ⟨rfl, hb2⟩
    have g2 := bheap hb2 g1 (heap_lt g1)
    have hB2 : Hid (Below w.heap.size w w2) := Below.trans hB1.out (hb2.mono hB1.out.size)
    clear hb2 g1
    go_wp2_with (refine st_bytes rfl _ _ rfl _ _ rfl rfl _ g2 rfl ?_; intro w3 g3 o3)
    refine bodyPost_ret (v := .agg (BA (n % P255))) ?_ rfl ⟨rfl, Below.trans hB2.out (Only.below (b := w.heap.size) (B := w.heap.size) o3 (by omega))⟩
    have ez := EZ.out
    rw [V4_one] at ez
    rw [neg_mod ez] at g3
    exact results_cell_row rfl _ _ _ _ _ _ _ rfl g3 Tryd.underlying22 rfl (by rw [BA_size]; exact info32)
  · have hw := pos_wrap n (by omega) h1
    go_enter Tryd.func18, Tryd.ntmps18
    go_wp2_with fail
    refine (store_any _ _ _ _ _ (by unfold U64; omega) u64_0 u64_0 u64_0).mono ?_
    rintro e w2 ⟨rfl, hb2⟩
    have g2 := bheap hb2 (heap_alloc_new w _) (by simp <;> omega)
    have hB2 : Hid (Below w.heap.size w w2) := Below.trans ((Below.refl _ _).alloc (Nat.le_refl _) _) (hb2.mono (by simp <;> omega))
    clear hb2
    go_wp2_with (refine st_bytes rfl _ _ rfl _ _ rfl rfl _ g2 rfl ?_; intro w3 g3 o3)
    refine bodyPost_ret (v := .agg (BA (n % P255))) ?_ rfl ⟨rfl, Below.trans hB2.out (Only.below (b := w.heap.size) (B := w.heap.size) o3 (by omega))⟩
    rw [V4_one] at g3
    exact results_cell_row rfl _ _ _ _ _ _ _ rfl g3 Tryd.underlying22 rfl (by rw [BA_size]; exact info32)
end Go.Proofs.YtpcpcgfljffkeaaDoor
/-
  Own text. A region that leaves its order open, walked once: what only looks (under a condition S on the world) is taken first; what acts comes up alone; an act that T marks keeps S. No program is named here.
-/
namespace Go.Proofs.YtpcpcgfljffkeaaDoor
open Go
section
variable {P : Program} {ops : Array Oper} {Q : Exit → Act → World → Prop} {md : Region.Mode} {S : World → Prop} {T : Nat → Bool}
/-- Whatever order is picked from here on; operation i keeps S if T says so. -/
def wpAnyT (P : Program) (md : Region.Mode) (ops : Array Oper) (Q : Exit → Act → World → Prop) (S : World → Prop) (T : Nat → Bool) : Nat → Array Bool → Act → World → Prop
  | 0, listed, a, w => Region.ready md ops listed = [] ∧ Q .normal a w
  | fuel + 1, listed, a, w =>
    (Region.ready md ops listed = [] → Q .normal a w) ∧
    ∀ i ∈ Region.ready md ops listed, wpOp P ops Q i (fun a' w' => (T i = true → S w → S w') ∧ wpAnyT P md ops Q S T fuel (listed.setIfInBounds i true) a' w') a w
theorem wpAny_of_T : ∀ (fuel : Nat) (listed : Array Bool) (a : Act) (w : World), wpAnyT P md ops Q S T fuel listed a w → wpAny P md ops Q fuel listed a w
  | 0, _, _, _, h => h
  | fuel + 1, _, _, _, h => ⟨h.1, fun i hi => wpOp_mono (fun a' w' h' => wpAny_of_T fuel _ a' w' h'.2) (h.2 i hi)⟩
def waits (md : Region.Mode) (oj : Oper) (i : Nat) : Bool := oj.after.any fun e => Region.binds md e && e.on == i
theorem waits_spec {oj : Oper} {i : Nat} (h : waits md oj i = true) : ∃ e ∈ oj.after, Region.binds md e = true ∧ e.on = i := by
  obtain ⟨e, he, hb⟩ := Array.any_eq_true'.1 h
  simp only [Bool.and_eq_true, beq_iff_eq] at hb
  exact ⟨e, he, hb.1, hb.2⟩
theorem wpAnyT_first {i : Nat} {oi : Oper} {v : Value} (hi : ops[i]? = some oi) (hsel : ∀ (j : Nat) (o : Oper) cs b, ops[j]? = some o → o.op ≠ .select cs b)
    (hQ : ∀ c a w, Q (.panic c) (a.put oi.dst v) w → Q (.panic c) a w) :
    ∀ (fuel : Nat) (listed : Array Bool) (a : Act) (w : World),
      (∀ j oj, ops[j]? = some oj → j ≠ i → listed.getD j true = false → (∀ e ∈ oj.after, Region.binds md e = true → e.on ≠ i) → oi.apart ops oj = true) →
      (∀ j oj, ops[j]? = some oj → j ≠ i → listed.getD j true = false → T j = false → ∃ e ∈ oj.after, Region.binds md e = true ∧ e.on = i) →
      i ∈ Region.ready md ops listed → YieldsIf P ops S oi v a → S w →
      wpAnyT P md ops Q S T fuel (listed.setIfInBounds i true) (a.put oi.dst v) w → wpAnyT P md ops Q S T (fuel + 1) listed a w := by
  intro fuel
  induction fuel with
  | zero =>
    intro listed a w _ _ hr hy hS H
    refine ⟨fun h => (by rw [h] at hr; cases hr), fun j hj => ?_⟩
    by_cases hji : j = i
    · subst hji; exact hy.wpOp hi hS ⟨fun _ h => h, H⟩
    · have := ready_mono hj hji
      rw [H.1] at this
      cases this
  | succ fuel ih =>
    intro listed a w hfree hT hr hy hS H
    refine ⟨fun h => (by rw [h] at hr; cases hr), fun j hj => ?_⟩
    by_cases hji : j = i
    · subst hji; exact hy.wpOp hi hS ⟨fun _ h => h, H⟩
    · have h1 := H.2 j (ready_mono hj hji)
      obtain ⟨hjun, oj, hoj, hall⟩ := mem_ready.1 hj
      have hnot : ∀ e ∈ oj.after, Region.binds md e = true → e.on ≠ i := fun e he hb heq => by
        have h1 := hall e he hb
        have h0 := (mem_ready.1 hr).1
        rw [heq] at h1
        rcases Nat.lt_or_ge i listed.size with h' | h'
        · simp [h'] at h0 h1; rw [h0] at h1; cases h1
        · simp [Array.getElem?_eq_none h'] at h1
      have hTj : T j = true := by
        cases hq : T j with
        | true => rfl
        | false => obtain ⟨e, he, hb, ho⟩ := hT j oj hoj hji hjun hq; exact absurd ho (hnot e he hb)
      have h2 := wpOp_putIf hoj (hfree j oj hoj hji hjun hnot) (fun cs b => hsel i oi cs b hi) (fun cs b => hsel j oj cs b hoj) hQ hy h1
      have hun : ∀ k, (listed.setIfInBounds j true).getD k true = false → listed.getD k true = false := fun k hk => by
        by_cases hjk : j = k
        · subst hjk; exact hjun
        · rw [getD_set_ne true hjk] at hk; exact hk
      refine wpOp_mono (fun a' w' h3 => ⟨h3.2.1, ih (listed.setIfInBounds j true) a' w' (fun k ok hk hki hu hno => hfree k ok hk hki (hun k hu) hno)
        (fun k ok hk hki hu ht => hT k ok hk hki (hun k hu) ht) (ready_mono hr (Ne.symm hji)) h3.1 (h3.2.1 hTj hS) ?_⟩) h2
      rw [Array.setIfInBounds_comm _ _ hji]
      exact h3.2.2
theorem wpAnyT_firstW {i : Nat} {oi : Oper} {v : Value} (hi : ops[i]? = some oi) (hsel : ∀ (j : Nat) (o : Oper) cs b, ops[j]? = some o → o.op ≠ .select cs b)
    (hQ : ∀ c a w, Q (.panic c) (a.put oi.dst v) w → Q (.panic c) a w) :
    ∀ (fuel : Nat) (listed : Array Bool) (a : Act) (w : World),
      (∀ j oj, ops[j]? = some oj → j ≠ i → listed.getD j true = false → (∀ e ∈ oj.after, Region.binds md e = true → e.on ≠ i) → oi.apart ops oj = true) →
      i ∈ Region.ready md ops listed → YieldsIf P ops (fun _ => True) oi v a →
      wpAnyT P md ops Q S T fuel (listed.setIfInBounds i true) (a.put oi.dst v) w → wpAnyT P md ops Q S T (fuel + 1) listed a w := by
  intro fuel
  induction fuel with
  | zero =>
    intro listed a w _ hr hy H
    refine ⟨fun h => (by rw [h] at hr; cases hr), fun j hj => ?_⟩
    by_cases hji : j = i
    · subst hji; exact hy.wpOp hi trivial ⟨fun _ h => h, H⟩
    · have := ready_mono hj hji
      rw [H.1] at this
      cases this
  | succ fuel ih =>
    intro listed a w hfree hr hy H
    refine ⟨fun h => (by rw [h] at hr; cases hr), fun j hj => ?_⟩
    by_cases hji : j = i
    · subst hji; exact hy.wpOp hi trivial ⟨fun _ h => h, H⟩
    · have h1 := H.2 j (ready_mono hj hji)
      obtain ⟨hjun, oj, hoj, hall⟩ := mem_ready.1 hj
      have hnot : ∀ e ∈ oj.after, Region.binds md e = true → e.on ≠ i := fun e he hb heq => by
        have h1 := hall e he hb
        have h0 := (mem_ready.1 hr).1
        rw [heq] at h1
        rcases Nat.lt_or_ge i listed.size with h' | h'
        · simp [h'] at h0 h1; rw [h0] at h1; cases h1
        · simp [Array.getElem?_eq_none h'] at h1
      have h2 := wpOp_putIf hoj (hfree j oj hoj hji hjun hnot) (fun cs b => hsel i oi cs b hi) (fun cs b => hsel j oj cs b hoj) hQ hy h1
      have hun : ∀ k, (listed.setIfInBounds j true).getD k true = false → listed.getD k true = false := fun k hk => by
        by_cases hjk : j = k
        · subst hjk; exact hjun
        · rw [getD_set_ne true hjk] at hk; exact hk
      refine wpOp_mono (fun a' w' h3 => ⟨h3.2.1, ih (listed.setIfInBounds j true) a' w' (fun k ok hk hki hu hno => hfree k ok hk hki (hun k hu) hno)
        (ready_mono hr (Ne.symm hji)) h3.1 ?_⟩) h2
      rw [Array.setIfInBounds_comm _ _ hji]
      exact h3.2.2
/-- Is the list of numbers a walk? F: 0: it acts, and comes up alone; 1: it looks at the world under S: it may be taken first, and whatever does not keep S waits for it; else: it looks at no world. -/
def mixB (md : Region.Mode) (ops : Array Oper) (F : Nat → Nat) (T : Nat → Bool) : List Nat → Array Bool → Bool
  | [], listed => (Region.ready md ops listed).isEmpty
  | i :: l, listed =>
    (match F i with
      | 0 => Region.ready md ops listed == [i]
      | 1 => (Region.ready md ops listed).contains i && Region.free md ops listed i &&
        (List.range ops.size).all (fun j => j == i || listed.getD j true || T j || match ops[j]? with | some oj => waits md oj i | none => true)
      | _ => (Region.ready md ops listed).contains i && Region.free md ops listed i) && mixB md ops F T l (listed.setIfInBounds i true)
/-- The walk in that order. -/
def wpMix (P : Program) (ops : Array Oper) (Q : Exit → Act → World → Prop) (S : World → Prop) (F : Nat → Nat) (T : Nat → Bool) : List Nat → Act → World → Prop
  | [], a, w => Q .normal a w
  | i :: l, a, w => match F i with
    | 0 => wpOp P ops Q i (fun a' w' => (T i = true → S w → S w') ∧ wpMix P ops Q S F T l a' w') a w
    | 1 => ∃ o v, ops[i]? = some o ∧ YieldsIf P ops S o v a ∧ S w ∧ wpMix P ops Q S F T l (a.put o.dst v) w
    | _ => ∃ o v, ops[i]? = some o ∧ YieldsIf P ops (fun _ => True) o v a ∧ wpMix P ops Q S F T l (a.put o.dst v) w
theorem wpAnyT_mix {F : Nat → Nat} (hs : Region.noSelect ops = true) (hQ : ∀ c a d v w, Q (.panic c) (a.put d v) w → Q (.panic c) a w) :
    ∀ (l : List Nat) (listed : Array Bool) (a : Act) (w : World), mixB md ops F T l listed = true → wpMix P ops Q S F T l a w → wpAnyT P md ops Q S T l.length listed a w
  | [], listed, a, w, hB, h => ⟨by simpa [mixB] using hB, h⟩
  | i :: l, listed, a, w, hB, h => by
    simp only [mixB, Bool.and_eq_true] at hB
    obtain ⟨hB1, hB2⟩ := hB
    simp only [wpMix] at h
    match hF : F i with
    | 0 =>
      simp only [hF, beq_iff_eq] at hB1 h
      refine ⟨fun h0 => (by rw [hB1] at h0; cases h0), fun j hj => ?_⟩
      rw [hB1] at hj
      obtain rfl : j = i := by simpa using hj
      exact wpOp_mono (fun a' w' h' => ⟨h'.1, wpAnyT_mix hs hQ l _ _ _ hB2 h'.2⟩) h
    | 1 =>
      simp only [hF, Bool.and_eq_true] at hB1 h
      obtain ⟨⟨hr, hf⟩, hw⟩ := hB1
      obtain ⟨o, v, ho, hy, hS, hrest⟩ := h
      refine wpAnyT_first ho (Region.noSelect_spec hs) (fun c a w => hQ c a _ _ w) _ listed a w (Region.free_spec ho hf) (fun j oj hj hji hun ht => ?_) (by simpa using hr) hy hS (wpAnyT_mix hs hQ l _ _ _ hB2 hrest)
      have hjlt : j < ops.size := (Array.getElem?_eq_some_iff.1 hj).1
      have h1 := List.all_eq_true.1 hw j (List.mem_range.2 hjlt)
      simp only [hun, ht, hj, Bool.or_false, Bool.or_eq_true, beq_iff_eq] at h1
      rcases h1 with h1 | h1
      · exact absurd h1 hji
      · exact waits_spec h1
    | n + 2 =>
      simp only [hF, Bool.and_eq_true] at hB1 h
      obtain ⟨hr, hf⟩ := hB1
      obtain ⟨o, v, ho, hy, hrest⟩ := h
      exact wpAnyT_firstW ho (Region.noSelect_spec hs) (fun c a w => hQ c a _ _ w) _ listed a w (Region.free_spec ho hf) (by simpa using hr) hy (wpAnyT_mix hs hQ l _ _ _ hB2 hrest)
/-- THE BEGINNING. -/
theorem wp_region_mix {id : Nat} {a : Act} {w : World} (S : World → Prop) (F : Nat → Nat) (T : Nat → Bool) (l : List Nat) (hm : P.follows .mixedOrders = true)
    (hB : (Region.noSelect ops && l.length == ops.size && mixB .any ops F T l (Array.replicate ops.size false)) = true)
    (hQ : ∀ c a d v w, Q (.panic c) (a.put d v) w → Q (.panic c) a w)
    (h : wpMix P ops Q S F T l a w.drew) : (Code.region id ops true).wp P Q a w := by
  simp only [Bool.and_eq_true, beq_iff_eq] at hB
  obtain ⟨⟨hs, hl⟩, hB⟩ := hB
  refine wp_region_any hm (wpAny_of_T (S := S) (T := T) _ _ _ _ ?_)
  have := wpAnyT_mix (S := S) hs hQ l _ a _ hB h
  rw [hl] at this
  exact this
/-- The same, S shown at once and handed on. -/
theorem wp_region_mixS {id : Nat} {a : Act} {w : World} (S : World → Prop) (F : Nat → Nat) (T : Nat → Bool) (l : List Nat) (hm : P.follows .mixedOrders = true)
    (hB : (Region.noSelect ops && l.length == ops.size && mixB .any ops F T l (Array.replicate ops.size false)) = true)
    (hQ : ∀ c a d v w, Q (.panic c) (a.put d v) w → Q (.panic c) a w) (hS : S w.drew)
    (h : S w.drew → wpMix P ops Q S F T l a w.drew) : (Code.region id ops true).wp P Q a w := wp_region_mix S F T l hm hB hQ (h hS)
theorem at_drop {i : Nat} {o : Oper} {rest : List Oper} (ho : ops.toList.drop i = o :: rest) : ops[i]? = some o := by
  rw [← Array.getElem?_toList]
  have h := congrArg (fun l => l[0]?) ho
  simpa [List.getElem?_drop] using h
/-- What looks under S. -/
theorem mix_look {F : Nat → Nat} {i : Nat} {l : List Nat} {o : Oper} {v : Value} {a : Act} {w : World} (hF : F i = 1) {rest : List Oper} (ho : ops.toList.drop i = o :: rest) (hw : Region.wanted o (yielded ops a.tmps) = true) (hS : S w)
    (hy : ∀ w, S w → (execOp a.eval o).run P w = .ok (.value v) w) (h : wpMix P ops Q S F T l (a.put o.dst v) w) : wpMix P ops Q S F T (i :: l) a w := by
  simp only [wpMix, hF]
  exact ⟨o, v, at_drop ho, .inl ⟨hw, hy⟩, hS, h⟩
/-- What looks at no world. -/
theorem mix_pure {F : Nat → Nat} {i : Nat} {l : List Nat} {o : Oper} {v : Value} {a : Act} {w : World} (hF : F i = 2) {rest : List Oper} (ho : ops.toList.drop i = o :: rest) (hw : Region.wanted o (yielded ops a.tmps) = true)
    (hy : ∀ w, (execOp a.eval o).run P w = .ok (.value v) w) (h : wpMix P ops Q S F T l (a.put o.dst v) w) : wpMix P ops Q S F T (i :: l) a w := by
  simp only [wpMix, hF]
  exact ⟨o, v, at_drop ho, .inl ⟨hw, fun w _ => hy w⟩, h⟩
/-- What its guard passes over. -/
theorem mix_skip {F : Nat → Nat} {i : Nat} {l : List Nat} {o : Oper} {a : Act} {w : World} (hF : F i = 2) {rest : List Oper} (ho : ops.toList.drop i = o :: rest) (hw : Region.wanted o (yielded ops a.tmps) = false)
    (h : wpMix P ops Q S F T l (a.put o.dst undef) w) : wpMix P ops Q S F T (i :: l) a w := by
  simp only [wpMix, hF]
  exact ⟨o, undef, at_drop ho, .inr ⟨hw, rfl⟩, h⟩
/-- What acts. -/
theorem mix_act {F : Nat → Nat} {i : Nat} {l : List Nat} {o : Oper} {a : Act} {w : World} (hF : F i = 0) {rest : List Oper} (ho : ops.toList.drop i = o :: rest) (hw : Region.wanted o (yielded ops a.tmps) = true)
    (h : ∀ K : Act → World → Prop, (∀ a w', (T i = true → S w → S w') → wpMix P ops Q S F T l a w' → K a w') → o.wp P a w K Q) : wpMix P ops Q S F T (i :: l) a w := by
  simp only [wpMix, hF, wpOp, at_drop ho, hw, if_true]
  exact .inl (h _ (fun a w h1 h2 => ⟨h1, h2⟩))
theorem mix_done {F : Nat → Nat} {a : Act} {w : World} (h : Q .normal a w) : wpMix P ops Q S F T [] a w := h
end
end Go.Proofs.YtpcpcgfljffkeaaDoor
