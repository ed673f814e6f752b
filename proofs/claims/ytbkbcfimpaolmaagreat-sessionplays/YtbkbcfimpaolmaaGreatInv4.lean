/-
  Own text. A region that leaves its order open and in which operations change what others may meet: what holds of the world hangs on which operations are behind (L). No program is named here.
-/
import Derived.Test.YtbkbcfimpaolmaaGreatJ1
namespace Go.Proofs.YtbkbcfimpaolmaaGreat
open Go
section
variable {P : Program} {ops : Array Oper} {Q : Exit → Act → World → Prop}
structure Mid4 (ops : Array Oper) (a0 : Act) (S : (Nat → Bool) → World → Prop) (φ : Nat → Value → Prop) (listed : Array Bool) (a : Act) (w : World) : Prop where
  lsize : listed.size = ops.size
  closed : ∀ (j : Nat) (oj : Oper), ops[j]? = some oj → listed.getD j false = true → ∀ e ∈ oj.after, Region.binds .any e = true → listed.getD e.on false = true
  size : a.tmps.size = a0.tmps.size
  defers : a.defers = a0.defers
  world : S (fun j => listed.getD j false) w
  frame : ∀ t : Nat, (∀ (i : Nat) (o : Oper), ops[i]? = some o → listed.getD i false = true → o.dst ≠ some t) → a.tmps[t]? = a0.tmps[t]?
  known : ∀ (i : Nat) (o : Oper) (d : Nat), ops[i]? = some o → o.dst = some d → listed.getD i false = true → φ i (a.tmps.getD d undef)
theorem wp_region_inv4 {id : Nat} {a0 : Act} {w0 : World} (S : (Nat → Bool) → World → Prop) (φ : Nat → Value → Prop) (hm : P.follows .mixedOrders = true) (hB : invB ops = true)
    (hS0 : S (fun _ => false) w0.drew)
    (step : ∀ (i : Nat) (o : Oper), ops[i]? = some o → ∀ (L : Nat → Bool) (a : Act) (w : World), S L w → L i = false → (∀ (k : Nat) (ok : Oper), ops[k]? = some ok → L k = true → ∀ e ∈ ok.after, Region.binds .any e = true → L e.on = true) → (∀ e ∈ o.after, Region.binds .any e = true → L e.on = true) → (∀ t : Nat, (∀ (j : Nat) (oj : Oper), ops[j]? = some oj → oj.dst = some t → predOf oj i = true) → a.tmps[t]? = a0.tmps[t]?) →
      (∀ (j : Nat) (oj : Oper) (d : Nat), ops[j]? = some oj → oj.dst = some d → predOf o j = true → φ j (a.tmps.getD d undef)) →
      wpOp P ops Q i (fun a' w' => ∃ v, a' = a.put o.dst v ∧ φ i v ∧ S (fun j => if j = i then true else L j) w') a w)
    (fin : ∀ (vs : Nat → Value) (L : Nat → Bool) (w : World), S L w → (∀ i, i < ops.size → L i = true) → (∀ (i : Nat) (o : Oper) (d : Nat), ops[i]? = some o → o.dst = some d → φ i (vs d)) → Q .normal (putAll a0 vs (dsts ops)) w)
    (hsz : ∀ d ∈ dsts ops, d < a0.tmps.size) : (Code.region id ops true).wp P Q a0 w0 := by
  simp only [invB, Bool.and_eq_true, decide_eq_true_eq] at hB
  obtain ⟨⟨hsome, hnd⟩, hord⟩ := hB
  refine wp_region_any hm (wpAny_inv (Mid4 ops a0 S φ) ?_ ?_ ops.size _ a0 _ ?_ ?_)
  · intro listed a w i mid hi
    obtain ⟨hun, oi, hoi, hall⟩ := mem_ready.1 hi
    have hils : i < listed.size := by
      rcases Nat.lt_or_ge i listed.size with h | h
      · exact h
      · simp [Array.getElem?_eq_none h] at hun
    have hunf : listed.getD i false = false := by simp [hils] at hun ⊢; exact hun
    have hst := step i oi hoi (fun j => listed.getD j false) a w mid.world hunf mid.closed hall
      (fun t ht => mid.frame t (fun j oj hj hl hd => by
        obtain ⟨e, he, hb⟩ := Array.any_eq_true'.1 (ht j oj hj hd)
        simp only [Bool.and_eq_true, beq_iff_eq] at hb
        have := mid.closed j oj hj hl e he hb.1
        rw [hb.2, hunf] at this
        cases this))
      (fun j oj d hj hd hp => by
        obtain ⟨e, he, hb⟩ := Array.any_eq_true'.1 hp
        simp only [Bool.and_eq_true, beq_iff_eq] at hb
        have := hall e he hb.1
        rw [hb.2] at this
        exact mid.known j oj d hj hd this)
    refine wpOp_mono (fun a' w' h' => ?_) hst
    obtain ⟨v, rfl, hv, hR⟩ := h'
    have hsi : oi.dst.isSome = true := List.all_eq_true.1 hsome oi (by simpa using Array.mem_of_getElem? hoi)
    obtain ⟨di, hdi⟩ := Option.isSome_iff_exists.1 hsi
    have hmem : di ∈ dsts ops := List.mem_filterMap.2 ⟨oi, by simpa using Array.mem_of_getElem? hoi, hdi⟩
    have hdlt : di < a.tmps.size := by rw [mid.size]; exact hsz di hmem
    have hself : (listed.setIfInBounds i true).getD i false = true := by simp [hils]
    rw [hdi]
    refine ⟨by simp [mid.lsize], fun j oj hj hl e he hb => ?_, by simpa [Act.put] using mid.size, mid.defers, ?_, fun t ht => ?_, fun j oj d hj hd hl => ?_⟩
    · rcases getD_set_false hl with rfl | hl
      · obtain rfl : oj = oi := Option.some.inj (hj.symm.trans hoi)
        have h1 := hall e he hb
        by_cases hie : j = e.on
        · rw [hie]; rw [hie] at hself; exact hself
        · rw [getD_set_ne false hie]; exact h1
      · have h1 := mid.closed j oj hj hl e he hb
        by_cases hie : i = e.on
        · rw [← hie]; exact hself
        · rw [getD_set_ne false hie]; exact h1
    · have e : (fun j => (listed.setIfInBounds i true).getD j false) = fun j => if j = i then true else listed.getD j false := by
        funext j
        by_cases hji : j = i
        · subst hji; rw [if_pos rfl]; exact hself
        · rw [if_neg hji, getD_set_ne false (Ne.symm hji)]
      rw [e]
      exact hR
    · have hne : di ≠ t := fun h => ht i oi hoi hself (by rw [hdi, h])
      rw [show (a.put (some di) v).tmps[t]? = a.tmps[t]? from by simp [Act.put, hne]]
      exact mid.frame t (fun j oj hj hl => ht j oj hj (by
        by_cases hij : i = j
        · subst hij; exact hself
        · rw [getD_set_ne false hij]; exact hl))
    · rcases getD_set_false hl with rfl | hl
      · obtain rfl : oj = oi := Option.some.inj (hj.symm.trans hoi)
        obtain rfl : d = di := Option.some.inj (hd.symm.trans hdi)
        rw [show (a.put (some d) v).tmps.getD d undef = v from by simp [Act.put, hdlt]]
        exact hv
      · have hne : di ≠ d := fun h => by
          subst h
          have := nodup_dst hnd hoi hj hdi hd
          subst this
          rw [hunf] at hl
          cases hl
        rw [show (a.put (some di) v).tmps.getD d undef = a.tmps.getD d undef from by simp [Act.put, hne]]
        exact mid.known j oj d hj hd hl
  · intro listed a w mid hr
    have hall : ∀ n i, i < n → i < ops.size → listed.getD i false = true := by
      intro n
      induction n with
      | zero => intro i h; cases h
      | succ n ih =>
        intro i hin hil
        by_cases hlt : i < n
        · exact ih i hlt hil
        · have hin' : i = n := by omega
          subst hin'
          cases hg : listed.getD i false with
          | true => rfl
          | false =>
            have ho : ops[i]? = some ops[i] := Array.getElem?_eq_getElem hil
            have h1 := List.all_eq_true.1 hord i (List.mem_range.2 hil)
            simp only [ho] at h1
            have hin2 : i ∈ Region.ready .any ops listed := mem_ready.2 ⟨by
              have : i < listed.size := by rw [mid.lsize]; exact hil
              simp [this] at hg ⊢; exact hg, _, ho, fun e he hb => by
              have h2 := Array.all_eq_true'.1 h1 e he
              simp only [hb, Bool.not_true, Bool.false_or, decide_eq_true_eq] at h2
              exact ih e.on h2 (by omega)⟩
            rw [hr] at hin2
            cases hin2
    have hq := fin (fun d => a.tmps.getD d undef) _ w mid.world (fun i hi => hall (i + 1) i (by omega) hi) (fun i o d ho hd => mid.known i o d ho hd (hall (i + 1) i (by omega) (Array.getElem?_eq_some_iff.1 ho).1))
    have ha : putAll a0 (fun d => a.tmps.getD d undef) (dsts ops) = a := by
      have h1 := putAll_defers (fun d => a.tmps.getD d undef) (dsts ops) a0
      have h2 : (putAll a0 (fun d => a.tmps.getD d undef) (dsts ops)).tmps = a.tmps := by
        apply Array.ext_getElem?
        intro t
        by_cases ht : t < a0.tmps.size
        · rw [putAll_get _ _ _ _ ht]
          by_cases hm2 : t ∈ dsts ops
          · rw [if_pos hm2]
            have : t < a.tmps.size := by rw [mid.size]; exact ht
            simp [this]
          · rw [if_neg hm2]
            exact (mid.frame t (fun i o hi _ hd => hm2 (List.mem_filterMap.2 ⟨o, by simpa using Array.mem_of_getElem? hi, hd⟩))).symm
        · rw [Array.getElem?_eq_none (by rw [putAll_size]; omega), Array.getElem?_eq_none (by rw [mid.size]; omega)]
      rw [← mid.defers] at h1
      generalize putAll a0 (fun d => a.tmps.getD d undef) (dsts ops) = b at h1 h2
      cases a; cases b
      simp only at h1 h2
      rw [h1, h2]
    rw [ha] at hq
    exact hq
  · unfold leftOf
    exact Nat.le_trans (List.length_filter_le _ _) (by simp)
  · exact ⟨by simp, fun j oj _ hl => (by rw [getD_replicate_f] at hl; cases hl), rfl, rfl, by simp only [getD_replicate_f]; exact hS0, fun _ _ => rfl, fun i o d _ _ hl => (by rw [getD_replicate_f] at hl; cases hl)⟩
/-- Of the operations that are listed what is known of their slots. -/
def Knows4 (φ : Nat → Value → Prop) (ds : List Nat) (a : Act) : List Nat → Prop
  | [] => True
  | j :: l => φ j (a.eval (.tmp (ds.getD j 0))) ∧ Knows4 φ ds a l
theorem knows4_of {φ : Nat → Value → Prop} {ds : List Nat} {a : Act} : ∀ (l : List Nat), (∀ j ∈ l, φ j (a.eval (.tmp (ds.getD j 0)))) → Knows4 φ ds a l
  | [], _ => trivial
  | x :: l, h => ⟨h x (by simp), knows4_of l (fun j hj => h j (by simp [hj]))⟩
/-- These are behind. -/
def Behind (L : Nat → Bool) : List Nat → Prop
  | [] => True
  | j :: l => L j = true ∧ Behind L l
theorem behind_of {L : Nat → Bool} : ∀ (l : List Nat), (∀ j ∈ l, L j = true) → Behind L l
  | [], _ => trivial
  | x :: l, h => ⟨h x (by simp), behind_of l (fun j hj => h j (by simp [hj]))⟩
/-- These are ahead. -/
def Ahead (L : Nat → Bool) : List Nat → Prop
  | [] => True
  | j :: l => L j = false ∧ Ahead L l
theorem ahead_of {L : Nat → Bool} : ∀ (l : List Nat), (∀ j ∈ l, L j = false) → Ahead L l
  | [], _ => trivial
  | x :: l, h => ⟨h x (by simp), ahead_of l (fun j hj => h j (by simp [hj]))⟩
/-- Operation k, whatever came before it (L: what is behind). -/
def StepOK4 (P : Program) (S : (Nat → Bool) → World → Prop) (φ : Nat → Value → Prop) (ds : List Nat) (base : List (Nat × Value)) (p q r : List Nat) (k : Nat) (o : Oper) : Prop :=
  ∀ (Q : Exit → Act → World → Prop) (L : Nat → Bool) (a : Act) (w : World), S L w → L k = false → Behind L q → Ahead L r → Holds a base → Knows4 φ ds a p →
    (match o.guard with | none => True | some (g, b) => a.eval (.tmp (ds.getD g 0)) = .bool b) ∧
    ∀ K : Act → World → Prop, (∀ v w', φ k v → S (fun j => if j = k then true else L j) w' → K (a.put o.dst v) w') → o.wp P a w K Q
def AllSteps4 (P : Program) (S : (Nat → Bool) → World → Prop) (φ : Nat → Value → Prop) (ds : List Nat) (base : List (Nat × Value)) : List (List Nat) → List (List Nat) → List (List Nat) → Nat → List Oper → Prop
  | _, _, _, _, [] => True
  | p, q, r, k, o :: l => StepOK4 P S φ ds base (p.headD []) (q.headD []) (r.headD []) k o ∧ AllSteps4 P S φ ds base p.tail q.tail r.tail (k + 1) l
theorem AllSteps4.at {S : (Nat → Bool) → World → Prop} {φ : Nat → Value → Prop} {ds : List Nat} {base : List (Nat × Value)} : ∀ (l : List Oper) (p q r : List (List Nat)) (k : Nat), AllSteps4 P S φ ds base p q r k l →
    ∀ (i : Nat) (o : Oper), l[i]? = some o → StepOK4 P S φ ds base (p.getD i []) (q.getD i []) (r.getD i []) (k + i) o
  | [], _, _, _, _, _, _, _, h => by simp at h
  | x :: l, p, q, r, k, h, i, o, ho => by
    cases i with
    | zero =>
      simp at ho; subst ho
      have := h.1
      cases p <;> cases q <;> cases r <;> simpa using this
    | succ i =>
      simp at ho
      have := AllSteps4.at l p.tail q.tail r.tail (k + 1) h.2 i o ho
      rw [show k + 1 + i = k + (i + 1) by omega] at this
      cases p <;> cases q <;> cases r <;> simpa using this
/-- q: of each operation some that must be behind it, by one step or more. -/
def ancB (ops : Array Oper) (q : List (List Nat)) : Bool :=
  (List.range ops.size).all fun k => match ops[k]? with
    | some o => (q.getD k []).all (fun j => o.after.any fun e => Region.binds .any e && decide (e.on < k) && (e.on == j || (q.getD e.on []).contains j))
    | none => true
/-- r: of each operation some that wait for it, by one step or more. -/
def descB (ops : Array Oper) (q r : List (List Nat)) : Bool :=
  (List.range ops.size).all fun k => (r.getD k []).all (fun j => decide (j < ops.size) && (q.getD j []).contains k)
theorem anc_behind {q : List (List Nat)} (hq : ancB ops q = true) {L : Nat → Bool} (hcl : ∀ (k : Nat) (ok : Oper), ops[k]? = some ok → L k = true → ∀ e ∈ ok.after, Region.binds .any e = true → L e.on = true) :
    ∀ (n k : Nat) (o : Oper), k < n → ops[k]? = some o → (∀ e ∈ o.after, Region.binds .any e = true → L e.on = true) → ∀ j ∈ q.getD k [], L j = true := by
  intro n
  induction n with
  | zero => intro k o hk; cases hk
  | succ n ih =>
    intro k o hk ho hall j hj
    have h1 := List.all_eq_true.1 hq k (List.mem_range.2 (Array.getElem?_eq_some_iff.1 ho).1)
    simp only [ho] at h1
    have h2 := List.all_eq_true.1 h1 j hj
    obtain ⟨e, he, hb⟩ := Array.any_eq_true'.1 h2
    simp only [Bool.and_eq_true, Bool.or_eq_true, beq_iff_eq, decide_eq_true_eq] at hb
    have h3 := hall e he hb.1.1
    rcases hb.2 with h4 | h4
    · rw [← h4]; exact h3
    · have hlt : e.on < ops.size := Nat.lt_trans hb.1.2 (Array.getElem?_eq_some_iff.1 ho).1
      have hoe : ops[e.on]? = some ops[e.on] := Array.getElem?_eq_getElem hlt
      exact ih e.on _ (by omega) hoe (hcl e.on _ hoe h3) j (by simpa using h4)
/-- THE LAW, operation by operation. -/
theorem wp_region_steps4 {id : Nat} {a0 : Act} {w0 : World} (S : (Nat → Bool) → World → Prop) (φ : Nat → Value → Prop) (ds : List Nat) (base : List (Nat × Value)) (p q r : List (List Nat))
    (hm : P.follows .mixedOrders = true) (hB : (invB ops && ancB ops q && descB ops q r && tabB ops ds (base.map (·.1)) p && ds.all (fun d => decide (d < a0.tmps.size))) = true)
    (hb0 : Holds a0 base) (hS0 : S (fun _ => false) w0.drew)
    (steps : AllSteps4 P S φ ds base p q r 0 ops.toList)
    (fin : ∀ (vs : Nat → Value) (L : Nat → Bool) (w : World), S L w → (∀ i, i < ops.size → L i = true) → (∀ j : Nat, j < ds.length → φ j (vs (ds.getD j 0))) → Q .normal (putAll a0 vs ds) w) : (Code.region id ops true).wp P Q a0 w0 := by
  simp only [Bool.and_eq_true] at hB
  obtain ⟨⟨⟨⟨hI, hA⟩, hD⟩, hT⟩, hsz⟩ := hB
  simp only [tabB, Bool.and_eq_true, beq_iff_eq] at hT
  obtain ⟨⟨hds, hbase⟩, htab⟩ := hT
  have hdst : ∀ (j : Nat) (oj : Oper), ops[j]? = some oj → oj.dst = some (ds.getD j 0) ∧ j < ds.length := fun j oj hj => by
    have h1 : (ops.toList.map (·.dst))[j]? = some oj.dst := by rw [List.getElem?_map]; simp [hj]
    rw [hds, List.getElem?_map] at h1
    cases hq : ds[j]? with
    | none => rw [hq] at h1; simp at h1
    | some d =>
      rw [hq] at h1
      have hl : j < ds.length := (List.getElem?_eq_some_iff.1 hq).1
      refine ⟨?_, hl⟩
      rw [List.getD_eq_getElem?_getD, hq]
      simpa using h1.symm
  have hdsts : dsts ops = ds := by
    unfold dsts
    have h1 : ops.toList.filterMap (·.dst) = (ops.toList.map (·.dst)).filterMap (fun x => x) := by rw [List.filterMap_map]; rfl
    rw [h1, hds, List.filterMap_map]
    exact List.filterMap_some
  refine wp_region_inv4 S φ hm hI hS0 (fun i o hi L a w hS hun hcl hall hfr hkn => ?_) (fun vs L w hS hL h => ?_) (fun d hd => by rw [hdsts] at hd; simpa using List.all_eq_true.1 hsz d hd)
  · have hil : i < ops.size := (Array.getElem?_eq_some_iff.1 hi).1
    have ht := List.all_eq_true.1 htab i (List.mem_range.2 hil)
    simp only [hi, Bool.and_eq_true] at ht
    have st := AllSteps4.at ops.toList p q r 0 steps i o (by simpa using hi)
    rw [Nat.zero_add] at st
    obtain ⟨hg, hk⟩ := st Q L a w hS hun (behind_of _ (anc_behind hA hcl (i + 1) i o (by omega) hi hall))
      (ahead_of _ (fun j hj => by
        have h1 := List.all_eq_true.1 (List.all_eq_true.1 hD i (List.mem_range.2 hil)) j hj
        simp only [Bool.and_eq_true, decide_eq_true_eq] at h1
        cases hLj : L j with
        | false => rfl
        | true =>
          have hoj : ops[j]? = some ops[j] := Array.getElem?_eq_getElem h1.1
          have h2 := anc_behind hA hcl (j + 1) j _ (by omega) hoj (hcl j _ hoj hLj) i (by simpa using h1.2)
          rw [hun] at h2
          cases h2))
      (holds_of base (fun t htm => eval_tmp_of (hfr t (fun j oj hj hd => by
        exfalso
        have h1 := List.all_eq_true.1 hbase t htm
        have h2 := (hdst j oj hj).1
        rw [hd] at h2
        have h3 : t = ds.getD j 0 := Option.some.inj h2
        have h4 : t ∈ ds := by
          rw [h3, List.getD_eq_getElem?_getD, List.getElem?_eq_getElem (hdst j oj hj).2]
          simp
        simp [h4] at h1))) hb0)
      (knows4_of _ (fun j hj => by
        have h1 := List.all_eq_true.1 ht.1 j hj
        simp only [Bool.and_eq_true, decide_eq_true_eq] at h1
        have hoj : ops[j]? = some ops[j] := Array.getElem?_eq_getElem h1.2
        have h2 := hkn j _ _ hoj (hdst j _ hoj).1 h1.1
        simpa [Act.eval] using h2))
    have hw : Region.wanted o (yielded ops a.tmps) = true := by
      unfold Region.wanted
      cases hgd : o.guard with
      | none => rfl
      | some x =>
        obtain ⟨g, b⟩ := x
        rw [hgd] at hg
        have h2 := ht.2
        rw [hgd] at h2
        simp only [decide_eq_true_eq] at h2
        have hog : ops[g]? = some ops[g] := Array.getElem?_eq_getElem h2
        have hd := (hdst g _ hog).1
        have h4 : a.tmps[ds.getD g 0]? = some (.bool b) := by
          simp only [Act.eval] at hg
          rw [Array.getD_eq_getD_getElem?] at hg
          cases hq : a.tmps[ds.getD g 0]? with
          | none => rw [hq] at hg; simp [undef] at hg
          | some v => rw [hq] at hg; simpa using hg
        have hy : yielded ops a.tmps g = some b := by
          unfold yielded
          rw [hog]
          simp only [Option.bind_some, hd, h4]
        simp [hy]
    unfold wpOp
    simp only [hi, hw, if_true]
    exact .inl (hk _ (fun v w' h1 h2 => ⟨v, rfl, h1, h2⟩))
  · rw [hdsts]
    refine fin vs L w hS hL (fun j hj => ?_)
    have hlen : ops.toList.length = ds.length := by have := congrArg List.length hds; simpa using this
    have hjl : j < ops.size := by rw [← hlen] at hj; simpa using hj
    have hoj : ops[j]? = some ops[j] := Array.getElem?_eq_getElem hjl
    exact h j _ _ hoj (hdst j _ hoj).1
end
end Go.Proofs.YtbkbcfimpaolmaaGreat
