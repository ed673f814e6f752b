/-
  Own text. Inv's laws for the first operations of a region that is cut (Cut). No program is named here.
-/
import Derived.Test.YtcpnleanjclfjaaJ1
import Derived.BigQuiet
import Derived.Deep.CutBlock
import Derived.Deep.DeepCutAuto
namespace Go.Proofs.Ytcpnleanjclfjaa
open Go
section
variable {P : Program} {ops : Array Oper} {Q : Exit → Act → World → Prop}
theorem any_inv {a0 : Act} {w0 : World} (S : World → Prop) (R : World → World → Prop) (φ : Nat → Value → World → Prop) (hB : invB ops = true)
    (hS0 : S w0.drew) (hSR : ∀ w w', S w → R w w' → S w') (hφ : ∀ i v w w', φ i v w → R w w' → φ i v w')
    (step : ∀ (i : Nat) (o : Oper), ops[i]? = some o → ∀ (a : Act) (w : World), S w → (∀ t : Nat, (∀ (j : Nat) (oj : Oper), ops[j]? = some oj → oj.dst = some t → predOf oj i = true) → a.tmps[t]? = a0.tmps[t]?) →
      (∀ (j : Nat) (oj : Oper) (d : Nat), ops[j]? = some oj → oj.dst = some d → predOf o j = true → φ j (a.tmps.getD d undef) w) →
      wpOp P ops Q i (fun a' w' => ∃ v, a' = a.put o.dst v ∧ φ i v w' ∧ R w w') a w)
    (fin : ∀ (vs : Nat → Value) (w : World), S w → (∀ (i : Nat) (o : Oper) (d : Nat), ops[i]? = some o → o.dst = some d → φ i (vs d) w) → Q .normal (putAll a0 vs (dsts ops)) w)
    (hsz : ∀ d ∈ dsts ops, d < a0.tmps.size) : wpAny P .any ops Q ops.size (Array.replicate ops.size false) a0 { w0 with drawn := w0.drawn + 1 } := by
  simp only [invB, Bool.and_eq_true, decide_eq_true_eq] at hB
  obtain ⟨⟨hsome, hnd⟩, hord⟩ := hB
  refine (wpAny_inv (Mid ops a0 S φ) ?_ ?_ ops.size _ a0 _ ?_ ?_)
  · intro listed a w i mid hi
    obtain ⟨hun, oi, hoi, hall⟩ := mem_ready.1 hi
    have hils : i < listed.size := by
      rcases Nat.lt_or_ge i listed.size with h | h
      · exact h
      · simp [Array.getElem?_eq_none h] at hun
    have hunf : listed.getD i false = false := by simp [hils] at hun ⊢; exact hun
    have hst := step i oi hoi a w mid.world
      (fun t ht => mid.frame t (fun j oj hj hl hd => by
        obtain ⟨e, he, hb⟩ := Array.any_eq_true'.1 (ht j oj hj hd)
        simp only [Bool.and_eq_true, beq_iff_eq] at hb
        have := mid.closed j oj hj hl e he hb.1
        rw [hb.2, hunf] at this
        cases this))
      (fun j oj d hj hd hp => by
        obtain ⟨e, he, hb⟩ := Array.any_eq_true'.1 hp
        simp only [Bool.and_eq_true, beq_iff_eq] at hb
        have := hall e he hb.1
        rw [hb.2] at this
        exact mid.known j oj d hj hd this)
    refine wpOp_mono (fun a' w' h' => ?_) hst
    obtain ⟨v, rfl, hv, hR⟩ := h'
    have hsi : oi.dst.isSome = true := List.all_eq_true.1 hsome oi (by simpa using Array.mem_of_getElem? hoi)
    obtain ⟨di, hdi⟩ := Option.isSome_iff_exists.1 hsi
    have hmem : di ∈ dsts ops := List.mem_filterMap.2 ⟨oi, by simpa using Array.mem_of_getElem? hoi, hdi⟩
    have hdlt : di < a.tmps.size := by rw [mid.size]; exact hsz di hmem
    have hself : (listed.setIfInBounds i true).getD i false = true := by simp [hils]
    rw [hdi]
    refine ⟨by simp [mid.lsize], fun j oj hj hl e he hb => ?_, by simpa [Act.put] using mid.size, mid.defers, hSR w w' mid.world hR, fun t ht => ?_, fun j oj d hj hd hl => ?_⟩
    · rcases getD_set_false hl with rfl | hl
      · obtain rfl : oj = oi := Option.some.inj (hj.symm.trans hoi)
        have h1 := hall e he hb
        by_cases hie : j = e.on
        · rw [hie]; rw [hie] at hself; exact hself
        · rw [getD_set_ne false hie]; exact h1
      · have h1 := mid.closed j oj hj hl e he hb
        by_cases hie : i = e.on
        · rw [← hie]; exact hself
        · rw [getD_set_ne false hie]; exact h1
    · have hne : di ≠ t := fun h => ht i oi hoi hself (by rw [hdi, h])
      rw [show (a.put (some di) v).tmps[t]? = a.tmps[t]? from by simp [Act.put, hne]]
      exact mid.frame t (fun j oj hj hl => ht j oj hj (by
        by_cases hij : i = j
        · subst hij; exact hself
        · rw [getD_set_ne false hij]; exact hl))
    · rcases getD_set_false hl with rfl | hl
      · obtain rfl : oj = oi := Option.some.inj (hj.symm.trans hoi)
        obtain rfl : d = di := Option.some.inj (hd.symm.trans hdi)
        rw [show (a.put (some d) v).tmps.getD d undef = v from by simp [Act.put, hdlt]]
        exact hv
      · have hne : di ≠ d := fun h => by
          subst h
          have := nodup_dst hnd hoi hj hdi hd
          subst this
          rw [hunf] at hl
          cases hl
        rw [show (a.put (some di) v).tmps.getD d undef = a.tmps.getD d undef from by simp [Act.put, hne]]
        exact hφ j _ w w' (mid.known j oj d hj hd hl) hR
  · intro listed a w mid hr
    have hall : ∀ n i, i < n → i < ops.size → listed.getD i false = true := by
      intro n
      induction n with
      | zero => intro i h; cases h
      | succ n ih =>
        intro i hin hil
        by_cases hlt : i < n
        · exact ih i hlt hil
        · have hin' : i = n := by omega
          subst hin'
          cases hg : listed.getD i false with
          | true => rfl
          | false =>
            have ho : ops[i]? = some ops[i] := Array.getElem?_eq_getElem hil
            have h1 := List.all_eq_true.1 hord i (List.mem_range.2 hil)
            simp only [ho] at h1
            have hin2 : i ∈ Region.ready .any ops listed := mem_ready.2 ⟨by
              have : i < listed.size := by rw [mid.lsize]; exact hil
              simp [this] at hg ⊢; exact hg, _, ho, fun e he hb => by
              have h2 := Array.all_eq_true'.1 h1 e he
              simp only [hb, Bool.not_true, Bool.false_or, decide_eq_true_eq] at h2
              exact ih e.on h2 (by omega)⟩
            rw [hr] at hin2
            cases hin2
    have hq := fin (fun d => a.tmps.getD d undef) w mid.world (fun i o d ho hd => mid.known i o d ho hd (hall (i + 1) i (by omega) (Array.getElem?_eq_some_iff.1 ho).1))
    have ha : putAll a0 (fun d => a.tmps.getD d undef) (dsts ops) = a := by
      have h1 := putAll_defers (fun d => a.tmps.getD d undef) (dsts ops) a0
      have h2 : (putAll a0 (fun d => a.tmps.getD d undef) (dsts ops)).tmps = a.tmps := by
        apply Array.ext_getElem?
        intro t
        by_cases ht : t < a0.tmps.size
        · rw [putAll_get _ _ _ _ ht]
          by_cases hm2 : t ∈ dsts ops
          · rw [if_pos hm2]
            have : t < a.tmps.size := by rw [mid.size]; exact ht
            simp [this]
          · rw [if_neg hm2]
            exact (mid.frame t (fun i o hi _ hd => hm2 (List.mem_filterMap.2 ⟨o, by simpa using Array.mem_of_getElem? hi, hd⟩))).symm
        · rw [Array.getElem?_eq_none (by rw [putAll_size]; omega), Array.getElem?_eq_none (by rw [mid.size]; omega)]
      rw [← mid.defers] at h1
      generalize putAll a0 (fun d => a.tmps.getD d undef) (dsts ops) = b at h1 h2
      cases a; cases b
      simp only at h1 h2
      rw [h1, h2]
    rw [ha] at hq
    exact hq
  · unfold leftOf
    exact Nat.le_trans (List.length_filter_le _ _) (by simp)
  · exact ⟨by simp, fun j oj _ hl => (by rw [getD_replicate_f] at hl; cases hl), rfl, rfl, hS0, fun _ _ => rfl, fun i o d _ _ hl => (by rw [getD_replicate_f] at hl; cases hl)⟩
theorem any_steps {a0 : Act} {w0 : World} (S : World → Prop) (R : World → World → Prop) (φ : Nat → Value → World → Prop) (ds : List Nat) (base : List (Nat × Value)) (p : List (List Nat))
    (hB : (invB ops && tabB ops ds (base.map (·.1)) p && ds.all (fun d => decide (d < a0.tmps.size))) = true)
    (hb0 : Holds a0 base) (hS0 : S w0.drew) (hSR : ∀ w w', S w → R w w' → S w') (hφ : ∀ i v w w', φ i v w → R w w' → φ i v w')
    (steps : AllSteps P S R φ ds base p 0 ops.toList)
    (fin : ∀ (vs : Nat → Value) (w : World), S w → (∀ j : Nat, j < ds.length → φ j (vs (ds.getD j 0)) w) → Q .normal (putAll a0 vs ds) w) : wpAny P .any ops Q ops.size (Array.replicate ops.size false) a0 { w0 with drawn := w0.drawn + 1 } := by
  simp only [Bool.and_eq_true] at hB
  obtain ⟨⟨hI, hT⟩, hsz⟩ := hB
  simp only [tabB, Bool.and_eq_true, beq_iff_eq] at hT
  obtain ⟨⟨hds, hbase⟩, htab⟩ := hT
  have hdst : ∀ (j : Nat) (oj : Oper), ops[j]? = some oj → oj.dst = some (ds.getD j 0) ∧ j < ds.length := fun j oj hj => by
    have h1 : (ops.toList.map (·.dst))[j]? = some oj.dst := by rw [List.getElem?_map]; simp [hj]
    rw [hds, List.getElem?_map] at h1
    cases hq : ds[j]? with
    | none => rw [hq] at h1; simp at h1
    | some d =>
      rw [hq] at h1
      have hl : j < ds.length := (List.getElem?_eq_some_iff.1 hq).1
      refine ⟨?_, hl⟩
      rw [List.getD_eq_getElem?_getD, hq]
      simpa using h1.symm
  have hdsts : dsts ops = ds := by
    unfold dsts
    have h1 : ops.toList.filterMap (·.dst) = (ops.toList.map (·.dst)).filterMap (fun x => x) := by rw [List.filterMap_map]; rfl
    rw [h1, hds, List.filterMap_map]
    exact List.filterMap_some
  refine any_inv S R φ hI hS0 hSR hφ (fun i o hi a w hS hfr hkn => ?_) (fun vs w hS h => ?_) (fun d hd => by rw [hdsts] at hd; simpa using List.all_eq_true.1 hsz d hd)
  · have hil : i < ops.size := (Array.getElem?_eq_some_iff.1 hi).1
    have ht := List.all_eq_true.1 htab i (List.mem_range.2 hil)
    simp only [hi, Bool.and_eq_true] at ht
    have st := AllSteps.at ops.toList p 0 steps i o (by simpa using hi)
    rw [Nat.zero_add] at st
    obtain ⟨hg, hk⟩ := st Q a w hS
      (holds_of base (fun t htm => eval_tmp_of (hfr t (fun j oj hj hd => by
        exfalso
        have h1 := List.all_eq_true.1 hbase t htm
        have h2 := (hdst j oj hj).1
        rw [hd] at h2
        have h3 : t = ds.getD j 0 := Option.some.inj h2
        have h4 : t ∈ ds := by
          rw [h3, List.getD_eq_getElem?_getD, List.getElem?_eq_getElem (hdst j oj hj).2]
          simp
        simp [h4] at h1))) hb0)
      (knows_of _ (fun j hj => by
        have h1 := List.all_eq_true.1 ht.1 j hj
        simp only [Bool.and_eq_true, decide_eq_true_eq] at h1
        have hoj : ops[j]? = some ops[j] := Array.getElem?_eq_getElem h1.2
        have h2 := hkn j _ _ hoj (hdst j _ hoj).1 h1.1
        simpa [Act.eval] using h2))
    have hw : Region.wanted o (yielded ops a.tmps) = true := by
      unfold Region.wanted
      cases hgd : o.guard with
      | none => rfl
      | some x =>
        obtain ⟨g, b⟩ := x
        rw [hgd] at hg
        have h2 := ht.2
        rw [hgd] at h2
        simp only [decide_eq_true_eq] at h2
        have hog : ops[g]? = some ops[g] := Array.getElem?_eq_getElem h2
        have hd := (hdst g _ hog).1
        have h4 : a.tmps[ds.getD g 0]? = some (.bool b) := by
          simp only [Act.eval] at hg
          rw [Array.getD_eq_getD_getElem?] at hg
          cases hq : a.tmps[ds.getD g 0]? with
          | none => rw [hq] at hg; simp [undef] at hg
          | some v => rw [hq] at hg; simpa using hg
        have hy : yielded ops a.tmps g = some b := by
          unfold yielded
          rw [hog]
          simp only [Option.bind_some, hd, h4]
        simp [hy]
    unfold wpOp
    simp only [hi, hw, if_true]
    exact .inl (hk _ (fun v w' h1 h2 => ⟨v, rfl, h1, h2⟩))
  · rw [hdsts]
    refine fin vs w hS (fun j hj => ?_)
    have hlen : ops.toList.length = ds.length := by have := congrArg List.length hds; simpa using this
    have hjl : j < ops.size := by rw [← hlen] at hj; simpa using hj
    have hoj : ops[j]? = some ops[j] := Array.getElem?_eq_getElem hjl
    exact h j _ _ hoj (hdst j _ hoj).1
end
end Go.Proofs.Ytcpnleanjclfjaa
/-
  Own text. A region that leaves its order open and in which operations change what others may meet: what holds of the world hangs on which operations are behind (L). No program is named here.
-/
namespace Go.Proofs.Ytcpnleanjclfjaa
open Go
section
variable {P : Program} {ops : Array Oper} {Q : Exit → Act → World → Prop}
structure Mid4 (ops : Array Oper) (a0 : Act) (S : (Nat → Bool) → World → Prop) (φ : Nat → Value → Prop) (listed : Array Bool) (a : Act) (w : World) : Prop where
  lsize : listed.size = ops.size
  closed : ∀ (j : Nat) (oj : Oper), ops[j]? = some oj → listed.getD j false = true → ∀ e ∈ oj.after, Region.binds .any e = true → listed.getD e.on false = true
  size : a.tmps.size = a0.tmps.size
  defers : a.defers = a0.defers
  world : S (fun j => listed.getD j false) w
  frame : ∀ t : Nat, (∀ (i : Nat) (o : Oper), ops[i]? = some o → listed.getD i false = true → o.dst ≠ some t) → a.tmps[t]? = a0.tmps[t]?
  known : ∀ (i : Nat) (o : Oper) (d : Nat), ops[i]? = some o → o.dst = some d → listed.getD i false = true → φ i (a.tmps.getD d undef)
theorem wp_region_inv4 {id : Nat} {a0 : Act} {w0 : World} (S : (Nat → Bool) → World → Prop) (φ : Nat → Value → Prop) (hm : P.follows .mixedOrders = true) (hB : invB ops = true)
    (hS0 : S (fun _ => false) w0.drew)
    (step : ∀ (i : Nat) (o : Oper), ops[i]? = some o → ∀ (L : Nat → Bool) (a : Act) (w : World), S L w → L i = false → (∀ (k : Nat) (ok : Oper), ops[k]? = some ok → L k = true → ∀ e ∈ ok.after, Region.binds .any e = true → L e.on = true) → (∀ e ∈ o.after, Region.binds .any e = true → L e.on = true) → (∀ t : Nat, (∀ (j : Nat) (oj : Oper), ops[j]? = some oj → oj.dst = some t → predOf oj i = true) → a.tmps[t]? = a0.tmps[t]?) →
      (∀ (j : Nat) (oj : Oper) (d : Nat), ops[j]? = some oj → oj.dst = some d → predOf o j = true → φ j (a.tmps.getD d undef)) →
      wpOp P ops Q i (fun a' w' => ∃ v, a' = a.put o.dst v ∧ φ i v ∧ S (fun j => if j = i then true else L j) w') a w)
    (fin : ∀ (vs : Nat → Value) (L : Nat → Bool) (w : World), S L w → (∀ i, i < ops.size → L i = true) → (∀ (i : Nat) (o : Oper) (d : Nat), ops[i]? = some o → o.dst = some d → φ i (vs d)) → Q .normal (putAll a0 vs (dsts ops)) w)
    (hsz : ∀ d ∈ dsts ops, d < a0.tmps.size) : (Code.region id ops true).wp P Q a0 w0 := by
  simp only [invB, Bool.and_eq_true, decide_eq_true_eq] at hB
  obtain ⟨⟨hsome, hnd⟩, hord⟩ := hB
  refine wp_region_any hm (wpAny_inv (Mid4 ops a0 S φ) ?_ ?_ ops.size _ a0 _ ?_ ?_)
  · intro listed a w i mid hi
    obtain ⟨hun, oi, hoi, hall⟩ := mem_ready.1 hi
    have hils : i < listed.size := by
      rcases Nat.lt_or_ge i listed.size with h | h
      · exact h
      · simp [Array.getElem?_eq_none h] at hun
    have hunf : listed.getD i false = false := by simp [hils] at hun ⊢; exact hun
    have hst := step i oi hoi (fun j => listed.getD j false) a w mid.world hunf mid.closed hall
      (fun t ht => mid.frame t (fun j oj hj hl hd => by
        obtain ⟨e, he, hb⟩ := Array.any_eq_true'.1 (ht j oj hj hd)
        simp only [Bool.and_eq_true, beq_iff_eq] at hb
        have := mid.closed j oj hj hl e he hb.1
        rw [hb.2, hunf] at this
        cases this))
      (fun j oj d hj hd hp => by
        obtain ⟨e, he, hb⟩ := Array.any_eq_true'.1 hp
        simp only [Bool.and_eq_true, beq_iff_eq] at hb
        have := hall e he hb.1
        rw [hb.2] at this
        exact mid.known j oj d hj hd this)
    refine wpOp_mono (fun a' w' h' => ?_) hst
    obtain ⟨v, rfl, hv, hR⟩ := h'
    have hsi : oi.dst.isSome = true := List.all_eq_true.1 hsome oi (by simpa using Array.mem_of_getElem? hoi)
    obtain ⟨di, hdi⟩ := Option.isSome_iff_exists.1 hsi
    have hmem : di ∈ dsts ops := List.mem_filterMap.2 ⟨oi, by simpa using Array.mem_of_getElem? hoi, hdi⟩
    have hdlt : di < a.tmps.size := by rw [mid.size]; exact hsz di hmem
    have hself : (listed.setIfInBounds i true).getD i false = true := by simp [hils]
    rw [hdi]
    refine ⟨by simp [mid.lsize], fun j oj hj hl e he hb => ?_, by simpa [Act.put] using mid.size, mid.defers, ?_, fun t ht => ?_, fun j oj d hj hd hl => ?_⟩
    · rcases getD_set_false hl with rfl | hl
      · obtain rfl : oj = oi := Option.some.inj (hj.symm.trans hoi)
        have h1 := hall e he hb
        by_cases hie : j = e.on
        · rw [hie]; rw [hie] at hself; exact hself
        · rw [getD_set_ne false hie]; exact h1
      · have h1 := mid.closed j oj hj hl e he hb
        by_cases hie : i = e.on
        · rw [← hie]; exact hself
        · rw [getD_set_ne false hie]; exact h1
    · have e : (fun j => (listed.setIfInBounds i true).getD j false) = fun j => if j = i then true else listed.getD j false := by
        funext j
        by_cases hji : j = i
        · subst hji; rw [if_pos rfl]; exact hself
        · rw [if_neg hji, getD_set_ne false (Ne.symm hji)]
      rw [e]
      exact hR
    · have hne : di ≠ t := fun h => ht i oi hoi hself (by rw [hdi, h])
      rw [show (a.put (some di) v).tmps[t]? = a.tmps[t]? from by simp [Act.put, hne]]
      exact mid.frame t (fun j oj hj hl => ht j oj hj (by
        by_cases hij : i = j
        · subst hij; exact hself
        · rw [getD_set_ne false hij]; exact hl))
    · rcases getD_set_false hl with rfl | hl
      · obtain rfl : oj = oi := Option.some.inj (hj.symm.trans hoi)
        obtain rfl : d = di := Option.some.inj (hd.symm.trans hdi)
        rw [show (a.put (some d) v).tmps.getD d undef = v from by simp [Act.put, hdlt]]
        exact hv
      · have hne : di ≠ d := fun h => by
          subst h
          have := nodup_dst hnd hoi hj hdi hd
          subst this
          rw [hunf] at hl
          cases hl
        rw [show (a.put (some di) v).tmps.getD d undef = a.tmps.getD d undef from by simp [Act.put, hne]]
        exact mid.known j oj d hj hd hl
  · intro listed a w mid hr
    have hall : ∀ n i, i < n → i < ops.size → listed.getD i false = true := by
      intro n
      induction n with
      | zero => intro i h; cases h
      | succ n ih =>
        intro i hin hil
        by_cases hlt : i < n
        · exact ih i hlt hil
        · have hin' : i = n := by omega
          subst hin'
          cases hg : listed.getD i false with
          | true => rfl
          | false =>
            have ho : ops[i]? = some ops[i] := Array.getElem?_eq_getElem hil
            have h1 := List.all_eq_true.1 hord i (List.mem_range.2 hil)
            simp only [ho] at h1
            have hin2 : i ∈ Region.ready .any ops listed := mem_ready.2 ⟨by
              have : i < listed.size := by rw [mid.lsize]; exact hil
              simp [this] at hg ⊢; exact hg, _, ho, fun e he hb => by
              have h2 := Array.all_eq_true'.1 h1 e he
              simp only [hb, Bool.not_true, Bool.false_or, decide_eq_true_eq] at h2
              exact ih e.on h2 (by omega)⟩
            rw [hr] at hin2
            cases hin2
    have hq := fin (fun d => a.tmps.getD d undef) _ w mid.world (fun i hi => hall (i + 1) i (by omega) hi) (fun i o d ho hd => mid.known i o d ho hd (hall (i + 1) i (by omega) (Array.getElem?_eq_some_iff.1 ho).1))
    have ha : putAll a0 (fun d => a.tmps.getD d undef) (dsts ops) = a := by
      have h1 := putAll_defers (fun d => a.tmps.getD d undef) (dsts ops) a0
      have h2 : (putAll a0 (fun d => a.tmps.getD d undef) (dsts ops)).tmps = a.tmps := by
        apply Array.ext_getElem?
        intro t
        by_cases ht : t < a0.tmps.size
        · rw [putAll_get _ _ _ _ ht]
          by_cases hm2 : t ∈ dsts ops
          · rw [if_pos hm2]
            have : t < a.tmps.size := by rw [mid.size]; exact ht
            simp [this]
          · rw [if_neg hm2]
            exact (mid.frame t (fun i o hi _ hd => hm2 (List.mem_filterMap.2 ⟨o, by simpa using Array.mem_of_getElem? hi, hd⟩))).symm
        · rw [Array.getElem?_eq_none (by rw [putAll_size]; omega), Array.getElem?_eq_none (by rw [mid.size]; omega)]
      rw [← mid.defers] at h1
      generalize putAll a0 (fun d => a.tmps.getD d undef) (dsts ops) = b at h1 h2
      cases a; cases b
      simp only at h1 h2
      rw [h1, h2]
    rw [ha] at hq
    exact hq
  · unfold leftOf
    exact Nat.le_trans (List.length_filter_le _ _) (by simp)
  · exact ⟨by simp, fun j oj _ hl => (by rw [getD_replicate_f] at hl; cases hl), rfl, rfl, by simp only [getD_replicate_f]; exact hS0, fun _ _ => rfl, fun i o d _ _ hl => (by rw [getD_replicate_f] at hl; cases hl)⟩
/-- Of the operations that are listed what is known of their slots. -/
def Knows4 (φ : Nat → Value → Prop) (ds : List Nat) (a : Act) : List Nat → Prop
  | [] => True
  | j :: l => φ j (a.eval (.tmp (ds.getD j 0))) ∧ Knows4 φ ds a l
theorem knows4_of {φ : Nat → Value → Prop} {ds : List Nat} {a : Act} : ∀ (l : List Nat), (∀ j ∈ l, φ j (a.eval (.tmp (ds.getD j 0)))) → Knows4 φ ds a l
  | [], _ => trivial
  | x :: l, h => ⟨h x (by simp), knows4_of l (fun j hj => h j (by simp [hj]))⟩
/-- These are behind. -/
def Behind (L : Nat → Bool) : List Nat → Prop
  | [] => True
  | j :: l => L j = true ∧ Behind L l
theorem behind_of {L : Nat → Bool} : ∀ (l : List Nat), (∀ j ∈ l, L j = true) → Behind L l
  | [], _ => trivial
  | x :: l, h => ⟨h x (by simp), behind_of l (fun j hj => h j (by simp [hj]))⟩
/-- These are ahead. -/
def Ahead (L : Nat → Bool) : List Nat → Prop
  | [] => True
  | j :: l => L j = false ∧ Ahead L l
theorem ahead_of {L : Nat → Bool} : ∀ (l : List Nat), (∀ j ∈ l, L j = false) → Ahead L l
  | [], _ => trivial
  | x :: l, h => ⟨h x (by simp), ahead_of l (fun j hj => h j (by simp [hj]))⟩
/-- Operation k, whatever came before it (L: what is behind). -/
def StepOK4 (P : Program) (S : (Nat → Bool) → World → Prop) (φ : Nat → Value → Prop) (ds : List Nat) (base : List (Nat × Value)) (p q r : List Nat) (k : Nat) (o : Oper) : Prop :=
  ∀ (Q : Exit → Act → World → Prop) (L : Nat → Bool) (a : Act) (w : World), S L w → L k = false → Behind L q → Ahead L r → Holds a base → Knows4 φ ds a p →
    (match o.guard with | none => True | some (g, b) => a.eval (.tmp (ds.getD g 0)) = .bool b) ∧
    ∀ K : Act → World → Prop, (∀ v w', φ k v → S (fun j => if j = k then true else L j) w' → K (a.put o.dst v) w') → o.wp P a w K Q
def AllSteps4 (P : Program) (S : (Nat → Bool) → World → Prop) (φ : Nat → Value → Prop) (ds : List Nat) (base : List (Nat × Value)) : List (List Nat) → List (List Nat) → List (List Nat) → Nat → List Oper → Prop
  | _, _, _, _, [] => True
  | p, q, r, k, o :: l => StepOK4 P S φ ds base (p.headD []) (q.headD []) (r.headD []) k o ∧ AllSteps4 P S φ ds base p.tail q.tail r.tail (k + 1) l
theorem AllSteps4.at {S : (Nat → Bool) → World → Prop} {φ : Nat → Value → Prop} {ds : List Nat} {base : List (Nat × Value)} : ∀ (l : List Oper) (p q r : List (List Nat)) (k : Nat), AllSteps4 P S φ ds base p q r k l →
    ∀ (i : Nat) (o : Oper), l[i]? = some o → StepOK4 P S φ ds base (p.getD i []) (q.getD i []) (r.getD i []) (k + i) o
  | [], _, _, _, _, _, _, _, h => by simp at h
  | x :: l, p, q, r, k, h, i, o, ho => by
    cases i with
    | zero =>
      simp at ho; subst ho
      have := h.1
      cases p <;> cases q <;> cases r <;> simpa using this
    | succ i =>
      simp at ho
      have := AllSteps4.at l p.tail q.tail r.tail (k + 1) h.2 i o ho
      rw [show k + 1 + i = k + (i + 1) by omega] at this
      cases p <;> cases q <;> cases r <;> simpa using this
/-- q: of each operation some that must be behind it, by one step or more. -/
def ancB (ops : Array Oper) (q : List (List Nat)) : Bool :=
  (List.range ops.size).all fun k => match ops[k]? with
    | some o => (q.getD k []).all (fun j => o.after.any fun e => Region.binds .any e && decide (e.on < k) && (e.on == j || (q.getD e.on []).contains j))
    | none => true
/-- r: of each operation some that wait for it, by one step or more. -/
def descB (ops : Array Oper) (q r : List (List Nat)) : Bool :=
  (List.range ops.size).all fun k => (r.getD k []).all (fun j => decide (j < ops.size) && (q.getD j []).contains k)
theorem anc_behind {q : List (List Nat)} (hq : ancB ops q = true) {L : Nat → Bool} (hcl : ∀ (k : Nat) (ok : Oper), ops[k]? = some ok → L k = true → ∀ e ∈ ok.after, Region.binds .any e = true → L e.on = true) :
    ∀ (n k : Nat) (o : Oper), k < n → ops[k]? = some o → (∀ e ∈ o.after, Region.binds .any e = true → L e.on = true) → ∀ j ∈ q.getD k [], L j = true := by
  intro n
  induction n with
  | zero => intro k o hk; cases hk
  | succ n ih =>
    intro k o hk ho hall j hj
    have h1 := List.all_eq_true.1 hq k (List.mem_range.2 (Array.getElem?_eq_some_iff.1 ho).1)
    simp only [ho] at h1
    have h2 := List.all_eq_true.1 h1 j hj
    obtain ⟨e, he, hb⟩ := Array.any_eq_true'.1 h2
    simp only [Bool.and_eq_true, Bool.or_eq_true, beq_iff_eq, decide_eq_true_eq] at hb
    have h3 := hall e he hb.1.1
    rcases hb.2 with h4 | h4
    · rw [← h4]; exact h3
    · have hlt : e.on < ops.size := Nat.lt_trans hb.1.2 (Array.getElem?_eq_some_iff.1 ho).1
      have hoe : ops[e.on]? = some ops[e.on] := Array.getElem?_eq_getElem hlt
      exact ih e.on _ (by omega) hoe (hcl e.on _ hoe h3) j (by simpa using h4)
/-- THE LAW, operation by operation. -/
theorem wp_region_steps4 {id : Nat} {a0 : Act} {w0 : World} (S : (Nat → Bool) → World → Prop) (φ : Nat → Value → Prop) (ds : List Nat) (base : List (Nat × Value)) (p q r : List (List Nat))
    (hm : P.follows .mixedOrders = true) (hB : (invB ops && ancB ops q && descB ops q r && tabB ops ds (base.map (·.1)) p && ds.all (fun d => decide (d < a0.tmps.size))) = true)
    (hb0 : Holds a0 base) (hS0 : S (fun _ => false) w0.drew)
    (steps : AllSteps4 P S φ ds base p q r 0 ops.toList)
    (fin : ∀ (vs : Nat → Value) (L : Nat → Bool) (w : World), S L w → (∀ i, i < ops.size → L i = true) → (∀ j : Nat, j < ds.length → φ j (vs (ds.getD j 0))) → Q .normal (putAll a0 vs ds) w) : (Code.region id ops true).wp P Q a0 w0 := by
  simp only [Bool.and_eq_true] at hB
  obtain ⟨⟨⟨⟨hI, hA⟩, hD⟩, hT⟩, hsz⟩ := hB
  simp only [tabB, Bool.and_eq_true, beq_iff_eq] at hT
  obtain ⟨⟨hds, hbase⟩, htab⟩ := hT
  have hdst : ∀ (j : Nat) (oj : Oper), ops[j]? = some oj → oj.dst = some (ds.getD j 0) ∧ j < ds.length := fun j oj hj => by
    have h1 : (ops.toList.map (·.dst))[j]? = some oj.dst := by rw [List.getElem?_map]; simp [hj]
    rw [hds, List.getElem?_map] at h1
    cases hq : ds[j]? with
    | none => rw [hq] at h1; simp at h1
    | some d =>
      rw [hq] at h1
      have hl : j < ds.length := (List.getElem?_eq_some_iff.1 hq).1
      refine ⟨?_, hl⟩
      rw [List.getD_eq_getElem?_getD, hq]
      simpa using h1.symm
  have hdsts : dsts ops = ds := by
    unfold dsts
    have h1 : ops.toList.filterMap (·.dst) = (ops.toList.map (·.dst)).filterMap (fun x => x) := by rw [List.filterMap_map]; rfl
    rw [h1, hds, List.filterMap_map]
    exact List.filterMap_some
  refine wp_region_inv4 S φ hm hI hS0 (fun i o hi L a w hS hun hcl hall hfr hkn => ?_) (fun vs L w hS hL h => ?_) (fun d hd => by rw [hdsts] at hd; simpa using List.all_eq_true.1 hsz d hd)
  · have hil : i < ops.size := (Array.getElem?_eq_some_iff.1 hi).1
    have ht := List.all_eq_true.1 htab i (List.mem_range.2 hil)
    simp only [hi, Bool.and_eq_true] at ht
    have st := AllSteps4.at ops.toList p q r 0 steps i o (by simpa using hi)
    rw [Nat.zero_add] at st
    obtain ⟨hg, hk⟩ := st Q L a w hS hun (behind_of _ (anc_behind hA hcl (i + 1) i o (by omega) hi hall))
      (ahead_of _ (fun j hj => by
        have h1 := List.all_eq_true.1 (List.all_eq_true.1 hD i (List.mem_range.2 hil)) j hj
        simp only [Bool.and_eq_true, decide_eq_true_eq] at h1
        cases hLj : L j with
        | false => rfl
        | true =>
          have hoj : ops[j]? = some ops[j] := Array.getElem?_eq_getElem h1.1
          have h2 := anc_behind hA hcl (j + 1) j _ (by omega) hoj (hcl j _ hoj hLj) i (by simpa using h1.2)
          rw [hun] at h2
          cases h2))
      (holds_of base (fun t htm => eval_tmp_of (hfr t (fun j oj hj hd => by
        exfalso
        have h1 := List.all_eq_true.1 hbase t htm
        have h2 := (hdst j oj hj).1
        rw [hd] at h2
        have h3 : t = ds.getD j 0 := Option.some.inj h2
        have h4 : t ∈ ds := by
          rw [h3, List.getD_eq_getElem?_getD, List.getElem?_eq_getElem (hdst j oj hj).2]
          simp
        simp [h4] at h1))) hb0)
      (knows4_of _ (fun j hj => by
        have h1 := List.all_eq_true.1 ht.1 j hj
        simp only [Bool.and_eq_true, decide_eq_true_eq] at h1
        have hoj : ops[j]? = some ops[j] := Array.getElem?_eq_getElem h1.2
        have h2 := hkn j _ _ hoj (hdst j _ hoj).1 h1.1
        simpa [Act.eval] using h2))
    have hw : Region.wanted o (yielded ops a.tmps) = true := by
      unfold Region.wanted
      cases hgd : o.guard with
      | none => rfl
      | some x =>
        obtain ⟨g, b⟩ := x
        rw [hgd] at hg
        have h2 := ht.2
        rw [hgd] at h2
        simp only [decide_eq_true_eq] at h2
        have hog : ops[g]? = some ops[g] := Array.getElem?_eq_getElem h2
        have hd := (hdst g _ hog).1
        have h4 : a.tmps[ds.getD g 0]? = some (.bool b) := by
          simp only [Act.eval] at hg
          rw [Array.getD_eq_getD_getElem?] at hg
          cases hq : a.tmps[ds.getD g 0]? with
          | none => rw [hq] at hg; simp [undef] at hg
          | some v => rw [hq] at hg; simpa using hg
        have hy : yielded ops a.tmps g = some b := by
          unfold yielded
          rw [hog]
          simp only [Option.bind_some, hd, h4]
        simp [hy]
    unfold wpOp
    simp only [hi, hw, if_true]
    exact .inl (hk _ (fun v w' h1 h2 => ⟨v, rfl, h1, h2⟩))
  · rw [hdsts]
    refine fin vs L w hS hL (fun j hj => ?_)
    have hlen : ops.toList.length = ds.length := by have := congrArg List.length hds; simpa using this
    have hjl : j < ops.size := by rw [← hlen] at hj; simpa using hj
    have hoj : ops[j]? = some ops[j] := Array.getElem?_eq_getElem hjl
    exact h j _ _ hoj (hdst j _ hoj).1
end
end Go.Proofs.Ytcpnleanjclfjaa
/-
  Own text. Structs of cells in memory, and rows of structs: names no type of the program but int, uint32, uint8, string.
-/
namespace Go.Proofs.Ytcpnleanjclfjaa
open Go.RowKit Go.Proofs
set_option maxRecDepth 100000
/-- The cells of a struct, each by its number. -/
def SC (n : Nat) (V : Nat → Value) : Array Value := ((List.range n).map V).toArray
theorem SC_size (n : Nat) (V : Nat → Value) : (SC n V).size = n := by simp [SC]
theorem SC_get (n : Nat) (V : Nat → Value) (i : Nat) (h : i < n) : (SC n V)[i]? = some (V i) := by simp [SC, h]
theorem SC_one {n : Nat} {V : Nat → Value} (h : ∀ i, (V i).oneCell' = true) : (SC n V).all (·.oneCell') = true := by
  rw [Array.all_eq_true_iff_forall_mem]
  intro v hv
  simp only [SC, List.mem_toArray, List.mem_map] at hv
  obtain ⟨i, _, rfl⟩ := hv
  exact h i
def IsSt (ty n : Nat) : Prop := ∃ d, Try.prog.underlying ty = some d ∧ (match d with | .struct _ | .array _ _ => true | _ => false) = true ∧ (Try.prog.info? ty).map (·.size) = some n
def SAt (w : World) (b : Nat) (ty : TypeId) (n : Nat) (V : Nat → Value) : Prop := w.heap[b]? = some (.cells (SC n V) ty (0, 0))
section
variable {w w' : World} {b n : Nat} {ty : TypeId} {V : Nat → Value}
theorem SAt.at (h : SAt w b ty n V) (i : Nat) (hi : i < n) : w.cell? ⟨b, i, none⟩ = some (V i) := by
  rw [cell_of_row w b i _ _ _ h, SC_get n V i hi]
theorem SAt.lt (h : SAt w b ty n V) : b < w.heap.size := heap_lt h
theorem SAt.block (h : SAt w b ty n V) (e : w'.heap[b]? = w.heap[b]?) : SAt w' b ty n V := e.trans h
theorem SAt.kept (h : SAt w b ty n V) (hb : Below w.heap.size w w') : SAt w' b ty n V := h.block (hb.block b h.lt)
theorem SAt.only {g : Nat} (h : SAt w b ty n V) (ho : Only g w w') (hB : b ≠ g) : SAt w' b ty n V := h.block (ho.block b hB)
theorem SAt.tou {g : Nat} (h : SAt w b ty n V) (t : Touch (fun x => x = g) w w') (hB : b ≠ g) : SAt w' b ty n V := h.block (t.block b h.lt hB)
theorem SAt.range {o m : Nat} {s : Nat → Int} (h : SAt w b ty n V) (hm : o + m ≤ n) (hv : ∀ j, j < m → V (o + j) = .int .u8 (s j)) : w.rangeAt b o (nums .u8 m s) := fun j v hj => by
  obtain ⟨hj2, rfl⟩ := nums_get hj
  rw [h.at (o + j) (by omega), hv j hj2]
end
theorem st_st {ops : Array Oper} {rest : List Oper} {d : Option Tmp} {x y : Operand} {t ty : TypeId} {ps : String} {af : Array Edge} {a : Act} {w : World} {Q : Exit → Act → World → Prop} {g n : Nat} {V V' : Nat → Value}
    (hA : IsSt ty n) (h1 : ∀ i, (V i).oneCell' = true) (hg : SAt w g ty n V') (hx : a.eval x = .pointer (some ⟨g, 0, none⟩)) (hy : a.eval y = .agg (SC n V))
    (h : ∀ w2, SAt w2 g ty n V → Only g w w2 → wpList Try.prog ops Q rest (a.put d undef) w2) : wpList Try.prog ops Q ({ dst := d, op := .store ty x y, type := t, pos := ps, after := af, guard := none } :: rest) a w := by
  obtain ⟨_, _, _, h3⟩ := hA
  exact st_row rfl ty x y rfl g _ hx hy ty _ hg (by rw [SC_size]; exact h3) (by rw [SC_size, SC_size]) (SC_one h1) h
theorem look_st {a : Act} {o : Oper} {w : World} {x : Operand} {ty : TypeId} {g n : Nat} {V : Nat → Value} (ho : o.op = .load ty x) (hA : IsSt ty n) (hg : SAt w g ty n V) (hx : a.eval x = .pointer (some ⟨g, 0, none⟩)) : (execOp a.eval o).run Try.prog w = .ok (.value (.agg (SC n V))) w := by
  obtain ⟨d, h1, h2, h3⟩ := hA
  unfold execOp
  simp only [ho, hx]
  have := run_loadVar_row (P := Try.prog) w g ty ty (SC n V) (0, 0) _ hg h1 (by cases d <;> first | rfl | exact h2) (by rw [SC_size]; exact h3)
  simp [Instr.loadAt, Instr.sureAddr, this]
theorem act_st7 {o : Oper} {a : Act} {w : World} {K : Act → World → Prop} {Q : Exit → Act → World → Prop} {x y : Operand} {ty : TypeId} {g n : Nat} {V V' : Nat → Value} (ho : o.op = .store ty x y)
    (hA : IsSt ty n) (h1 : ∀ i, (V i).oneCell' = true) (hx : a.eval x = .pointer (some ⟨g, 0, none⟩)) (hy : a.eval y = .agg (SC n V)) (hg : SAt w g ty n V')
    (h : ∀ w2, SAt w2 g ty n V → Only g w w2 → K (a.put o.dst undef) w2) : o.wp Try.prog a w K Q := by
  obtain ⟨_, _, _, h3⟩ := hA
  have hrun := run_storeVar_row (P := Try.prog) w g ty ty (SC n V') (SC n V) hg (by rw [SC_size]; exact h3) (by rw [SC_size, SC_size]) (SC_one h1)
  unfold Oper.wp execOp
  simp only [ho, hx, hy, Instr.storeAt, Instr.sureAddr, Sem.run_bind, Sem.run_pure, Result.andThen_ok, hrun]
  exact h _ (setRow_heap w g (SC n V') (SC n V) ty (0, 0) hg) (only_setRow w g _)
theorem SAt.congr {w : World} {b n : Nat} {ty : TypeId} {V V' : Nat → Value} (h : SAt w b ty n V) (e : ∀ i, i < n → V i = V' i) : SAt w b ty n V' := by
  have : SC n V = SC n V' := by
    unfold SC
    congr 1
    exact List.map_congr_left (fun i hi => e i (List.mem_range.1 hi))
  unfold SAt
  rw [← this]
  exact h
theorem SC_ext {n : Nat} {V : Nat → Value} {C : Array Value} (hs : C.size = n) (h : ∀ i, i < n → C[i]? = some (V i)) : C = SC n V := by
  apply Array.ext
  · rw [hs, SC_size]
  · intro i h1 h2
    have a1 := h i (by omega)
    have a2 := SC_get n V i (by omega)
    rw [← a2, Array.getElem?_eq_getElem h1, Array.getElem?_eq_getElem h2] at a1
    exact Option.some.inj a1
/-- A part of a struct is written. -/
theorem SAt.mid {w : World} {b n : Nat} {ty : TypeId} {V : Nat → Value} (h : SAt w b ty n V) (U : Nat → Value) (o m : Nat) (hm : o + m ≤ n) :
    SAt (w.setCells b o (SC m U).toList) b ty n (fun x => if o ≤ x ∧ x < o + m then U (x - o) else V x) ∧ Only b w (w.setCells b o (SC m U).toList) := by
  have hl : (SC m U).toList.length = m := by rw [Array.length_toList, SC_size]
  obtain ⟨C', h1, h2, h3, h4, h5⟩ := setCells_heap (SC m U).toList o w (SC n V) h (by rw [hl, SC_size]; exact hm)
  refine ⟨?_, h5⟩
  unfold SAt
  rw [h1]
  congr 2
  refine SC_ext (by rw [h2, SC_size]) (fun i hi => ?_)
  by_cases hc : o ≤ i ∧ i < o + m
  · rw [if_pos hc]
    have := h3 (i - o) (by rw [hl]; omega)
    rw [show o + (i - o) = i by omega] at this
    rw [this, Array.getElem?_toList, SC_get m U _ (by omega)]
  · rw [if_neg hc, h4 i (by rw [hl]; omega), SC_get n V i hi]
theorem SAt.set {w : World} {b n : Nat} {ty : TypeId} {V : Nat → Value} (h : SAt w b ty n V) (i : Nat) (v : Value) (hi : i < n) : SAt (w.setCell ⟨b, i, none⟩ v) b ty n (fun x => if x = i then v else V x) := by
  have := heap_setCell_same w b i _ ty v h
  unfold SAt
  rw [this]
  congr 2
  refine SC_ext (by simp [SC_size]) (fun j hj => ?_)
  rw [Array.getElem?_setIfInBounds]
  by_cases e : j = i
  · subst e; simp [SC_size, hj]
  · rw [if_neg (fun h => e h.symm), if_neg e, SC_get n V j hj]
theorem SAt.there {w : World} {b n : Nat} {ty : TypeId} {V : Nat → Value} (h : SAt w b ty n V) (o m : Nat) (hm : o + m ≤ n) : w.there b o m := fun j hj => by
  refine ⟨?_, ?_⟩
  · rw [h.at (o + j) (by omega)]; rfl
  · exact frozen_of_row w b (o + j) _ _ h
/-- A struct as a parameter lies in a block of its own. -/
theorem wl_boxG {ops : Array Oper} {rest : List Oper} {d : Option Tmp} {x : Operand} {ty t : TypeId} {ps : String} {af : Array Edge} {a : Act} {w : World} {Q : Exit → Act → World → Prop} {n : Nat} {V : Nat → Value} (_hA : IsSt ty n) (hx : a.eval x = .agg (SC n V))
    (h : ∀ g w', w.heap.size ≤ g → SAt w' g ty n V → Below w.heap.size w w' → wpList Try.prog ops Q rest (a.put d (.pointer (some ⟨g, 0, none⟩))) w') :
    wpList Try.prog ops Q ({ dst := d, op := .box ty x, type := t, pos := ps, after := af, guard := none } :: rest) a w := by
  refine wl_act rfl ?_
  unfold Oper.wp execOp
  simp only [hx]
  simp [go_sem]
  exact h _ _ (Nat.le_refl _) (heap_alloc_new w _) ((Below.refl _ _).alloc (Nat.le_refl _) _)
theorem res_st {fn : Func} {q : Tmp} {ty : TypeId} (h : fn.results = #[.cell q ty]) {tmps : Array Value} {w : World} {g n : Nat} {V : Nat → Value} (hA : IsSt ty n) (hg : SAt w g ty n V) (hq : tmps.getD q undef = .pointer (some ⟨g, 0, none⟩)) :
    (results fn tmps).run Try.prog w = .ok (.agg (SC n V)) w := by
  obtain ⟨d, h1, h2, h3⟩ := hA
  exact results_cell_row h tmps w g ty _ (0, 0) _ hq hg h1 (by cases d <;> first | rfl | exact h2) (by rw [SC_size]; exact h3)
theorem run_loadAt_addr (w : World) (p : Addr) (ty : TypeId) (cs : List Value) (d : TypeDesc) (hc : ∀ j v, cs[j]? = some v → w.cell? (p.add j) = some v)
    (hu : Try.prog.underlying ty = some d) (hd : d.isRow = true) (hi : (Try.prog.info? ty).map (·.size) = some cs.length) : (Instr.loadAt ty (.pointer (some p))).run Try.prog w = .ok (.agg cs.toArray) w := by
  have hl : (loadCells p cs.length).run Try.prog w = .ok cs.toArray w := run_loadCells_list (P := Try.prog) w p cs hc
  have hv : (loadVar ty p).run Try.prog w = .ok (.agg cs.toArray) w := by
    cases hq : Try.prog.info? ty with
    | none => simp [hq] at hi
    | some i =>
      have hs : i.size = cs.length := by simpa [hq] using hi
      have hagg : (isAgg ty).run Try.prog w = .ok true w := by
        unfold isAgg
        rw [Sem.run_bind, run_underlying hu w]
        cases d <;> simp_all
      simp [loadVar, Sem.run_bind, hagg, sizeOf, typeInfo, hq, hs, hl]
  simp only [Instr.loadAt, Instr.sureAddr, Sem.run_bind, Sem.run_pure, Result.andThen_ok, hv]
theorem add_blk (a : Addr) (n : Nat) : (a.add n).block = a.block := by unfold Addr.add; split <;> rfl
-- laws for an operation by its text: where another one stands, they fail at once
theorem wl_alO {ops : Array Oper} {rest : List Oper} {o : Oper} {ty : TypeId} {a : Act} {w : World} {Q : Exit → Act → World → Prop} {n : Nat} {V : Nat → Value} (ho : o.op = .alloc ty) (hgd : Region.wanted o (yielded ops a.tmps) = true) (hz : ∀ w, (zeroValue ty).run Try.prog w = .ok (.agg (SC n V)) w)
    (h : ∀ g w', w.heap.size ≤ g → SAt w' g ty n V → Below w.heap.size w w' → wpList Try.prog ops Q rest (a.put o.dst (.pointer (some ⟨g, 0, none⟩))) w') : wpList Try.prog ops Q (o :: rest) a w :=
  wl_act hgd (act_alloc hz ho (fun w' hb hg => h _ w' (Nat.le_refl _) hg hb))
theorem st_stO {ops : Array Oper} {rest : List Oper} {o : Oper} {x y : Operand} {ty : TypeId} {a : Act} {w : World} {Q : Exit → Act → World → Prop} {g n : Nat} {V V' : Nat → Value} (ho : o.op = .store ty x y) (hw : Region.wanted o (yielded ops a.tmps) = true)
    (hA : IsSt ty n) (h1 : ∀ i, (V i).oneCell' = true) (hg : SAt w g ty n V') (hx : a.eval x = .pointer (some ⟨g, 0, none⟩)) (hy : a.eval y = .agg (SC n V))
    (h : ∀ w2, SAt w2 g ty n V → Only g w w2 → wpList Try.prog ops Q rest (a.put o.dst undef) w2) : wpList Try.prog ops Q (o :: rest) a w :=
  wl_act hw (act_st7 ho hA h1 hx hy hg h)
-- a drawn region in which one operation, n, changes what holds
def SL (A B : World → Prop) (n : Nat) (L : Nat → Bool) (w : World) : Prop := if L n = true then B w else A w
section
variable {A B : World → Prop} {n i : Nat} {L : Nat → Bool} {w w' : World}
theorem sl_a (h : SL A B n L w) (hl : L n = false) : A w := by unfold SL at h; rw [if_neg (by rw [hl]; simp)] at h; exact h
theorem sl_b (h : SL A B n L w) (hl : L n = true) : B w := by unfold SL at h; rw [if_pos hl] at h; exact h
theorem sl_next (hi : n ≠ i) (h : SL A B n L w) (hA : A w → A w') (hB : B w → B w') : SL A B n (fun j => if j = i then true else L j) w' := by
  unfold SL at h ⊢
  simp only [if_neg hi]
  split
  · rename_i e; rw [if_pos e] at h; exact hB h
  · rename_i e; rw [if_neg e] at h; exact hA h
theorem sl_same (hi : n ≠ i) (h : SL A B n L w) : SL A B n (fun j => if j = i then true else L j) w := sl_next hi h id id
theorem sl_ahead (hi : n ≠ i) (hl : L n = false) (h : A w') : SL A B n (fun j => if j = i then true else L j) w' := by
  unfold SL
  simp only [if_neg hi, hl]
  exact h
theorem sl_done (h : B w') : SL A B n (fun j => if j = n then true else L j) w' := by
  unfold SL
  simp only [if_true]
  exact h
theorem sl_start (h : A w) : SL A B n (fun _ => false) w := by
  unfold SL
  simp only [Bool.false_eq_true, if_false]
  exact h
end
theorem ownM_base {w : World} {B : Nat} {e : TypeId} {m : Nat} {v : Value} {n : Nat} {xs : List Value} (h : w.ownsRow B e m v n xs) (q : Nat) (hq : v.ownBlock = some q) : B ≤ q := (h.lt q hq).1
theorem ownM_mono {w : World} {B C : Nat} {e : TypeId} {m : Nat} {v : Value} {n : Nat} {xs : List Value} (h : w.ownsRow B e m v n xs) (hC : C ≤ B) : w.ownsRow C e m v n xs := by
  refine ⟨h.1, ?_⟩
  rcases h.2 with hn | ⟨g, cap, cur, hv, hB, rest⟩
  · exact .inl hn
  · exact .inr ⟨g, cap, cur, hv, Nat.le_trans hC hB, rest⟩
theorem ownM_block {w w' : World} {B : Nat} {e : TypeId} {m : Nat} {v : Value} {n : Nat} {xs : List Value} (h : w.ownsRow B e m v n xs) (hb : ∀ k, v.ownBlock = some k → w'.heap[k]? = w.heap[k]?) : w'.ownsRow B e m v n xs := by
  refine ⟨h.1, ?_⟩
  rcases h.2 with hn | ⟨g, cap, cur, rfl, hB, hg, rest⟩
  · exact .inl hn
  · exact .inr ⟨g, cap, cur, rfl, hB, by rw [hb g rfl]; exact hg, rest⟩
theorem ownM_shape {w : World} {B : Nat} {e : TypeId} {m : Nat} {v : Value} {n : Nat} {xs : List Value} (h : w.ownsRow B e m v n xs) : ∃ p cap, v = .slice p n cap ∧ (0 < n → ∃ g, p = some ⟨g, 0, none⟩) := by
  rcases h.2 with ⟨rfl, rfl⟩ | ⟨g, cap, cur, rfl, hB, rest⟩
  · exact ⟨none, 0, rfl, fun h => by omega⟩
  · exact ⟨_, cap, rfl, fun _ => ⟨g, rfl⟩⟩
theorem ownT_kept {w w' : World} {B : Nat} {e : TypeId} {m : Nat} {v : Value} {n : Nat} {xs : List Value} (h : w.ownsRow B e m v n xs) (hb : Below w.heap.size w w') : w'.ownsRow B e m v n xs := by
  obtain ⟨h1, h2⟩ := h
  refine ⟨h1, ?_⟩
  rcases h2 with h2 | ⟨g, cap, cur, rfl, hb1, hg, hr⟩
  · exact .inl h2
  · refine .inr ⟨g, cap, cur, rfl, hb1, ?_, hr⟩
    rw [hb.block g (heap_lt hg)]
    exact hg
theorem below_drew (w : World) : Below w.heap.size w w.drew := (Below.refl _ w).drew
theorem grown_any {w w' : World} {r : Option Nat} (h : w.grownBy w' none) : w.grownBy w' r := ⟨h.os, h.tape, h.output, h.size, fun k hk _ => h.block k hk (by simp)⟩
def setG {α : Type} (K : Nat → α) (i : Nat) (k : α) (j : Nat) : α := if j = i then k else K j
theorem gE {α : Type} (f : Nat → α) (e : Nat) (x : α) : setG f e x e = x := by unfold setG; rw [if_pos rfl]
theorem gD {α : Type} (f : Nat → α) (e : Nat) (x : α) {d : Nat} (h : d ≠ e) : setG f e x d = f d := by unfold setG; rw [if_neg h]
-- rows of structs of c cells
/-- The cells of a row of structs. -/
def rX (c : Nat) (Z : Nat → Nat → Value) : Nat → List Value
  | 0 => []
  | n + 1 => rX c Z n ++ (SC c (Z n)).toList
theorem rX_len (c : Nat) (Z : Nat → Nat → Value) : ∀ n, (rX c Z n).length = n * c
  | 0 => by simp [rX]
  | n + 1 => by unfold rX; rw [List.length_append, rX_len c Z n, Array.length_toList, SC_size, Nat.succ_mul]
theorem rX_at (c : Nat) (Z : Nat → Nat → Value) : ∀ (n j f : Nat), j < n → f < c → (rX c Z n)[c * j + f]? = some (Z j f)
  | 0, _, _, h, _ => by omega
  | n + 1, j, f, h, hf => by
    unfold rX
    have hcj : c * j = j * c := Nat.mul_comm c j
    by_cases e : j < n
    · have h1 : (j + 1) * c ≤ n * c := Nat.mul_le_mul_right c (by omega)
      rw [Nat.succ_mul] at h1
      rw [List.getElem?_append_left (by rw [rX_len]; omega)]
      exact rX_at c Z n j f e hf
    · obtain rfl : j = n := by omega
      rw [List.getElem?_append_right (by rw [rX_len]; omega), rX_len, show c * j + f - j * c = f by omega, Array.getElem?_toList, SC_get c _ f hf]
theorem rX_congr {c : Nat} {Z Z' : Nat → Nat → Value} : ∀ n, (∀ j f, j < n → f < c → Z j f = Z' j f) → rX c Z n = rX c Z' n
  | 0, _ => rfl
  | n + 1, h => by
    unfold rX
    rw [rX_congr n (fun j f hj hf => h j f (by omega) hf)]
    have e : SC c (Z n) = SC c (Z' n) := SC_ext (SC_size c _) (fun i hi => by rw [SC_get c _ i hi, h n i (by omega) hi])
    rw [e]
theorem rX_more (c : Nat) (Z : Nat → Nat → Value) (n : Nat) (y : Nat → Value) : rX c (setG Z n y) (n + 1) = rX c Z n ++ (SC c y).toList := by
  have e1 : rX c (setG Z n y) n = rX c Z n := rX_congr n (fun j f hj _ => by rw [gD _ _ _ (by omega)])
  show rX c (setG Z n y) n ++ (SC c (setG Z n y n)).toList = _
  rw [e1, gE]
theorem rX_set (c : Nat) (Z : Nat → Nat → Value) (n k f : Nat) (hk : k < n) (hf : f < c) (v : Value) : (rX c Z n).set (c * k + f) v = rX c (setG Z k (setG (Z k) f v)) n := by
  apply List.ext_getElem?
  intro i
  by_cases hi : i < n * c
  · obtain ⟨j, q, rfl, hj, hq⟩ : ∃ j q, i = c * j + q ∧ j < n ∧ q < c := ⟨i / c, i % c, (Nat.div_add_mod i c).symm, (Nat.div_lt_iff_lt_mul (by omega)).2 hi, Nat.mod_lt _ (by omega)⟩
    rw [rX_at _ _ n j q hj hq, List.getElem?_set]
    by_cases e : c * k + f = c * j + q
    · have hkj : k = j := by
        have h1 := congrArg (· / c) e
        simp only [Nat.mul_add_div (show 0 < c by omega), Nat.div_eq_of_lt hf, Nat.div_eq_of_lt hq, Nat.add_zero] at h1
        exact h1
      subst hkj
      obtain rfl : f = q := by omega
      rw [if_pos e, if_pos (by rw [rX_len]; exact hi), gE, gE]
    · rw [if_neg e, rX_at _ _ n j q hj hq]
      by_cases ej : j = k
      · subst ej
        rw [gE, gD _ _ _ (fun h => e (by rw [h]))]
      · rw [gD _ _ _ ej]
  · rw [List.getElem?_eq_none (by rw [List.length_set, rX_len]; omega), List.getElem?_eq_none (by rw [rX_len]; omega)]
/-- append of one struct to a row of one's own: the row stays where it is, or lies in new memory. -/
theorem ap_row {ops : Array Oper} {rest : List Oper} {o : Oper} {a : Act} {w : World} {Q : Exit → Act → World → Prop} (hgd : o.guard = none) {s x : Operand} {t e : TypeId} {c by' : Nat} {z : Nat → Value} (ht : Try.prog.underlying t = some (.slice e)) (hi : (Try.prog.info? e).map (fun i => (i.zero, i.size, i.bytes)) = some (some (.agg (SC c z)), c, by')) (hc : 0 < c) (hby : by' ≤ 1000000)
    (ho : o.op = .call { callee := .builtin .append, args := #[s, x], argTypes := #[t, t] })
    {B n b : Nat} {Z : Nat → Nat → Value} {v : Value} {y : Nat → Value} (hy : ∀ i, (y i).oneCell' = true) (hs : a.eval s = v) (hx : a.eval x = .slice (some ⟨b, 0, none⟩) 1 1) (hD : w.ownsRow B e c v n (rX c Z n)) (hg : SAt w b e c y) (hl : n < 1000000) (hB : B ≤ w.heap.size)
    (h : ∀ v' w', w'.ownsRow B e c v' (n + 1) (rX c (setG Z n y) (n + 1)) → w.grownBy w' v.ownBlock → (∀ q, v'.ownBlock = some q → v.ownBlock = some q ∨ w.heap.size ≤ q) → wpList Try.prog ops Q rest (a.put o.dst v') w') : wpList Try.prog ops Q (o :: rest) a w := by
  obtain ⟨i0, hi, hz0, hz1, hz2⟩ := info_parts hi
  have hz : (Value.agg (SC c z)).cells.size = c := by show (SC c z).size = c; rw [SC_size]
  have hln : (SC c y).toList.length = 1 * c := by rw [Array.length_toList, SC_size, Nat.one_mul]
  have hc' : ∀ j u, (SC c y).toList[j]? = some u → w.cell? ((⟨b, 0, none⟩ : Addr).add j) = some u := fun j u hj => by
    have hj2 : j < c := by have := (List.getElem?_eq_some_iff.1 hj).1; rwa [Array.length_toList, SC_size] at this
    rw [Addr.add_lit, Nat.zero_add, hg.at j hj2, ← SC_get c _ j hj2, ← Array.getElem?_toList, hj]
  have h1 : ∀ u ∈ (SC c y).toList, u.oneCell' = true := fun u hu => (Array.all_eq_true_iff_forall_mem.1 (SC_one (n := c) hy)) u (by simpa using hu)
  have hM : n + 1 ≤ maxLen := by unfold maxLen; omega
  have hY : (n + 1) * by' ≤ 140737488355328 := by
    have : (n + 1) * by' ≤ 1000000 * 1000000 := Nat.mul_le_mul (by omega) hby
    omega
  rcases hD.2 with ⟨rfl, rfl⟩ | ⟨g, cap, cur, rfl, hb, hgg, hcap, hm, hsz, htk⟩
  · refine wpList_append_own w hgd s x t ho w.heap.size e i0 _ c by' ht hi hz0 hz1 hz2 hz hc _ 0 [] hs (World.ownsRow_nil w _ e c) ⟨b, 0, none⟩ 1 1 _ hx hln hc' h1 hM hY (Nat.le_refl _) ?_
    intro v' w1 hown hgrow _
    exact h v' w1 (by rw [rX_more]; exact ownM_mono hown hB) hgrow (fun q hq => .inr (ownM_base hown q hq))
  · by_cases hroom : n + 1 ≤ cap
    · refine wpList_plain hgd fun K hK => ?_
      obtain ⟨v', w', hrun, q1, q2, _⟩ := run_append_own (P := Try.prog) w B t o.type e i0 _ c by' ht hi hz0 hz1 hz2 hz hc _ n _ hD ⟨b, 0, none⟩ 1 1 _ hln hc' h1 hM hY hB
      have hfit : n * i0.size + (SC c y).toList.length ≤ cur.size := by
        rw [hln, hz1, hsz, Nat.one_mul, ← Nat.succ_mul]
        exact Nat.mul_le_mul_right c hroom
      have h3 := run_append_room (P := Try.prog) w t o.type e i0 ht hi g n cap cur hgg ⟨b, 0, none⟩ 1 1 (SC c y).toList (by rw [hln, hz1]) hc' h1 hroom hfit
      have h4 := hrun.symm.trans h3
      injection h4 with e1 e2
      unfold Oper.wp
      simp [execOp, ho, resolve, invoke, builtin, hs, hx, hrun, Result.andThen]
      rw [← rX_more] at q1
      refine hK _ _ (h v' w' q1 q2 (fun q hq => .inl ?_))
      rw [e1] at hq
      exact hq
    · refine wpList_append_grows w hgd s x t ho e i0 _ c by' ht hi hz0 hz1 hz2 hz hc (some ⟨g, 0, none⟩) n cap (rX c Z n) hs (fun h => by cases h) (by rw [rX_len]) ?_ ⟨b, 0, none⟩ 1 1 _ hx hln hc' h1 (by omega) hM hY ?_
      · intro bb hb2 j u hj
        simp only [Option.some.injEq] at hb2
        subst hb2
        exact World.ownsRow.cells hD (g := g) rfl j u hj
      · intro v' w1 hown hgrow
        rw [← rX_more] at hown
        exact h v' w1 (ownM_mono hown hB) (grown_any hgrow) (fun q hq => .inr (ownM_base hown q hq))
/-- A cell of a row is written. -/
theorem own_set {w : World} {B g n cap k f c : Nat} {e : TypeId} {Z : Nat → Nat → Value} (h : w.ownsRow B e c (.slice (some ⟨g, 0, none⟩) n cap) n (rX c Z n)) (hk : k < n) (hf : f < c) (v : Value) : (w.setCell ⟨g, c * k + f, none⟩ v).ownsRow B e c (.slice (some ⟨g, 0, none⟩) n cap) n (rX c (setG Z k (setG (Z k) f v)) n) := by
  refine ⟨by rw [rX_len], ?_⟩
  rcases h.2 with ⟨e1, _⟩ | ⟨g', cap', cur, e1, hB, hg, hcap, hm, hsz, htk⟩
  · cases e1
  · injection e1 with e1 e2 e3
    injection e1 with e1
    injection e1 with e1
    subst e1
    subst e3
    refine .inr ⟨g, cap, cur.setIfInBounds (c * k + f) v, rfl, hB, heap_setCell_same w g _ _ _ _ hg, hcap, hm, by rw [Array.size_setIfInBounds]; exact hsz, ?_⟩
    rw [Array.toList_setIfInBounds, List.take_set, htk, rX_set c Z n k f hk hf v]
/-- The cells of a struct in a row. -/
theorem own_at {w : World} {B g n cap k c : Nat} {e : TypeId} {Z : Nat → Nat → Value} (h : w.ownsRow B e c (.slice (some ⟨g, 0, none⟩) n cap) n (rX c Z n)) (hk : k < n) : ∀ f, f < c → w.cell? ⟨g, c * k + f, none⟩ = some (Z k f) := fun f hf => by
  have := h.cells (g := g) rfl (c * k + f) _ (rX_at c Z n k f hk hf)
  rwa [Addr.add_lit, Nat.zero_add] at this
end Go.Proofs.Ytcpnleanjclfjaa
/-
  Own text. Addresses and prefixes as plain data; the document's valid, Right, bit.
-/
namespace Go.Proofs.Ytcpnleanjclfjaa
open Go.RowKit Go.Proofs
set_option maxRecDepth 100000
/-- The cells of an address, of a prefix. -/
def adV (v : Bool) (b : Nat → Int) (j : Nat) : Value := if j < 1 then .bool v else .int .u8 (b (j - 1))
def prV (v : Bool) (b : Nat → Int) (n : Int) (j : Nat) : Value := if j < 17 then adV v b j else .int .i64 n
theorem adV_one (v : Bool) (b : Nat → Int) (j : Nat) : (adV v b j).oneCell' = true := by unfold adV; split <;> rfl
theorem prV_one (v : Bool) (b : Nat → Int) (n : Int) (j : Nat) : (prV v b n j).oneCell' = true := by unfold prV; split; exact adV_one _ _ _; rfl
theorem isAddr : IsSt 35 17 := ⟨_, Try.underlying35, rfl, by kernel_rfl⟩
theorem isPfx : IsSt 37 18 := ⟨_, Try.underlying37, rfl, by kernel_rfl⟩
/-- May an address be? -/
def validF (v : Bool) (b : Nat → Int) : Bool := v || (List.range 16).all (fun i => decide (i < 4) || decide (b i = 0))
theorem valid_iff {v : Bool} {b : Nat → Int} : validF v b = true ↔ v = true ∨ ∀ i, 4 ≤ i → i < 16 → b i = 0 := by
  unfold validF
  rw [Bool.or_eq_true, List.all_eq_true]
  constructor
  · rintro (h | h)
    · exact .inl h
    · refine .inr (fun i h4 h16 => ?_)
      have := h i (List.mem_range.2 h16)
      simp at this
      omega
  · rintro (h | h)
    · exact .inl h
    · refine .inr (fun i hi => ?_)
      have hi := List.mem_range.1 hi
      simp
      by_cases h4 : i < 4
      · exact .inl h4
      · exact .inr (h i (by omega) hi)
def rightF (v : Bool) (b : Nat → Int) (n : Int) : Bool := validF v b && decide (0 ≤ n) && (decide (n ≤ 32) || (v && decide (n ≤ 128)))
def bitF (b : Nat → Int) (i : Nat) : Int := (b (i / 8) / 2 ^ (7 - i % 8)) % 2
section
variable {w : World} {g : Nat} {v : Bool} {b : Nat → Int} {n : Int}
theorem ad_v (h : SAt w g 35 17 (adV v b)) : w.cell? ⟨g, 0, none⟩ = some (.bool v) := SAt.at h 0 (by omega)
theorem ad_b (h : SAt w g 35 17 (adV v b)) (i : Nat) (hi : i < 16) : w.cell? ⟨g, 1 + i, none⟩ = some (.int .u8 (b i)) := by
  rw [SAt.at h (1 + i) (by omega)]
  unfold adV
  rw [if_neg (by omega), Nat.add_sub_cancel_left]
theorem pr_v (h : SAt w g 37 18 (prV v b n)) : w.cell? ⟨g, 0, none⟩ = some (.bool v) := SAt.at h 0 (by omega)
theorem pr_b (h : SAt w g 37 18 (prV v b n)) (i : Nat) (hi : i < 16) : w.cell? ⟨g, 1 + i, none⟩ = some (.int .u8 (b i)) := by
  rw [SAt.at h (1 + i) (by omega)]
  unfold prV adV
  rw [if_pos (by omega), if_neg (by omega), Nat.add_sub_cancel_left]
theorem pr_n (h : SAt w g 37 18 (prV v b n)) : w.cell? ⟨g, 17, none⟩ = some (.int .i64 n) := SAt.at h 17 (by omega)
end
/-- p.Addr of a prefix. -/
theorem exec_ldA {a : Act} {o : Oper} {w : World} {x : Operand} (ho : o.op = .load 35 x) {g : Nat} {v : Bool} {b : Nat → Int} {n : Int} (hg : SAt w g 37 18 (prV v b n)) (hx : a.eval x = .pointer (some ⟨g, 0, none⟩)) : (execOp a.eval o).run Try.prog w = .ok (.value (.agg (SC 17 (adV v b)))) w := by
  have h := run_loadAt_addr w ⟨g, 0, none⟩ 35 (SC 17 (adV v b)).toList _ (fun j u hv => by
    have hj : j < 17 := by have := (List.getElem?_eq_some_iff.1 hv).1; rwa [Array.length_toList, SC_size] at this
    rw [Addr.add_lit, Nat.zero_add, hg.at j (by omega)]
    unfold prV
    rw [if_pos hj, ← SC_get 17 _ j hj, ← Array.getElem?_toList, hv]) Try.underlying35 rfl (by rw [Array.length_toList, SC_size]; kernel_rfl)
  exact exec_ld ho hx h
theorem wl_boxO {ops : Array Oper} {rest : List Oper} {o : Oper} {x : Operand} {ty : TypeId} {a : Act} {w : World} {Q : Exit → Act → World → Prop} {n : Nat} {V : Nat → Value} (ho : o.op = .box ty x) (hw : Region.wanted o (yielded ops a.tmps) = true) (_hA : IsSt ty n) (hx : a.eval x = .agg (SC n V))
    (h : ∀ g w', w.heap.size ≤ g → SAt w' g ty n V → Below w.heap.size w w' → wpList Try.prog ops Q rest (a.put o.dst (.pointer (some ⟨g, 0, none⟩))) w') : wpList Try.prog ops Q (o :: rest) a w := by
  refine wl_act hw ?_
  unfold Oper.wp execOp
  simp only [ho, hx]
  simp [go_sem]
  exact h _ _ (Nat.le_refl _) (heap_alloc_new w _) ((Below.refl _ _).alloc (Nat.le_refl _) _)
set_option maxHeartbeats 4000000 in
theorem valid_run (v : Bool) (b : Nat → Int) (w : World) : Calls Try.prog 35 #[.agg (SC 17 (adV v b))] w fun e w' => e = .returned (.bool (validF v b)) ∧ Below w.heap.size w w' := by
  have HI := Hid.mk (valid_iff (v := v) (b := b))
  generalize validF v b = r at *
  go_enter Try.func35, Try.ntmps35
  go_wp2_with (refine wl_boxO rfl rfl isAddr (by rfl) ?_; intro g u1 hg g1 hB1; refine Hid.out ?_)
  refine Hid.mk ?_
  have c0 := ad_v g1
  have HB := Hid.mk (fun i hi => ad_b g1 i hi)
  clear g1
  go_wp2_with fail
  go_loopg [3] (12 : Nat) (fun gm s3 z => ∃ k : Nat, gm = 16 - k ∧ 4 ≤ k ∧ k ≤ 16 ∧ s3 = .int .i64 (k : Int) ∧ Hid (∀ i, 4 ≤ i → i < k → b i = 0) ∧ z = u1 ∧ (v = true → k = 4))
  case atStart => exact ⟨4, rfl, by omega, by omega, rfl, Hid.mk (fun i h1 h2 => by omega), rfl, fun _ => rfl⟩
  case round =>
    obtain ⟨k, hgm, hk4, hk, rfl, HZ, rfl, hv4⟩ := hrel
    by_cases hlt : k < 16
    · have hki : (k : Int) < 16 := by omega
      have hk0 : (0 : Int) ≤ (k : Int) := by omega
      rcases Bool.eq_false_or_eq_true v with hv | hv
      rotate_left
      · rw [hv] at c0
        have cb := HB.out k hlt
        by_cases hz : b k = 0
        · have HF : Hid (∀ i, 4 ≤ i → i < k + 1 → b i = 0) := Hid.mk (fun i h1 h2 => by
            by_cases e : i = k
            · subst e; exact hz
            · exact HZ.out i h1 (by omega))
          rw [hz] at cb
          go_wp2_with fail
          go_roundg (16 - (k + 1))
          case rel => exact ⟨k + 1, rfl, by omega, by omega, by go_num, HF, rfl, fun e => by rw [hv] at e; cases e⟩
          case measure => omega
        · have hr : r = false := by
            cases hr : r
            · rfl
            · rcases HI.out.1 hr with e | e
              · rw [hv] at e; cases e
              · exact absurd (e k hk4 hlt) hz
          have hzd : (b k == 0) = false := beq_eq_false_iff_ne.2 hz
          go_wp2_with fail
          go_ret
          exact ⟨by rw [hr]; rfl, hB1⟩
      · rw [hv] at c0
        have hr : r = true := HI.out.2 (.inl hv)
        go_wp2_with fail
        go_ret
        exact ⟨by rw [hr]; rfl, hB1⟩
    · obtain rfl : k = 16 := by omega
      have hr : r = true := HI.out.2 (.inr HZ.out)
      go_wp2_with fail
      go_ret
      exact ⟨by rw [hr]; rfl, hB1⟩
set_option maxHeartbeats 4000000 in
theorem right_run (v : Bool) (b : Nat → Int) (n : Int) (w : World) : Calls Try.prog 19 #[.agg (SC 18 (prV v b n))] w fun e w' => e = .returned (.bool (rightF v b n)) ∧ Below w.heap.size w w' := by
  have HR : Hid (rightF v b n = (validF v b && decide (0 ≤ n) && (decide (n ≤ 32) || (v && decide (n ≤ 128))))) := Hid.mk rfl
  generalize rightF v b n = r at *
  go_enter Try.func19, Try.ntmps19
  go_wp2_with (refine wl_boxO rfl rfl isPfx (by rfl) ?_; intro g u1 hg g1 hB1; refine Hid.out ?_)
  refine Hid.mk ?_
  go_wp2_with (refine wl_value rfl (exec_ldA rfl g1 (by rfl)) ?_)
  refine (valid_run v b u1).mono ?_
  rintro e u2 ⟨rfl, hB2⟩
  have g2 := SAt.kept g1 hB2
  have c0 := pr_v g2
  have cn := pr_n g2
  have hB := hB1.trans (hB2.mono hB1.size)
  generalize validF v b = vd at *
  clear g1 g2 hB1 hB2
  cases vd
  · go_wp2_with fail
    go_ret
    exact ⟨by rw [HR.out]; rfl, hB⟩
  · by_cases h0 : 0 ≤ n
    · have d0 : decide (0 ≤ n) = true := decide_eq_true h0
      by_cases h1 : n ≤ 32
      · have d1 : decide (n ≤ 32) = true := decide_eq_true h1
        go_wp2_with fail
        go_ret
        exact ⟨by rw [HR.out, d0, d1]; rfl, hB⟩
      · have d1 : decide (n ≤ 32) = false := decide_eq_false h1
        cases v
        · go_wp2_with fail
          go_ret
          exact ⟨by rw [HR.out, d0, d1]; rfl, hB⟩
        · go_wp2_with fail
          go_ret
          exact ⟨by rw [HR.out, d0, d1]; rfl, hB⟩
    · have d0 : decide (0 ≤ n) = false := decide_eq_false h0
      go_wp2_with fail
      go_ret
      exact ⟨by rw [HR.out, d0]; rfl, hB⟩
end Go.Proofs.Ytcpnleanjclfjaa
/-
  Own text. The document's bit, Has, before.
-/
namespace Go.Proofs.Ytcpnleanjclfjaa
open Go.RowKit Go.Proofs
set_option maxRecDepth 100000
section
variable {a : Act} {o : Oper} {w : World} {x y : Operand}
theorem exec_quoN (ho : o.op = .binOp .quo 3 x y 3) {i m q : Nat} (hx : a.eval x = .int .i64 (i : Int)) (hy : a.eval y = .int .i64 (m : Int)) (hq : i / m = q) (hm : 0 < m) (hi : i < 9223372036854775808) : (execOp a.eval o).run Try.prog w = .ok (.value (.int .i64 (q : Int))) w := by
  subst hq
  refine exec_bin2 ho hx hy rfl ?_
  have h0 : ¬ m = 0 := by omega
  have e : Int.tdiv (i : Int) (m : Int) = (i : Int) / (m : Int) := Int.tdiv_eq_ediv_of_nonneg (by omega)
  have hl : i / m ≤ i := Nat.div_le_self i m
  have hc : (i : Int) / (m : Int) = ((i / m : Nat) : Int) := rfl
  have e2 : IntKind.i64.wrap ((i : Int) / (m : Int)) = (i : Int) / (m : Int) := by rw [hc]; generalize i / m = q at *; rw [IntKind.wrap_i64]; omega
  simp [go_sem, h0, e, e2]
theorem exec_remN (ho : o.op = .binOp .rem 3 x y 3) {i m q : Nat} (hx : a.eval x = .int .i64 (i : Int)) (hy : a.eval y = .int .i64 (m : Int)) (hq : i % m = q) (hm : 0 < m) : (execOp a.eval o).run Try.prog w = .ok (.value (.int .i64 (q : Int))) w := by
  subst hq
  refine exec_bin2 ho hx hy rfl ?_
  have h0 : ¬ m = 0 := by omega
  have e : Int.tmod (i : Int) (m : Int) = (i : Int) % (m : Int) := Int.tmod_eq_emod_of_nonneg (by omega)
  simp [go_sem, h0, e]
theorem exec_ix16 (ho : o.op = .indexAddr 33 x y) {g k : Nat} (hx : a.eval x = .pointer (some ⟨g, 1, none⟩)) (hy : a.eval y = .int .i64 (k : Int)) (hk : k < 16) : (execOp a.eval o).run Try.prog w = .ok (.value (.pointer (some ⟨g, 1 + k, none⟩))) w := by
  unfold execOp
  simp only [ho, hx, hy, Sem.run_bind]
  rw [run_indexAt_array w 33 _ .i64 (k : Int) Try.underlying33, if_pos ⟨by omega, by show (k : Int) < 16; omega⟩, show (sizeOf (Try.prog.elem 33)).run Try.prog w = .ok 1 w by kernel_rfl]
  simp [Addr.add_lit]
theorem exec_neI (ho : o.op = .binOp .neq 3 x y 3) {m n : Int} (hx : a.eval x = .int .i64 m) (hy : a.eval y = .int .i64 n) {d : Bool} (h : decide (m ≠ n) = d) : (execOp a.eval o).run Try.prog w = .ok (.value (.bool d)) w := by
  subst h
  refine exec_bin2 ho hx hy rfl ?_
  simp [go_sem]
  by_cases e : m = n <;> simp [e]
theorem exec_fpx (ho : o.op = .fieldAddr 37 x 0) {g : Nat} (hx : a.eval x = .pointer (some ⟨g, 0, none⟩)) : (execOp a.eval o).run Try.prog w = .ok (.value (.pointer (some ⟨g, 0, none⟩))) w := by
  have h : (Instr.fieldAt 37 (.pointer (some ⟨g, 0, none⟩)) 0).run Try.prog w = .ok (.pointer (some ⟨g, 0, none⟩)) w := by simp [go_sem]
  unfold execOp
  simp only [ho, hx, Sem.run_bind, h, Result.andThen_ok, Sem.run_pure]
end
theorem enterBitR (args : Array Value) (w : World) : (callFunc 36 args).run Try.prog w = .ok (.enter 36 args) w := by kernel_rfl
theorem bitF_nat {b : Nat → Int} {B i : Nat} (h : b (i / 8) = (B : Int)) : bitF b i = ((B / 2 ^ (7 - i % 8) % 2 : Nat) : Int) := by
  unfold bitF
  rw [h]
  have : ((2 : Int) ^ (7 - i % 8)) = ((2 ^ (7 - i % 8) : Nat) : Int) := by simp
  rw [this, ← Int.natCast_ediv]
  rfl
set_option maxHeartbeats 4000000 in
theorem bit_run (v : Bool) (b : Nat → Int) (i : Nat) (w : World) (hi : i < 128) (hb : Byts 16 b) : Calls Try.prog 36 #[.agg (SC 17 (adV v b)), .int .i64 (i : Int)] w fun e w' => e = .returned (.int .i64 (bitF b i)) ∧ Below w.heap.size w w' := by
  have hb0 := hb (i / 8) (by omega)
  obtain ⟨B, hB0⟩ : ∃ B : Nat, b (i / 8) = (B : Int) := ⟨(b (i / 8)).toNat, by omega⟩
  have hB256 : B < 256 := by omega
  rw [bitF_nat hB0]
  have h8 : i / 8 < 16 := by omega
  have h88 : i % 8 < 8 := by omega
  obtain ⟨iq, hq⟩ : ∃ q, i / 8 = q := ⟨_, rfl⟩
  obtain ⟨ir, hr⟩ : ∃ q, i % 8 = q := ⟨_, rfl⟩
  rw [hq] at h8 hB0 hb0
  rw [hr] at h88
  rw [hr]
  have HQ := Hid.mk hq
  have HR := Hid.mk hr
  clear hq hr
  go_enter Try.func36, Try.ntmps36
  go_wp2_with (refine wl_boxO rfl rfl isAddr (by rfl) ?_; intro g u1 hg g1 hB1; refine Hid.out ?_)
  refine Hid.mk ?_
  have cb := ad_b g1 iq h8
  rw [hB0] at cb
  clear g1
  clear hB0 hb0 hb
  have hB255 : (0 : Int) ≤ (B : Int) := by omega
  go_wp2_with (first | (refine wl_value rfl (exec_quoN (i := i) (m := 8) rfl (by rfl) (by rfl) HQ.out (by decide) (by omega)) ?_) | (refine wl_value rfl (exec_remN (i := i) (m := 8) rfl (by rfl) (by rfl) HR.out (by decide)) ?_) | (refine wl_value rfl (exec_ix16 rfl (by rfl) (by rfl) h8) ?_))
  go_loopg [5, 6] (7 - ir : Nat) (fun gm s5 s6 z => ∃ (k c : Nat), gm = 7 - k ∧ ir ≤ k ∧ k ≤ 7 ∧ s5 = .int .i64 (c : Int) ∧ s6 = .int .i64 (k : Int) ∧ Hid (c = B / 2 ^ (k - ir)) ∧ c < 256 ∧ z = u1)
  case atStart => exact ⟨ir, B, rfl, by omega, by omega, rfl, rfl, Hid.mk (by rw [Nat.sub_self]; simp), hB256, rfl⟩
  case round =>
    obtain ⟨k, c, hgm, hk0, hk7, rfl, rfl, HC, hc, rfl⟩ := hrel
    by_cases hlt : k < 7
    · have hki : (k : Int) < 7 := by omega
      obtain ⟨d, hd⟩ : ∃ d, c / 2 = d := ⟨_, rfl⟩
      have hd2 : d < 256 := by omega
      have HD := Hid.mk hd
      have HF : Hid (d = B / 2 ^ (k + 1 - ir)) := Hid.mk (by rw [← hd, HC.out, Nat.div_div_eq_div_mul, ← Nat.pow_succ, show (k - ir).succ = k + 1 - ir by omega])
      clear hd
      go_wp2_with (refine wl_value rfl (exec_quoN (i := c) (m := 2) rfl (by rfl) (by rfl) HD.out (by decide) (by omega)) ?_)
      go_roundg (7 - (k + 1))
      case rel => exact ⟨k + 1, d, rfl, by omega, by omega, rfl, by go_num, HF, hd2, rfl⟩
      case measure => omega
    · obtain rfl : k = 7 := by omega
      obtain ⟨d, hd⟩ : ∃ d, c % 2 = d := ⟨_, rfl⟩
      have HD := Hid.mk hd
      have HF : Hid (B / 2 ^ (7 - ir) % 2 = d) := Hid.mk (by rw [← hd, HC.out])
      clear hd
      go_wp2_with (refine wl_value rfl (exec_remN (i := c) (m := 2) rfl (by rfl) (by rfl) HD.out (by decide)) ?_)
      go_ret
      exact ⟨by rw [HF.out]; rfl, hB1⟩
theorem below_Gc7 {u7 u8 : World} (h : u7.heap.size ≤ u8.heap.size) (w w' : World) (hb : Below u7.heap.size u7 w) (ht : Touch (fun k => u8.heap.size ≤ k ∨ k ∈ (([] : List (Nat × Cont)).map (·.1))) w w') : Below u7.heap.size u7 w' :=
  hb.trans ⟨ht.os, ht.tape, ht.output, ht.size, fun k hk => ht.block k (by have := hb.size; omega) (fun e => e.elim (fun e => by omega) (fun e => by simp at e))⟩
/-- Has a prefix an address? -/
def hasF (v : Bool) (b : Nat → Int) (n : Int) (v2 : Bool) (b2 : Nat → Int) : Bool := validF v2 b2 && (v == v2) && (List.range n.toNat).all (fun i => decide (bitF b i = bitF b2 i))
theorem has_iff {v v2 : Bool} {b b2 : Nat → Int} {n : Int} : hasF v b n v2 b2 = true ↔ validF v2 b2 = true ∧ v = v2 ∧ ∀ i : Nat, (i : Int) < n → bitF b i = bitF b2 i := by
  unfold hasF
  rw [Bool.and_eq_true, Bool.and_eq_true, List.all_eq_true, beq_iff_eq]
  constructor
  · rintro ⟨⟨h1, h2⟩, h3⟩
    exact ⟨h1, h2, fun i hi => of_decide_eq_true (h3 i (List.mem_range.2 (by omega)))⟩
  · rintro ⟨h1, h2, h3⟩
    exact ⟨⟨h1, h2⟩, fun i hi => decide_eq_true (h3 i (by have := List.mem_range.1 hi; omega))⟩
set_option maxHeartbeats 8000000 in
theorem has_run (v : Bool) (b : Nat → Int) (n : Int) (v2 : Bool) (b2 : Nat → Int) (w : World) (hn : n ≤ 128) (hb1 : Byts 16 b) (hb2 : Byts 16 b2) : Calls Try.prog 23 #[.agg (SC 18 (prV v b n)), .agg (SC 17 (adV v2 b2))] w fun e w' => e = .returned (.bool (hasF v b n v2 b2)) ∧ Below w.heap.size w w' := by
  have HI := Hid.mk (has_iff (v := v) (v2 := v2) (b := b) (b2 := b2) (n := n))
  generalize hasF v b n v2 b2 = r at *
  go_enter Try.func23, Try.ntmps23
  go_wp2_with (refine wl_boxO rfl rfl isPfx (by rfl) ?_; intro g2 u1 hg2 q1 hB1; refine Hid.out ?_)
  refine Hid.mk ?_
  go_wp2_with (refine wl_boxO rfl rfl isAddr (by rfl) ?_; intro g3 u2 hg3 q2 hB2; refine Hid.out ?_)
  refine Hid.mk ?_
  have q1b := SAt.kept q1 hB2
  go_wp2_with (refine wl_value rfl (look_st rfl isAddr q2 (by rfl)) ?_)
  refine (valid_run v2 b2 u2).mono ?_
  rintro e u3 ⟨rfl, hB3⟩
  have p3 := SAt.kept q1b hB3
  have a3 := SAt.kept q2 hB3
  have hBa : Below w.heap.size w u3 := hB1.trans ((hB2.trans (hB3.mono hB2.size)).mono hB1.size)
  have c1 := pr_v p3
  have c2 := ad_v a3
  clear q1 q2 q1b hB1 hB2 hB3 hg2 hg3
  generalize validF v2 b2 = vd at *
  cases vd
  · have hr : r = false := by
      cases hr : r
      · rfl
      · exact absurd (HI.out.1 hr).1 (by simp)
    go_wp2_with fail
    go_ret
    exact ⟨by rw [hr]; rfl, hBa⟩
  by_cases hv : v = v2
  · have hvd : (v != v2) = false := by rw [hv]; simp
    have HP : Hid (∀ z, Below u3.heap.size u3 z → SAt z g2 37 18 (prV v b n)) := Hid.mk (fun z hz => SAt.kept p3 hz)
    have HA : Hid (∀ z, Below u3.heap.size u3 z → SAt z g3 35 17 (adV v2 b2)) := Hid.mk (fun z hz => SAt.kept a3 hz)
    clear p3 a3
    have hB0 : Below u3.heap.size u3 u3 := Below.refl _ _
    go_wp2_with fail
    go_loopg [6] (n.toNat) (fun gm s6 z => ∃ k : Nat, gm = n.toNat - k ∧ k ≤ n.toNat ∧ s6 = .int .i64 (k : Int) ∧ Hid (∀ i : Nat, i < k → bitF b i = bitF b2 i) ∧ Below u3.heap.size u3 z)
    case atStart => exact ⟨0, rfl, by omega, rfl, Hid.mk (fun i hi => by omega), by first | exact hB0 | exact below_drewN hB0 _⟩
    case round =>
      obtain ⟨k, hgm, hk, rfl, HZ, hB⟩ := hrel
      have cn := pr_n (HP.out wr hB)
      clear hB0 c1 c2
      by_cases hlt : (k : Int) < n
      · have hld : decide ((k : Int) < n) = true := decide_eq_true hlt
        have hk128 : k < 128 := by omega
        by_cases hz : bitF b k = bitF b2 k
        · have HF : Hid (∀ i : Nat, i < k + 1 → bitF b i = bitF b2 i) := Hid.mk (fun i hi => by
            by_cases e : i = k
            · subst e; exact hz
            · exact HZ.out i (by omega))
          obtain ⟨dd, hdd, hdf⟩ : ∃ dd : Bool, decide (bitF b k ≠ bitF b2 k) = dd ∧ dd = false := ⟨_, rfl, decide_eq_false (fun e => e hz)⟩
          go_wp2_with fail
          refine wp_region3 (Below u3.heap.size u3) wr.heap.size
              ([] : List (Nat × Cont))
              [kv (.pointer (some ⟨g2, 0, none⟩)), kv (.agg (SC 17 (adV v b))), kv (.int .i64 (k : Int)), kv (.int .i64 (bitF b k)), kv (.agg (SC 17 (adV v2 b2))), kv (.int .i64 (k : Int)), kv (.int .i64 (bitF b2 k)), kv (.bool dd)]
              [.none, .none, .none, .none, .none, .none, .none, .none]
              [some 25, some 26, some 27, some 28, some 29, some 30, some 31, some 32]
              [(2, .pointer (some ⟨g2, 0, none⟩)), (3, .pointer (some ⟨g3, 0, none⟩)), (6, .int .i64 (k : Int))]
              [[], [.slot 0], [], [.slot 1, .slot 2], [], [], [.slot 4, .slot 5], [.slot 3, .slot 6]]
              [.slot 7] [25, 26, 27, 28, 29, 30, 31, 32]
              rfl (by kernel_rfl) ⟨rfl, rfl, rfl, trivial⟩ (hB.drew) (Nat.le_refl _) trivial trivial (below_Gc7 (by have := hB.size; omega))
              ⟨
                (fun Q aq ww own hS hBg fr kn => .inl ⟨trivial, fun K hK => wp_value (exec_fpx rfl fr.1) (hK _ _ ⟨Touch.refl _ _, rfl⟩)⟩),
                (fun Q aq ww own hS hBg fr kn => .inl ⟨trivial, fun K hK => wp_value (exec_ldA rfl (HP.out ww hS) kn.1) (hK _ _ ⟨Touch.refl _ _, rfl⟩)⟩),
                (fun Q aq ww own hS hBg fr kn => .inl ⟨trivial, fun K hK => wp_value (exec_move rfl fr.2.2.1) (hK _ _ ⟨Touch.refl _ _, rfl⟩)⟩),
                (fun Q aq ww own hS hBg fr kn => .inl ⟨trivial, fun K hK => stepc enterBitR rfl (args2 kn.1 kn.2.1) (bit_run v b k ww hk128 hb1) (fun w' hb => hK _ _ ⟨touch_below hb, rfl⟩)⟩),
                (fun Q aq ww own hS hBg fr kn => .inl ⟨trivial, fun K hK => wp_value (look_st rfl isAddr (HA.out ww hS) fr.2.1) (hK _ _ ⟨Touch.refl _ _, rfl⟩)⟩),
                (fun Q aq ww own hS hBg fr kn => .inl ⟨trivial, fun K hK => wp_value (exec_move rfl fr.2.2.1) (hK _ _ ⟨Touch.refl _ _, rfl⟩)⟩),
                (fun Q aq ww own hS hBg fr kn => .inl ⟨trivial, fun K hK => stepc enterBitR rfl (args2 kn.1 kn.2.1) (bit_run v2 b2 k ww hk128 hb2) (fun w' hb => hK _ _ ⟨touch_below hb, rfl⟩)⟩),
                (fun Q aq ww own hS hBg fr kn => .inl ⟨trivial, fun K hK => wp_value (exec_neI rfl kn.1 kn.2.1 hdd) (hK _ _ ⟨Touch.refl _ _, rfl⟩)⟩),
                trivial⟩ ?_
          intro vs own u9 hQ hsz kn inj
          have e32 : vs 32 = .bool false := hdf ▸ kn.1
          clear kn inj hsz hz hdd hdf
          simp only [putAll, Act.put, List.setIfInBounds_toArray, List.set_cons_zero, List.set_cons_succ, e32]
          clear e32
          go_wp2_with fail
          go_roundg (n.toNat - (k + 1))
          case rel => exact ⟨k + 1, rfl, by omega, by go_num, HF, hQ⟩
          case measure => omega
        · have hr : r = false := by
            cases hr : r
            · rfl
            · exact absurd ((HI.out.1 hr).2.2 k hlt) hz
          obtain ⟨dd, hdd, hdf⟩ : ∃ dd : Bool, decide (bitF b k ≠ bitF b2 k) = dd ∧ dd = true := ⟨_, rfl, decide_eq_true hz⟩
          go_wp2_with fail
          refine wp_region3 (Below u3.heap.size u3) wr.heap.size
              ([] : List (Nat × Cont))
              [kv (.pointer (some ⟨g2, 0, none⟩)), kv (.agg (SC 17 (adV v b))), kv (.int .i64 (k : Int)), kv (.int .i64 (bitF b k)), kv (.agg (SC 17 (adV v2 b2))), kv (.int .i64 (k : Int)), kv (.int .i64 (bitF b2 k)), kv (.bool dd)]
              [.none, .none, .none, .none, .none, .none, .none, .none]
              [some 25, some 26, some 27, some 28, some 29, some 30, some 31, some 32]
              [(2, .pointer (some ⟨g2, 0, none⟩)), (3, .pointer (some ⟨g3, 0, none⟩)), (6, .int .i64 (k : Int))]
              [[], [.slot 0], [], [.slot 1, .slot 2], [], [], [.slot 4, .slot 5], [.slot 3, .slot 6]]
              [.slot 7] [25, 26, 27, 28, 29, 30, 31, 32]
              rfl (by kernel_rfl) ⟨rfl, rfl, rfl, trivial⟩ (hB.drew) (Nat.le_refl _) trivial trivial (below_Gc7 (by have := hB.size; omega))
              ⟨
                (fun Q aq ww own hS hBg fr kn => .inl ⟨trivial, fun K hK => wp_value (exec_fpx rfl fr.1) (hK _ _ ⟨Touch.refl _ _, rfl⟩)⟩),
                (fun Q aq ww own hS hBg fr kn => .inl ⟨trivial, fun K hK => wp_value (exec_ldA rfl (HP.out ww hS) kn.1) (hK _ _ ⟨Touch.refl _ _, rfl⟩)⟩),
                (fun Q aq ww own hS hBg fr kn => .inl ⟨trivial, fun K hK => wp_value (exec_move rfl fr.2.2.1) (hK _ _ ⟨Touch.refl _ _, rfl⟩)⟩),
                (fun Q aq ww own hS hBg fr kn => .inl ⟨trivial, fun K hK => stepc enterBitR rfl (args2 kn.1 kn.2.1) (bit_run v b k ww hk128 hb1) (fun w' hb => hK _ _ ⟨touch_below hb, rfl⟩)⟩),
                (fun Q aq ww own hS hBg fr kn => .inl ⟨trivial, fun K hK => wp_value (look_st rfl isAddr (HA.out ww hS) fr.2.1) (hK _ _ ⟨Touch.refl _ _, rfl⟩)⟩),
                (fun Q aq ww own hS hBg fr kn => .inl ⟨trivial, fun K hK => wp_value (exec_move rfl fr.2.2.1) (hK _ _ ⟨Touch.refl _ _, rfl⟩)⟩),
                (fun Q aq ww own hS hBg fr kn => .inl ⟨trivial, fun K hK => stepc enterBitR rfl (args2 kn.1 kn.2.1) (bit_run v2 b2 k ww hk128 hb2) (fun w' hb => hK _ _ ⟨touch_below hb, rfl⟩)⟩),
                (fun Q aq ww own hS hBg fr kn => .inl ⟨trivial, fun K hK => wp_value (exec_neI rfl kn.1 kn.2.1 hdd) (hK _ _ ⟨Touch.refl _ _, rfl⟩)⟩),
                trivial⟩ ?_
          intro vs own u9 hQ hsz kn inj
          have e32 : vs 32 = .bool true := hdf ▸ kn.1
          clear kn inj hsz hz hdd hdf
          simp only [putAll, Act.put, List.setIfInBounds_toArray, List.set_cons_zero, List.set_cons_succ, e32]
          clear e32
          go_wp2_with fail
          go_ret
          exact ⟨by rw [hr]; rfl, hBa.trans (hQ.mono hBa.size)⟩
      · have hld : decide ((k : Int) < n) = false := decide_eq_false hlt
        have hr : r = true := by refine HI.out.2 ⟨?_, ?_, fun i hi => HZ.out i (by omega)⟩ <;> first | trivial | rfl | exact hv
        go_wp2_with fail
        go_ret
        exact ⟨by first | rfl | (rw [hr]; rfl), hBa.trans (hB.mono hBa.size)⟩
  · have hr : r = false := by
      cases hr : r
      · rfl
      · exact absurd (HI.out.1 hr).2.1 hv
    have hvd : (v == v2) = false := beq_eq_false_iff_ne.2 hv
    go_wp2_with fail
    go_ret
    exact ⟨by rw [hr]; rfl, hBa⟩
end Go.Proofs.Ytcpnleanjclfjaa
/-
  Own text. The document's before, Whole.
-/
namespace Go.Proofs.Ytcpnleanjclfjaa
open Go.RowKit Go.Proofs
set_option maxRecDepth 100000
/-- Which of two rows of bytes stands first, from place i on (m places); r where they are the same. -/
def lexF (b b2 : Nat → Int) (r : Bool) : Nat → Nat → Bool
  | _, 0 => r
  | i, m + 1 => if b i = b2 i then lexF b b2 r (i + 1) m else decide (b i < b2 i)
def beforeF (v : Bool) (b : Nat → Int) (n : Int) (v2 : Bool) (b2 : Nat → Int) (n2 : Int) : Bool := if v = v2 then lexF b b2 (decide (n < n2)) 0 16 else v2
/-- Two structs are boxed. -/
theorem wl_box2O {ops : Array Oper} {rest : List Oper} {o1 o2 : Oper} {x y : Operand} {ty ty' : TypeId} {a : Act} {w : World} {Q : Exit → Act → World → Prop} {n n' : Nat} {V V' : Nat → Value} (h1 : o1.op = .box ty x) (h2 : o2.op = .box ty' y) (w1 : o1.guard = none) (w2 : o2.guard = none) (hA : IsSt ty n) (hA' : IsSt ty' n') (hx : a.eval x = .agg (SC n V)) (hy : ∀ u, (a.put o1.dst u).eval y = .agg (SC n' V'))
    (h : ∀ g g' w', w.heap.size ≤ g → g < g' → SAt w' g ty n V → SAt w' g' ty' n' V' → Below w.heap.size w w' → wpList Try.prog ops Q rest ((a.put o1.dst (.pointer (some ⟨g, 0, none⟩))).put o2.dst (.pointer (some ⟨g', 0, none⟩))) w') : wpList Try.prog ops Q (o1 :: o2 :: rest) a w := by
  have q1 : Region.wanted o1 (yielded ops a.tmps) = true := by unfold Region.wanted; rw [w1]
  refine wl_boxO h1 q1 hA hx (fun g u hg s1 b1 => ?_)
  have q2 : Region.wanted o2 (yielded ops (a.put o1.dst (.pointer (some ⟨g, 0, none⟩))).tmps) = true := by unfold Region.wanted; rw [w2]
  refine wl_boxO h2 q2 hA' (hy _) (fun g' u' hg' s2 b2 => ?_)
  exact h g g' u' hg (by have := SAt.lt s1; omega) (SAt.kept s1 b2) s2 (b1.trans (b2.mono b1.size))
set_option maxHeartbeats 8000000 in
theorem before_run (v : Bool) (b : Nat → Int) (n : Int) (v2 : Bool) (b2 : Nat → Int) (n2 : Int) (w : World) : Calls Try.prog 33 #[.agg (SC 18 (prV v b n)), .agg (SC 18 (prV v2 b2 n2))] w fun e w' => e = .returned (.bool (beforeF v b n v2 b2 n2)) ∧ Below w.heap.size w w' := by
  have HR : Hid (beforeF v b n v2 b2 n2 = if v = v2 then lexF b b2 (decide (n < n2)) 0 16 else v2) := Hid.mk rfl
  have HL : Hid (∀ i m, lexF b b2 (decide (n < n2)) i (m + 1) = if b i = b2 i then lexF b b2 (decide (n < n2)) (i + 1) m else decide (b i < b2 i)) := Hid.mk (fun i m => rfl)
  have HZ : Hid (∀ i, lexF b b2 (decide (n < n2)) i 0 = decide (n < n2)) := Hid.mk (fun i => rfl)
  generalize lexF b b2 (decide (n < n2)) = L at *
  generalize beforeF v b n v2 b2 n2 = r at *
  go_enter Try.func33, Try.ntmps33
  go_wp2_with (refine wl_box2O rfl rfl rfl rfl isPfx isPfx (by rfl) (by intro u; rfl) ?_; intro g2 g3 w2 hg2 hg3 p2 q2 hBa; refine Hid.out ?_)
  refine Hid.mk ?_
  have c1 := pr_v p2
  have c2 := pr_v q2
  clear hg2 hg3
  by_cases hv : v = v2
  · have HR2 : Hid (r = L 0 16) := Hid.mk (by rw [HR.out, if_pos hv])
    have HB1 : Hid (∀ z, Below w2.heap.size w2 z → ∀ i, i < 16 → z.cell? ⟨g2, 1 + i, none⟩ = some (.int .u8 (b i))) := Hid.mk (fun z hz i hi => pr_b (SAt.kept p2 hz) i hi)
    have HB2 : Hid (∀ z, Below w2.heap.size w2 z → ∀ i, i < 16 → z.cell? ⟨g3, 1 + i, none⟩ = some (.int .u8 (b2 i))) := Hid.mk (fun z hz i hi => pr_b (SAt.kept q2 hz) i hi)
    have HN1 : Hid (∀ z, Below w2.heap.size w2 z → z.cell? ⟨g2, 17, none⟩ = some (.int .i64 n)) := Hid.mk (fun z hz => pr_n (SAt.kept p2 hz))
    have HN2 : Hid (∀ z, Below w2.heap.size w2 z → z.cell? ⟨g3, 17, none⟩ = some (.int .i64 n2)) := Hid.mk (fun z hz => pr_n (SAt.kept q2 hz))
    rw [hv] at c1
    have hB0 : Below w2.heap.size w2 w2 := Below.refl _ _
    clear p2 q2 hv HR
    go_wp2_with fail
    go_loopg [5] (16 : Nat) (fun gm s5 z => ∃ k : Nat, gm = 16 - k ∧ k ≤ 16 ∧ s5 = .int .i64 (k : Int) ∧ Hid (r = L k (16 - k)) ∧ Below w2.heap.size w2 z)
    case atStart => exact ⟨0, rfl, by omega, rfl, Hid.mk (by rw [HR2.out]), by first | exact hB0 | exact below_drewN hB0 _⟩
    case round =>
      obtain ⟨k, hgm, hk, rfl, HK, hB⟩ := hrel
      clear hB0 c1 c2 HR2
      by_cases hlt : k < 16
      · have hk0 : (0 : Int) ≤ (k : Int) := by omega
        have hk16 : (k : Int) < 16 := by omega
        have d1 := HB1.out wr hB k hlt
        have d2 := HB2.out wr hB k hlt
        by_cases hz : b k = b2 k
        · have HF : Hid (r = L (k + 1) (16 - (k + 1))) := Hid.mk (by rw [HK.out, show 16 - k = 16 - (k + 1) + 1 by omega, HL.out, if_pos hz])
          have hB2 := hB.drew
          rw [hz] at d1
          clear hz
          go_wp2_with fail
          go_region
          go_wp2_with fail
          go_roundg (16 - (k + 1))
          case rel => exact ⟨k + 1, rfl, by omega, by go_num, HF, hB2⟩
          case measure => omega
        · have HF : Hid (r = decide (b k < b2 k)) := Hid.mk (by rw [HK.out, show 16 - k = 16 - (k + 1) + 1 by omega, HL.out, if_neg hz])
          have hzd : (b k == b2 k) = false := beq_eq_false_iff_ne.2 hz
          have hBr : Below w.heap.size w wr.drew.drew := hBa.trans (hB.drew.drew.mono hBa.size)
          go_wp2_with fail
          go_region
          go_wp2_with fail
          go_region
          go_wp2_with fail
          go_ret
          exact ⟨by rw [HF.out]; rfl, hBr⟩
      · obtain rfl : k = 16 := by omega
        have d1 := HN1.out wr hB
        have d2 := HN2.out wr hB
        have HF : Hid (r = decide (n < n2)) := Hid.mk (by rw [HK.out, HZ.out])
        go_wp2_with fail
        go_ret
        exact ⟨by rw [HF.out]; rfl, hBa.trans (hB.mono hBa.size)⟩
  · have HR2 : Hid (r = v2) := Hid.mk (by rw [HR.out, if_neg hv])
    have hvd : (v == v2) = false := beq_eq_false_iff_ne.2 hv
    clear p2 q2 HR
    go_wp2_with fail
    go_ret
    exact ⟨by rw [HR2.out]; rfl, hBa⟩
end Go.Proofs.Ytcpnleanjclfjaa
/-
  Own text. The document's Whole.
-/
namespace Go.Proofs.Ytcpnleanjclfjaa
open Go.RowKit Go.Proofs
set_option maxRecDepth 100000
/-- The first t bits of byte j of a prefix of n bits, as a number. -/
def accF (b : Nat → Int) (n : Int) (j : Nat) : Nat → Int
  | 0 => 0
  | t + 1 => accF b n j t * 2 + (if ((8 * j + t : Nat) : Int) < n then bitF b (8 * j + t) else 0)
def whB (b : Nat → Int) (n : Int) (j : Nat) : Int := accF b n j 8
theorem bit_b (b : Nat → Int) (i : Nat) : 0 ≤ bitF b i ∧ bitF b i < 2 := by unfold bitF; omega
theorem acc_b (b : Nat → Int) (n : Int) (j : Nat) : ∀ t, 0 ≤ accF b n j t ∧ accF b n j t < 2 ^ t
  | 0 => by unfold accF; simp
  | t + 1 => by
    have ih := acc_b b n j t
    have hb := bit_b b (8 * j + t)
    unfold accF
    rw [Int.pow_succ]
    split <;> omega
theorem wh_b (b : Nat → Int) (n : Int) : Byts 16 (whB b n) := fun j _ => by
  have := acc_b b n j 8
  unfold whB
  have e : (2 : Int) ^ 8 = 256 := by decide
  omega
/-- What stands at byte j when i bits were put. -/
def curB (b : Nat → Int) (n : Int) (i j : Nat) : Int := accF b n j (min 8 (i - 8 * j))
theorem cur_0 (b : Nat → Int) (n : Int) (j : Nat) : curB b n 0 j = 0 := by unfold curB; rw [show min 8 (0 - 8 * j) = 0 by omega]; rfl
theorem cur_128 (b : Nat → Int) (n : Int) (j : Nat) (hj : j < 16) : curB b n 128 j = whB b n j := by unfold curB whB; rw [show min 8 (128 - 8 * j) = 8 by omega]
theorem cur_at (b : Nat → Int) (n : Int) (i : Nat) : curB b n i (i / 8) = accF b n (i / 8) (i % 8) := by unfold curB; rw [show min 8 (i - 8 * (i / 8)) = i % 8 by omega]
theorem cur_next (b : Nat → Int) (n : Int) (i j : Nat) : curB b n (i + 1) j = if j = i / 8 then curB b n i (i / 8) * 2 + (if (i : Int) < n then bitF b i else 0) else curB b n i j := by
  by_cases e : j = i / 8
  · subst e
    rw [if_pos rfl, cur_at]
    unfold curB
    rw [show min 8 (i + 1 - 8 * (i / 8)) = i % 8 + 1 by omega]
    show accF b n (i / 8) (i % 8) * 2 + (if ((8 * (i / 8) + i % 8 : Nat) : Int) < n then bitF b (8 * (i / 8) + i % 8) else 0) = _
    rw [show 8 * (i / 8) + i % 8 = i by omega]
  · rw [if_neg e]
    unfold curB
    rw [show min 8 (i + 1 - 8 * j) = min 8 (i - 8 * j) by omega]
theorem cur_b (b : Nat → Int) (n : Int) (i : Nat) : 0 ≤ curB b n i (i / 8) ∧ curB b n i (i / 8) < 128 := by
  rw [cur_at]
  have := acc_b b n (i / 8) (i % 8)
  have h7 : (2 : Int) ^ (i % 8) ≤ 128 := by
    have h8 : i % 8 < 8 := by omega
    generalize i % 8 = q at *
    match q, h8 with
    | 0, _ | 1, _ | 2, _ | 3, _ | 4, _ | 5, _ | 6, _ | 7, _ => decide
  omega
def wholeV (v : Bool) (b : Nat → Int) (n : Int) : Nat → Value := if rightF v b n = true then prV v (whB b n) n else prV false (fun _ => 0) 0
section
variable {a : Act} {o : Oper} {w : World} {x y : Operand}
theorem exec_mul8 (ho : o.op = .binOp .mul 5 x y 5) {m : Int} (hx : a.eval x = .int .u8 m) (hy : a.eval y = .int .u8 2) (h0 : 0 ≤ m) (h1 : m < 128) : (execOp a.eval o).run Try.prog w = .ok (.value (.int .u8 (m * 2))) w := by
  refine exec_bin2 ho hx hy rfl ?_
  have e : IntKind.u8.wrap (m * 2) = m * 2 := by rw [IntKind.wrap_u8]; omega
  simp [go_sem, e]
theorem exec_add8 (ho : o.op = .binOp .add 5 x y 5) {m n : Int} (hx : a.eval x = .int .u8 m) (hy : a.eval y = .int .u8 n) (h0 : 0 ≤ m + n) (h1 : m + n < 256) : (execOp a.eval o).run Try.prog w = .ok (.value (.int .u8 (m + n))) w := by
  refine exec_bin2 ho hx hy rfl ?_
  have e : IntKind.u8.wrap (m + n) = m + n := by rw [IntKind.wrap_u8]; omega
  simp [go_sem, e]
theorem exec_cv8 (ho : o.op = .convert 3 5 x) {m : Int} (hx : a.eval x = .int .i64 m) (h0 : 0 ≤ m) (h1 : m < 256) : (execOp a.eval o).run Try.prog w = .ok (.value (.int .u8 m)) w := by
  refine exec_conv ho hx ?_
  simp [go_sem]
  rw [IntKind.wrap_u8]
  omega
end
theorem zeroPfx (w : World) : (zeroValue 37).run Try.prog w = .ok (.agg (SC 18 (prV false (fun _ => 0) 0))) w := by kernel_rfl
theorem run_px0 (w : World) : (Instr.build 37 #[]).run Try.prog w = .ok (.agg (SC 18 (prV false (fun _ => 0) 0))) w := by kernel_rfl
theorem exec_px0 {a : Act} {o : Oper} {w : World} (ho : o.op = .build 37 #[]) : (execOp a.eval o).run Try.prog w = .ok (.value (.agg (SC 18 (prV false (fun _ => 0) 0)))) w := by
  have h := run_px0 w
  unfold execOp
  simp only [ho, List.map_toArray, List.map_nil, Sem.run_bind, h, Result.andThen_ok, Sem.run_pure]
theorem run_px1 (n : Int) (w : World) : (Instr.build 37 #[(1, .int .i64 n)]).run Try.prog w = .ok (.agg (SC 18 (prV false (fun _ => 0) n))) w := by kernel_rfl
theorem exec_px1 {a : Act} {o : Oper} {w : World} {x : Operand} (ho : o.op = .build 37 #[(1, x)]) {n : Int} (hx : a.eval x = .int .i64 n) : (execOp a.eval o).run Try.prog w = .ok (.value (.agg (SC 18 (prV false (fun _ => 0) n)))) w := by
  have h := run_px1 n w
  unfold execOp
  simp only [ho, List.map_toArray, List.map_cons, List.map_nil, hx, Sem.run_bind, h, Result.andThen_ok, Sem.run_pure]
theorem pr_setv {w : World} {g : Nat} {v v' : Bool} {b : Nat → Int} {n : Int} (h : SAt w g 37 18 (prV v b n)) : SAt (w.setCell ⟨g, 0, none⟩ (.bool v')) g 37 18 (prV v' b n) := by
  refine SAt.congr (SAt.set h 0 _ (by omega)) (fun x hx => ?_)
  show (if x = 0 then Value.bool v' else prV v b n x) = prV v' b n x
  unfold prV adV
  by_cases e : x = 0
  · subst e; rfl
  · rw [if_neg e, if_neg (show ¬ x < 1 by omega), if_neg (show ¬ x < 1 by omega)]
theorem pr_setb {w : World} {g k : Nat} {v : Bool} {b b' : Nat → Int} {n c : Int} (h : SAt w g 37 18 (prV v b n)) (hk : k < 16) (hb : ∀ j, j < 16 → b' j = if j = k then c else b j) : SAt (w.setCell ⟨g, 1 + k, none⟩ (.int .u8 c)) g 37 18 (prV v b' n) := by
  refine SAt.congr (SAt.set h (1 + k) _ (by omega)) (fun x hx => ?_)
  show (if x = 1 + k then Value.int .u8 c else prV v b n x) = prV v b' n x
  unfold prV adV
  by_cases e : x = 1 + k
  · subst e
    rw [if_pos rfl, if_pos (by omega), if_neg (by omega), Nat.add_sub_cancel_left, hb k hk, if_pos rfl]
  · rw [if_neg e]
    by_cases h17 : x < 17
    · rw [if_pos h17, if_pos h17]
      by_cases h1 : x < 1
      · rw [if_pos h1, if_pos h1]
      · rw [if_neg h1, if_neg h1, hb (x - 1) (by omega), if_neg (by omega)]
    · rw [if_neg h17, if_neg h17]
set_option maxHeartbeats 16000000 in
theorem whole_run (v : Bool) (b : Nat → Int) (n : Int) (w : World) (hb : Byts 16 b) : Calls Try.prog 21 #[.agg (SC 18 (prV v b n))] w fun e w' => e = .returned (.agg (SC 18 (wholeV v b n))) ∧ Below w.heap.size w w' := by
  have HY : Hid (rightF v b n = true → wholeV v b n = prV v (whB b n) n) := Hid.mk (fun h => by unfold wholeV; rw [if_pos h])
  have HN : Hid (rightF v b n = false → wholeV v b n = prV false (fun _ => 0) 0) := Hid.mk (fun h => by unfold wholeV; rw [if_neg (by rw [h]; simp)])
  have H128 : Hid (rightF v b n = true → n ≤ 128) := Hid.mk (fun h => by
    unfold rightF at h
    simp at h
    omega)
  generalize wholeV v b n = wv at *
  go_enter Try.func21, Try.ntmps21
  go_wp2_with (first | (refine wl_boxO rfl rfl isPfx (by rfl) ?_; intro g1 w1 hg1 q1 hB1; refine Hid.out ?_))
  refine Hid.mk ?_
  go_wp2_with (refine wl_alO rfl rfl zeroPfx ?_; intro g2 w2 hg2 q2 hB2; refine Hid.out ?_)
  refine Hid.mk ?_
  have p2 := SAt.kept q1 hB2
  have hl1 := SAt.lt q1
  have hBa : Below w.heap.size w w2 := hB1.trans (hB2.mono hB1.size)
  have h21 : g2 ≠ g1 := by omega
  have hg2w : w.heap.size ≤ g2 := by have := hB1.size; omega
  clear q1 hB1 hB2 hg2 hl1
  go_wp2_with (refine wl_value rfl (look_st rfl isPfx p2 (by rfl)) ?_)
  refine (right_run v b n w2).mono ?_
  rintro e w3 ⟨rfl, hB3⟩
  have p3 := SAt.kept p2 hB3
  have q3 := SAt.kept q2 hB3
  have hBb : Below w.heap.size w w3 := hBa.trans (hB3.mono hBa.size)
  clear p2 q2 hB3 hBa
  generalize rightF v b n = rt at *
  cases rt
  · have hw := HN.out rfl
    go_wp2_with (first | (refine wl_value rfl (exec_px0 rfl) ?_) | (refine st_stO rfl rfl isPfx (prV_one _ _ _) q3 (by rfl) (by rfl) ?_; intro w4 q4 o4; refine Hid.out ?_))
    refine Hid.mk ?_
    go_wp2_with fail
    exact bodyPost_ret (res_st rfl isPfx q4 (by rfl)) rfl ⟨by rw [hw], hBb.trans (o4.below hg2w)⟩
  · have hn := H128.out rfl
    have hw := HY.out rfl
    have HW := Hid.mk hw
    clear hw HY HN H128
    have cn := pr_n p3
    have l1 := SAt.lt p3
    have l2 := SAt.lt q3
    go_wp2_with (first | (refine wl_value rfl (exec_px1 rfl (by rfl)) ?_) | (refine wl_alO rfl rfl zeroPfx ?_; intro g4 w4 hg4 q4 hB4; refine Hid.out ?_))
    refine Hid.mk ?_
    have p4 := SAt.kept p3 hB4
    have r4 := SAt.kept q3 hB4
    have hBc : Below w.heap.size w w4 := hBb.trans (hB4.mono hBb.size)
    have hg4w : w.heap.size ≤ g4 := by have := hBb.size; omega
    have h41 : g1 ≠ g4 := by omega
    have h42 : g2 ≠ g4 := by omega
    clear p3 q3 hB4 hBb hg4 l1 l2 cn
    go_wp2_with (refine st_stO rfl rfl isPfx (prV_one _ _ _) q4 (by rfl) (by rfl) ?_; intro w5 q5 o5; refine Hid.out ?_)
    refine Hid.mk ?_
    have p5 := p4.only o5 h41
    have r5 := r4.only o5 h42
    have hBd : Below w.heap.size w w5 := hBc.trans (o5.below hg4w)
    clear p4 r4 q4 o5 hBc
    have c0 := pr_v p5
    have c1 : w5.cell? ⟨g4, 0, none⟩ = some (.bool false) := pr_v q5
    have f1 : w5.frozen? ⟨g4, 0, none⟩ = false := frozen_of_row w5 g4 0 _ _ q5
    have HT := Hid.mk (And.intro (pr_setv (v' := v) q5) (only_set (w := w5) (g := g4) (i := 0) (v := .bool v)))
    go_upto_region 6 with fail
    refine wp_gen (fun u => SAt u g4 37 18 (prV v (fun _ => 0) n) ∧ Only g4 w5 u) HT.out ?_
    rintro w6 ⟨q6, o6⟩
    have p6 := p5.only o6 h41
    have r6 := r5.only o6 h42
    have hBe : Below w.heap.size w w6 := hBd.trans (o6.below hg4w)
    clear p5 r5 q5 c0 c1 f1 HT o6 hBd
    go_wp2_with fail
    go_loopg [5] (128 : Nat) (fun gm s5 z => ∃ k : Nat, gm = 128 - k ∧ k ≤ 128 ∧ s5 = .int .i64 (k : Int) ∧ Hid (SAt z g4 37 18 (prV v (curB b n k) n) ∧ SAt z g1 37 18 (prV v b n) ∧ SAt z g2 37 18 (prV false (fun _ => 0) 0) ∧ Below w.heap.size w z))
    case atStart => exact ⟨0, rfl, by omega, rfl, Hid.mk ⟨by rw [funext (cur_0 b n)]; exact q6, p6, r6, hBe⟩⟩
    case round =>
      obtain ⟨k, hgm, hk, rfl, HS⟩ := hrel
      clear q6 p6 r6 hBe
      by_cases hlt : k < 128
      · have hki : (k : Int) < 128 := by omega
        obtain ⟨q7, p7, r7, hB7⟩ := HS.out
        have cn := pr_n p7
        go_upto_if 27 with fail
        go_cut [6] (fun s6 z => ∃ bt : Int, s6 = .int .i64 bt ∧ Hid (bt = (if (k : Int) < n then bitF b k else 0)) ∧ 0 ≤ bt ∧ bt < 2 ∧ Hid (SAt z g4 37 18 (prV v (curB b n k) n) ∧ SAt z g1 37 18 (prV v b n) ∧ SAt z g2 37 18 (prV false (fun _ => 0) 0) ∧ Below w.heap.size w z))
        case first =>
          by_cases hkn : (k : Int) < n
          · have hkd : decide ((k : Int) < n) = true := decide_eq_true hkn
            have hbt := bit_b b k
            have HBT : Hid (bitF b k = (if (k : Int) < n then bitF b k else 0)) := Hid.mk (by rw [if_pos hkn])
            have HBR := Hid.mk (bit_run v b k wr hlt hb)
            go_wp2_with (refine wl_value rfl (exec_ldA rfl p7 (by rfl)) ?_)
            refine HBR.out.mono ?_
            rintro e w8 ⟨rfl, hB8⟩
            have HX : Hid (SAt w8 g4 37 18 (prV v (curB b n k) n) ∧ SAt w8 g1 37 18 (prV v b n) ∧ SAt w8 g2 37 18 (prV false (fun _ => 0) 0) ∧ Below w.heap.size w w8) := Hid.mk ⟨SAt.kept q7 hB8, SAt.kept p7 hB8, SAt.kept r7 hB8, hB7.trans (hB8.mono hB7.size)⟩
            clear HBR q7 p7 r7 hB7 hB8 cn HS
            go_wp2_with fail
            go_meet
            case rel => exact ⟨bitF b k, rfl, HBT, hbt.1, hbt.2, HX⟩
          · have hkd : decide ((k : Int) < n) = false := decide_eq_false hkn
            have HBT : Hid ((0 : Int) = (if (k : Int) < n then bitF b k else 0)) := Hid.mk (by rw [if_neg hkn])
            go_wp2_with fail
            go_meet
            case rel => exact ⟨0, rfl, HBT, by omega, by omega, HS⟩
        case rest =>
          obtain ⟨bt, rfl, HBT, hb0, hb1, HS2⟩ := hcut
          clear HS q7 p7 r7 hB7 cn
          obtain ⟨q8, p8, r8, hB8⟩ := HS2.out
          obtain ⟨iq, hq⟩ : ∃ q, k / 8 = q := ⟨_, rfl⟩
          have hq16 : iq < 16 := by omega
          have hcb := cur_b b n k
          rw [hq] at hcb
          have cc := pr_b q8 iq hq16
          have fc : wc.frozen? ⟨g4, 1 + iq, none⟩ = false := frozen_of_row wc g4 (1 + iq) _ _ q8
          have HN2 : Hid (∀ j, j < 16 → curB b n (k + 1) j = if j = iq then curB b n k iq * 2 + bt else curB b n k j) := Hid.mk (fun j hj => by rw [cur_next, hq, HBT.out])
          have HQ := Hid.mk hq
          have HX : Hid (SAt (wc.setCell ⟨g4, 1 + iq, none⟩ (.int .u8 (curB b n k iq * 2 + bt))) g4 37 18 (prV v (curB b n (k + 1)) n) ∧ SAt (wc.setCell ⟨g4, 1 + iq, none⟩ (.int .u8 (curB b n k iq * 2 + bt))) g1 37 18 (prV v b n) ∧ SAt (wc.setCell ⟨g4, 1 + iq, none⟩ (.int .u8 (curB b n k iq * 2 + bt))) g2 37 18 (prV false (fun _ => 0) 0) ∧ Below w.heap.size w (wc.setCell ⟨g4, 1 + iq, none⟩ (.int .u8 (curB b n k iq * 2 + bt)))) := Hid.mk (by
            have o9 : Only g4 wc (wc.setCell ⟨g4, 1 + iq, none⟩ (.int .u8 (curB b n k iq * 2 + bt))) := only_set
            exact ⟨pr_setb q8 hq16 HN2.out, p8.only o9 h41, r8.only o9 h42, hB8.trans (o9.below hg4w)⟩)
          clear hq q8 p8 r8 hB8 HS2 HN2
          generalize curB b n k iq = cv at *
          go_wp2_with (first | (refine wl_value rfl (exec_quoN (i := k) (m := 8) rfl (by rfl) (by rfl) HQ.out (by decide) (by omega)) ?_) | (refine wl_value rfl (exec_ix16 rfl (by rfl) (by rfl) hq16) ?_) | (refine wl_value rfl (exec_mul8 rfl (by rfl) (by rfl) hcb.1 hcb.2) ?_) | (refine wl_value rfl (exec_cv8 rfl (by rfl) hb0 (by omega)) ?_) | (refine wl_value rfl (exec_add8 rfl (by rfl) (by rfl) (by omega) (by omega)) ?_))
          go_roundg (128 - (k + 1))
          case rel => exact ⟨k + 1, rfl, by omega, by go_num, HX⟩
          case measure => omega
      · obtain rfl : k = 128 := by omega
        obtain ⟨q7, p7, r7, hB7⟩ := HS.out
        go_wp2_with (first | (refine wl_value rfl (look_st rfl isPfx q7 (by rfl)) ?_) | (refine st_stO rfl rfl isPfx (prV_one _ _ _) r7 (by rfl) (by rfl) ?_; intro w8 r8 o8; refine Hid.out ?_))
        refine Hid.mk ?_
        have hEq : SC 18 (prV v (curB b n 128) n) = SC 18 wv := by
          rw [HW.out]
          refine SC_ext (SC_size 18 _) (fun i hi => ?_)
          rw [SC_get 18 _ i hi]
          unfold prV adV
          by_cases h17 : i < 17
          · rw [if_pos h17, if_pos h17]
            by_cases h1 : i < 1
            · rw [if_pos h1, if_pos h1]
            · rw [if_neg h1, if_neg h1, cur_128 b n (i - 1) (by omega)]
          · rw [if_neg h17, if_neg h17]
        go_wp2_with fail
        exact bodyPost_ret (res_st rfl isPfx r8 (by rfl)) rfl ⟨by rw [hEq], hB7.trans (o8.below hg2w)⟩
end Go.Proofs.Ytcpnleanjclfjaa
/-
  Own text. Two prefixes held against each other.
-/
namespace Go.Proofs.Ytcpnleanjclfjaa
open Go.RowKit Go.Proofs
set_option maxRecDepth 100000
theorem SC_part {n o m : Nat} {V : Nat → Value} (ho : o + m ≤ n) : (SC n V).extract o (o + m) = SC m (fun j => V (o + j)) := by
  refine SC_ext (by rw [Array.size_extract, SC_size]; omega) (fun i hi => ?_)
  rw [Array.getElem?_extract_of_lt (by rw [SC_size]; omega), ← Array.getElem?_eq_getElem, SC_get n V _ (by omega)]
theorem SC_same {n : Nat} {V V' : Nat → Value} (h : ∀ i, i < n → V i = V' i) : SC n V = SC n V' := SC_ext (SC_size n V) (fun i hi => by rw [SC_get n V i hi, h i hi])
theorem part_st {n o m : Nat} {V V' : Nat → Value} {t t' : TypeId} (ht : t = t') (hag : ∀ w, (isAgg t').run Try.prog w = .ok true w) (hs : ∀ w, (sizeOf t').run Try.prog w = .ok m w) (ho : o + m ≤ n) (hv : ∀ j, j < m → V (o + j) = V' j) (w : World) : (part t (SC n V) o).run Try.prog w = .ok (.agg (SC m V')) w := by
  subst ht
  unfold part
  simp only [Sem.run_bind, hag, Result.andThen_ok, if_true, hs, Sem.run_pure, SC_part ho, SC_same hv]
theorem part_cell {n o : Nat} {V : Nat → Value} {v : Value} {t t' : TypeId} (ht : t = t') (hag : ∀ w, (isAgg t').run Try.prog w = .ok false w) (ho : o < n) (hv : V o = v) (w : World) : (part t (SC n V) o).run Try.prog w = .ok v w := by
  subst ht
  unfold part
  simp only [Sem.run_bind, hag, Result.andThen_ok, Bool.false_eq_true, if_false, SC_get n V o ho, hv, Sem.run_pure]
theorem eqf_two {f : Field} {fs : List Field} {xs ys : Array Value} {d : Nat} {w : World} {u v : Value} {z r : Bool} (hn : f.name ≠ "_") (hp : (part f.type xs f.offset).run Try.prog w = .ok u w) (hq : (part f.type ys f.offset).run Try.prog w = .ok v w) (he : (Op.equalIn d f.type u v).run Try.prog w = .ok z w) (hr : (Op.eqFields d xs ys fs).run Try.prog w = .ok r w) : (Op.eqFields d xs ys (f :: fs)).run Try.prog w = .ok (z && r) w := by
  simp only [Op.eqFields, if_pos hn, Sem.run_bind, hp, hq, Result.andThen_ok, he]
  cases z
  · simp
  · simp [hr]
theorem eqItems_sc (s r : Nat → Int) (n d : Nat) (w : World) : ∀ (is : List Nat), (∀ i ∈ is, i < n) → (Op.eqItems (d + 1) 5 1 (SC n (fun j => .int .u8 (s j))) (SC n (fun j => .int .u8 (r j))) is).run Try.prog w = .ok (is.all fun i => s i == r i) w
  | [], _ => by simp [Op.eqItems]
  | i :: is, h => by
    have hi : i < n := h i (by simp)
    have ih := eqItems_sc s r n d w is (fun j hj => h j (by simp [hj]))
    have e1 : (part 5 (SC n (fun j => .int .u8 (s j))) (i * 1)).run Try.prog w = .ok (.int .u8 (s i)) w := by
      simp [part, SC_get n _ i hi, go_sem]
    have e2 : (part 5 (SC n (fun j => .int .u8 (r j))) (i * 1)).run Try.prog w = .ok (.int .u8 (r i)) w := by
      simp [part, SC_get n _ i hi, go_sem]
    simp only [Op.eqItems, Sem.run_bind, e1, e2, Result.andThen_ok, run_equalIn_int w d 5 .u8 .u8 _ _ Try.underlying5]
    by_cases hh : s i = r i
    · simpa [hh] using ih
    · simp [hh]
theorem cells8 : Try.prog.cellsOf 5 = 1 := by kernel_rfl
theorem info8 : (Try.prog.info? 5).isSome = true := by kernel_rfl
def eqB (b b2 : Nat → Int) : Bool := (List.range 16).all fun i => b i == b2 i
def eqPF (v : Bool) (b : Nat → Int) (n : Int) (v2 : Bool) (b2 : Nat → Int) (n2 : Int) : Bool := ((v == v2) && (eqB b b2 && true)) && ((n == n2) && true)
theorem eqP_iff {v v2 : Bool} {b b2 : Nat → Int} {n n2 : Int} : eqPF v b n v2 b2 n2 = true ↔ v = v2 ∧ (∀ i, i < 16 → b i = b2 i) ∧ n = n2 := by
  unfold eqPF eqB
  simp only [Bool.and_true, Bool.and_eq_true, beq_iff_eq, List.all_eq_true, List.mem_range, and_assoc]
theorem equal_arr16 (b b2 : Nat → Int) (d : Nat) (w : World) : (Op.equalIn (d + 1 + 1) 33 (.agg (SC 16 (fun j => .int .u8 (b j)))) (.agg (SC 16 (fun j => .int .u8 (b2 j))))).run Try.prog w = .ok (eqB b b2) w := by
  obtain ⟨i, hi⟩ := Option.isSome_iff_exists.1 info8
  rw [run_equalIn_array w (d + 1) _ _ Try.underlying33 hi, cells8]
  exact eqItems_sc b b2 16 d w (List.range 16) (fun i hi => List.mem_range.1 hi)
theorem addr_list : ∃ f0 f1 : Field, (Try.prog.fieldsOf 35).toList = [f0, f1] ∧ (f0.name ≠ "_" ∧ f0.type = 4 ∧ f0.offset = 0) ∧ (f1.name ≠ "_" ∧ f1.type = 33 ∧ f1.offset = 1) := by
  unfold Program.fieldsOf
  rw [Try.underlying35]
  exact ⟨_, _, rfl, ⟨by decide, rfl, rfl⟩, ⟨by decide, rfl, rfl⟩⟩
theorem pfx_list : ∃ f0 f1 : Field, (Try.prog.fieldsOf 37).toList = [f0, f1] ∧ (f0.name ≠ "_" ∧ f0.type = 35 ∧ f0.offset = 0) ∧ (f1.name ≠ "_" ∧ f1.type = 3 ∧ f1.offset = 17) := by
  unfold Program.fieldsOf
  rw [Try.underlying37]
  exact ⟨_, _, rfl, ⟨by decide, rfl, rfl⟩, ⟨by decide, rfl, rfl⟩⟩
theorem aggBool (w : World) : (isAgg 4).run Try.prog w = .ok false w := by kernel_rfl
theorem aggInt (w : World) : (isAgg 3).run Try.prog w = .ok false w := by kernel_rfl
theorem agg16 (w : World) : (isAgg 33).run Try.prog w = .ok true w := by kernel_rfl
theorem aggAddr (w : World) : (isAgg 35).run Try.prog w = .ok true w := by kernel_rfl
theorem size16 (w : World) : (sizeOf 33).run Try.prog w = .ok 16 w := by kernel_rfl
theorem sizeAddr (w : World) : (sizeOf 35).run Try.prog w = .ok 17 w := by kernel_rfl
theorem equal_addr (v v2 : Bool) (b b2 : Nat → Int) (d : Nat) (w : World) : (Op.equalIn (d + 1 + 1 + 1) 35 (.agg (SC 17 (adV v b))) (.agg (SC 17 (adV v2 b2)))).run Try.prog w = .ok ((v == v2) && (eqB b b2 && true)) w := by
  rw [run_equalIn_struct w (d + 1 + 1) 35 _ _ (by kernel_rfl) (by kernel_rfl)]
  obtain ⟨f0, f1, hl, ⟨n0, t0, o0⟩, ⟨n1, t1, o1⟩⟩ := addr_list
  rw [hl]
  have h16 : ∀ (v : Bool) (b : Nat → Int) j, j < 16 → adV v b (1 + j) = .int .u8 (b j) := fun v b j _ => by unfold adV; rw [if_neg (by omega), Nat.add_sub_cancel_left]
  refine eqf_two n0 (u := .bool v) (v := .bool v2) (by rw [o0]; exact part_cell t0 aggBool (by omega) rfl w) (by rw [o0]; exact part_cell t0 aggBool (by omega) rfl w) (by rw [t0]; exact run_equalIn_bool' w (d + 1) 4 v v2 Try.underlying4) ?_
  refine eqf_two n1 (u := .agg (SC 16 (fun j => .int .u8 (b j)))) (v := .agg (SC 16 (fun j => .int .u8 (b2 j)))) (by rw [o1]; exact part_st t1 agg16 size16 (by omega) (h16 v b) w) (by rw [o1]; exact part_st t1 agg16 size16 (by omega) (h16 v2 b2) w) (by rw [t1]; exact equal_arr16 b b2 d w) rfl
theorem equal_pfx (v v2 : Bool) (b b2 : Nat → Int) (n n2 : Int) (w : World) : (Op.equalIn 10000 37 (.agg (SC 18 (prV v b n))) (.agg (SC 18 (prV v2 b2 n2)))).run Try.prog w = .ok (eqPF v b n v2 b2 n2) w := by
  rw [show (10000 : Nat) = 9996 + 1 + 1 + 1 + 1 from rfl, run_equalIn_struct w (9996 + 1 + 1 + 1) 37 _ _ (by kernel_rfl) (by kernel_rfl)]
  obtain ⟨f0, f1, hl, ⟨n0, t0, o0⟩, ⟨n1, t1, o1⟩⟩ := pfx_list
  rw [hl]
  have h17 : ∀ (v : Bool) (b : Nat → Int) (n : Int) j, j < 17 → prV v b n (0 + j) = adV v b j := fun v b n j hj => by unfold prV; rw [Nat.zero_add, if_pos hj]
  refine eqf_two n0 (u := .agg (SC 17 (adV v b))) (v := .agg (SC 17 (adV v2 b2))) (by rw [o0]; exact part_st t0 aggAddr sizeAddr (by omega) (h17 v b n) w) (by rw [o0]; exact part_st t0 aggAddr sizeAddr (by omega) (h17 v2 b2 n2) w) (by rw [t0]; exact equal_addr v v2 b b2 9996 w) ?_
  refine eqf_two n1 (u := .int .i64 n) (v := .int .i64 n2) (by rw [o1]; exact part_cell t1 aggInt (by omega) rfl w) (by rw [o1]; exact part_cell t1 aggInt (by omega) rfl w) (by rw [t1]; exact run_equalIn_int w (9996 + 1 + 1) 3 .i64 .i64 n n2 Try.underlying3) rfl
theorem eqGPx : Try.prog.eqGuardType Try.prog.depth 37 = false := by kernel_rfl
section
variable {a : Act} {o : Oper} {w : World} {x y : Operand} {u : TypeId} {v v2 : Bool} {b b2 : Nat → Int} {n n2 : Int}
theorem exec_eqP (ho : o.op = .binOp .eql 37 x y u) (hx : a.eval x = .agg (SC 18 (prV v b n))) (hy : a.eval y = .agg (SC 18 (prV v2 b2 n2))) {z : Bool} (hz : eqPF v b n v2 b2 n2 = z) : (execOp a.eval o).run Try.prog w = .ok (.value (.bool z)) w := by
  subst hz
  unfold execOp
  simp only [ho, hx, hy, Sem.run_bind, run_eqGuard_agg w .eql 37 x y _ _ eqGPx, Result.andThen_ok, run_eql_struct, equal_pfx, Sem.run_pure]
theorem exec_neP (ho : o.op = .binOp .neq 37 x y u) (hx : a.eval x = .agg (SC 18 (prV v b n))) (hy : a.eval y = .agg (SC 18 (prV v2 b2 n2))) {z : Bool} (hz : (!eqPF v b n v2 b2 n2) = z) : (execOp a.eval o).run Try.prog w = .ok (.value (.bool z)) w := by
  subst hz
  unfold execOp
  simp only [ho, hx, hy, Sem.run_bind, run_eqGuard_agg w .neq 37 x y _ _ eqGPx, Result.andThen_ok, run_neq_struct, equal_pfx, Sem.run_pure]
end
end Go.Proofs.Ytcpnleanjclfjaa
