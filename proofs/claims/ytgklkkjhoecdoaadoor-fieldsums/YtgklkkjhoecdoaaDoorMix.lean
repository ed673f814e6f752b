/-
  Own text. A region that leaves its order open, walked once: what only looks (under a condition S on the world) is taken first; what acts comes up alone; an act that T marks keeps S. No program is named here.
-/
import Derived.OrdersHeld
import Derived.Laws.World
namespace Go.Proofs.YtgklkkjhoecdoaaDoor
open Go
section
variable {P : Program} {ops : Array Oper} {Q : Exit → Act → World → Prop} {md : Region.Mode} {S : World → Prop} {T : Nat → Bool}
/-- Whatever order is picked from here on; operation i keeps S if T says so. -/
def wpAnyT (P : Program) (md : Region.Mode) (ops : Array Oper) (Q : Exit → Act → World → Prop) (S : World → Prop) (T : Nat → Bool) : Nat → Array Bool → Act → World → Prop
  | 0, listed, a, w => Region.ready md ops listed = [] ∧ Q .normal a w
  | fuel + 1, listed, a, w =>
    (Region.ready md ops listed = [] → Q .normal a w) ∧
    ∀ i ∈ Region.ready md ops listed, wpOp P ops Q i (fun a' w' => (T i = true → S w → S w') ∧ wpAnyT P md ops Q S T fuel (listed.setIfInBounds i true) a' w') a w
theorem wpAny_of_T : ∀ (fuel : Nat) (listed : Array Bool) (a : Act) (w : World), wpAnyT P md ops Q S T fuel listed a w → wpAny P md ops Q fuel listed a w
  | 0, _, _, _, h => h
  | fuel + 1, _, _, _, h => ⟨h.1, fun i hi => wpOp_mono (fun a' w' h' => wpAny_of_T fuel _ a' w' h'.2) (h.2 i hi)⟩
def waits (md : Region.Mode) (oj : Oper) (i : Nat) : Bool := oj.after.any fun e => Region.binds md e && e.on == i
theorem waits_spec {oj : Oper} {i : Nat} (h : waits md oj i = true) : ∃ e ∈ oj.after, Region.binds md e = true ∧ e.on = i := by
  obtain ⟨e, he, hb⟩ := Array.any_eq_true'.1 h
  simp only [Bool.and_eq_true, beq_iff_eq] at hb
  exact ⟨e, he, hb.1, hb.2⟩
theorem wpAnyT_first {i : Nat} {oi : Oper} {v : Value} (hi : ops[i]? = some oi) (hsel : ∀ (j : Nat) (o : Oper) cs b, ops[j]? = some o → o.op ≠ .select cs b)
    (hQ : ∀ c a w, Q (.panic c) (a.put oi.dst v) w → Q (.panic c) a w) :
    ∀ (fuel : Nat) (listed : Array Bool) (a : Act) (w : World),
      (∀ j oj, ops[j]? = some oj → j ≠ i → listed.getD j true = false → (∀ e ∈ oj.after, Region.binds md e = true → e.on ≠ i) → oi.apart ops oj = true) →
      (∀ j oj, ops[j]? = some oj → j ≠ i → listed.getD j true = false → T j = false → ∃ e ∈ oj.after, Region.binds md e = true ∧ e.on = i) →
      i ∈ Region.ready md ops listed → YieldsIf P ops S oi v a → S w →
      wpAnyT P md ops Q S T fuel (listed.setIfInBounds i true) (a.put oi.dst v) w → wpAnyT P md ops Q S T (fuel + 1) listed a w := by
  intro fuel
  induction fuel with
  | zero =>
    intro listed a w _ _ hr hy hS H
    refine ⟨fun h => (by rw [h] at hr; cases hr), fun j hj => ?_⟩
    by_cases hji : j = i
    · subst hji; exact hy.wpOp hi hS ⟨fun _ h => h, H⟩
    · have := ready_mono hj hji
      rw [H.1] at this
      cases this
  | succ fuel ih =>
    intro listed a w hfree hT hr hy hS H
    refine ⟨fun h => (by rw [h] at hr; cases hr), fun j hj => ?_⟩
    by_cases hji : j = i
    · subst hji; exact hy.wpOp hi hS ⟨fun _ h => h, H⟩
    · have h1 := H.2 j (ready_mono hj hji)
      obtain ⟨hjun, oj, hoj, hall⟩ := mem_ready.1 hj
      have hnot : ∀ e ∈ oj.after, Region.binds md e = true → e.on ≠ i := fun e he hb heq => by
        have h1 := hall e he hb
        have h0 := (mem_ready.1 hr).1
        rw [heq] at h1
        rcases Nat.lt_or_ge i listed.size with h' | h'
        · simp [h'] at h0 h1; rw [h0] at h1; cases h1
        · simp [Array.getElem?_eq_none h'] at h1
      have hTj : T j = true := by
        cases hq : T j with
        | true => rfl
        | false => obtain ⟨e, he, hb, ho⟩ := hT j oj hoj hji hjun hq; exact absurd ho (hnot e he hb)
      have h2 := wpOp_putIf hoj (hfree j oj hoj hji hjun hnot) (fun cs b => hsel i oi cs b hi) (fun cs b => hsel j oj cs b hoj) hQ hy h1
      have hun : ∀ k, (listed.setIfInBounds j true).getD k true = false → listed.getD k true = false := fun k hk => by
        by_cases hjk : j = k
        · subst hjk; exact hjun
        · rw [getD_set_ne true hjk] at hk; exact hk
      refine wpOp_mono (fun a' w' h3 => ⟨h3.2.1, ih (listed.setIfInBounds j true) a' w' (fun k ok hk hki hu hno => hfree k ok hk hki (hun k hu) hno)
        (fun k ok hk hki hu ht => hT k ok hk hki (hun k hu) ht) (ready_mono hr (Ne.symm hji)) h3.1 (h3.2.1 hTj hS) ?_⟩) h2
      rw [Array.setIfInBounds_comm _ _ hji]
      exact h3.2.2
theorem wpAnyT_firstW {i : Nat} {oi : Oper} {v : Value} (hi : ops[i]? = some oi) (hsel : ∀ (j : Nat) (o : Oper) cs b, ops[j]? = some o → o.op ≠ .select cs b)
    (hQ : ∀ c a w, Q (.panic c) (a.put oi.dst v) w → Q (.panic c) a w) :
    ∀ (fuel : Nat) (listed : Array Bool) (a : Act) (w : World),
      (∀ j oj, ops[j]? = some oj → j ≠ i → listed.getD j true = false → (∀ e ∈ oj.after, Region.binds md e = true → e.on ≠ i) → oi.apart ops oj = true) →
      i ∈ Region.ready md ops listed → YieldsIf P ops (fun _ => True) oi v a →
      wpAnyT P md ops Q S T fuel (listed.setIfInBounds i true) (a.put oi.dst v) w → wpAnyT P md ops Q S T (fuel + 1) listed a w := by
  intro fuel
  induction fuel with
  | zero =>
    intro listed a w _ hr hy H
    refine ⟨fun h => (by rw [h] at hr; cases hr), fun j hj => ?_⟩
    by_cases hji : j = i
    · subst hji; exact hy.wpOp hi trivial ⟨fun _ h => h, H⟩
    · have := ready_mono hj hji
      rw [H.1] at this
      cases this
  | succ fuel ih =>
    intro listed a w hfree hr hy H
    refine ⟨fun h => (by rw [h] at hr; cases hr), fun j hj => ?_⟩
    by_cases hji : j = i
    · subst hji; exact hy.wpOp hi trivial ⟨fun _ h => h, H⟩
    · have h1 := H.2 j (ready_mono hj hji)
      obtain ⟨hjun, oj, hoj, hall⟩ := mem_ready.1 hj
      have hnot : ∀ e ∈ oj.after, Region.binds md e = true → e.on ≠ i := fun e he hb heq => by
        have h1 := hall e he hb
        have h0 := (mem_ready.1 hr).1
        rw [heq] at h1
        rcases Nat.lt_or_ge i listed.size with h' | h'
        · simp [h'] at h0 h1; rw [h0] at h1; cases h1
        · simp [Array.getElem?_eq_none h'] at h1
      have h2 := wpOp_putIf hoj (hfree j oj hoj hji hjun hnot) (fun cs b => hsel i oi cs b hi) (fun cs b => hsel j oj cs b hoj) hQ hy h1
      have hun : ∀ k, (listed.setIfInBounds j true).getD k true = false → listed.getD k true = false := fun k hk => by
        by_cases hjk : j = k
        · subst hjk; exact hjun
        · rw [getD_set_ne true hjk] at hk; exact hk
      refine wpOp_mono (fun a' w' h3 => ⟨h3.2.1, ih (listed.setIfInBounds j true) a' w' (fun k ok hk hki hu hno => hfree k ok hk hki (hun k hu) hno)
        (ready_mono hr (Ne.symm hji)) h3.1 ?_⟩) h2
      rw [Array.setIfInBounds_comm _ _ hji]
      exact h3.2.2
/-- Is the list of numbers a walk? F: 0: it acts, and comes up alone; 1: it looks at the world under S: it may be taken first, and whatever does not keep S waits for it; else: it looks at no world. -/
def mixB (md : Region.Mode) (ops : Array Oper) (F : Nat → Nat) (T : Nat → Bool) : List Nat → Array Bool → Bool
  | [], listed => (Region.ready md ops listed).isEmpty
  | i :: l, listed =>
    (match F i with
      | 0 => Region.ready md ops listed == [i]
      | 1 => (Region.ready md ops listed).contains i && Region.free md ops listed i &&
        (List.range ops.size).all (fun j => j == i || listed.getD j true || T j || match ops[j]? with | some oj => waits md oj i | none => true)
      | _ => (Region.ready md ops listed).contains i && Region.free md ops listed i) && mixB md ops F T l (listed.setIfInBounds i true)
/-- The walk in that order. -/
def wpMix (P : Program) (ops : Array Oper) (Q : Exit → Act → World → Prop) (S : World → Prop) (F : Nat → Nat) (T : Nat → Bool) : List Nat → Act → World → Prop
  | [], a, w => Q .normal a w
  | i :: l, a, w => match F i with
    | 0 => wpOp P ops Q i (fun a' w' => (T i = true → S w → S w') ∧ wpMix P ops Q S F T l a' w') a w
    | 1 => ∃ o v, ops[i]? = some o ∧ YieldsIf P ops S o v a ∧ S w ∧ wpMix P ops Q S F T l (a.put o.dst v) w
    | _ => ∃ o v, ops[i]? = some o ∧ YieldsIf P ops (fun _ => True) o v a ∧ wpMix P ops Q S F T l (a.put o.dst v) w
theorem wpAnyT_mix {F : Nat → Nat} (hs : Region.noSelect ops = true) (hQ : ∀ c a d v w, Q (.panic c) (a.put d v) w → Q (.panic c) a w) :
    ∀ (l : List Nat) (listed : Array Bool) (a : Act) (w : World), mixB md ops F T l listed = true → wpMix P ops Q S F T l a w → wpAnyT P md ops Q S T l.length listed a w
  | [], listed, a, w, hB, h => ⟨by simpa [mixB] using hB, h⟩
  | i :: l, listed, a, w, hB, h => by
    simp only [mixB, Bool.and_eq_true] at hB
    obtain ⟨hB1, hB2⟩ := hB
    simp only [wpMix] at h
    match hF : F i with
    | 0 =>
      simp only [hF, beq_iff_eq] at hB1 h
      refine ⟨fun h0 => (by rw [hB1] at h0; cases h0), fun j hj => ?_⟩
      rw [hB1] at hj
      obtain rfl : j = i := by simpa using hj
      exact wpOp_mono (fun a' w' h' => ⟨h'.1, wpAnyT_mix hs hQ l _ _ _ hB2 h'.2⟩) h
    | 1 =>
      simp only [hF, Bool.and_eq_true] at hB1 h
      obtain ⟨⟨hr, hf⟩, hw⟩ := hB1
      obtain ⟨o, v, ho, hy, hS, hrest⟩ := h
      refine wpAnyT_first ho (Region.noSelect_spec hs) (fun c a w => hQ c a _ _ w) _ listed a w (Region.free_spec ho hf) (fun j oj hj hji hun ht => ?_) (by simpa using hr) hy hS (wpAnyT_mix hs hQ l _ _ _ hB2 hrest)
      have hjlt : j < ops.size := (Array.getElem?_eq_some_iff.1 hj).1
      have h1 := List.all_eq_true.1 hw j (List.mem_range.2 hjlt)
      simp only [hun, ht, hj, Bool.or_false, Bool.or_eq_true, beq_iff_eq] at h1
      rcases h1 with h1 | h1
      · exact absurd h1 hji
      · exact waits_spec h1
    | n + 2 =>
      simp only [hF, Bool.and_eq_true] at hB1 h
      obtain ⟨hr, hf⟩ := hB1
      obtain ⟨o, v, ho, hy, hrest⟩ := h
      exact wpAnyT_firstW ho (Region.noSelect_spec hs) (fun c a w => hQ c a _ _ w) _ listed a w (Region.free_spec ho hf) (by simpa using hr) hy (wpAnyT_mix hs hQ l _ _ _ hB2 hrest)
/-- THE BEGINNING. -/
theorem wp_region_mix {id : Nat} {a : Act} {w : World} (S : World → Prop) (F : Nat → Nat) (T : Nat → Bool) (l : List Nat) (hm : P.follows .mixedOrders = true)
    (hB : (Region.noSelect ops && l.length == ops.size && mixB .any ops F T l (Array.replicate ops.size false)) = true)
    (hQ : ∀ c a d v w, Q (.panic c) (a.put d v) w → Q (.panic c) a w)
    (h : wpMix P ops Q S F T l a w.drew) : (Code.region id ops true).wp P Q a w := by
  simp only [Bool.and_eq_true, beq_iff_eq] at hB
  obtain ⟨⟨hs, hl⟩, hB⟩ := hB
  refine wp_region_any hm (wpAny_of_T (S := S) (T := T) _ _ _ _ ?_)
  have := wpAnyT_mix (S := S) hs hQ l _ a _ hB h
  rw [hl] at this
  exact this
/-- The same, S shown at once and handed on. -/
theorem wp_region_mixS {id : Nat} {a : Act} {w : World} (S : World → Prop) (F : Nat → Nat) (T : Nat → Bool) (l : List Nat) (hm : P.follows .mixedOrders = true)
    (hB : (Region.noSelect ops && l.length == ops.size && mixB .any ops F T l (Array.replicate ops.size false)) = true)
    (hQ : ∀ c a d v w, Q (.panic c) (a.put d v) w → Q (.panic c) a w) (hS : S w.drew)
    (h : S w.drew → wpMix P ops Q S F T l a w.drew) : (Code.region id ops true).wp P Q a w := wp_region_mix S F T l hm hB hQ (h hS)
theorem at_drop {i : Nat} {o : Oper} {rest : List Oper} (ho : ops.toList.drop i = o :: rest) : ops[i]? = some o := by
  rw [← Array.getElem?_toList]
  have h := congrArg (fun l => l[0]?) ho
  simpa [List.getElem?_drop] using h
/-- What looks under S. -/
theorem mix_look {F : Nat → Nat} {i : Nat} {l : List Nat} {o : Oper} {v : Value} {a : Act} {w : World} (hF : F i = 1) {rest : List Oper} (ho : ops.toList.drop i = o :: rest) (hw : Region.wanted o (yielded ops a.tmps) = true) (hS : S w)
    (hy : ∀ w, S w → (execOp a.eval o).run P w = .ok (.value v) w) (h : wpMix P ops Q S F T l (a.put o.dst v) w) : wpMix P ops Q S F T (i :: l) a w := by
  simp only [wpMix, hF]
  exact ⟨o, v, at_drop ho, .inl ⟨hw, hy⟩, hS, h⟩
/-- What looks at no world. -/
theorem mix_pure {F : Nat → Nat} {i : Nat} {l : List Nat} {o : Oper} {v : Value} {a : Act} {w : World} (hF : F i = 2) {rest : List Oper} (ho : ops.toList.drop i = o :: rest) (hw : Region.wanted o (yielded ops a.tmps) = true)
    (hy : ∀ w, (execOp a.eval o).run P w = .ok (.value v) w) (h : wpMix P ops Q S F T l (a.put o.dst v) w) : wpMix P ops Q S F T (i :: l) a w := by
  simp only [wpMix, hF]
  exact ⟨o, v, at_drop ho, .inl ⟨hw, fun w _ => hy w⟩, h⟩
/-- What its guard passes over. -/
theorem mix_skip {F : Nat → Nat} {i : Nat} {l : List Nat} {o : Oper} {a : Act} {w : World} (hF : F i = 2) {rest : List Oper} (ho : ops.toList.drop i = o :: rest) (hw : Region.wanted o (yielded ops a.tmps) = false)
    (h : wpMix P ops Q S F T l (a.put o.dst undef) w) : wpMix P ops Q S F T (i :: l) a w := by
  simp only [wpMix, hF]
  exact ⟨o, undef, at_drop ho, .inr ⟨hw, rfl⟩, h⟩
/-- What acts. -/
theorem mix_act {F : Nat → Nat} {i : Nat} {l : List Nat} {o : Oper} {a : Act} {w : World} (hF : F i = 0) {rest : List Oper} (ho : ops.toList.drop i = o :: rest) (hw : Region.wanted o (yielded ops a.tmps) = true)
    (h : ∀ K : Act → World → Prop, (∀ a w', (T i = true → S w → S w') → wpMix P ops Q S F T l a w' → K a w') → o.wp P a w K Q) : wpMix P ops Q S F T (i :: l) a w := by
  simp only [wpMix, hF, wpOp, at_drop ho, hw, if_true]
  exact .inl (h _ (fun a w h1 h2 => ⟨h1, h2⟩))
theorem mix_done {F : Nat → Nat} {a : Act} {w : World} (h : Q .normal a w) : wpMix P ops Q S F T [] a w := h
end
end Go.Proofs.YtgklkkjhoecdoaaDoor
