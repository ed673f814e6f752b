/-
  Own text. As InvE; a new row is made, too, at any time ahead of the store: ahead of the call or behind it.
-/
import Derived.Test.YthnlfjkpiohooaaInvE
import Derived.Test.YthnlfjkpiohooaaInvF
namespace Go.Proofs.Ythnlfjkpiohooaa
open Go.RowKit Go.Proofs
set_option maxRecDepth 100000
section
variable {ops : Array Oper} {Q : Exit → Act → World → Prop}
/-- Do the tables fit? (m: where the new row is made) -/
def callA (ops : Array Oper) (c m : Nat) (ds : List (Option Nat)) (bs : List Nat) (wt : List (List Nat)) : Bool :=
  decide (c < ops.size) && decide (ops.toList.map (·.dst) = ds) && (ds.take (c + 1)).all (fun d => d.isSome) && ops.toList.all (fun o => o.guard.isNone) && bs.all (fun q => (dsts ops).all (fun d => decide (d ≠ q))) &&
  (List.range ops.size).all (fun i => match ops[i]? with
    | some o => (wt.getD i []).all (fun j => predOf o j && (ds.getD j none).isSome && decide (j < i) && decide (j ≠ m) && (if i ≤ c then decide (j < c) else decide (c ≤ j))) &&
      (if i < c then (List.range (c + 1)).any (fun j => decide (i < j) && (match ops[j]? with | some oj => predOf oj i | none => false)) else if c < i then decide (i = m) || (List.range i).any (fun j => decide (c ≤ j) && decide (j ≠ m) && predOf o j) else true)
    | none => true)
theorem callA_up {c m : Nat} {ds : List (Option Nat)} {bs : List Nat} {wt : List (List Nat)} (hB : callA ops c m ds bs wt = true) {L : Nat → Bool} (hcl : ∀ (j : Nat) (oj : Oper), ops[j]? = some oj → L j = true → ∀ k, predOf oj k = true → L k = true) (hLc : L c = true) : ∀ n i, i + n = c → L i = true := by
  unfold callA at hB
  simp only [Bool.and_eq_true, decide_eq_true_eq] at hB
  obtain ⟨⟨⟨⟨⟨h1, _⟩, _⟩, _⟩, _⟩, h5⟩ := hB
  intro n
  induction n using Nat.strongRecOn with
  | _ n ih =>
    intro i hi
    rcases Nat.eq_zero_or_pos n with h0 | h0
    · rw [show i = c by omega]; exact hLc
    · have h6 := List.all_eq_true.1 h5 i (List.mem_range.2 (by omega))
      rw [Array.getElem?_eq_getElem (show i < ops.size by omega)] at h6
      simp only [Bool.and_eq_true] at h6
      have h7 := h6.2
      rw [if_pos (show i < c by omega)] at h7
      obtain ⟨j, hj, hjj⟩ := List.any_eq_true.1 h7
      simp only [Bool.and_eq_true, decide_eq_true_eq] at hjj
      have hjc : j < c + 1 := List.mem_range.1 hj
      have hLj := ih (c - j) (by omega) j (by omega)
      rw [Array.getElem?_eq_getElem (show j < ops.size by omega)] at hjj
      exact hcl j _ (Array.getElem?_eq_getElem (by omega)) hLj i hjj.2
theorem callA_down {c m : Nat} {ds : List (Option Nat)} {bs : List Nat} {wt : List (List Nat)} (hB : callA ops c m ds bs wt = true) {L : Nat → Bool} (hcl : ∀ (j : Nat) (oj : Oper), ops[j]? = some oj → L j = true → ∀ k, predOf oj k = true → L k = true) : ∀ j, c ≤ j → j < ops.size → j ≠ m → L j = true → L c = true := by
  unfold callA at hB
  simp only [Bool.and_eq_true, decide_eq_true_eq] at hB
  obtain ⟨⟨⟨⟨⟨h1, _⟩, _⟩, _⟩, _⟩, h5⟩ := hB
  intro j
  induction j using Nat.strongRecOn with
  | _ j ih =>
    intro hcj hjs hjm hL
    rcases Nat.lt_or_ge c j with h0 | h0
    · have h6 := List.all_eq_true.1 h5 j (List.mem_range.2 hjs)
      rw [Array.getElem?_eq_getElem hjs] at h6
      simp only [Bool.and_eq_true] at h6
      have h7 := h6.2
      rw [if_neg (show ¬ j < c by omega), if_pos h0] at h7
      rw [decide_eq_false hjm, Bool.false_or] at h7
      obtain ⟨k, hk, hkk⟩ := List.any_eq_true.1 h7
      simp only [Bool.and_eq_true, decide_eq_true_eq] at hkk
      have hkj := List.mem_range.1 hk
      exact ih k hkj hkk.1.1 (by omega) hkk.1.2 (hcl j _ (Array.getElem?_eq_getElem hjs) hL k hkk.2)
    · rw [show c = j by omega]; exact hL
def PreA (A : World → Prop) (A2 : Value → World → Prop) (V : Nat → Value) (base : List (Nat × Value)) (ds : List (Option Nat)) (wt : List (List Nat)) (i : Nat) (o : Oper) : Prop :=
  ∀ (Q : Exit → Act → World → Prop) (a : Act) (w : World), (A w ∨ ∃ x, A2 x w) → Holds a base → KnVD V ds a (wt.getD i []) → ∀ K : Act → World → Prop, K (a.put o.dst (V i)) w → o.wp Try.prog a w K Q
def PostA (s m : Nat) (B2 C2 : Value → World → Prop) (φ : Nat → Value → World → Prop) (base : List (Nat × Value)) (ds : List (Option Nat)) (wt : List (List Nat)) (i : Nat) (o : Oper) : Prop :=
  (i ≠ s → i ≠ m → PostP φ base ds wt i o) ∧ (i = s → ∀ (Q : Exit → Act → World → Prop) (a : Act) (w : World), B2 (a.eval (.tmp ((ds.getD m none).getD 0))) w → Holds a base → KnPD φ ds a w (wt.getD i []) → ∀ K : Act → World → Prop, (∀ v w', φ i v w' → C2 (a.eval (.tmp ((ds.getD m none).getD 0))) w' → (∀ j z, j ≠ i → φ j z w → φ j z w') → K (a.put o.dst v) w') → o.wp Try.prog a w K Q)
def S4 (A B : World → Prop) (c m : Nat) (L : Nat → Bool) (w : World) : Prop := if L m = true then True else if L c = true then B w else A w
def F4 (A2 B2 C2 : Value → World → Prop) (V : Nat → Value) (φ : Nat → Value → World → Prop) (c s m n : Nat) (L : Nat → Bool) (i : Nat) (v : Value) (w : World) : Prop :=
  if i = m then (if L s = true then C2 v w else if L c = true then B2 v w else A2 v w) else if i < c then v = V i else if i < n then φ i v w else True
theorem any_callA {a0 : Act} {w0 : World} (c s m : Nat) (A B : World → Prop) (A2 B2 C2 : Value → World → Prop) (V : Nat → Value) (φ : Nat → Value → World → Prop) (base : List (Nat × Value)) (ds : List (Option Nat)) (wt : List (List Nat)) (oc om os : Oper)
    (hB : invD ops = true) (hT : callA ops c m ds (base.map (·.1)) wt = true) (hcs : c < s) (hcm : c < m) (hsm : s ≠ m) (hoc : ops[c]? = some oc) (hom : ops[m]? = some om) (hos : ops[s]? = some os) (hsp : predOf os m = true) (hmd : (ds.getD m none).isSome = true) (hb0 : Holds a0 base) (hA0 : A w0.drew)
    (pre : StW (PreA A A2 V base ds wt) (ops.toList.take c) 0)
    (mid : ∀ (Q : Exit → Act → World → Prop) (a : Act) (w : World), Holds a base → KnVD V ds a (wt.getD c []) → ∀ K : Act → World → Prop, (A w → (∀ v w', φ c v w' → B w' → K (a.put oc.dst v) w') → oc.wp Try.prog a w K Q) ∧ (∀ x, A2 x w → (∀ v w', φ c v w' → B2 x w' → K (a.put oc.dst v) w') → oc.wp Try.prog a w K Q))
    (mk : ∀ (Q : Exit → Act → World → Prop) (a : Act) (w : World) (K : Act → World → Prop), (A w → (∀ v w', A2 v w' → K (a.put om.dst v) w') → om.wp Try.prog a w K Q) ∧ (B w → (∀ v w', B2 v w' → (∀ j z, φ j z w → φ j z w') → K (a.put om.dst v) w') → om.wp Try.prog a w K Q))
    (post : StW (PostA s m B2 C2 φ base ds wt) (ops.toList.drop (c + 1)) (c + 1))
    (fin : ∀ (vs : Nat → Value) (w : World), C2 (vs ((ds.getD m none).getD 0)) w → (∀ i, i < c → vs ((ds.getD i none).getD 0) = V i) → (∀ i, c ≤ i → i < ops.size → i ≠ m → (ds.getD i none).isSome = true → φ i (vs ((ds.getD i none).getD 0)) w) → Q .normal (putAll a0 vs (ds.filterMap id)) w)
    (hsz : ∀ d ∈ ds.filterMap id, d < a0.tmps.size) : wpAny Try.prog .any ops Q ops.size (Array.replicate ops.size false) a0 { w0 with drawn := w0.drawn + 1 } := by
  have hT' := hT
  unfold callA at hT'
  simp only [Bool.and_eq_true, decide_eq_true_eq] at hT'
  obtain ⟨⟨⟨⟨⟨h1, h2⟩, h2s⟩, h3⟩, h4⟩, h5⟩ := hT'
  have hms : m < ops.size := (Array.getElem?_eq_some_iff.1 hom).1
  have hss : s < ops.size := (Array.getElem?_eq_some_iff.1 hos).1
  have hds : dsts ops = ds.filterMap id := by
    have e : ops.toList.filterMap (·.dst) = (ops.toList.map (·.dst)).filterMap id := by rw [List.filterMap_map]; rfl
    unfold dsts
    rw [e, h2]
  have hat : ∀ (i : Nat) (o : Oper), ops[i]? = some o → ds.getD i none = o.dst := fun i o ho => by
    have e1 : (ops.toList.map (·.dst))[i]? = some o.dst := by rw [List.getElem?_map, Array.getElem?_toList, ho, Option.map_some]
    rw [h2] at e1
    rw [List.getD_eq_getElem?_getD, e1]
    rfl
  have hslot : ∀ (i : Nat) (o : Oper) (d : Nat), ops[i]? = some o → o.dst = some d → (ds.getD i none).getD 0 = d := fun i o d ho hd => by
    rw [hat i o ho, hd]
    rfl
  have hsome : ∀ (i : Nat) (o : Oper), ops[i]? = some o → (ds.getD i none).isSome = true → ∃ d, o.dst = some d := fun i o ho hs => by
    rw [hat i o ho] at hs
    exact Option.isSome_iff_exists.1 hs
  have hgd : ∀ (i : Nat) (o : Oper), ops[i]? = some o → o.guard = none := fun i o ho => by
    have := List.all_eq_true.1 h3 o (by simpa using Array.mem_of_getElem? ho)
    simpa using this
  have hpre : ∀ i, i ≤ c → (ds.getD i none).isSome = true := fun i hi => by
    have his : i < ops.size := by omega
    have hl : i < ds.length := by rw [← h2, List.length_map]; simpa using his
    have := List.all_eq_true.1 h2s ds[i] (List.mem_iff_getElem.2 ⟨i, by rw [List.length_take]; omega, by rw [List.getElem_take]⟩)
    rw [List.getD_eq_getElem?_getD, List.getElem?_eq_getElem hl]
    exact this
  have hwt : ∀ (i : Nat) (o : Oper), ops[i]? = some o → ∀ j ∈ wt.getD i [], predOf o j = true ∧ (ds.getD j none).isSome = true ∧ j < i ∧ j ≠ m ∧ (if i ≤ c then j < c else c ≤ j) := fun i o ho j hj => by
    have h6 := List.all_eq_true.1 h5 i (List.mem_range.2 (Array.getElem?_eq_some_iff.1 ho).1)
    rw [ho] at h6
    simp only [Bool.and_eq_true] at h6
    have h7 := List.all_eq_true.1 h6.1 j hj
    simp only [Bool.and_eq_true, decide_eq_true_eq] at h7
    refine ⟨h7.1.1.1.1, h7.1.1.1.2, h7.1.1.2, h7.1.2, ?_⟩
    have h8 := h7.2
    split at h8 <;> rename_i hh
    · rw [if_pos hh]; simpa using h8
    · rw [if_neg hh]; simpa using h8
  have hval : ∀ (a : Act) (d : Nat), a.eval (.tmp d) = a.tmps.getD d undef := fun a d => rfl
  obtain ⟨dm, hdm⟩ := hsome m om hom hmd
  have hsm2 := hslot m om dm hom hdm
  have fNe : ∀ {L : Nat → Bool} {i : Nat} {v : Value} {w : World}, i ≠ m → F4 A2 B2 C2 V φ c s m ops.size L i v w → (if i < c then v = V i else if i < ops.size then φ i v w else True) := fun hi h => by unfold F4 at h; rw [if_neg hi] at h; exact h
  have toNe : ∀ {L : Nat → Bool} {i : Nat} {v : Value} {w : World}, i ≠ m → (if i < c then v = V i else if i < ops.size then φ i v w else True) → F4 A2 B2 C2 V φ c s m ops.size L i v w := fun hi h => by unfold F4; rw [if_neg hi]; exact h
  refine any_invF (S4 A B c m) (F4 A2 B2 C2 V φ c s m ops.size) hB (by unfold S4; rw [if_neg (by simp), if_neg (by simp)]; exact hA0) ?_ ?_ (by rw [hds]; exact hsz)
  · intro i o hi L a w hS hLi hcl hpr hfr hkn
    have his := (Array.getElem?_eq_some_iff.1 hi).1
    have hh := holds_frame hfr base h4 hb0
    have hkv : ∀ j ∈ wt.getD i [], j < c → a.eval (.tmp ((ds.getD j none).getD 0)) = V j := fun j hj hjc => by
      obtain ⟨p1, p0, p2, p3, _⟩ := hwt i o hi j hj
      have hjs : j < ops.size := by omega
      obtain ⟨d, hd⟩ := hsome j _ (Array.getElem?_eq_getElem hjs) p0
      have := fNe p3 (hkn j _ d (Array.getElem?_eq_getElem hjs) hd (hpr j p1))
      rw [if_pos hjc] at this
      rw [hslot j _ d (Array.getElem?_eq_getElem hjs) hd, hval]
      exact this
    have hLsm : L m = false → L s = false := fun h => by
      cases hx : L s with
      | false => rfl
      | true => rw [hcl s os hos hx m hsp] at h; cases h
    have hLsc : L c = false → L s = false := fun h => by
      cases hx : L s with
      | false => rfl
      | true => rw [callA_down hT hcl s (by omega) hss hsm hx] at h; cases h
    -- others, the world the same
    have same : ∀ (w' : World), (∀ j z, φ j z w → φ j z w') → ∀ (j : Nat) (oj : Oper) (d : Nat), ops[j]? = some oj → oj.dst = some d → L j = true → j ≠ m → ∀ L', F4 A2 B2 C2 V φ c s m ops.size L' j (a.tmps.getD d undef) w' := fun w' hk j oj d hj hd hLj hjm L' => toNe hjm (by
      have h := fNe hjm (hkn j oj d hj hd hLj)
      by_cases hjc : j < c
      · rw [if_pos hjc] at h ⊢; exact h
      · rw [if_neg hjc] at h ⊢
        split at h <;> rename_i hjs
        · rw [if_pos hjs]; exact hk j _ h
        · rw [if_neg hjs]; trivial)
    have only : L c = false → ∀ (w' : World) (j : Nat) (oj : Oper) (d : Nat), ops[j]? = some oj → oj.dst = some d → L j = true → j ≠ m → ∀ L', F4 A2 B2 C2 V φ c s m ops.size L' j (a.tmps.getD d undef) w' := fun hLc w' j oj d hj hd hLj hjm L' => toNe hjm (by
      have h := fNe hjm (hkn j oj d hj hd hLj)
      by_cases hjc : j < c
      · rw [if_pos hjc] at h ⊢; exact h
      · rw [if_neg hjc]
        split
        · rename_i hjs
          rw [callA_down hT hcl j (by omega) hjs hjm hLj] at hLc; cases hLc
        · trivial)
    refine wpOp_of hi (hgd i o hi) ?_
    by_cases him : i = m
    · subst him
      obtain rfl : om = o := Option.some.inj (hom.symm.trans hi)
      have hLs := hLsm hLi
      unfold S4 at hS
      rw [if_neg (by rw [hLi]; decide)] at hS
      cases hLc : L c with
      | false =>
        rw [if_neg (by rw [hLc]; decide)] at hS
        refine (mk Q a w _).1 hS (fun v w' h => ⟨v, rfl, by unfold S4; rw [if_pos (by simp)]; trivial, ?_, fun j oj d hj hd hjm hLj => only hLc w' j oj d hj hd hLj hjm _⟩)
        unfold F4
        simp only [if_neg hsm, if_neg (show ¬ c = i by omega), hLs, hLc]
        exact h
      | true =>
        rw [if_pos hLc] at hS
        refine (mk Q a w _).2 hS (fun v w' h hk => ⟨v, rfl, by unfold S4; rw [if_pos (by simp)]; trivial, ?_, fun j oj d hj hd hjm hLj => same w' hk j oj d hj hd hLj hjm _⟩)
        unfold F4
        simp only [if_neg hsm, if_neg (show ¬ c = i by omega), hLs, hLc]
        exact h
    · rcases Nat.lt_trichotomy i c with hic | hic | hic
      · have hLc : L c = false := by
          cases hx : L c with
          | false => rfl
          | true => rw [callA_up hT hcl hx (c - i) i (by omega)] at hLi; cases hLi
        have hst := stW_at pre i o (by rw [List.getElem?_take, if_pos hic, Array.getElem?_toList]; exact hi)
        rw [Nat.zero_add] at hst
        have hA : A w ∨ ∃ x, A2 x w := by
          cases hLm : L m with
          | false =>
            unfold S4 at hS
            rw [if_neg (by rw [hLm]; decide), if_neg (by rw [hLc]; decide)] at hS
            exact .inl hS
          | true =>
            have := hkn m om dm hom hdm hLm
            unfold F4 at this
            rw [if_pos rfl, if_neg (by rw [hLsc hLc]; decide), if_neg (by rw [hLc]; decide)] at this
            exact .inr ⟨_, this⟩
        refine hst Q a w hA hh (knVD_of _ (fun j hj => hkv j hj (by have := (hwt i o hi j hj).2.2.1; omega))) _ ⟨V i, rfl, ?_, toNe him (by rw [if_pos hic]), fun j oj d hj hd hji hLj => ?_⟩
        · unfold S4 at hS ⊢
          simp only [if_neg (show ¬ m = i by omega), if_neg (show ¬ c = i by omega)]
          exact hS
        · by_cases hjm : j = m
          · subst hjm
            have := hkn j oj d hj hd hLj
            unfold F4 at this ⊢
            rw [if_pos rfl] at this ⊢
            simp only [if_neg (show ¬ s = i by omega), if_neg (show ¬ c = i by omega)]
            exact this
          · exact only hLc w j oj d hj hd hLj hjm _
      · subst hic
        obtain rfl : oc = o := Option.some.inj (hoc.symm.trans hi)
        have hLs := hLsc hLi
        have hkk := knVD_of (V := V) (ds := ds) (a := a) (wt.getD i []) (fun j hj => hkv j hj (by have := (hwt i oc hi j hj).2.2.1; omega))
        cases hLm : L m with
        | false =>
          unfold S4 at hS
          rw [if_neg (by rw [hLm]; decide), if_neg (by rw [hLi]; decide)] at hS
          refine (mid Q a w hh hkk _).1 hS (fun v w' hv hb => ⟨v, rfl, ?_, toNe him (by rw [if_neg (by omega), if_pos h1]; exact hv), fun j oj d hj hd hji hLj => ?_⟩)
          · unfold S4
            simp only [if_neg (show ¬ m = i by omega), hLm, if_true]
            exact hb
          · by_cases hjm : j = m
            · rw [hjm, hLm] at hLj; cases hLj
            · exact only hLi w' j oj d hj hd hLj hjm _
        | true =>
          have h6 := hkn m om dm hom hdm hLm
          unfold F4 at h6
          rw [if_pos rfl, if_neg (by rw [hLs]; decide), if_neg (by rw [hLi]; decide)] at h6
          refine (mid Q a w hh hkk _).2 _ h6 (fun v w' hv hb => ⟨v, rfl, ?_, toNe him (by rw [if_neg (by omega), if_pos h1]; exact hv), fun j oj d hj hd hji hLj => ?_⟩)
          · unfold S4
            simp only [if_neg (show ¬ m = i by omega), hLm, if_true]
          · by_cases hjm : j = m
            · subst hjm
              obtain rfl : om = oj := Option.some.inj (hom.symm.trans hj)
              obtain rfl : dm = d := Option.some.inj (hdm.symm.trans hd)
              unfold F4
              simp only [if_neg (show ¬ s = i by omega), hLs, if_true]
              exact hb
            · exact only hLi w' j oj d hj hd hLj hjm _
      · have hLc : L c = true := by
          have h6 := List.all_eq_true.1 h5 i (List.mem_range.2 his)
          rw [hi] at h6
          simp only [Bool.and_eq_true] at h6
          have h7 := h6.2
          rw [if_neg (show ¬ i < c by omega), if_pos hic, decide_eq_false him, Bool.false_or] at h7
          obtain ⟨k, hk, hkk⟩ := List.any_eq_true.1 h7
          simp only [Bool.and_eq_true, decide_eq_true_eq] at hkk
          have hki := List.mem_range.1 hk
          exact callA_down hT hcl k hkk.1.1 (by omega) hkk.1.2 (hpr k hkk.2)
        have hst := stW_at post (i - (c + 1)) o (by rw [List.getElem?_drop, show c + 1 + (i - (c + 1)) = i by omega, Array.getElem?_toList]; exact hi)
        rw [show c + 1 + (i - (c + 1)) = i by omega] at hst
        have hkp : KnPD φ ds a w (wt.getD i []) := knPD_of _ (fun j hj => by
          obtain ⟨p1, p0, p2, p3, p4⟩ := hwt i o hi j hj
          rw [if_neg (by omega)] at p4
          have hjs : j < ops.size := by omega
          obtain ⟨d, hd⟩ := hsome j _ (Array.getElem?_eq_getElem hjs) p0
          have := fNe p3 (hkn j _ d (Array.getElem?_eq_getElem hjs) hd (hpr j p1))
          rw [if_neg (by omega), if_pos hjs] at this
          rw [hslot j _ d (Array.getElem?_eq_getElem hjs) hd, hval]
          exact this)
        by_cases hsi : i = s
        · obtain rfl : os = o := Option.some.inj (hos.symm.trans (hsi ▸ hi))
          have hLm : L m = true := hpr m hsp
          have h6 := hkn m om dm hom hdm hLm
          unfold F4 at h6
          rw [if_pos rfl, if_neg (by rw [← hsi, hLi]; decide), if_pos hLc, ← hval, ← hsm2] at h6
          refine hst.2 hsi Q a w h6 hh hkp _ (fun v w' hv hb hk => ⟨v, rfl, ?_, toNe him (by rw [if_neg (by omega), if_pos his]; exact hv), fun j oj d hj hd hji hLj => ?_⟩)
          · unfold S4
            simp only [if_neg (show ¬ m = i by omega), hLm, if_true]
          · by_cases hjm : j = m
            · subst hjm
              obtain rfl : om = oj := Option.some.inj (hom.symm.trans hj)
              obtain rfl : dm = d := Option.some.inj (hdm.symm.trans hd)
              rw [hsm2, hval] at hb
              unfold F4
              simp only [if_pos hsi.symm, if_true]
              exact hb
            · refine toNe hjm ?_
              have h := fNe hjm (hkn j oj d hj hd hLj)
              by_cases hjc : j < c
              · rw [if_pos hjc] at h ⊢; exact h
              · rw [if_neg hjc] at h ⊢
                split at h <;> rename_i hjs
                · rw [if_pos hjs]; exact hk j _ hji h
                · rw [if_neg hjs]; trivial
        · refine hst.1 hsi him Q a w hh hkp _ (fun v hv => ⟨v, rfl, ?_, toNe him (by rw [if_neg (by omega), if_pos his]; exact hv), fun j oj d hj hd hji hLj => ?_⟩)
          · unfold S4 at hS ⊢
            simp only [if_neg (show ¬ m = i by omega), if_neg (show ¬ c = i by omega)]
            exact hS
          · by_cases hjm : j = m
            · subst hjm
              have := hkn j oj d hj hd hLj
              unfold F4 at this ⊢
              rw [if_pos rfl] at this ⊢
              simp only [if_neg (show ¬ s = i by omega), if_neg (show ¬ c = i by omega)]
              exact this
            · exact same w (fun _ _ h => h) j oj d hj hd hLj hjm _
  · intro vs L w hall hS hk
    rw [hds]
    have hC : C2 (vs ((ds.getD m none).getD 0)) w := by
      have := hk m om dm hom hdm
      unfold F4 at this
      rw [if_pos rfl, if_pos (hall s hss)] at this
      rw [hsm2]
      exact this
    refine fin vs w hC (fun i hi => ?_) (fun i hi his him hss => ?_)
    · have his : i < ops.size := by omega
      obtain ⟨d, hd⟩ := hsome i _ (Array.getElem?_eq_getElem his) (hpre i (by omega))
      have := fNe (show i ≠ m by omega) (hk i _ d (Array.getElem?_eq_getElem his) hd)
      rw [if_pos hi] at this
      rw [hslot i _ d (Array.getElem?_eq_getElem his) hd]
      exact this
    · obtain ⟨d, hd⟩ := hsome i _ (Array.getElem?_eq_getElem his) hss
      have := fNe him (hk i _ d (Array.getElem?_eq_getElem his) hd)
      rw [if_neg (by omega), if_pos his] at this
      rw [hslot i _ d (Array.getElem?_eq_getElem his) hd]
      exact this
end
end Go.Proofs.Ythnlfjkpiohooaa
