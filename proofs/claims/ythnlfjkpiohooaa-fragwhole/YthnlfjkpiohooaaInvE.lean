/-
  Own text. As InvC; behind the call there may be stores, too.
-/
import Derived.Test.YthnlfjkpiohooaaJ6
import Derived.Test.YthnlfjkpiohooaaInvD
import Derived.Test.YthnlfjkpiohooaaInvC
import Derived.Test.YthnlfjkpiohooaaJ2
namespace Go.Proofs.Ythnlfjkpiohooaa
open Go.RowKit Go.Proofs
set_option maxRecDepth 100000
section
variable {ops : Array Oper} {Q : Exit → Act → World → Prop}
/-- What is known of these operations' slots. -/
def KnVD (V : Nat → Value) (ds : List (Option Nat)) (a : Act) : List Nat → Prop
  | [] => True
  | j :: l => a.eval (.tmp ((ds.getD j none).getD 0)) = V j ∧ KnVD V ds a l
def KnPD (φ : Nat → Value → World → Prop) (ds : List (Option Nat)) (a : Act) (w : World) : List Nat → Prop
  | [] => True
  | j :: l => φ j (a.eval (.tmp ((ds.getD j none).getD 0))) w ∧ KnPD φ ds a w l
theorem knVD_of {V : Nat → Value} {ds : List (Option Nat)} {a : Act} : ∀ (l : List Nat), (∀ j ∈ l, a.eval (.tmp ((ds.getD j none).getD 0)) = V j) → KnVD V ds a l
  | [], _ => trivial
  | x :: l, h => ⟨h x (by simp), knVD_of l (fun y hy => h y (by simp [hy]))⟩
theorem knPD_of {φ : Nat → Value → World → Prop} {ds : List (Option Nat)} {a : Act} {w : World} : ∀ (l : List Nat), (∀ j ∈ l, φ j (a.eval (.tmp ((ds.getD j none).getD 0))) w) → KnPD φ ds a w l
  | [], _ => trivial
  | x :: l, h => ⟨h x (by simp), knPD_of l (fun y hy => h y (by simp [hy]))⟩
def PreD (A : World → Prop) (V : Nat → Value) (base : List (Nat × Value)) (ds : List (Option Nat)) (wt : List (List Nat)) (i : Nat) (o : Oper) : Prop :=
  ∀ (Q : Exit → Act → World → Prop) (a : Act) (w : World), A w → Holds a base → KnVD V ds a (wt.getD i []) → ∀ K : Act → World → Prop, (∀ w', A w' → K (a.put o.dst (V i)) w') → o.wp Try.prog a w K Q
def PostP (φ : Nat → Value → World → Prop) (base : List (Nat × Value)) (ds : List (Option Nat)) (wt : List (List Nat)) (i : Nat) (o : Oper) : Prop :=
  ∀ (Q : Exit → Act → World → Prop) (a : Act) (w : World), Holds a base → KnPD φ ds a w (wt.getD i []) → ∀ K : Act → World → Prop, (∀ v, φ i v w → K (a.put o.dst v) w) → o.wp Try.prog a w K Q
def PostS (Bp Cp : World → Prop) (φ : Nat → Value → World → Prop) (base : List (Nat × Value)) (ds : List (Option Nat)) (wt : List (List Nat)) (i : Nat) (o : Oper) : Prop :=
  ∀ (Q : Exit → Act → World → Prop) (a : Act) (w : World), Bp w → Holds a base → KnPD φ ds a w (wt.getD i []) → ∀ K : Act → World → Prop, (∀ v w', φ i v w' → Cp w' → (∀ j z, j ≠ i → φ j z w → φ j z w') → K (a.put o.dst v) w') → o.wp Try.prog a w K Q
def PostD (s : Nat) (Bp Cp : World → Prop) (φ : Nat → Value → World → Prop) (base : List (Nat × Value)) (ds : List (Option Nat)) (wt : List (List Nat)) (i : Nat) (o : Oper) : Prop :=
  (i ≠ s → PostP φ base ds wt i o) ∧ (i = s → PostS Bp Cp φ base ds wt i o)
/-- Ahead of the call, behind it, behind the store. -/
def S3 (A Bp Cp : World → Prop) (c s : Nat) (L : Nat → Bool) (w : World) : Prop := if L c = true then (if L s = true then Cp w else Bp w) else A w
/-- Do the tables fit? -/
def callD (ops : Array Oper) (c : Nat) (ds : List (Option Nat)) (bs : List Nat) (wt : List (List Nat)) : Bool :=
  decide (c < ops.size) && decide (ops.toList.map (·.dst) = ds) && (ds.take (c + 1)).all (fun d => d.isSome) && ops.toList.all (fun o => o.guard.isNone) && bs.all (fun q => (dsts ops).all (fun d => decide (d ≠ q))) &&
  (List.range ops.size).all (fun i => match ops[i]? with
    | some o => (wt.getD i []).all (fun j => predOf o j && (ds.getD j none).isSome && decide (j < i) && (if i ≤ c then decide (j < c) else decide (c ≤ j))) &&
      (if i < c then (List.range (c + 1)).any (fun j => decide (i < j) && (match ops[j]? with | some oj => predOf oj i | none => false)) else if c < i then (List.range i).any (fun j => decide (c ≤ j) && predOf o j) else true)
    | none => true)
theorem callD_up {c : Nat} {ds : List (Option Nat)} {bs : List Nat} {wt : List (List Nat)} (hB : callD ops c ds bs wt = true) {L : Nat → Bool} (hcl : ∀ (j : Nat) (oj : Oper), ops[j]? = some oj → L j = true → ∀ k, predOf oj k = true → L k = true) (hLc : L c = true) : ∀ n i, i + n = c → L i = true := by
  unfold callD at hB
  simp only [Bool.and_eq_true, decide_eq_true_eq] at hB
  obtain ⟨⟨⟨⟨⟨h1, _⟩, _⟩, _⟩, _⟩, h5⟩ := hB
  intro n
  induction n using Nat.strongRecOn with
  | _ n ih =>
    intro i hi
    rcases Nat.eq_zero_or_pos n with h0 | h0
    · rw [show i = c by omega]; exact hLc
    · have h6 := List.all_eq_true.1 h5 i (List.mem_range.2 (by omega))
      rw [Array.getElem?_eq_getElem (show i < ops.size by omega)] at h6
      simp only [Bool.and_eq_true] at h6
      have h7 := h6.2
      rw [if_pos (show i < c by omega)] at h7
      obtain ⟨j, hj, hjj⟩ := List.any_eq_true.1 h7
      simp only [Bool.and_eq_true, decide_eq_true_eq] at hjj
      have hjc : j < c + 1 := List.mem_range.1 hj
      have hLj := ih (c - j) (by omega) j (by omega)
      rw [Array.getElem?_eq_getElem (show j < ops.size by omega)] at hjj
      exact hcl j _ (Array.getElem?_eq_getElem (by omega)) hLj i hjj.2
theorem callD_down {c : Nat} {ds : List (Option Nat)} {bs : List Nat} {wt : List (List Nat)} (hB : callD ops c ds bs wt = true) {L : Nat → Bool} (hcl : ∀ (j : Nat) (oj : Oper), ops[j]? = some oj → L j = true → ∀ k, predOf oj k = true → L k = true) : ∀ j, c ≤ j → j < ops.size → L j = true → L c = true := by
  unfold callD at hB
  simp only [Bool.and_eq_true, decide_eq_true_eq] at hB
  obtain ⟨⟨⟨⟨⟨h1, _⟩, _⟩, _⟩, _⟩, h5⟩ := hB
  intro j
  induction j using Nat.strongRecOn with
  | _ j ih =>
    intro hcj hjs hL
    rcases Nat.lt_or_ge c j with h0 | h0
    · have h6 := List.all_eq_true.1 h5 j (List.mem_range.2 hjs)
      rw [Array.getElem?_eq_getElem hjs] at h6
      simp only [Bool.and_eq_true] at h6
      have h7 := h6.2
      rw [if_neg (show ¬ j < c by omega), if_pos h0] at h7
      obtain ⟨k, hk, hkk⟩ := List.any_eq_true.1 h7
      simp only [Bool.and_eq_true, decide_eq_true_eq] at hkk
      have hkj := List.mem_range.1 hk
      exact ih k hkj hkk.1 (by omega) (hcl j _ (Array.getElem?_eq_getElem hjs) hL k hkk.2)
    · rw [show c = j by omega]; exact hL
theorem any_callD {a0 : Act} {w0 : World} (c s : Nat) (A Bp Cp : World → Prop) (V : Nat → Value) (φ : Nat → Value → World → Prop) (base : List (Nat × Value)) (ds : List (Option Nat)) (wt : List (List Nat)) (oc : Oper)
    (hB : invD ops = true) (hT : callD ops c ds (base.map (·.1)) wt = true) (hcs : c < s) (hss : s < ops.size) (hoc : ops[c]? = some oc) (hb0 : Holds a0 base) (hA0 : A w0.drew)
    (pre : StW (PreD A V base ds wt) (ops.toList.take c) 0)
    (mid : ∀ (Q : Exit → Act → World → Prop) (a : Act) (w : World), A w → Holds a base → KnVD V ds a (wt.getD c []) → ∀ K : Act → World → Prop, (∀ v w', φ c v w' → Bp w' → K (a.put oc.dst v) w') → oc.wp Try.prog a w K Q)
    (post : StW (PostD s Bp Cp φ base ds wt) (ops.toList.drop (c + 1)) (c + 1))
    (fin : ∀ (vs : Nat → Value) (w : World), Cp w → (∀ i, i < c → vs ((ds.getD i none).getD 0) = V i) → (∀ i, c ≤ i → i < ops.size → (ds.getD i none).isSome = true → φ i (vs ((ds.getD i none).getD 0)) w) → Q .normal (putAll a0 vs (ds.filterMap id)) w)
    (hsz : ∀ d ∈ ds.filterMap id, d < a0.tmps.size) : wpAny Try.prog .any ops Q ops.size (Array.replicate ops.size false) a0 { w0 with drawn := w0.drawn + 1 } := by
  have hT' := hT
  unfold callD at hT'
  simp only [Bool.and_eq_true, decide_eq_true_eq] at hT'
  obtain ⟨⟨⟨⟨⟨h1, h2⟩, h2s⟩, h3⟩, h4⟩, h5⟩ := hT'
  have hds : dsts ops = ds.filterMap id := by
    have e : ops.toList.filterMap (·.dst) = (ops.toList.map (·.dst)).filterMap id := by rw [List.filterMap_map]; rfl
    unfold dsts
    rw [e, h2]
  have hat : ∀ (i : Nat) (o : Oper), ops[i]? = some o → ds.getD i none = o.dst := fun i o ho => by
    have e1 : (ops.toList.map (·.dst))[i]? = some o.dst := by rw [List.getElem?_map, Array.getElem?_toList, ho, Option.map_some]
    rw [h2] at e1
    rw [List.getD_eq_getElem?_getD, e1]
    rfl
  have hslot : ∀ (i : Nat) (o : Oper) (d : Nat), ops[i]? = some o → o.dst = some d → (ds.getD i none).getD 0 = d := fun i o d ho hd => by
    rw [hat i o ho, hd]
    rfl
  have hsome : ∀ (i : Nat) (o : Oper), ops[i]? = some o → (ds.getD i none).isSome = true → ∃ d, o.dst = some d := fun i o ho hs => by
    rw [hat i o ho] at hs
    exact Option.isSome_iff_exists.1 hs
  have hgd : ∀ (i : Nat) (o : Oper), ops[i]? = some o → o.guard = none := fun i o ho => by
    have := List.all_eq_true.1 h3 o (by simpa using Array.mem_of_getElem? ho)
    simpa using this
  have hpre : ∀ i, i ≤ c → (ds.getD i none).isSome = true := fun i hi => by
    have his : i < ops.size := by omega
    have hl : i < ds.length := by rw [← h2, List.length_map]; simpa using his
    have := List.all_eq_true.1 h2s ds[i] (List.mem_iff_getElem.2 ⟨i, by rw [List.length_take]; omega, by rw [List.getElem_take]⟩)
    rw [List.getD_eq_getElem?_getD, List.getElem?_eq_getElem hl]
    exact this
  have hwt : ∀ (i : Nat) (o : Oper), ops[i]? = some o → ∀ j ∈ wt.getD i [], predOf o j = true ∧ (ds.getD j none).isSome = true ∧ j < i ∧ (if i ≤ c then j < c else c ≤ j) := fun i o ho j hj => by
    have h6 := List.all_eq_true.1 h5 i (List.mem_range.2 (Array.getElem?_eq_some_iff.1 ho).1)
    rw [ho] at h6
    simp only [Bool.and_eq_true] at h6
    have h7 := List.all_eq_true.1 h6.1 j hj
    simp only [Bool.and_eq_true, decide_eq_true_eq] at h7
    refine ⟨h7.1.1.1, h7.1.1.2, h7.1.2, ?_⟩
    have h8 := h7.2
    split at h8 <;> rename_i hh
    · rw [if_pos hh]; simpa using h8
    · rw [if_neg hh]; simpa using h8
  have hval : ∀ (a : Act) (d : Nat), a.eval (.tmp d) = a.tmps.getD d undef := fun a d => rfl
  refine any_invD (S3 A Bp Cp c s) (fun _ i v w => if i < c then v = V i else if i < ops.size then φ i v w else True) hB (by unfold S3; rw [if_neg (by simp)]; exact hA0) ?_ ?_ (by rw [hds]; exact hsz)
  · intro i o hi L a w hS hLi hcl hpr hfr hkn
    have hh := holds_frame hfr base h4 hb0
    have hkv : ∀ j ∈ wt.getD i [], j < c → a.eval (.tmp ((ds.getD j none).getD 0)) = V j := fun j hj hjc => by
      obtain ⟨p1, p0, p2, _⟩ := hwt i o hi j hj
      have hjs : j < ops.size := by have := (Array.getElem?_eq_some_iff.1 hi).1; omega
      obtain ⟨d, hd⟩ := hsome j _ (Array.getElem?_eq_getElem hjs) p0
      have := hkn j _ d (Array.getElem?_eq_getElem hjs) hd (hpr j p1)
      rw [if_pos hjc] at this
      rw [hslot j _ d (Array.getElem?_eq_getElem hjs) hd, hval]
      exact this
    refine wpOp_of hi (hgd i o hi) ?_
    rcases Nat.lt_trichotomy i c with hic | hic | hic
    · have hLc : L c = false := by
        cases hx : L c with
        | false => rfl
        | true => rw [callD_up hT hcl hx (c - i) i (by omega)] at hLi; cases hLi
      have hst := stW_at pre i o (by rw [List.getElem?_take, if_pos hic, Array.getElem?_toList]; exact hi)
      rw [Nat.zero_add] at hst
      have hA : A w := by unfold S3 at hS; rw [if_neg (by rw [hLc]; decide)] at hS; exact hS
      refine hst Q a w hA hh (knVD_of _ (fun j hj => hkv j hj (by have := (hwt i o hi j hj).2.2.1; omega))) _ (fun w' hA' => ⟨V i, rfl, (by unfold S3; simp only [if_neg (show ¬ c = i by omega), hLc]; exact hA'), by rw [if_pos hic], fun j v hji hLj hφ => ?_⟩)
      by_cases hjc : j < c
      · rw [if_pos hjc] at hφ ⊢
        exact hφ
      · rw [if_neg hjc]
        split
        · rename_i hjs
          rw [callD_down hT hcl j (by omega) hjs hLj] at hLc; cases hLc
        · trivial
    · subst hic
      have hoi : oc = o := Option.some.inj (hoc.symm.trans hi)
      subst hoi
      have hA : A w := by unfold S3 at hS; rw [if_neg (by rw [hLi]; decide)] at hS; exact hS
      have hLs : L s = false := by
        cases hx : L s with
        | false => rfl
        | true => rw [callD_down hT hcl s (by omega) hss hx] at hLi; cases hLi
      refine mid Q a w hA hh (knVD_of _ (fun j hj => hkv j hj (by have := (hwt i oc hi j hj).2.2.1; omega))) _ (fun v w' hv hb => ⟨v, rfl, (by unfold S3; simp only [if_true, if_neg (show ¬ s = i by omega), hLs]; exact hb), by rw [if_neg (by omega), if_pos h1]; exact hv, fun j z hji hLj hφ => ?_⟩)
      by_cases hjc : j < i
      · rw [if_pos hjc] at hφ ⊢
        exact hφ
      · rw [if_neg hjc]
        split
        · rename_i hjs
          rw [callD_down hT hcl j (by omega) hjs hLj] at hLi; cases hLi
        · trivial
    · have hLc : L c = true := by
        have h6 := List.all_eq_true.1 h5 i (List.mem_range.2 (Array.getElem?_eq_some_iff.1 hi).1)
        rw [hi] at h6
        simp only [Bool.and_eq_true] at h6
        have h7 := h6.2
        rw [if_neg (show ¬ i < c by omega), if_pos hic] at h7
        obtain ⟨k, hk, hkk⟩ := List.any_eq_true.1 h7
        simp only [Bool.and_eq_true, decide_eq_true_eq] at hkk
        have hki := List.mem_range.1 hk
        exact callD_down hT hcl k hkk.1 (by have := (Array.getElem?_eq_some_iff.1 hi).1; omega) (hpr k hkk.2)
      have hst := stW_at post (i - (c + 1)) o (by rw [List.getElem?_drop, show c + 1 + (i - (c + 1)) = i by omega, Array.getElem?_toList]; exact hi)
      rw [show c + 1 + (i - (c + 1)) = i by omega] at hst
      have hkp : KnPD φ ds a w (wt.getD i []) := knPD_of _ (fun j hj => by
        obtain ⟨p1, p0, p2, p3⟩ := hwt i o hi j hj
        rw [if_neg (by omega)] at p3
        have hjs : j < ops.size := by have := (Array.getElem?_eq_some_iff.1 hi).1; omega
        obtain ⟨d, hd⟩ := hsome j _ (Array.getElem?_eq_getElem hjs) p0
        have := hkn j _ d (Array.getElem?_eq_getElem hjs) hd (hpr j p1)
        rw [if_neg (by omega), if_pos hjs] at this
        rw [hslot j _ d (Array.getElem?_eq_getElem hjs) hd, hval]
        exact this)
      have his := (Array.getElem?_eq_some_iff.1 hi).1
      by_cases hsi : i = s
      · have hB : Bp w := by
          unfold S3 at hS
          rw [if_pos hLc, if_neg (by rw [← hsi, hLi]; decide)] at hS
          exact hS
        refine hst.2 hsi Q a w hB hh hkp _ (fun v w' hv hb hk => ⟨v, rfl, ?_, by rw [if_neg (by omega), if_pos his]; exact hv, fun j z hji _ hφ => ?_⟩)
        · unfold S3
          simp only [if_neg (show ¬ c = i by omega), hLc, if_pos hsi.symm, if_true]
          exact hb
        · by_cases hjc : j < c
          · rw [if_pos hjc] at hφ ⊢
            exact hφ
          · rw [if_neg hjc] at hφ ⊢
            split at hφ <;> rename_i hjs
            · rw [if_pos hjs]
              exact hk j z hji hφ
            · rw [if_neg hjs]
              trivial
      · refine hst.1 hsi Q a w hh hkp _ (fun v hv => ⟨v, rfl, ?_, by rw [if_neg (by omega), if_pos his]; exact hv, fun j z _ _ hφ => hφ⟩)
        unfold S3 at hS ⊢
        simp only [if_neg (show ¬ c = i by omega), if_neg (show ¬ s = i by omega)]
        exact hS
  · intro vs L w hall hS hk
    rw [hds]
    have hC : Cp w := by unfold S3 at hS; rw [if_pos (hall c h1), if_pos (hall s hss)] at hS; exact hS
    refine fin vs w hC (fun i hi => ?_) (fun i hi his hss => ?_)
    · have his : i < ops.size := by omega
      obtain ⟨d, hd⟩ := hsome i _ (Array.getElem?_eq_getElem his) (hpre i (by omega))
      have := hk i _ d (Array.getElem?_eq_getElem his) hd
      rw [if_pos hi] at this
      rw [hslot i _ d (Array.getElem?_eq_getElem his) hd]
      exact this
    · obtain ⟨d, hd⟩ := hsome i _ (Array.getElem?_eq_getElem his) hss
      have := hk i _ d (Array.getElem?_eq_getElem his) hd
      rw [if_neg (by omega), if_pos his] at this
      rw [hslot i _ d (Array.getElem?_eq_getElem his) hd]
      exact this
end
end Go.Proofs.Ythnlfjkpiohooaa
