/-
  Own text. As InvW; operations may write no slot (stores). No program is named here.
-/
import Derived.Test.YthnlfjkpiohooaaJ6
namespace Go.Proofs.Ythnlfjkpiohooaa
open Go
section
variable {P : Program} {ops : Array Oper} {Q : Exit → Act → World → Prop}
def invD (ops : Array Oper) : Bool := decide (dsts ops).Nodup &&
  (List.range ops.size).all (fun i => match ops[i]? with
    | some o => o.after.all (fun e => !Region.binds .any e || decide (e.on < i))
    | none => true)
theorem any_invD {a0 : Act} {w0 : World} (S : (Nat → Bool) → World → Prop) (φ : (Nat → Bool) → Nat → Value → World → Prop) (hB : invD ops = true)
    (hS0 : S (fun _ => false) w0.drew)
    (step : ∀ (i : Nat) (o : Oper), ops[i]? = some o → ∀ (L : Nat → Bool) (a : Act) (w : World), S L w → L i = false →
      (∀ (j : Nat) (oj : Oper), ops[j]? = some oj → L j = true → ∀ k, predOf oj k = true → L k = true) → (∀ k, predOf o k = true → L k = true) →
      (∀ t : Nat, (∀ (j : Nat) (oj : Oper), ops[j]? = some oj → oj.dst ≠ some t) → a.tmps[t]? = a0.tmps[t]?) →
      (∀ (j : Nat) (oj : Oper) (d : Nat), ops[j]? = some oj → oj.dst = some d → L j = true → φ L j (a.tmps.getD d undef) w) →
      wpOp P ops Q i (fun a' w' => ∃ v, a' = a.put o.dst v ∧ S (fun j => if j = i then true else L j) w' ∧ φ (fun j => if j = i then true else L j) i v w' ∧ ∀ j v, j ≠ i → L j = true → φ L j v w → φ (fun j => if j = i then true else L j) j v w') a w)
    (fin : ∀ (vs : Nat → Value) (L : Nat → Bool) (w : World), (∀ j, j < ops.size → L j = true) → S L w → (∀ (i : Nat) (o : Oper) (d : Nat), ops[i]? = some o → o.dst = some d → φ L i (vs d) w) → Q .normal (putAll a0 vs (dsts ops)) w)
    (hsz : ∀ d ∈ dsts ops, d < a0.tmps.size) : wpAny P .any ops Q ops.size (Array.replicate ops.size false) a0 { w0 with drawn := w0.drawn + 1 } := by
  simp only [invD, Bool.and_eq_true, decide_eq_true_eq] at hB
  obtain ⟨hnd, hord⟩ := hB
  have hset : ∀ (listed : Array Bool) (i : Nat), i < listed.size → (fun j => (listed.setIfInBounds i true).getD j false) = fun j => if j = i then true else listed.getD j false := fun listed i hi => by
    funext j
    by_cases h : j = i
    · subst h
      simp [hi]
    · rw [if_neg h, getD_set_ne false (Ne.symm h)]
  refine (wpAny_inv (MidW ops a0 S φ) ?_ ?_ ops.size _ a0 _ ?_ ?_)
  · intro listed a w i mid hi
    obtain ⟨hun, oi, hoi, hall⟩ := mem_ready.1 hi
    have hils : i < listed.size := by
      rcases Nat.lt_or_ge i listed.size with h | h
      · exact h
      · simp [Array.getElem?_eq_none h] at hun
    have hunf : listed.getD i false = false := by simp [hils] at hun ⊢; exact hun
    have hpr : ∀ (o : Oper) (k : Nat), predOf o k = true → ∃ e ∈ o.after, Region.binds .any e = true ∧ e.on = k := fun o k h => predOf_spec h
    have hst := step i oi hoi (fun j => listed.getD j false) a w mid.world hunf
      (fun j oj hj hl k hk => by
        obtain ⟨e, he, hb, hon⟩ := hpr oj k hk
        have := mid.closed j oj hj hl e he hb
        rwa [hon] at this)
      (fun k hk => by
        obtain ⟨e, he, hb, hon⟩ := hpr oi k hk
        have := hall e he hb
        rwa [hon] at this)
      (fun t ht => mid.frame t (fun j oj hj _ => ht j oj hj))
      (fun j oj d hj hd hl => mid.known j oj d hj hd hl)
    refine wpOp_mono (fun a' w' h' => ?_) hst
    obtain ⟨v, rfl, hS', hv, hk⟩ := h'
    have hself : (listed.setIfInBounds i true).getD i false = true := by simp [hils]
    have hput : ∀ d, oi.dst = some d → d < a.tmps.size := fun d hd => by rw [mid.size]; exact hsz d (List.mem_filterMap.2 ⟨oi, by simpa using Array.mem_of_getElem? hoi, hd⟩)
    have hsame : ∀ t, oi.dst ≠ some t → (a.put oi.dst v).tmps[t]? = a.tmps[t]? := fun t ht => by
      cases hd : oi.dst with
      | none => rfl
      | some d =>
        have hne : d ≠ t := fun e => ht (by rw [hd, e])
        simp [Act.put, hne]
    refine ⟨by simp [mid.lsize], fun j oj hj hl e he hb => ?_, ?_, ?_, by rw [hset listed i hils]; exact hS', fun t ht => ?_, fun j oj d hj hd hl => ?_⟩
    · rcases getD_set_false hl with rfl | hl
      · obtain rfl : oj = oi := Option.some.inj (hj.symm.trans hoi)
        have h1 := hall e he hb
        by_cases hie : j = e.on
        · rw [hie]; rw [hie] at hself; exact hself
        · rw [getD_set_ne false hie]; exact h1
      · have h1 := mid.closed j oj hj hl e he hb
        by_cases hie : i = e.on
        · rw [← hie]; exact hself
        · rw [getD_set_ne false hie]; exact h1
    · cases hd : oi.dst with
      | none => exact mid.size
      | some d => simpa [Act.put] using mid.size
    · cases hd : oi.dst with
      | none => exact mid.defers
      | some d => exact mid.defers
    · rw [hsame t (ht i oi hoi hself)]
      exact mid.frame t (fun j oj hj hl => ht j oj hj (by
        by_cases hij : i = j
        · subst hij; exact hself
        · rw [getD_set_ne false hij]; exact hl))
    · rw [hset listed i hils]
      rcases getD_set_false hl with rfl | hl2
      · obtain rfl : oj = oi := Option.some.inj (hj.symm.trans hoi)
        have hdlt := hput d hd
        rw [hd, show (a.put (some d) v).tmps.getD d undef = v from by simp [Act.put, hdlt]]
        exact hv
      · have hji : j ≠ i := fun h => by
          subst h
          rw [hunf] at hl2
          cases hl2
        have hne : oi.dst ≠ some d := fun h => hji (nodup_dst hnd hoi hj h hd).symm
        have e := hsame d hne
        rw [show (a.put oi.dst v).tmps.getD d undef = a.tmps.getD d undef from by rw [Array.getD_eq_getD_getElem?, Array.getD_eq_getD_getElem?, e]]
        exact hk j _ hji hl2 (mid.known j oj d hj hd hl2)
  · intro listed a w mid hr
    have hall : ∀ n i, i < n → i < ops.size → listed.getD i false = true := by
      intro n
      induction n with
      | zero => intro i h; cases h
      | succ n ih =>
        intro i hin hil
        by_cases hlt : i < n
        · exact ih i hlt hil
        · have hin' : i = n := by omega
          subst hin'
          cases hg : listed.getD i false with
          | true => rfl
          | false =>
            have ho : ops[i]? = some ops[i] := Array.getElem?_eq_getElem hil
            have h1 := List.all_eq_true.1 hord i (List.mem_range.2 hil)
            simp only [ho] at h1
            have hin2 : i ∈ Region.ready .any ops listed := mem_ready.2 ⟨by
              have : i < listed.size := by rw [mid.lsize]; exact hil
              simp [this] at hg ⊢; exact hg, _, ho, fun e he hb => by
              have h2 := Array.all_eq_true'.1 h1 e he
              simp only [hb, Bool.not_true, Bool.false_or, decide_eq_true_eq] at h2
              exact ih e.on h2 (by omega)⟩
            rw [hr] at hin2
            cases hin2
    have hq := fin (fun d => a.tmps.getD d undef) (fun j => listed.getD j false) w (fun j hj => hall (j + 1) j (by omega) hj) mid.world (fun i o d ho hd => mid.known i o d ho hd (hall (i + 1) i (by omega) (Array.getElem?_eq_some_iff.1 ho).1))
    have ha : putAll a0 (fun d => a.tmps.getD d undef) (dsts ops) = a := by
      have h1 := putAll_defers (fun d => a.tmps.getD d undef) (dsts ops) a0
      have h2 : (putAll a0 (fun d => a.tmps.getD d undef) (dsts ops)).tmps = a.tmps := by
        apply Array.ext_getElem?
        intro t
        by_cases ht : t < a0.tmps.size
        · rw [putAll_get _ _ _ _ ht]
          by_cases hm2 : t ∈ dsts ops
          · rw [if_pos hm2]
            have : t < a.tmps.size := by rw [mid.size]; exact ht
            simp [this]
          · rw [if_neg hm2]
            exact (mid.frame t (fun i o hi _ hd => hm2 (List.mem_filterMap.2 ⟨o, by simpa using Array.mem_of_getElem? hi, hd⟩))).symm
        · rw [Array.getElem?_eq_none (by rw [putAll_size]; omega), Array.getElem?_eq_none (by rw [mid.size]; omega)]
      rw [← mid.defers] at h1
      generalize putAll a0 (fun d => a.tmps.getD d undef) (dsts ops) = b at h1 h2
      cases a; cases b
      simp only at h1 h2
      rw [h1, h2]
    rw [ha] at hq
    exact hq
  · unfold leftOf
    exact Nat.le_trans (List.length_filter_le _ _) (by simp)
  · exact ⟨by simp, fun j oj _ hl => (by rw [getD_replicate_f] at hl; cases hl), rfl, rfl, by rw [show (fun j => (Array.replicate ops.size false).getD j false) = fun _ => false from funext (fun j => getD_replicate_f _ _)]; exact hS0, fun _ _ => rfl, fun i o d _ _ hl => (by rw [getD_replicate_f] at hl; cases hl)⟩
end
end Go.Proofs.Ythnlfjkpiohooaa
