/-
  Own text. A region whose operations come in the text's order, operation by operation, with guards that nobody knows: what an operation yields is told whether it is wanted or not. No program is named here.
-/
import Derived.Test.YtojekoakgpkkdaaDoorJE1
import Derived.Tactics
import Derived.Test.YtojekoakgpkkdaaDoorJE2
namespace Go.Proofs.YtojekoakgpkkdaaDoor
open Go
section
variable {P : Program} {ops : Array Oper} {Q : Exit → Act → World → Prop}
/-- Operation k: it is wanted, and yields what is known of it; or it is not, and that is known of 'undef'. -/
def WantP (P : Program) (R : World → World → Prop) (φ : Nat → Value → World → Prop) (ds : List Nat) (k : Nat) (o : Oper) (Q : Exit → Act → World → Prop) (a : Act) (w : World) : Prop :=
  ((match o.guard with | none => True | some (g, b) => a.eval (.tmp (ds.getD g 0)) = .bool b) ∧
      ∀ K : Act → World → Prop, (∀ v w', φ k v w' → R w w' → K (a.put o.dst v) w') → o.wp P a w K Q) ∨
    ((match o.guard with | none => False | some (g, b) => a.eval (.tmp (ds.getD g 0)) = .bool (!b) ∨ a.eval (.tmp (ds.getD g 0)) = undef) ∧ φ k undef w)
/-- The slots that the region does not write; up to operation K also those that it writes later on. -/
def baseAt (base base0 : List (Nat × Value)) (K k : Nat) : List (Nat × Value) := match Nat.ble k K with | true => base ++ base0 | false => base
def StepP (P : Program) (S : World → Prop) (R : World → World → Prop) (φ : Nat → Value → World → Prop) (ds : List Nat) (base : List (Nat × Value)) (p : List Nat) (k : Nat) (o : Oper) : Prop :=
  ∀ (Q : Exit → Act → World → Prop) (a : Act) (w : World), S w → Holds a base → Knows φ ds a w p → WantP P R φ ds k o Q a w
def AllStepsP (P : Program) (S : World → Prop) (R : World → World → Prop) (φ : Nat → Value → World → Prop) (ds : List Nat) (base base0 : List (Nat × Value)) (K : Nat) : List (List Nat) → Nat → List Oper → Prop
  | _, _, [] => True
  | p, k, o :: l => StepP P S R φ ds (baseAt base base0 K k) (p.headD []) k o ∧ AllStepsP P S R φ ds base base0 K p.tail (k + 1) l
def tabP (ops : Array Oper) (n : Nat) (ds : List Nat) (base base0 : List Nat) (K : Nat) (p : List (List Nat)) : Bool :=
  (ops.toList.map (·.dst) == ds.map some) && decide ds.Nodup && base.all (fun t => !ds.contains t) && base0.all (fun t => !(ds.take K).contains t) && ds.all (fun d => decide (d < n)) &&
  (List.range ops.size).all (fun i => (p.getD i []).all (fun j => decide (j < i)) && (match ops[i]? with | some o => (match o.guard with | some (g, _) => decide (g < i) | none => true) | none => true))
theorem holds_app {a : Act} : ∀ {l m : List (Nat × Value)}, Holds a l → Holds a m → Holds a (l ++ m)
  | [], _, _, h => h
  | _ :: _, _, h1, h2 => ⟨h1.1, holds_app h1.2 h2⟩
theorem put_else {a : Act} {d t : Nat} {v : Value} (h : d ≠ t) : (a.put (some d) v).tmps[t]? = a.tmps[t]? := by simp [Act.put, h]
theorem put_same {a : Act} {d : Nat} {v : Value} (h : d < a.tmps.size) : (a.put (some d) v).tmps.getD d undef = v := by simp [Act.put, h]
theorem plain_go {a0 : Act} {S : World → Prop} {R : World → World → Prop} {φ : Nat → Value → World → Prop} {ds : List Nat} {base base0 : List (Nat × Value)} {K : Nat}
    (hds : ops.toList.map (·.dst) = ds.map some) (hnd : ds.Nodup) (hbase : ∀ t ∈ base.map (·.1), t ∉ ds) (hbase0 : ∀ t ∈ base0.map (·.1), t ∉ ds.take K) (hsz : ∀ d ∈ ds, d < a0.tmps.size)
    (hb0 : Holds a0 base) (hb00 : Holds a0 base0) (hSR : ∀ w w', S w → R w w' → S w') (hφ : ∀ i v w w', φ i v w → R w w' → φ i v w')
    (fin : ∀ (vs : Nat → Value) (w : World), S w → (∀ j : Nat, j < ds.length → φ j (vs (ds.getD j 0)) w) → Q .normal (putAll a0 vs ds) w) :
    ∀ (l : List Oper) (p : List (List Nat)) (k : Nat), ops.toList.drop k = l → k ≤ ops.size →
      (∀ i, k ≤ i → i < ops.size → (p.getD (i - k) []).all (fun j => decide (j < i)) = true ∧ (match ops[i]? with | some o => (match o.guard with | some (g, _) => decide (g < i) | none => true) | none => true) = true) →
      AllStepsP P S R φ ds base base0 K p k l → ∀ (a : Act) (w : World), a.tmps.size = a0.tmps.size → a.defers = a0.defers → S w →
      (∀ t : Nat, (∀ j, j < k → ds.getD j 0 ≠ t) → a.tmps[t]? = a0.tmps[t]?) → (∀ j, j < k → φ j (a.tmps.getD (ds.getD j 0) undef) w) → wpList P ops Q l a w
  | [], p, k, hl, hk, _, _, a, w, hs, hd, hS, hfr, hkn => by
    have hlen : ops.toList.length = ds.length := by have := congrArg List.length hds; simpa using this
    have hke : k = ops.size := by
      have := congrArg List.length hl
      simp at this
      omega
    have hkl : k = ds.length := by rw [← hlen, hke]; simp
    have hq := fin (fun d => a.tmps.getD d undef) w hS (fun j hj => hkn j (by omega))
    have ha : putAll a0 (fun d => a.tmps.getD d undef) ds = a := by
      have h1 := putAll_defers (fun d => a.tmps.getD d undef) ds a0
      have h2 : (putAll a0 (fun d => a.tmps.getD d undef) ds).tmps = a.tmps := by
        apply Array.ext_getElem?
        intro t
        by_cases ht : t < a0.tmps.size
        · rw [putAll_get _ _ _ _ ht]
          by_cases hm2 : t ∈ ds
          · rw [if_pos hm2]
            have : t < a.tmps.size := by rw [hs]; exact ht
            simp [this]
          · rw [if_neg hm2]
            exact (hfr t (fun j hj e => hm2 (by
              rw [← e, List.getD_eq_getElem?_getD, List.getElem?_eq_getElem (by omega)]
              simp))).symm
        · rw [Array.getElem?_eq_none (by rw [putAll_size]; omega), Array.getElem?_eq_none (by rw [hs]; omega)]
      rw [← hd] at h1
      generalize putAll a0 (fun d => a.tmps.getD d undef) ds = b at h1 h2
      cases a; cases b
      simp only at h1 h2
      rw [h1, h2]
    rw [ha] at hq
    exact hq
  | o :: l, p, k, hl, hk, htab, hst, a, w, hs, hd, hS, hfr, hkn => by
    have hlen : ops.toList.length = ds.length := by have := congrArg List.length hds; simpa using this
    have hkl : k < ops.size := by
      rcases Nat.lt_or_ge k ops.size with h | h
      · exact h
      · rw [List.drop_eq_nil_of_le (by simpa using h)] at hl
        cases hl
    have hkd : k < ds.length := by rw [← hlen]; simpa using hkl
    have ho : ops[k]? = some o := by
      have h1 : (ops.toList.drop k)[0]? = some o := by rw [hl]; rfl
      rw [List.getElem?_drop] at h1
      simpa using h1
    have hdst : ∀ (j : Nat) (oj : Oper), ops[j]? = some oj → oj.dst = some (ds.getD j 0) := fun j oj hj => by
      have h1 : (ops.toList.map (·.dst))[j]? = some oj.dst := by rw [List.getElem?_map]; simp [hj]
      rw [hds, List.getElem?_map] at h1
      cases hq : ds[j]? with
      | none => rw [hq] at h1; simp at h1
      | some d =>
        rw [hq] at h1
        rw [List.getD_eq_getElem?_getD, hq]
        simpa using h1.symm
    have hdk := hdst k o ho
    have hmem : ds.getD k 0 ∈ ds := by
      rw [List.getD_eq_getElem?_getD, List.getElem?_eq_getElem hkd]
      simp
    have hne : ∀ j, j < k → ds.getD j 0 ≠ ds.getD k 0 := fun j hj e => by
      have hj2 : j < ds.length := by omega
      rw [List.getD_eq_getElem?_getD, List.getD_eq_getElem?_getD, List.getElem?_eq_getElem hj2, List.getElem?_eq_getElem hkd] at e
      have := (List.getElem_inj hnd).1 (by simpa using e)
      omega
    have hl2 : ops.toList.drop (k + 1) = l := by
      have := congrArg List.tail hl
      simpa using this
    obtain ⟨hp, hg0⟩ := htab k (Nat.le_refl _) hkl
    rw [Nat.sub_self] at hp
    have hp' : ∀ j ∈ p.headD [], j < k := fun j hj => by
      have : p.getD 0 [] = p.headD [] := by cases p <;> rfl
      rw [this] at hp
      simpa using List.all_eq_true.1 hp j hj
    have htab' : ∀ i, k + 1 ≤ i → i < ops.size → (p.tail.getD (i - (k + 1)) []).all (fun j => decide (j < i)) = true ∧ (match ops[i]? with | some o => (match o.guard with | some (g, _) => decide (g < i) | none => true) | none => true) = true := fun i h1 h2 => by
      have h3 := htab i (by omega) h2
      refine ⟨?_, h3.2⟩
      have e : p.tail.getD (i - (k + 1)) [] = p.getD (i - k) [] := by
        cases p with
        | nil => rfl
        | cons x p => rw [show i - k = i - (k + 1) + 1 by omega]; rfl
      rw [e]
      exact h3.1
    have next : ∀ v w', S w' → (∀ j, j < k → φ j (a.tmps.getD (ds.getD j 0) undef) w') → φ k v w' → wpList P ops Q l (a.put o.dst v) w' := fun v w' hS' hkn' hv => by
      have hlt : ds.getD k 0 < a.tmps.size := by rw [hs]; exact hsz _ hmem
      refine plain_go hds hnd hbase hbase0 hsz hb0 hb00 hSR hφ fin l p.tail (k + 1) hl2 (by omega) htab' hst.2 (a.put o.dst v) w' ?_ ?_ hS' ?_ ?_
      · rw [hdk]; simpa [Act.put] using hs
      · rw [hdk]; exact hd
      · intro t ht
        have h1 : ds.getD k 0 ≠ t := ht k (by omega)
        rw [hdk, put_else h1]
        exact hfr t (fun j hj => ht j (by omega))
      · intro j hj
        by_cases e : j = k
        · subst e
          rw [hdk, put_same hlt]
          exact hv
        · have h1 := Ne.symm (hne j (by omega))
          rw [hdk, Array.getD_eq_getD_getElem?, put_else h1, ← Array.getD_eq_getD_getElem?]
          exact hkn' j (by omega)
    have hH : Holds a base := holds_of base (fun t ht => eval_tmp_of (hfr t (fun j hj e => hbase t ht (by
      rw [← e, List.getD_eq_getElem?_getD, List.getElem?_eq_getElem (by omega)]
      simp)))) hb0
    have hH' : Holds a (baseAt base base0 K k) := by
      unfold baseAt
      cases hk' : Nat.ble k K
      · exact hH
      · refine holds_app hH (holds_of base0 (fun t ht => eval_tmp_of (hfr t (fun j hj e => hbase0 t ht ?_))) hb00)
        have hjK : j < K := Nat.lt_of_lt_of_le hj (Nat.le_of_ble_eq_true hk')
        rw [← e, List.getD_eq_getElem?_getD, List.getElem?_eq_getElem (by omega)]
        exact List.mem_take_iff_getElem.2 ⟨j, by omega, rfl⟩
    have hK : Knows φ ds a w (p.headD []) := knows_of _ (fun j hj => by simpa [Act.eval] using hkn j (hp' j hj))
    have hyield : ∀ g, g < k → ∀ v, a.eval (.tmp (ds.getD g 0)) = v → yielded ops a.tmps g = (match v with | .bool b => some b | _ => none) := fun g hg v hv => by
      have hog : ops[g]? = some (ops[g]'(by omega)) := Array.getElem?_eq_getElem (by omega)
      have hd := hdst g _ hog
      have hgm : ds.getD g 0 < a.tmps.size := by
        rw [hs]
        apply hsz
        rw [List.getD_eq_getElem?_getD, List.getElem?_eq_getElem (by omega)]
        simp
      have h4 : a.tmps[ds.getD g 0]? = some v := by
        simp only [Act.eval] at hv
        rw [Array.getD_eq_getD_getElem?, Array.getElem?_eq_getElem hgm] at hv
        rw [Array.getElem?_eq_getElem hgm]
        simpa using hv
      unfold yielded
      rw [hog]
      simp only [Option.bind_some, hd, h4]
      cases v <;> rfl
    have hgk : ∀ g b, o.guard = some (g, b) → g < k := fun g b hgd => by
      rw [ho] at hg0
      simp only [hgd] at hg0
      simpa using hg0
    unfold wpList
    rcases hst.1 Q a w hS hH' hK with ⟨hg, hk2⟩ | ⟨hg, hu⟩
    · have hw : Region.wanted o (yielded ops a.tmps) = true := by
        unfold Region.wanted
        cases hgd : o.guard with
        | none => rfl
        | some x =>
          obtain ⟨g, b⟩ := x
          rw [hgd] at hg
          have := hyield g (hgk g b hgd) _ hg
          simp [this]
      rw [if_pos hw]
      exact .inl (hk2 _ (fun v w' h1 h2 => next v w' (hSR w w' hS h2) (fun j hj => hφ j _ w w' (hkn j hj) h2) h1))
    · have hw : Region.wanted o (yielded ops a.tmps) = false := by
        unfold Region.wanted
        cases hgd : o.guard with
        | none => rw [hgd] at hg; exact hg.elim
        | some x =>
          obtain ⟨g, b⟩ := x
          rw [hgd] at hg
          rcases hg with hg | hg
          · have := hyield g (hgk g b hgd) _ hg
            cases b <;> simp [this]
          · have := hyield g (hgk g b hgd) _ hg
            simp [this, undef]
      rw [if_neg (by rw [hw]; decide)]
      exact next undef w hS hkn hu
/-- THE LAW. -/
theorem wp_plain_steps {id : Nat} {a0 : Act} {w0 : World} (S : World → Prop) (R : World → World → Prop) (φ : Nat → Value → World → Prop) (ds : List Nat) (base base0 : List (Nat × Value)) (K : Nat) (p : List (List Nat))
    (hB : tabP ops a0.tmps.size ds (base.map (·.1)) (base0.map (·.1)) K p = true)
    (hb0 : Holds a0 base) (hb00 : Holds a0 base0) (hS0 : S w0) (hSR : ∀ w w', S w → R w w' → S w') (hφ : ∀ i v w w', φ i v w → R w w' → φ i v w')
    (steps : AllStepsP P S R φ ds base base0 K p 0 ops.toList)
    (fin : ∀ (vs : Nat → Value) (w : World), S w → (∀ j : Nat, j < ds.length → φ j (vs (ds.getD j 0)) w) → Q .normal (putAll a0 vs ds) w) : (Code.region id ops false).wp P Q a0 w0 := by
  simp only [tabP, Bool.and_eq_true, beq_iff_eq, decide_eq_true_eq] at hB
  obtain ⟨⟨⟨⟨⟨hds, hnd⟩, hbase⟩, hbase0⟩, hsz⟩, htab⟩ := hB
  refine wp_region_list (plain_go hds hnd (fun t ht => ?_) (fun t ht => ?_) (fun d hd => ?_) hb0 hb00 hSR hφ fin ops.toList p 0 (by simp) (by omega) (fun i _ hi => ?_) steps a0 w0 rfl rfl hS0 (fun _ _ => rfl) (fun j hj => by omega))
  · have := List.all_eq_true.1 hbase t ht
    simpa using this
  · have := List.all_eq_true.1 hbase0 t ht
    simpa using this
  · simpa using List.all_eq_true.1 hsz d hd
  · have := List.all_eq_true.1 htab i (List.mem_range.2 hi)
    rw [Nat.sub_zero]
    rw [Bool.and_eq_true] at this
    exact this
end
-- what is known of an operation that is wanted only if something holds
def gv (c : Bool) (v : Value) : Value := if c = true then v else undef
theorem gv_t {c : Bool} {v : Value} (h : c = true) : gv c v = v := by unfold gv; rw [if_pos h]
theorem gv_f {c : Bool} {v : Value} (h : c = false) : gv c v = undef := by unfold gv; rw [if_neg (by rw [h]; decide)]
theorem nt_t {c : Bool} (h : c = false) : (!c) = true := by rw [h]; rfl
theorem nt_f {c : Bool} (h : c = true) : (!c) = false := by rw [h]; rfl
theorem an_t {c d : Bool} (h : c = true) (k : d = true) : (c && d) = true := by rw [h, k]; rfl
section
variable {P : Program} {a : Act} {o : Oper} {w : World} {x y z : Operand}
theorem exec_pickAnd (ho : o.op = .pick x y z) {c p : Bool} (hx : a.eval x = .bool c) (hy : c = true → a.eval y = .bool p) (hz : a.eval z = .bool false) : (execOp a.eval o).run P w = .ok (.value (.bool (c && p))) w := by
  unfold execOp
  cases c
  · simp [ho, hx, asBool, Sem.run_pure, hz]
  · simp [ho, hx, asBool, Sem.run_pure, hy rfl]
theorem exec_pickOr (ho : o.op = .pick x y z) {c p : Bool} (hx : a.eval x = .bool c) (hy : a.eval y = .bool true) (hz : c = false → a.eval z = .bool p) : (execOp a.eval o).run P w = .ok (.value (.bool (c || p))) w := by
  unfold execOp
  cases c
  · simp [ho, hx, asBool, Sem.run_pure, hz rfl]
  · simp [ho, hx, asBool, Sem.run_pure, hy]
theorem exec_notB {t : TypeId} (ho : o.op = .unOp .not t x) {c : Bool} (hx : a.eval x = .bool c) : (execOp a.eval o).run P w = .ok (.value (.bool (!c))) w := by
  unfold execOp
  simp only [ho, hx]
  simp [Op.unary, go_sem]
end
section
variable {P : Program} {S : World → Prop} {R : World → World → Prop} {φ : Nat → Value → World → Prop} {a : Act} {o : Oper} {w : World} {Q : Exit → Act → World → Prop} {ds : List Nat} {k g : Nat}
theorem sg0 (hgd : o.guard = none) (h1 : ∀ K : Act → World → Prop, (∀ v w', φ k v w' → R w w' → K (a.put o.dst v) w') → o.wp P a w K Q) : WantP P R φ ds k o Q a w := by
  unfold WantP
  rw [hgd]
  exact .inl ⟨trivial, h1⟩
/-- A guard that is a known fact: wanted if c. -/
theorem sgT {c : Bool} (hgd : o.guard = some (g, true)) (hg : a.eval (.tmp (ds.getD g 0)) = .bool c) (h1 : c = true → ∀ K : Act → World → Prop, (∀ v w', φ k v w' → R w w' → K (a.put o.dst v) w') → o.wp P a w K Q) (h0 : c = false → φ k undef w) : WantP P R φ ds k o Q a w := by
  unfold WantP
  rw [hgd]
  cases c
  · exact .inr ⟨.inl hg, h0 rfl⟩
  · exact .inl ⟨hg, h1 rfl⟩
theorem sgF {c : Bool} (hgd : o.guard = some (g, false)) (hg : a.eval (.tmp (ds.getD g 0)) = .bool c) (h1 : c = false → ∀ K : Act → World → Prop, (∀ v w', φ k v w' → R w w' → K (a.put o.dst v) w') → o.wp P a w K Q) (h0 : c = true → φ k undef w) : WantP P R φ ds k o Q a w := by
  unfold WantP
  rw [hgd]
  cases c
  · exact .inl ⟨hg, h1 rfl⟩
  · exact .inr ⟨.inl hg, h0 rfl⟩
/-- The same where the guard itself is wanted only if d. -/
theorem sgTT {c d : Bool} (hgd : o.guard = some (g, true)) (hg : a.eval (.tmp (ds.getD g 0)) = gv d (.bool c)) (h1 : (d && c) = true → ∀ K : Act → World → Prop, (∀ v w', φ k v w' → R w w' → K (a.put o.dst v) w') → o.wp P a w K Q) (h0 : (d && c) = false → φ k undef w) : WantP P R φ ds k o Q a w := by
  unfold WantP
  rw [hgd]
  cases d
  · exact .inr ⟨.inr hg, h0 rfl⟩
  · cases c
    · exact .inr ⟨.inl hg, h0 rfl⟩
    · exact .inl ⟨hg, h1 rfl⟩
theorem sgTF {c d : Bool} (hgd : o.guard = some (g, false)) (hg : a.eval (.tmp (ds.getD g 0)) = gv d (.bool c)) (h1 : (d && !c) = true → ∀ K : Act → World → Prop, (∀ v w', φ k v w' → R w w' → K (a.put o.dst v) w') → o.wp P a w K Q) (h0 : (d && !c) = false → φ k undef w) : WantP P R φ ds k o Q a w := by
  unfold WantP
  rw [hgd]
  cases d
  · exact .inr ⟨.inr hg, h0 rfl⟩
  · cases c
    · exact .inl ⟨hg, h1 rfl⟩
    · exact .inr ⟨.inl hg, h0 rfl⟩
end
end Go.Proofs.YtojekoakgpkkdaaDoor

/-
  Own text. Packets and extension headers in memory, and laws of single operations over them.
-/
namespace Go.Proofs.YtojekoakgpkkdaaDoor
open Go.RowKit Go.Proofs
set_option maxRecDepth 100000
def pkT (P : Pk) (v : Value) : Nat → Value
  | 0 => .int .i64 P.proto
  | 1 => .int .i64 P.hop
  | 2 => .int .i64 P.cls
  | 3 => .int .i64 P.id
  | 4 => .int .i64 P.off
  | 5 => .bool P.more
  | 6 => .bool P.still
  | 7 => .string P.opts
  | 8 => .int .i64 P.flow
  | 9 => v
  | 10 => .bool P.cut
  | _ => .string P.pay
/-- The cells of a packet; v: the slice of its extension headers. -/
def pkV (P : Pk) (v : Value) (j : Nat) : Value := if j < 17 then adV P.sv P.sb j else if j < 34 then adV P.dv P.db (j - 17) else pkT P v (j - 34)
theorem pkV_one {P : Pk} {v : Value} (hv : v.oneCell' = true) (j : Nat) : (pkV P v j).oneCell' = true := by
  unfold pkV
  split
  · exact adV_one _ _ _
  · split
    · exact adV_one _ _ _
    · unfold pkT
      split <;> first | rfl | exact hv
def exV (x : Ex) (j : Nat) : Value := if j = 0 then .int .i64 x.kind else .string x.body
theorem exV_one (x : Ex) (j : Nat) : (exV x j).oneCell' = true := by unfold exV; split <;> rfl
theorem isPk : IsSt 39 46 := ⟨_, Tryd.underlying39, rfl, by kernel_rfl⟩
theorem isEx2 : IsSt 88 2 := ⟨_, Tryd.underlying88, rfl, by kernel_rfl⟩
theorem zeroPk (w : World) : (zeroValue 39).run Tryd.prog w = .ok (.agg (SC 46 (pkV zeroP (.slice none 0 0)))) w := by kernel_rfl
theorem zeroEx (w : World) : (zeroValue 88).run Tryd.prog w = .ok (.agg (SC 2 (exV ⟨0, ByteArray.empty⟩))) w := by kernel_rfl
theorem run_pk0 (w : World) : (Instr.build 39 #[]).run Tryd.prog w = .ok (.agg (SC 46 (pkV zeroP (.slice none 0 0)))) w := by kernel_rfl
/-- A slice of extension headers. -/
def ExAt (w : World) (v : Value) (l : List Ex) : Prop := ∃ a cap, v = .slice a l.length cap ∧ ∀ j x, l[j]? = some x → ∃ ad : Addr, a = some ad ∧ ad.block < w.heap.size ∧ w.cell? (ad.add (2 * j)) = some (.int .i64 x.kind) ∧ w.cell? (ad.add (2 * j + 1)) = some (.string x.body)
theorem ExAt.kept {w w' : World} {v : Value} {l : List Ex} (h : ExAt w v l) (hb : Below w.heap.size w w') : ExAt w' v l := by
  obtain ⟨a, cap, rfl, h⟩ := h
  refine ⟨a, cap, rfl, fun j x hj => ?_⟩
  obtain ⟨ad, ha, hl, h1, h2⟩ := h j x hj
  exact ⟨ad, ha, Nat.lt_of_lt_of_le hl hb.size, by rw [hb.cell (by rw [add_blk]; exact hl)]; exact h1, by rw [hb.cell (by rw [add_blk]; exact hl)]; exact h2⟩
theorem ExAt.nil (w : World) : ExAt w (.slice none 0 0) [] := ⟨none, 0, rfl, fun j x h => by simp at h⟩
section
variable {w : World} {g : Nat} {P : Pk} {v : Value}
theorem pk_sv (h : SAt w g 39 46 (pkV P v)) : w.cell? ⟨g, 0, none⟩ = some (.bool P.sv) := h.at 0 (by decide)
theorem pk_dv (h : SAt w g 39 46 (pkV P v)) : w.cell? ⟨g, 17, none⟩ = some (.bool P.dv) := h.at 17 (by decide)
theorem pk_proto (h : SAt w g 39 46 (pkV P v)) : w.cell? ⟨g, 34, none⟩ = some (.int .i64 P.proto) := h.at 34 (by decide)
theorem pk_hop (h : SAt w g 39 46 (pkV P v)) : w.cell? ⟨g, 35, none⟩ = some (.int .i64 P.hop) := h.at 35 (by decide)
theorem pk_cls (h : SAt w g 39 46 (pkV P v)) : w.cell? ⟨g, 36, none⟩ = some (.int .i64 P.cls) := h.at 36 (by decide)
theorem pk_id (h : SAt w g 39 46 (pkV P v)) : w.cell? ⟨g, 37, none⟩ = some (.int .i64 P.id) := h.at 37 (by decide)
theorem pk_off (h : SAt w g 39 46 (pkV P v)) : w.cell? ⟨g, 38, none⟩ = some (.int .i64 P.off) := h.at 38 (by decide)
theorem pk_more (h : SAt w g 39 46 (pkV P v)) : w.cell? ⟨g, 39, none⟩ = some (.bool P.more) := h.at 39 (by decide)
theorem pk_still (h : SAt w g 39 46 (pkV P v)) : w.cell? ⟨g, 40, none⟩ = some (.bool P.still) := h.at 40 (by decide)
theorem pk_opts (h : SAt w g 39 46 (pkV P v)) : w.cell? ⟨g, 41, none⟩ = some (.string P.opts) := h.at 41 (by decide)
theorem pk_flow (h : SAt w g 39 46 (pkV P v)) : w.cell? ⟨g, 42, none⟩ = some (.int .i64 P.flow) := h.at 42 (by decide)
theorem pk_exts (h : SAt w g 39 46 (pkV P v)) : w.cell? ⟨g, 43, none⟩ = some v := h.at 43 (by decide)
theorem pk_cut (h : SAt w g 39 46 (pkV P v)) : w.cell? ⟨g, 44, none⟩ = some (.bool P.cut) := h.at 44 (by decide)
theorem pk_pay (h : SAt w g 39 46 (pkV P v)) : w.cell? ⟨g, 45, none⟩ = some (.string P.pay) := h.at 45 (by decide)
theorem ex_kind {x : Ex} (h : SAt w g 88 2 (exV x)) : w.cell? ⟨g, 0, none⟩ = some (.int .i64 x.kind) := h.at 0 (by decide)
theorem ex_body {x : Ex} (h : SAt w g 88 2 (exV x)) : w.cell? ⟨g, 1, none⟩ = some (.string x.body) := h.at 1 (by decide)
theorem ldP {p : Addr} {n : Int} (h : w.cell? p = some (.int .i64 n)) : (Instr.loadAt 3 (.pointer (some p))).run Tryd.prog w = .ok (.int .i64 n) w := by simp [go_sem, h]
theorem ldPb {p : Addr} {b : Bool} (h : w.cell? p = some (.bool b)) : (Instr.loadAt 4 (.pointer (some p))).run Tryd.prog w = .ok (.bool b) w := by simp [go_sem, h]
theorem ldPs {p : Addr} {s : ByteArray} (h : w.cell? p = some (.string s)) : (Instr.loadAt 9 (.pointer (some p))).run Tryd.prog w = .ok (.string s) w := by simp [go_sem, h]
theorem ldPx {p : Addr} {x : Value} (h : w.cell? p = some x) : (Instr.loadAt 37 (.pointer (some p))).run Tryd.prog w = .ok x w := by simp [go_sem, h]
theorem ld_src (h : SAt w g 39 46 (pkV P v)) : (Instr.loadAt 24 (.pointer (some ⟨g, 0, none⟩))).run Tryd.prog w = .ok (.agg (SC 17 (adV P.sv P.sb))) w := by
  refine run_loadAt_addr w ⟨g, 0, none⟩ 24 ((List.range 17).map (adV P.sv P.sb)) _ (fun j x hj => ?_) Tryd.underlying24 rfl (by rw [List.length_map, List.length_range]; kernel_rfl)
  rw [List.getElem?_map] at hj
  have hl : j < 17 := by
    rcases Nat.lt_or_ge j 17 with h | h
    · exact h
    · rw [List.getElem?_eq_none (by simpa using h)] at hj; cases hj
  rw [List.getElem?_range hl] at hj
  rw [Addr.add_lit, Nat.zero_add, h.at j (by omega)]
  unfold pkV
  rw [if_pos hl]
  exact hj
theorem ld_dst (h : SAt w g 39 46 (pkV P v)) : (Instr.loadAt 24 (.pointer (some ⟨g, 17, none⟩))).run Tryd.prog w = .ok (.agg (SC 17 (adV P.dv P.db))) w := by
  refine run_loadAt_addr w ⟨g, 17, none⟩ 24 ((List.range 17).map (adV P.dv P.db)) _ (fun j x hj => ?_) Tryd.underlying24 rfl (by rw [List.length_map, List.length_range]; kernel_rfl)
  rw [List.getElem?_map] at hj
  have hl : j < 17 := by
    rcases Nat.lt_or_ge j 17 with h | h
    · exact h
    · rw [List.getElem?_eq_none (by simpa using h)] at hj; cases hj
  rw [List.getElem?_range hl] at hj
  rw [Addr.add_lit, h.at (17 + j) (by omega)]
  unfold pkV
  rw [if_neg (by omega), if_pos (by omega), Nat.add_sub_cancel_left]
  exact hj
end
section
variable {a : Act} {o : Oper} {w : World} {x y : Operand} {t : TypeId}
def pkO (k : Nat) : Nat := if k = 0 then 0 else if k = 1 then 17 else k + 32
theorem exec_fpk (k : Nat) (hk : k < 14) (ho : o.op = .fieldAddr 39 x k) {g : Nat} (hx : a.eval x = .pointer (some ⟨g, 0, none⟩)) : (execOp a.eval o).run Tryd.prog w = .ok (.value (.pointer (some ⟨g, pkO k, none⟩))) w := by
  have h : (Instr.fieldAt 39 (.pointer (some ⟨g, 0, none⟩)) k).run Tryd.prog w = .ok (.pointer (some ⟨g, pkO k, none⟩)) w := by
    match k, hk with
    | 0, _ => simp [go_sem, pkO]
    | 1, _ => simp [go_sem, pkO]
    | 2, _ => simp [go_sem, pkO]
    | 3, _ => simp [go_sem, pkO]
    | 4, _ => simp [go_sem, pkO]
    | 5, _ => simp [go_sem, pkO]
    | 6, _ => simp [go_sem, pkO]
    | 7, _ => simp [go_sem, pkO]
    | 8, _ => simp [go_sem, pkO]
    | 9, _ => simp [go_sem, pkO]
    | 10, _ => simp [go_sem, pkO]
    | 11, _ => simp [go_sem, pkO]
    | 12, _ => simp [go_sem, pkO]
    | 13, _ => simp [go_sem, pkO]
  unfold execOp
  simp only [ho, hx, Sem.run_bind, h, Result.andThen_ok, Sem.run_pure]
theorem exec_fex (k : Nat) (hk : k < 2) (ho : o.op = .fieldAddr 88 x k) {ad : Addr} (hx : a.eval x = .pointer (some ad)) : (execOp a.eval o).run Tryd.prog w = .ok (.value (.pointer (some (ad.add k)))) w := by
  have h : (Instr.fieldAt 88 (.pointer (some ad)) k).run Tryd.prog w = .ok (.pointer (some (ad.add k))) w := by
    match k, hk with
    | 0, _ => simp [go_sem]
    | 1, _ => simp [go_sem]
  unfold execOp
  simp only [ho, hx, Sem.run_bind, h, Result.andThen_ok, Sem.run_pure]
theorem exec_fexG (k : Nat) (hk : k < 2) (ho : o.op = .fieldAddr 88 x k) {g : Nat} (hx : a.eval x = .pointer (some ⟨g, 0, none⟩)) : (execOp a.eval o).run Tryd.prog w = .ok (.value (.pointer (some ⟨g, k, none⟩))) w := by
  have := exec_fex (w := w) k hk ho hx
  rwa [Addr.add_lit, Nat.zero_add] at this
theorem exec_fad0 (ho : o.op = .fieldAddr 24 x 0) {g f : Nat} (hx : a.eval x = .pointer (some ⟨g, f, none⟩)) : (execOp a.eval o).run Tryd.prog w = .ok (.value (.pointer (some ⟨g, f, none⟩))) w := by
  have h : (Instr.fieldAt 24 (.pointer (some ⟨g, f, none⟩)) 0).run Tryd.prog w = .ok (.pointer (some ⟨g, f, none⟩)) w := by simp [go_sem]
  unfold execOp
  simp only [ho, hx, Sem.run_bind, h, Result.andThen_ok, Sem.run_pure]
theorem exec_ixE (ho : o.op = .indexAddr 37 x y) {p : Addr} {n c i : Nat} (hx : a.eval x = .slice (some p) n c) (hy : a.eval y = .int .i64 (i : Int)) (hi : i < n) : (execOp a.eval o).run Tryd.prog w = .ok (.value (.pointer (some (p.add (2 * i))))) w := by
  unfold execOp
  simp only [ho, hx, hy, Sem.run_bind]
  rw [run_indexAt_slice w 37 _ n c .i64 (i : Int) Tryd.underlying37, if_pos ⟨by omega, by omega⟩]
  have e : (sizeOf (Tryd.prog.elem 37)).run Tryd.prog w = .ok 2 w := by kernel_rfl
  simp [e, Nat.mul_comm]
theorem exec_lenX (ho : o.op = .call { callee := .builtin .len, args := #[x], argTypes := #[37] }) {ad : Option Addr} {n c : Nat} (hx : a.eval x = .slice ad n c) : (execOp a.eval o).run Tryd.prog w = .ok (.value (.int .i64 (n : Int))) w := by
  have hr : (Builtin.len_ #[37] o.type #[.slice ad n c]).run Tryd.prog w = .ok (goInt n) w := by simp [go_sem]
  simp [execOp, ho, resolve, invoke, builtin, hx, hr, goInt]
theorem ldEx {p : Addr} {e : Ex} (h1 : w.cell? p = some (.int .i64 e.kind)) (h2 : w.cell? (p.add 1) = some (.string e.body)) : (Instr.loadAt 88 (.pointer (some p))).run Tryd.prog w = .ok (.agg (SC 2 (exV e))) w := by
  refine run_loadAt_addr w p 88 [.int .i64 e.kind, .string e.body] _ (fun j x hj => ?_) Tryd.underlying88 rfl (by kernel_rfl)
  match j, hj with
  | 0, hj =>
    simp at hj
    subst hj
    have e0 : p.add 0 = p := by cases p with | mk b o q => cases q <;> simp [Addr.add]
    rw [e0]
    exact h1
  | 1, hj => simp at hj; subst hj; exact h2
theorem exec_pk0 (ho : o.op = .build 39 #[]) : (execOp a.eval o).run Tryd.prog w = .ok (.value (.agg (SC 46 (pkV zeroP (.slice none 0 0))))) w := by
  unfold execOp
  simp only [ho, List.map_toArray, List.map_nil, Sem.run_bind, run_pk0, Result.andThen_ok, Sem.run_pure]
-- comparisons whose outcome nobody knows
theorem cmp_eq (ho : o.op = .binOp .eql 3 x y 3) {m n : Int} (hx : a.eval x = .int .i64 m) (hy : a.eval y = .int .i64 n) : (execOp a.eval o).run Tryd.prog w = .ok (.value (.bool (decide (m = n)))) w := exec_bin2 ho hx hy rfl (by simp [go_sem]; exact (Bool.beq_eq_decide_eq m n))
theorem cmp_ne (ho : o.op = .binOp .neq 3 x y 3) {m n : Int} (hx : a.eval x = .int .i64 m) (hy : a.eval y = .int .i64 n) : (execOp a.eval o).run Tryd.prog w = .ok (.value (.bool (!decide (m = n)))) w := exec_bin2 ho hx hy rfl (by simp [go_sem, bne, Bool.beq_eq_decide_eq])
theorem cmp_lt (ho : o.op = .binOp .lss 3 x y 3) {m n : Int} (hx : a.eval x = .int .i64 m) (hy : a.eval y = .int .i64 n) : (execOp a.eval o).run Tryd.prog w = .ok (.value (.bool (decide (m < n)))) w := exec_bin2 ho hx hy rfl (by simp [go_sem])
theorem cmp_le (ho : o.op = .binOp .leq 3 x y 3) {m n : Int} (hx : a.eval x = .int .i64 m) (hy : a.eval y = .int .i64 n) : (execOp a.eval o).run Tryd.prog w = .ok (.value (.bool (decide (m ≤ n)))) w := exec_bin2 ho hx hy rfl (by simp [go_sem])
theorem cmp_gt (ho : o.op = .binOp .gtr 3 x y 3) {m n : Int} (hx : a.eval x = .int .i64 m) (hy : a.eval y = .int .i64 n) : (execOp a.eval o).run Tryd.prog w = .ok (.value (.bool (decide (n < m)))) w := exec_bin2 ho hx hy rfl (by simp [go_sem])
theorem cmp_ge (ho : o.op = .binOp .geq 3 x y 3) {m n : Int} (hx : a.eval x = .int .i64 m) (hy : a.eval y = .int .i64 n) : (execOp a.eval o).run Tryd.prog w = .ok (.value (.bool (decide (n ≤ m)))) w := exec_bin2 ho hx hy rfl (by simp [go_sem])
theorem cmp_eqE (ho : o.op = .binOp .eql 31 x y 31) {m n : Int} (hx : a.eval x = .int .i64 m) (hy : a.eval y = .int .i64 n) : (execOp a.eval o).run Tryd.prog w = .ok (.value (.bool (decide (m = n)))) w := exec_bin2 ho hx hy rfl (by simp [go_sem]; exact (Bool.beq_eq_decide_eq m n))
theorem cmp_neE (ho : o.op = .binOp .neq 31 x y 31) {m n : Int} (hx : a.eval x = .int .i64 m) (hy : a.eval y = .int .i64 n) : (execOp a.eval o).run Tryd.prog w = .ok (.value (.bool (!decide (m = n)))) w := exec_bin2 ho hx hy rfl (by simp [go_sem, bne, Bool.beq_eq_decide_eq])
theorem cmp_eqB (ho : o.op = .binOp .eql 4 x y 4) {m n : Bool} (hx : a.eval x = .bool m) (hy : a.eval y = .bool n) : (execOp a.eval o).run Tryd.prog w = .ok (.value (.bool (m == n))) w := exec_bin2 ho hx hy rfl (by simp [go_sem])
theorem cmp_neB (ho : o.op = .binOp .neq 4 x y 4) {m n : Bool} (hx : a.eval x = .bool m) (hy : a.eval y = .bool n) : (execOp a.eval o).run Tryd.prog w = .ok (.value (.bool (!(m == n)))) w := exec_bin2 ho hx hy rfl (by simp [go_sem])
theorem cmp_neS (ho : o.op = .binOp .neq 9 x y 9) {s t : ByteArray} (hx : a.eval x = .string s) (hy : a.eval y = .string t) : (execOp a.eval o).run Tryd.prog w = .ok (.value (.bool (!decide (s = t)))) w := by
  by_cases e : s = t
  · subst e
    exact exec_bin2 ho hx hy rfl (by simp [go_sem])
  · rw [decide_eq_false e]
    exact exec_neqST ho hx hy e
theorem rem_nn (ho : o.op = .binOp .rem 3 x y 3) {m n : Int} (hx : a.eval x = .int .i64 m) (hy : a.eval y = .int .i64 n) (h0 : 0 ≤ m) (hn : 0 < n) : (execOp a.eval o).run Tryd.prog w = .ok (.value (.int .i64 (m % n))) w := by
  obtain ⟨i, rfl⟩ := Int.eq_ofNat_of_zero_le h0
  obtain ⟨k, rfl⟩ := Int.eq_ofNat_of_zero_le (by omega : 0 ≤ n)
  have := exec_remW (w := w) (q := i % k) ho hx hy rfl (by omega)
  exact this
theorem exec_cvIU64 (ho : o.op = .convert 3 72 x) {m : Int} (hx : a.eval x = .int .i64 m) (h0 : 0 ≤ m) (h1 : m < 9223372036854775808) : (execOp a.eval o).run Tryd.prog w = .ok (.value (.int .u64 ((m.toNat : Nat) : Int))) w := by
  have e : IntKind.u64.wrap m = ((m.toNat : Nat) : Int) := by rw [IntKind.wrap_u64]; omega
  unfold execOp
  simp only [ho, hx]
  simp [go_sem, e]
end
end Go.Proofs.YtojekoakgpkkdaaDoor

/-
  Own text. Small functions of the program and of the document: numbers within bounds, kinds of headers.
-/
namespace Go.Proofs.YtojekoakgpkkdaaDoor
open Go.RowKit Go.Proofs
set_option maxRecDepth 100000
theorem isEx_d (k : Int) : isEx k = (decide (k = 0) || decide (k = 43) || decide (k = 60)) := rfl
theorem isHd_d (k : Int) : isHd k = (isEx k || decide (k = 44)) := rfl
theorem isHd_e (k : Int) : isHd k = (decide (k = 0) || decide (k = 43) || decide (k = 44) || decide (k = 60)) := by
  unfold isHd isEx
  by_cases h : k = 60
  · subst h; decide
  · by_cases h2 : k = 44
    · subst h2; decide
    · have e1 : (k == 60) = false := by simpa using h
      have e2 : (k == 44) = false := by simpa using h2
      rw [e1, e2, decide_eq_false h, decide_eq_false h2, Bool.or_false, Bool.or_false, Bool.or_false, Bool.or_false]
      rfl
theorem mayB_d (k : Int) (i : Nat) : mayB k i = (decide ((i : Int) < 4) && (!decide (k = 0) || decide ((i : Int) = 0))) := by
  unfold mayB
  have e1 : decide (i < 4) = decide ((i : Int) < 4) := by congr 1; exact propext ⟨fun h => by omega, fun h => by omega⟩
  have e2 : decide (i = 0) = decide ((i : Int) = 0) := by congr 1; exact propext ⟨fun h => by omega, fun h => by omega⟩
  rw [e1, e2]
  rfl
set_option maxHeartbeats 4000000 in
theorem upTo_run (n m : Int) (w : World) : Calls Tryd.prog 48 #[.int .i64 n, .int .i64 m] w fun e w' => e = .returned (.bool (upB n m)) ∧ Below w.heap.size w w' := by
  go_enter Tryd.func48, Tryd.ntmps48
  go_upto_region 1 with fail
  refine wp_plain_steps (Below w.heap.size w) (fun v v' => Below v.heap.size v v') (fun j vv _ => vv = ([.int .i64 n, .bool (decide (0 ≤ n)), .bool (decide (0 ≤ n)), gv (decide (0 ≤ n)) (.int .i64 n), gv (decide (0 ≤ n)) (.int .i64 m), gv (decide (0 ≤ n)) (.bool (decide (n ≤ m))), .bool ((decide (0 ≤ n)) && (decide (n ≤ m))), .bool ((decide (0 ≤ n)) && (decide (n ≤ m)))] : List Value).getD j undef)
      [5, 6, 7, 8, 9, 10, 11, 4]
      [(0, .int .i64 n), (1, .int .i64 m)] [] 0
      [[], [0], [1], [2], [2], [2, 3, 4], [2, 5], [6]]
      (by kernel_rfl) ⟨rfl, rfl, trivial⟩ trivial (Below.refl _ _) (fun v v' h hb => h.trans (hb.mono h.size)) (fun _ _ _ _ h _ => h)
      ⟨
      (fun QQ aa ww hS fr kn => sg0 rfl (fun K hK => wp_value (exec_move rfl fr.1) (hK _ _ rfl (Below.refl _ _)))),
      (fun QQ aa ww hS fr kn => sg0 rfl (fun K hK => wp_value (cmp_ge (m := n) (n := 0) rfl kn.1 rfl) (hK _ _ rfl (Below.refl _ _)))),
      (fun QQ aa ww hS fr kn => sg0 rfl (fun K hK => wp_value (exec_move rfl kn.1) (hK _ _ rfl (Below.refl _ _)))),
      (fun QQ aa ww hS fr kn => sgT rfl kn.1 (fun hc K hK => wp_value (exec_move rfl fr.1) (hK _ _ (gv_t hc).symm (Below.refl _ _))) (fun h0 => (gv_f h0).symm)),
      (fun QQ aa ww hS fr kn => sgT rfl kn.1 (fun hc K hK => wp_value (exec_move rfl fr.2.1) (hK _ _ (gv_t hc).symm (Below.refl _ _))) (fun h0 => (gv_f h0).symm)),
      (fun QQ aa ww hS fr kn => sgT rfl kn.1 (fun hc K hK => wp_value (cmp_le (m := n) (n := m) rfl (kn.2.1.trans (gv_t hc)) (kn.2.2.1.trans (gv_t hc))) (hK _ _ (gv_t hc).symm (Below.refl _ _))) (fun h0 => (gv_f h0).symm)),
      (fun QQ aa ww hS fr kn => sg0 rfl (fun K hK => wp_value (exec_pickAnd rfl kn.1 (fun hx => kn.2.1.trans (gv_t hx)) rfl) (hK _ _ rfl (Below.refl _ _)))),
      (fun QQ aa ww hS fr kn => sg0 rfl (fun K hK => wp_value (exec_assign rfl kn.1) (hK _ _ rfl (Below.refl _ _)))),
      trivial⟩ ?_
  intro vs u2 hB2 kn
  have e4 : vs 4 = .bool ((decide (0 ≤ n)) && (decide (n ≤ m))) := kn 7 (by decide)
  clear kn
  simp only [putAll, Act.put, List.setIfInBounds_toArray, List.set_cons_zero, List.set_cons_succ, e4]
  clear e4
  go_wp2_with fail
  go_ret
  exact ⟨rfl, hB2⟩
set_option maxHeartbeats 4000000 in
theorem within_run (n m : Int) (w : World) : Calls Tryd.prog 91 #[.int .i64 n, .int .i64 m] w fun e w' => e = .returned (.bool (upB n m)) ∧ Below w.heap.size w w' := by
  go_enter Tryd.func91, Tryd.ntmps91
  go_upto_region 1 with fail
  refine wp_plain_steps (Below w.heap.size w) (fun v v' => Below v.heap.size v v') (fun j vv _ => vv = ([.int .i64 n, .bool (decide (0 ≤ n)), .bool (decide (0 ≤ n)), gv (decide (0 ≤ n)) (.int .i64 n), gv (decide (0 ≤ n)) (.int .i64 m), gv (decide (0 ≤ n)) (.bool (decide (n ≤ m))), .bool ((decide (0 ≤ n)) && (decide (n ≤ m))), .bool ((decide (0 ≤ n)) && (decide (n ≤ m)))] : List Value).getD j undef)
      [5, 6, 7, 8, 9, 10, 11, 4]
      [(0, .int .i64 n), (1, .int .i64 m)] [] 0
      [[], [0], [1], [2], [2], [2, 3, 4], [2, 5], [6]]
      (by kernel_rfl) ⟨rfl, rfl, trivial⟩ trivial (Below.refl _ _) (fun v v' h hb => h.trans (hb.mono h.size)) (fun _ _ _ _ h _ => h)
      ⟨
      (fun QQ aa ww hS fr kn => sg0 rfl (fun K hK => wp_value (exec_move rfl fr.1) (hK _ _ rfl (Below.refl _ _)))),
      (fun QQ aa ww hS fr kn => sg0 rfl (fun K hK => wp_value (cmp_ge (m := n) (n := 0) rfl kn.1 rfl) (hK _ _ rfl (Below.refl _ _)))),
      (fun QQ aa ww hS fr kn => sg0 rfl (fun K hK => wp_value (exec_move rfl kn.1) (hK _ _ rfl (Below.refl _ _)))),
      (fun QQ aa ww hS fr kn => sgT rfl kn.1 (fun hc K hK => wp_value (exec_move rfl fr.1) (hK _ _ (gv_t hc).symm (Below.refl _ _))) (fun h0 => (gv_f h0).symm)),
      (fun QQ aa ww hS fr kn => sgT rfl kn.1 (fun hc K hK => wp_value (exec_move rfl fr.2.1) (hK _ _ (gv_t hc).symm (Below.refl _ _))) (fun h0 => (gv_f h0).symm)),
      (fun QQ aa ww hS fr kn => sgT rfl kn.1 (fun hc K hK => wp_value (cmp_le (m := n) (n := m) rfl (kn.2.1.trans (gv_t hc)) (kn.2.2.1.trans (gv_t hc))) (hK _ _ (gv_t hc).symm (Below.refl _ _))) (fun h0 => (gv_f h0).symm)),
      (fun QQ aa ww hS fr kn => sg0 rfl (fun K hK => wp_value (exec_pickAnd rfl kn.1 (fun hx => kn.2.1.trans (gv_t hx)) rfl) (hK _ _ rfl (Below.refl _ _)))),
      (fun QQ aa ww hS fr kn => sg0 rfl (fun K hK => wp_value (exec_assign rfl kn.1) (hK _ _ rfl (Below.refl _ _)))),
      trivial⟩ ?_
  intro vs u2 hB2 kn
  have e4 : vs 4 = .bool ((decide (0 ≤ n)) && (decide (n ≤ m))) := kn 7 (by decide)
  clear kn
  simp only [putAll, Act.put, List.setIfInBounds_toArray, List.set_cons_zero, List.set_cons_succ, e4]
  clear e4
  go_wp2_with fail
  go_ret
  exact ⟨rfl, hB2⟩
set_option maxHeartbeats 4000000 in
theorem isExt_run (k : Int) (w : World) : Calls Tryd.prog 94 #[.int .i64 k] w fun e w' => e = .returned (.bool (isEx k)) ∧ Below w.heap.size w w' := by
  go_enter Tryd.func94, Tryd.ntmps94
  go_upto_region 1 with fail
  refine wp_plain_steps (Below w.heap.size w) (fun v v' => Below v.heap.size v v') (fun j vv _ => vv = ([.int .i64 k, .bool (decide (k = 0)), .bool (decide (k = 0)), gv (!(decide (k = 0))) (.int .i64 k), gv (!(decide (k = 0))) (.bool (decide (k = 43))), .bool ((decide (k = 0)) || (decide (k = 43))), .bool ((decide (k = 0)) || (decide (k = 43))), gv (!((decide (k = 0)) || (decide (k = 43)))) (.int .i64 k), gv (!((decide (k = 0)) || (decide (k = 43)))) (.bool (decide (k = 60))), .bool (((decide (k = 0)) || (decide (k = 43))) || (decide (k = 60))), .bool (((decide (k = 0)) || (decide (k = 43))) || (decide (k = 60)))] : List Value).getD j undef)
      [3, 4, 5, 6, 7, 8, 9, 10, 11, 12, 2]
      [(0, .int .i64 k)] [] 0
      [[], [0], [1], [2], [2, 3], [2, 4], [5], [6], [6, 7], [6, 8], [9]]
      (by kernel_rfl) ⟨rfl, trivial⟩ trivial (Below.refl _ _) (fun v v' h hb => h.trans (hb.mono h.size)) (fun _ _ _ _ h _ => h)
      ⟨
      (fun QQ aa ww hS fr kn => sg0 rfl (fun K hK => wp_value (exec_move rfl fr.1) (hK _ _ rfl (Below.refl _ _)))),
      (fun QQ aa ww hS fr kn => sg0 rfl (fun K hK => wp_value (cmp_eq (m := k) (n := 0) rfl kn.1 rfl) (hK _ _ rfl (Below.refl _ _)))),
      (fun QQ aa ww hS fr kn => sg0 rfl (fun K hK => wp_value (exec_move rfl kn.1) (hK _ _ rfl (Below.refl _ _)))),
      (fun QQ aa ww hS fr kn => sgF rfl kn.1 (fun hng K hK => have hc := nt_t hng; wp_value (exec_move rfl fr.1) (hK _ _ (gv_t hc).symm (Below.refl _ _))) (fun h0 => (gv_f (nt_f h0)).symm)),
      (fun QQ aa ww hS fr kn => sgF rfl kn.1 (fun hng K hK => have hc := nt_t hng; wp_value (cmp_eq (m := k) (n := 43) rfl (kn.2.1.trans (gv_t hc)) rfl) (hK _ _ (gv_t hc).symm (Below.refl _ _))) (fun h0 => (gv_f (nt_f h0)).symm)),
      (fun QQ aa ww hS fr kn => sg0 rfl (fun K hK => wp_value (exec_pickOr rfl kn.1 rfl (fun hx => kn.2.1.trans (gv_t (nt_t hx)))) (hK _ _ rfl (Below.refl _ _)))),
      (fun QQ aa ww hS fr kn => sg0 rfl (fun K hK => wp_value (exec_move rfl kn.1) (hK _ _ rfl (Below.refl _ _)))),
      (fun QQ aa ww hS fr kn => sgF rfl kn.1 (fun hng K hK => have hc := nt_t hng; wp_value (exec_move rfl fr.1) (hK _ _ (gv_t hc).symm (Below.refl _ _))) (fun h0 => (gv_f (nt_f h0)).symm)),
      (fun QQ aa ww hS fr kn => sgF rfl kn.1 (fun hng K hK => have hc := nt_t hng; wp_value (cmp_eq (m := k) (n := 60) rfl (kn.2.1.trans (gv_t hc)) rfl) (hK _ _ (gv_t hc).symm (Below.refl _ _))) (fun h0 => (gv_f (nt_f h0)).symm)),
      (fun QQ aa ww hS fr kn => sg0 rfl (fun K hK => wp_value (exec_pickOr rfl kn.1 rfl (fun hx => kn.2.1.trans (gv_t (nt_t hx)))) (hK _ _ rfl (Below.refl _ _)))),
      (fun QQ aa ww hS fr kn => sg0 rfl (fun K hK => wp_value (exec_assign rfl kn.1) (hK _ _ rfl (Below.refl _ _)))),
      trivial⟩ ?_
  intro vs u2 hB2 kn
  have e2 : vs 2 = .bool (((decide (k = 0)) || (decide (k = 43))) || (decide (k = 60))) := kn 10 (by decide)
  clear kn
  simp only [putAll, Act.put, List.setIfInBounds_toArray, List.set_cons_zero, List.set_cons_succ, e2]
  clear e2
  go_wp2_with fail
  go_ret
  exact ⟨by rw [isEx_d]; rfl, hB2⟩
theorem en_upTo (args : Array Value) (w : World) : (callFunc 48 args).run Tryd.prog w = .ok (.enter 48 args) w := by kernel_rfl
theorem en_within (args : Array Value) (w : World) : (callFunc 91 args).run Tryd.prog w = .ok (.enter 91 args) w := by kernel_rfl
theorem en_isExt (args : Array Value) (w : World) : (callFunc 94 args).run Tryd.prog w = .ok (.enter 94 args) w := by kernel_rfl
set_option maxHeartbeats 4000000 in
theorem isHeader_run (k : Int) (w : World) : Calls Tryd.prog 76 #[.int .i64 k] w fun e w' => e = .returned (.bool (isHd k)) ∧ Below w.heap.size w w' := by
  go_enter Tryd.func76, Tryd.ntmps76
  go_upto_region 1 with fail
  refine wp_plain_steps (Below w.heap.size w) (fun v v' => Below v.heap.size v v') (fun j vv _ => vv = ([.int .i64 k, .bool (isEx k), .bool (isEx k), gv (!(isEx k)) (.int .i64 k), gv (!(isEx k)) (.bool (decide (k = 44))), .bool ((isEx k) || (decide (k = 44))), .bool ((isEx k) || (decide (k = 44)))] : List Value).getD j undef)
      [3, 4, 5, 6, 7, 8, 2]
      [(0, .int .i64 k)] [] 0
      [[], [0], [1], [2], [2, 3], [2, 4], [5]]
      (by kernel_rfl) ⟨rfl, trivial⟩ trivial (Below.refl _ _) (fun v v' h hb => h.trans (hb.mono h.size)) (fun _ _ _ _ h _ => h)
      ⟨
      (fun QQ aa ww hS fr kn => sg0 rfl (fun K hK => wp_value (exec_move rfl fr.1) (hK _ _ rfl (Below.refl _ _)))),
      (fun QQ aa ww hS fr kn => sg0 rfl (fun K hK => stepc en_isExt rfl (args1 kn.1) (isExt_run k ww) (fun w' hb => hK _ _ rfl hb))),
      (fun QQ aa ww hS fr kn => sg0 rfl (fun K hK => wp_value (exec_move rfl kn.1) (hK _ _ rfl (Below.refl _ _)))),
      (fun QQ aa ww hS fr kn => sgF rfl kn.1 (fun hng K hK => have hc := nt_t hng; wp_value (exec_move rfl fr.1) (hK _ _ (gv_t hc).symm (Below.refl _ _))) (fun h0 => (gv_f (nt_f h0)).symm)),
      (fun QQ aa ww hS fr kn => sgF rfl kn.1 (fun hng K hK => have hc := nt_t hng; wp_value (cmp_eq (m := k) (n := 44) rfl (kn.2.1.trans (gv_t hc)) rfl) (hK _ _ (gv_t hc).symm (Below.refl _ _))) (fun h0 => (gv_f (nt_f h0)).symm)),
      (fun QQ aa ww hS fr kn => sg0 rfl (fun K hK => wp_value (exec_pickOr rfl kn.1 rfl (fun hx => kn.2.1.trans (gv_t (nt_t hx)))) (hK _ _ rfl (Below.refl _ _)))),
      (fun QQ aa ww hS fr kn => sg0 rfl (fun K hK => wp_value (exec_assign rfl kn.1) (hK _ _ rfl (Below.refl _ _)))),
      trivial⟩ ?_
  intro vs u2 hB2 kn
  have e2 : vs 2 = .bool ((isEx k) || (decide (k = 44))) := kn 6 (by decide)
  clear kn
  simp only [putAll, Act.put, List.setIfInBounds_toArray, List.set_cons_zero, List.set_cons_succ, e2]
  clear e2
  go_wp2_with fail
  go_ret
  exact ⟨by rw [isHd_d]; rfl, hB2⟩
set_option maxHeartbeats 4000000 in
theorem rIsExt_run (k : Int) (w : World) : Calls Tryd.prog 93 #[.int .i64 k] w fun e w' => e = .returned (.bool (isHd k)) ∧ Below w.heap.size w w' := by
  go_enter Tryd.func93, Tryd.ntmps93
  go_upto_region 1 with fail
  refine wp_plain_steps (Below w.heap.size w) (fun v v' => Below v.heap.size v v') (fun j vv _ => vv = ([.int .i64 k, .bool (decide (k = 0)), .bool (decide (k = 0)), gv (!(decide (k = 0))) (.int .i64 k), gv (!(decide (k = 0))) (.bool (decide (k = 43))), .bool ((decide (k = 0)) || (decide (k = 43))), .bool ((decide (k = 0)) || (decide (k = 43))), gv (!((decide (k = 0)) || (decide (k = 43)))) (.int .i64 k), gv (!((decide (k = 0)) || (decide (k = 43)))) (.bool (decide (k = 44))), .bool (((decide (k = 0)) || (decide (k = 43))) || (decide (k = 44))), .bool (((decide (k = 0)) || (decide (k = 43))) || (decide (k = 44))), gv (!(((decide (k = 0)) || (decide (k = 43))) || (decide (k = 44)))) (.int .i64 k), gv (!(((decide (k = 0)) || (decide (k = 43))) || (decide (k = 44)))) (.bool (decide (k = 60))), .bool ((((decide (k = 0)) || (decide (k = 43))) || (decide (k = 44))) || (decide (k = 60))), .bool ((((decide (k = 0)) || (decide (k = 43))) || (decide (k = 44))) || (decide (k = 60)))] : List Value).getD j undef)
      [3, 4, 5, 6, 7, 8, 9, 10, 11, 12, 13, 14, 15, 16, 2]
      [(0, .int .i64 k)] [] 0
      [[], [0], [1], [2], [2, 3], [2, 4], [5], [6], [6, 7], [6, 8], [9], [10], [10, 11], [10, 12], [13]]
      (by kernel_rfl) ⟨rfl, trivial⟩ trivial (Below.refl _ _) (fun v v' h hb => h.trans (hb.mono h.size)) (fun _ _ _ _ h _ => h)
      ⟨
      (fun QQ aa ww hS fr kn => sg0 rfl (fun K hK => wp_value (exec_move rfl fr.1) (hK _ _ rfl (Below.refl _ _)))),
      (fun QQ aa ww hS fr kn => sg0 rfl (fun K hK => wp_value (cmp_eq (m := k) (n := 0) rfl kn.1 rfl) (hK _ _ rfl (Below.refl _ _)))),
      (fun QQ aa ww hS fr kn => sg0 rfl (fun K hK => wp_value (exec_move rfl kn.1) (hK _ _ rfl (Below.refl _ _)))),
      (fun QQ aa ww hS fr kn => sgF rfl kn.1 (fun hng K hK => have hc := nt_t hng; wp_value (exec_move rfl fr.1) (hK _ _ (gv_t hc).symm (Below.refl _ _))) (fun h0 => (gv_f (nt_f h0)).symm)),
      (fun QQ aa ww hS fr kn => sgF rfl kn.1 (fun hng K hK => have hc := nt_t hng; wp_value (cmp_eq (m := k) (n := 43) rfl (kn.2.1.trans (gv_t hc)) rfl) (hK _ _ (gv_t hc).symm (Below.refl _ _))) (fun h0 => (gv_f (nt_f h0)).symm)),
      (fun QQ aa ww hS fr kn => sg0 rfl (fun K hK => wp_value (exec_pickOr rfl kn.1 rfl (fun hx => kn.2.1.trans (gv_t (nt_t hx)))) (hK _ _ rfl (Below.refl _ _)))),
      (fun QQ aa ww hS fr kn => sg0 rfl (fun K hK => wp_value (exec_move rfl kn.1) (hK _ _ rfl (Below.refl _ _)))),
      (fun QQ aa ww hS fr kn => sgF rfl kn.1 (fun hng K hK => have hc := nt_t hng; wp_value (exec_move rfl fr.1) (hK _ _ (gv_t hc).symm (Below.refl _ _))) (fun h0 => (gv_f (nt_f h0)).symm)),
      (fun QQ aa ww hS fr kn => sgF rfl kn.1 (fun hng K hK => have hc := nt_t hng; wp_value (cmp_eq (m := k) (n := 44) rfl (kn.2.1.trans (gv_t hc)) rfl) (hK _ _ (gv_t hc).symm (Below.refl _ _))) (fun h0 => (gv_f (nt_f h0)).symm)),
      (fun QQ aa ww hS fr kn => sg0 rfl (fun K hK => wp_value (exec_pickOr rfl kn.1 rfl (fun hx => kn.2.1.trans (gv_t (nt_t hx)))) (hK _ _ rfl (Below.refl _ _)))),
      (fun QQ aa ww hS fr kn => sg0 rfl (fun K hK => wp_value (exec_move rfl kn.1) (hK _ _ rfl (Below.refl _ _)))),
      (fun QQ aa ww hS fr kn => sgF rfl kn.1 (fun hng K hK => have hc := nt_t hng; wp_value (exec_move rfl fr.1) (hK _ _ (gv_t hc).symm (Below.refl _ _))) (fun h0 => (gv_f (nt_f h0)).symm)),
      (fun QQ aa ww hS fr kn => sgF rfl kn.1 (fun hng K hK => have hc := nt_t hng; wp_value (cmp_eq (m := k) (n := 60) rfl (kn.2.1.trans (gv_t hc)) rfl) (hK _ _ (gv_t hc).symm (Below.refl _ _))) (fun h0 => (gv_f (nt_f h0)).symm)),
      (fun QQ aa ww hS fr kn => sg0 rfl (fun K hK => wp_value (exec_pickOr rfl kn.1 rfl (fun hx => kn.2.1.trans (gv_t (nt_t hx)))) (hK _ _ rfl (Below.refl _ _)))),
      (fun QQ aa ww hS fr kn => sg0 rfl (fun K hK => wp_value (exec_assign rfl kn.1) (hK _ _ rfl (Below.refl _ _)))),
      trivial⟩ ?_
  intro vs u2 hB2 kn
  have e2 : vs 2 = .bool ((((decide (k = 0)) || (decide (k = 43))) || (decide (k = 44))) || (decide (k = 60))) := kn 14 (by decide)
  clear kn
  simp only [putAll, Act.put, List.setIfInBounds_toArray, List.set_cons_zero, List.set_cons_succ, e2]
  clear e2
  go_wp2_with fail
  go_ret
  exact ⟨by rw [isHd_e]; rfl, hB2⟩
set_option maxHeartbeats 4000000 in
theorem mayStand_run (k : Int) (i : Nat) (w : World) : Calls Tryd.prog 95 #[.int .i64 k, .int .i64 (i : Int)] w fun e w' => e = .returned (.bool (mayB k i)) ∧ Below w.heap.size w w' := by
  go_enter Tryd.func95, Tryd.ntmps95
  go_upto_region 1 with fail
  refine wp_plain_steps (Below w.heap.size w) (fun v v' => Below v.heap.size v v') (fun j vv _ => vv = ([.int .i64 (i : Int), .bool (decide ((i : Int) < 4)), .bool (decide ((i : Int) < 4)), gv (decide ((i : Int) < 4)) (.int .i64 k), gv (decide ((i : Int) < 4)) (.bool (!decide (k = 0))), gv (decide ((i : Int) < 4)) (.bool (!decide (k = 0))), gv ((decide ((i : Int) < 4)) && (!(!decide (k = 0)))) (.int .i64 (i : Int)), gv ((decide ((i : Int) < 4)) && (!(!decide (k = 0)))) (.bool (decide ((i : Int) = 0))), gv (decide ((i : Int) < 4)) (.bool ((!decide (k = 0)) || (decide ((i : Int) = 0)))), .bool ((decide ((i : Int) < 4)) && ((!decide (k = 0)) || (decide ((i : Int) = 0)))), .bool ((decide ((i : Int) < 4)) && ((!decide (k = 0)) || (decide ((i : Int) = 0))))] : List Value).getD j undef)
      [5, 6, 7, 8, 9, 10, 11, 12, 13, 14, 4]
      [(0, .int .i64 k), (1, .int .i64 (i : Int))] [] 0
      [[], [0], [1], [2], [2, 3], [2, 4], [5], [5, 6], [2, 5, 7], [2, 8], [9]]
      (by kernel_rfl) ⟨rfl, rfl, trivial⟩ trivial (Below.refl _ _) (fun v v' h hb => h.trans (hb.mono h.size)) (fun _ _ _ _ h _ => h)
      ⟨
      (fun QQ aa ww hS fr kn => sg0 rfl (fun K hK => wp_value (exec_move rfl fr.2.1) (hK _ _ rfl (Below.refl _ _)))),
      (fun QQ aa ww hS fr kn => sg0 rfl (fun K hK => wp_value (cmp_lt (m := (i : Int)) (n := 4) rfl kn.1 rfl) (hK _ _ rfl (Below.refl _ _)))),
      (fun QQ aa ww hS fr kn => sg0 rfl (fun K hK => wp_value (exec_move rfl kn.1) (hK _ _ rfl (Below.refl _ _)))),
      (fun QQ aa ww hS fr kn => sgT rfl kn.1 (fun hc K hK => wp_value (exec_move rfl fr.1) (hK _ _ (gv_t hc).symm (Below.refl _ _))) (fun h0 => (gv_f h0).symm)),
      (fun QQ aa ww hS fr kn => sgT rfl kn.1 (fun hc K hK => wp_value (cmp_ne (m := k) (n := 0) rfl (kn.2.1.trans (gv_t hc)) rfl) (hK _ _ (gv_t hc).symm (Below.refl _ _))) (fun h0 => (gv_f h0).symm)),
      (fun QQ aa ww hS fr kn => sgT rfl kn.1 (fun hc K hK => wp_value (exec_move rfl (kn.2.1.trans (gv_t hc))) (hK _ _ (gv_t hc).symm (Below.refl _ _))) (fun h0 => (gv_f h0).symm)),
      (fun QQ aa ww hS fr kn => sgTF rfl kn.1 (fun hc K hK => wp_value (exec_move rfl fr.2.1) (hK _ _ (gv_t hc).symm (Below.refl _ _))) (fun h0 => (gv_f h0).symm)),
      (fun QQ aa ww hS fr kn => sgTF rfl kn.1 (fun hc K hK => wp_value (cmp_eq (m := (i : Int)) (n := 0) rfl (kn.2.1.trans (gv_t hc)) rfl) (hK _ _ (gv_t hc).symm (Below.refl _ _))) (fun h0 => (gv_f h0).symm)),
      (fun QQ aa ww hS fr kn => sgT rfl kn.1 (fun hc K hK => wp_value (exec_pickOr rfl (kn.2.1.trans (gv_t hc)) rfl (fun hx => kn.2.2.1.trans (gv_t (an_t hc (nt_t hx))))) (hK _ _ (gv_t hc).symm (Below.refl _ _))) (fun h0 => (gv_f h0).symm)),
      (fun QQ aa ww hS fr kn => sg0 rfl (fun K hK => wp_value (exec_pickAnd rfl kn.1 (fun hx => kn.2.1.trans (gv_t hx)) rfl) (hK _ _ rfl (Below.refl _ _)))),
      (fun QQ aa ww hS fr kn => sg0 rfl (fun K hK => wp_value (exec_assign rfl kn.1) (hK _ _ rfl (Below.refl _ _)))),
      trivial⟩ ?_
  intro vs u2 hB2 kn
  have e4 : vs 4 = .bool ((decide ((i : Int) < 4)) && ((!decide (k = 0)) || (decide ((i : Int) = 0)))) := kn 10 (by decide)
  clear kn
  simp only [putAll, Act.put, List.setIfInBounds_toArray, List.set_cons_zero, List.set_cons_succ, e4]
  clear e4
  go_wp2_with fail
  go_ret
  exact ⟨by rw [mayB_d]; rfl, hB2⟩
theorem en_isHeader (args : Array Value) (w : World) : (callFunc 76 args).run Tryd.prog w = .ok (.enter 76 args) w := by kernel_rfl
theorem en_mayStand (args : Array Value) (w : World) : (callFunc 95 args).run Tryd.prog w = .ok (.enter 95 args) w := by kernel_rfl
end Go.Proofs.YtojekoakgpkkdaaDoor

/-
  Own text. Extension headers are compared; slices.Equal of them.
-/
namespace Go.Proofs.YtojekoakgpkkdaaDoor
open Go.RowKit Go.Proofs
set_option maxRecDepth 100000
def eqEx (x y : Ex) : Bool := decide (x.kind = y.kind) && decide (x.body = y.body)
theorem fieldsE : (Tryd.prog.fieldsOf 88).toList.map (fun f => (f.name, f.type, f.offset)) = [("Kind", 3, 0), ("Body", 9, 1)] := by kernel_rfl
theorem stoodE : Tryd.prog.stoodInHeld 88 = false := by kernel_rfl
theorem eqgE : Tryd.prog.eqGuardType Tryd.prog.depth 88 = false := by kernel_rfl
theorem partE0 (x : Ex) (w : World) : (part 3 (SC 2 (exV x)) 0).run Tryd.prog w = .ok (.int .i64 x.kind) w := by kernel_rfl
theorem partE1 (x : Ex) (w : World) : (part 9 (SC 2 (exV x)) 1).run Tryd.prog w = .ok (.string x.body) w := by kernel_rfl
theorem equal_ex (x y : Ex) (w : World) : (Op.equalIn 10000 88 (.agg (SC 2 (exV x))) (.agg (SC 2 (exV y)))).run Tryd.prog w = .ok (eqEx x y) w := by
  rw [run_equalIn_struct w 9999 88 _ _ Tryd.underlying88 stoodE]
  have hf := fieldsE
  generalize (Tryd.prog.fieldsOf 88).toList = fs at hf
  obtain ⟨f0, f1, rfl⟩ : ∃ f0 f1, fs = [f0, f1] := by
    have hl : fs.length = 2 := by have := congrArg List.length hf; simpa using this
    cases fs with
    | nil => simp at hl
    | cons f0 fs =>
      cases fs with
      | nil => simp at hl
      | cons f1 fs =>
        cases fs with
        | nil => exact ⟨f0, f1, rfl⟩
        | cons f2 fs => simp at hl
  simp only [List.map_cons, List.map_nil, List.cons.injEq, Prod.mk.injEq, and_true] at hf
  obtain ⟨⟨n0, t0, o0⟩, n1, t1, o1⟩ := hf
  have e1 : (Op.equalIn 9999 3 (.int .i64 x.kind) (.int .i64 y.kind)).run Tryd.prog w = .ok (x.kind == y.kind) w := run_equalIn_int w 9998 3 .i64 .i64 x.kind y.kind Tryd.underlying3
  have e2 : (Op.equalIn 9999 9 (.string x.body) (.string y.body)).run Tryd.prog w = .ok (x.body.toList == y.body.toList) w := run_equalIn_string w 9998 9 x.body y.body Tryd.underlying9
  simp only [Op.eqFields, n0, t0, o0, n1, t1, o1, ne_eq, String.reduceEq, not_false_eq_true, if_true, Sem.run_bind, partE0, Result.andThen_ok, e1]
  have e3 : (x.body.toList == y.body.toList) = decide (x.body = y.body) := by
    by_cases hb : x.body = y.body
    · rw [hb]; simp
    · rw [decide_eq_false hb, beq_eq_false_iff_ne]
      intro h
      rw [ByteArray.toList_eq, ByteArray.toList_eq] at h
      exact hb (ByteArray.ext (Array.toList_inj.1 h))
  unfold eqEx
  by_cases hv : x.kind = y.kind
  · simp only [hv, beq_self_eq_true, Bool.not_true, Bool.false_eq_true, if_false, Sem.run_bind, partE1, Result.andThen_ok, e2, e3]
    by_cases hb : x.body = y.body
    · simp [hb]
    · simp [hb]
  · have e4 : (x.kind == y.kind) = false := by simpa using hv
    simp [hv, e4]
section
variable {a : Act} {o : Oper} {w : World} {x y : Operand} {t : TypeId}
theorem exec_neEx (ho : o.op = .binOp .neq 88 x y t) {p q : Ex} (hx : a.eval x = .agg (SC 2 (exV p))) (hy : a.eval y = .agg (SC 2 (exV q))) : (execOp a.eval o).run Tryd.prog w = .ok (.value (.bool (!eqEx p q))) w := by
  unfold execOp
  simp only [ho, hx, hy, Sem.run_bind, run_eqGuard_agg w .neq 88 x y _ _ eqgE, Result.andThen_ok, run_neq_struct, equal_ex p q w, Sem.run_pure]
end
theorem ExAt.sl {w w' : World} {a : Option Addr} {n c : Nat} {l : List Ex} (h : ExAt w (.slice a n c) l) (hB : Below w.heap.size w w') {j : Nat} {x : Ex} (hj : l[j]? = some x) : ∃ ad, a = some ad ∧ w'.cell? (ad.add (2 * j)) = some (.int .i64 x.kind) ∧ w'.cell? ((ad.add (2 * j)).add 1) = some (.string x.body) := by
  obtain ⟨a', cap, e, hc⟩ := h.kept hB
  obtain ⟨ad, e2, _, h1, h2⟩ := hc j x hj
  injection e with e
  exact ⟨ad, e.trans e2, h1, by rw [Addr.add_add]; exact h2⟩
/-- Two lists are the same from a place on. -/
theorem exEq_step {l m : List Ex} {x y : Ex} {i : Nat} (hx : l[i]? = some x) (hy : m[i]? = some y) : exEq (l.drop i) (m.drop i) = (eqEx x y && exEq (l.drop (i + 1)) (m.drop (i + 1))) := by
  have h1 := (List.getElem?_eq_some_iff.1 hx)
  have h2 := (List.getElem?_eq_some_iff.1 hy)
  rw [List.drop_eq_getElem_cons h1.1, List.drop_eq_getElem_cons h2.1, h1.2, h2.2]
  rfl
theorem exEq_len {l m : List Ex} (h : l.length ≠ m.length) : exEq l m = false := by
  cases e : exEq l m
  · rfl
  · rw [exEq_iff] at e
    subst e
    exact absurd rfl h
end Go.Proofs.YtojekoakgpkkdaaDoor

/-
  Own text. slices.Equal of extension headers; Same of the program and of the document.
-/
namespace Go.Proofs.YtojekoakgpkkdaaDoor
open Go.RowKit Go.Proofs
set_option maxRecDepth 100000
theorem list_at {l : List Ex} {i : Nat} (h : i < l.length) : ∃ x, l[i]? = some x := ⟨_, List.getElem?_eq_getElem h⟩
theorem samP_two (P Q : Pk) : samP P Q = (exEq P.exts Q.exts && (((eqAF P.sv P.sb Q.sv Q.sb && eqAF P.dv P.db Q.dv Q.db && decide (P.proto = Q.proto) && decide (P.hop = Q.hop) && decide (P.cls = Q.cls) && decide (P.id = Q.id)) && (decide (P.off = Q.off) && (P.more == Q.more) && (P.still == Q.still) && decide (P.opts = Q.opts) && decide (P.flow = Q.flow))) && (P.cut == Q.cut) && decide (P.pay = Q.pay))) := by
  unfold samP
  cases exEq P.exts Q.exts
  · simp only [Bool.and_false, Bool.false_and]
  · simp only [Bool.and_true, Bool.true_and, Bool.and_assoc]
set_option maxHeartbeats 16000000 in
theorem rSame_run (P Q : Pk) (v1 v2 : Value) (w : World) (h1 : ExAt w v1 P.exts) (h2 : ExAt w v2 Q.exts) (hn1 : P.exts.length < 4611686018427387904) (_hn2 : Q.exts.length < 4611686018427387904) : Calls Tryd.prog 15 #[.agg (SC 46 (pkV P v1)), .agg (SC 46 (pkV Q v2))] w fun e w' => e = .returned (.bool (samP P Q)) ∧ Below w.heap.size w w' := by
  obtain ⟨a1, c1, rfl, _⟩ := id h1
  obtain ⟨a2, c2, rfl, _⟩ := id h2
  have HT := Hid.mk (samP_two P Q)
  generalize samP P Q = r at *
  go_enter Tryd.func15, Tryd.ntmps15
  go_wp2_with (refine wl_boxWW rfl rfl rfl rfl isPk isPk (by rfl) (fun u => by rfl) ?_; intro g1 g2 u2 hg1 hg2 q1 q2 hB2; refine Hid.out ?_)
  refine Hid.mk ?_
  have hx1 := h1.kept hB2
  have hx2 := h2.kept hB2
  have s1 := pk_exts q1
  have s2 := pk_exts q2
  by_cases he : P.exts.length = Q.exts.length
  · have HR : Hid (exEq P.exts Q.exts = exEq (P.exts.drop 0) (Q.exts.drop 0)) := Hid.mk (by rw [List.drop_zero, List.drop_zero])
    have HE : Hid (exEq (P.exts.drop P.exts.length) (Q.exts.drop P.exts.length) = true) := Hid.mk (by rw [List.drop_length, he, List.drop_length]; rfl)
    rw [← he] at h2 hx2 q2 s2 ⊢
    obtain ⟨n, hnn⟩ : ∃ n, P.exts.length = n := ⟨_, rfl⟩
    have HN := Hid.mk hnn
    have HN2 := Hid.mk (he.symm.trans hnn)
    rw [hnn] at h1 h2 hx1 hx2 q1 q2 s1 s2 hn1 HE ⊢
    clear hnn he _hn2
    go_wp2_with (first | (refine wl_value rfl (exec_fpk 11 (by decide) rfl (by rfl)) ?_) | (refine wl_value rfl (exec_ld rfl (by rfl) (ldPx s1)) ?_) | (refine wl_value rfl (exec_ld rfl (by rfl) (ldPx s2)) ?_))
    go_loopg [5] n (fun gm s5 z => ∃ i : Nat, Hid (gm + i = n) ∧ s5 = .int .i64 (i : Int) ∧ Hid (exEq P.exts Q.exts = exEq (P.exts.drop i) (Q.exts.drop i)) ∧ Below u2.heap.size u2 z)
    case atStart => exact ⟨0, Hid.mk rfl, rfl, HR, Below.refl _ _⟩
    case round =>
      obtain ⟨i, HI, rfl, HRi, hBz⟩ := hrel
      have r1 := SAt.kept q1 hBz
      have r2 := SAt.kept q2 hBz
      have t1 := pk_exts r1
      have t2 := pk_exts r2
      by_cases hil : i < n
      · have hili : (i : Int) < (n : Int) := by omega
        obtain ⟨x1, hx1'⟩ := list_at (l := P.exts) (i := i) (by rw [HN.out]; exact hil)
        obtain ⟨x2, hx2'⟩ := list_at (l := Q.exts) (i := i) (by rw [HN2.out]; exact hil)
        have HS := Hid.mk (exEq_step hx1' hx2')
        obtain ⟨p1, rfl, k1, k1b⟩ := hx1.sl hBz hx1'
        obtain ⟨p2, rfl, k2, k2b⟩ := hx2.sl hBz hx2'
        have L1 := Hid.mk (World.block_lt_of_cell? _ _ k1)
        have M1 := Hid.mk (World.block_lt_of_cell? _ _ k1b)
        have L2 := Hid.mk (World.block_lt_of_cell? _ _ k2)
        have M2 := Hid.mk (World.block_lt_of_cell? _ _ k2b)
        have H1 := Hid.mk hil
        have H2 := Hid.mk hil
        go_upto_region 6 with (first | (refine wl_value rfl (exec_fpk 11 (by decide) rfl (by rfl)) ?_) | (refine wl_value rfl (exec_ld rfl (by rfl) (ldPx t1)) ?_))
        refine wp_region3 (Below wr.heap.size wr) wr.heap.size
            ([] : List (Nat × Cont))
            [kv (.pointer (some ⟨g1, 43, none⟩)), kv (.slice (some p1) n c1), kv (.int .i64 (i : Int)), kv (.pointer (some (p1.add (2 * i)))), kv (.agg (SC 2 (exV x1))), kv (.pointer (some ⟨g2, 43, none⟩)), kv (.slice (some p2) n c2), kv (.int .i64 (i : Int)), kv (.pointer (some (p2.add (2 * i)))), kv (.agg (SC 2 (exV x2))), kv (.bool (!eqEx x1 x2))]
            [.none, .none, .none, .none, .none, .none, .none, .none, .none, .none, .none]
            [some 22, some 23, some 24, some 25, some 26, some 27, some 28, some 29, some 30, some 31, some 32]
            [(2, .pointer (some ⟨g1, 0, none⟩)), (3, .pointer (some ⟨g2, 0, none⟩)), (5, .int .i64 (i : Int))]
            [[], [.slot 0], [], [.slot 1, .slot 2], [.slot 3], [], [.slot 5], [], [.slot 6, .slot 7], [.slot 8], [.slot 4, .slot 9]]
            [.slot 10] [22, 23, 24, 25, 26, 27, 28, 29, 30, 31, 32]
            rfl (by kernel_rfl) ⟨rfl, rfl, rfl, trivial⟩ ((Below.refl _ wr).drew) (Nat.le_refl _) trivial trivial (below_GcW (Nat.le_refl _))
            ⟨
            (fun QQ aa ww own hS hBg fr kn => .inl ⟨trivial, fun K hK => wp_value (exec_fpk 11 (by decide) rfl fr.1) (hK _ _ ⟨Touch.refl _ _, rfl⟩)⟩),
            (fun QQ aa ww own hS hBg fr kn => .inl ⟨trivial, fun K hK => wp_value (exec_ld rfl kn.1 (ldPx (pk_exts (SAt.kept r1 hS)))) (hK _ _ ⟨Touch.refl _ _, rfl⟩)⟩),
            (fun QQ aa ww own hS hBg fr kn => .inl ⟨trivial, fun K hK => wp_value (exec_move rfl fr.2.2.1) (hK _ _ ⟨Touch.refl _ _, rfl⟩)⟩),
            (fun QQ aa ww own hS hBg fr kn => .inl ⟨trivial, fun K hK => wp_value (exec_ixE (i := i) rfl kn.1 kn.2.1 H1.out) (hK _ _ ⟨Touch.refl _ _, rfl⟩)⟩),
            (fun QQ aa ww own hS hBg fr kn => .inl ⟨trivial, fun K hK => wp_value (exec_ld rfl kn.1 (ldEx ((hS.cell L1.out).trans k1) ((hS.cell M1.out).trans k1b))) (hK _ _ ⟨Touch.refl _ _, rfl⟩)⟩),
            (fun QQ aa ww own hS hBg fr kn => .inl ⟨trivial, fun K hK => wp_value (exec_fpk 11 (by decide) rfl fr.2.1) (hK _ _ ⟨Touch.refl _ _, rfl⟩)⟩),
            (fun QQ aa ww own hS hBg fr kn => .inl ⟨trivial, fun K hK => wp_value (exec_ld rfl kn.1 (ldPx (pk_exts (SAt.kept r2 hS)))) (hK _ _ ⟨Touch.refl _ _, rfl⟩)⟩),
            (fun QQ aa ww own hS hBg fr kn => .inl ⟨trivial, fun K hK => wp_value (exec_move rfl fr.2.2.1) (hK _ _ ⟨Touch.refl _ _, rfl⟩)⟩),
            (fun QQ aa ww own hS hBg fr kn => .inl ⟨trivial, fun K hK => wp_value (exec_ixE (i := i) rfl kn.1 kn.2.1 H2.out) (hK _ _ ⟨Touch.refl _ _, rfl⟩)⟩),
            (fun QQ aa ww own hS hBg fr kn => .inl ⟨trivial, fun K hK => wp_value (exec_ld rfl kn.1 (ldEx ((hS.cell L2.out).trans k2) ((hS.cell M2.out).trans k2b))) (hK _ _ ⟨Touch.refl _ _, rfl⟩)⟩),
            (fun QQ aa ww own hS hBg fr kn => .inl ⟨trivial, fun K hK => wp_value (exec_neEx rfl kn.1 kn.2.1) (hK _ _ ⟨Touch.refl _ _, rfl⟩)⟩),
            trivial⟩ ?_
        intro vs own z2 hB3 hsz kn inj
        have e32 : vs 32 = .bool (!eqEx x1 x2) := kn.1
        clear kn inj hsz
        simp only [putAll, Act.put, List.setIfInBounds_toArray, List.set_cons_zero, List.set_cons_succ, e32]
        clear e32
        have hBy := hBz.trans (hB3.mono hBz.size)
        cases hq : eqEx x1 x2
        · have hr : r = false := by rw [HT.out, HRi.out, HS.out, hq]; rfl
          go_wp2_with fail
          go_ret
          exact ⟨by rw [hr]; rfl, hB2.trans (hBy.mono hB2.size)⟩
        · have HR2 : Hid (exEq P.exts Q.exts = exEq (P.exts.drop (i + 1)) (Q.exts.drop (i + 1))) := Hid.mk (by rw [HRi.out, HS.out, hq]; rfl)
          go_wp2_with fail
          go_roundg (n - (i + 1))
          case rel => exact ⟨i + 1, Hid.mk (by omega), by go_num, HR2, hBy⟩
          case measure => have := HI.out; omega
      · have hi2 : i = n := by have := HI.out; omega
        subst hi2
        have HQ : Hid (r = ((((eqAF P.sv P.sb Q.sv Q.sb && eqAF P.dv P.db Q.dv Q.db && decide (P.proto = Q.proto) && decide (P.hop = Q.hop) && decide (P.cls = Q.cls) && decide (P.id = Q.id)) && (decide (P.off = Q.off) && (P.more == Q.more) && (P.still == Q.still) && decide (P.opts = Q.opts) && decide (P.flow = Q.flow))) && (P.cut == Q.cut) && decide (P.pay = Q.pay)))) := Hid.mk (by rw [HT.out, HRi.out, HE.out, Bool.true_and])
        go_upto_region 8 with (first | (refine wl_value rfl (exec_fpk 11 (by decide) rfl (by rfl)) ?_) | (refine wl_value rfl (exec_ld rfl (by rfl) (ldPx t1)) ?_))
        obtain ⟨v1, hv1⟩ : ∃ v1 : Value, .slice a1 i c1 = v1 := ⟨_, rfl⟩
        obtain ⟨v2, hv2⟩ : ∃ v2 : Value, .slice a2 i c2 = v2 := ⟨_, rfl⟩
        rw [hv1] at r1
        rw [hv2] at r2
        clear hv1 hv2
        have rr1 := r1
        have rr2 := r2
        refine wp_plain_steps (Below wr.heap.size wr) (fun v v' => Below v.heap.size v v') (fun j vv _ => vv = ((.pointer (some ⟨g1, 0, none⟩) :: .agg (SC 17 (adV P.sv P.sb)) :: .pointer (some ⟨g2, 0, none⟩) :: .agg (SC 17 (adV Q.sv Q.sb)) :: .bool (eqAF P.sv P.sb Q.sv Q.sb) :: .bool (eqAF P.sv P.sb Q.sv Q.sb) :: gv (eqAF P.sv P.sb Q.sv Q.sb) (.pointer (some ⟨g1, 17, none⟩)) :: gv (eqAF P.sv P.sb Q.sv Q.sb) (.agg (SC 17 (adV P.dv P.db))) :: gv (eqAF P.sv P.sb Q.sv Q.sb) (.pointer (some ⟨g2, 17, none⟩)) :: gv (eqAF P.sv P.sb Q.sv Q.sb) (.agg (SC 17 (adV Q.dv Q.db))) :: gv (eqAF P.sv P.sb Q.sv Q.sb) (.bool (eqAF P.dv P.db Q.dv Q.db)) :: .bool ((eqAF P.sv P.sb Q.sv Q.sb) && (eqAF P.dv P.db Q.dv Q.db)) :: .bool ((eqAF P.sv P.sb Q.sv Q.sb) && (eqAF P.dv P.db Q.dv Q.db)) :: gv ((eqAF P.sv P.sb Q.sv Q.sb) && (eqAF P.dv P.db Q.dv Q.db)) (.pointer (some ⟨g1, 34, none⟩)) :: gv ((eqAF P.sv P.sb Q.sv Q.sb) && (eqAF P.dv P.db Q.dv Q.db)) (.int .i64 P.proto) :: gv ((eqAF P.sv P.sb Q.sv Q.sb) && (eqAF P.dv P.db Q.dv Q.db)) (.pointer (some ⟨g2, 34, none⟩)) :: gv ((eqAF P.sv P.sb Q.sv Q.sb) && (eqAF P.dv P.db Q.dv Q.db)) (.int .i64 Q.proto) :: gv ((eqAF P.sv P.sb Q.sv Q.sb) && (eqAF P.dv P.db Q.dv Q.db)) (.bool (decide (P.proto = Q.proto))) :: .bool (((eqAF P.sv P.sb Q.sv Q.sb) && (eqAF P.dv P.db Q.dv Q.db)) && (decide (P.proto = Q.proto))) :: .bool (((eqAF P.sv P.sb Q.sv Q.sb) && (eqAF P.dv P.db Q.dv Q.db)) && (decide (P.proto = Q.proto))) :: gv (((eqAF P.sv P.sb Q.sv Q.sb) && (eqAF P.dv P.db Q.dv Q.db)) && (decide (P.proto = Q.proto))) (.pointer (some ⟨g1, 35, none⟩)) :: gv (((eqAF P.sv P.sb Q.sv Q.sb) && (eqAF P.dv P.db Q.dv Q.db)) && (decide (P.proto = Q.proto))) (.int .i64 P.hop) :: gv (((eqAF P.sv P.sb Q.sv Q.sb) && (eqAF P.dv P.db Q.dv Q.db)) && (decide (P.proto = Q.proto))) (.pointer (some ⟨g2, 35, none⟩)) :: gv (((eqAF P.sv P.sb Q.sv Q.sb) && (eqAF P.dv P.db Q.dv Q.db)) && (decide (P.proto = Q.proto))) (.int .i64 Q.hop) :: gv (((eqAF P.sv P.sb Q.sv Q.sb) && (eqAF P.dv P.db Q.dv Q.db)) && (decide (P.proto = Q.proto))) (.bool (decide (P.hop = Q.hop))) :: .bool ((((eqAF P.sv P.sb Q.sv Q.sb) && (eqAF P.dv P.db Q.dv Q.db)) && (decide (P.proto = Q.proto))) && (decide (P.hop = Q.hop))) :: .bool ((((eqAF P.sv P.sb Q.sv Q.sb) && (eqAF P.dv P.db Q.dv Q.db)) && (decide (P.proto = Q.proto))) && (decide (P.hop = Q.hop))) :: gv ((((eqAF P.sv P.sb Q.sv Q.sb) && (eqAF P.dv P.db Q.dv Q.db)) && (decide (P.proto = Q.proto))) && (decide (P.hop = Q.hop))) (.pointer (some ⟨g1, 36, none⟩)) :: gv ((((eqAF P.sv P.sb Q.sv Q.sb) && (eqAF P.dv P.db Q.dv Q.db)) && (decide (P.proto = Q.proto))) && (decide (P.hop = Q.hop))) (.int .i64 P.cls) :: gv ((((eqAF P.sv P.sb Q.sv Q.sb) && (eqAF P.dv P.db Q.dv Q.db)) && (decide (P.proto = Q.proto))) && (decide (P.hop = Q.hop))) (.pointer (some ⟨g2, 36, none⟩)) :: gv ((((eqAF P.sv P.sb Q.sv Q.sb) && (eqAF P.dv P.db Q.dv Q.db)) && (decide (P.proto = Q.proto))) && (decide (P.hop = Q.hop))) (.int .i64 Q.cls) :: gv ((((eqAF P.sv P.sb Q.sv Q.sb) && (eqAF P.dv P.db Q.dv Q.db)) && (decide (P.proto = Q.proto))) && (decide (P.hop = Q.hop))) (.bool (decide (P.cls = Q.cls))) :: .bool (((((eqAF P.sv P.sb Q.sv Q.sb) && (eqAF P.dv P.db Q.dv Q.db)) && (decide (P.proto = Q.proto))) && (decide (P.hop = Q.hop))) && (decide (P.cls = Q.cls))) :: .bool (((((eqAF P.sv P.sb Q.sv Q.sb) && (eqAF P.dv P.db Q.dv Q.db)) && (decide (P.proto = Q.proto))) && (decide (P.hop = Q.hop))) && (decide (P.cls = Q.cls))) :: gv (((((eqAF P.sv P.sb Q.sv Q.sb) && (eqAF P.dv P.db Q.dv Q.db)) && (decide (P.proto = Q.proto))) && (decide (P.hop = Q.hop))) && (decide (P.cls = Q.cls))) (.pointer (some ⟨g1, 37, none⟩)) :: gv (((((eqAF P.sv P.sb Q.sv Q.sb) && (eqAF P.dv P.db Q.dv Q.db)) && (decide (P.proto = Q.proto))) && (decide (P.hop = Q.hop))) && (decide (P.cls = Q.cls))) (.int .i64 P.id) :: gv (((((eqAF P.sv P.sb Q.sv Q.sb) && (eqAF P.dv P.db Q.dv Q.db)) && (decide (P.proto = Q.proto))) && (decide (P.hop = Q.hop))) && (decide (P.cls = Q.cls))) (.pointer (some ⟨g2, 37, none⟩)) :: gv (((((eqAF P.sv P.sb Q.sv Q.sb) && (eqAF P.dv P.db Q.dv Q.db)) && (decide (P.proto = Q.proto))) && (decide (P.hop = Q.hop))) && (decide (P.cls = Q.cls))) (.int .i64 Q.id) :: gv (((((eqAF P.sv P.sb Q.sv Q.sb) && (eqAF P.dv P.db Q.dv Q.db)) && (decide (P.proto = Q.proto))) && (decide (P.hop = Q.hop))) && (decide (P.cls = Q.cls))) (.bool (decide (P.id = Q.id))) :: .bool ((((((eqAF P.sv P.sb Q.sv Q.sb) && (eqAF P.dv P.db Q.dv Q.db)) && (decide (P.proto = Q.proto))) && (decide (P.hop = Q.hop))) && (decide (P.cls = Q.cls))) && (decide (P.id = Q.id))) :: .bool ((((((eqAF P.sv P.sb Q.sv Q.sb) && (eqAF P.dv P.db Q.dv Q.db)) && (decide (P.proto = Q.proto))) && (decide (P.hop = Q.hop))) && (decide (P.cls = Q.cls))) && (decide (P.id = Q.id))) :: []) : List Value).getD j undef)
            (33 :: 34 :: 35 :: 36 :: 37 :: 38 :: 39 :: 40 :: 41 :: 42 :: 43 :: 44 :: 45 :: 46 :: 47 :: 48 :: 49 :: 50 :: 51 :: 52 :: 53 :: 54 :: 55 :: 56 :: 57 :: 58 :: 59 :: 60 :: 61 :: 62 :: 63 :: 64 :: 65 :: 66 :: 67 :: 68 :: 69 :: 70 :: 71 :: 72 :: 6 :: [])
            [(2, .pointer (some ⟨g1, 0, none⟩)), (3, .pointer (some ⟨g2, 0, none⟩))] [] 0
            ([] :: [0] :: [] :: [2] :: [1, 3] :: [4] :: [5] :: [5, 6] :: [5] :: [5, 8] :: [5, 7, 9] :: [5, 10] :: [11] :: [12] :: [12, 13] :: [12] :: [12, 15] :: [12, 14, 16] :: [12, 17] :: [18] :: [19] :: [19, 20] :: [19] :: [19, 22] :: [19, 21, 23] :: [19, 24] :: [25] :: [26] :: [26, 27] :: [26] :: [26, 29] :: [26, 28, 30] :: [26, 31] :: [32] :: [33] :: [33, 34] :: [33] :: [33, 36] :: [33, 35, 37] :: [33, 38] :: [39] :: [])
            (by kernel_rfl) ⟨rfl, rfl, trivial⟩ trivial (Below.refl _ _) (fun v v' h hb => h.trans (hb.mono h.size)) (fun _ _ _ _ h _ => h)
            ⟨
            (fun QQ aa ww hS fr kn => sg0 rfl (fun K hK => wp_value (exec_fpk 0 (by decide) rfl fr.1) (hK _ _ rfl (Below.refl _ _)))),
            (fun QQ aa ww hS fr kn => sg0 rfl (fun K hK => wp_value (exec_ld rfl kn.1 (ld_src (SAt.kept r1 hS))) (hK _ _ rfl (Below.refl _ _)))),
            (fun QQ aa ww hS fr kn => sg0 rfl (fun K hK => wp_value (exec_fpk 0 (by decide) rfl fr.2.1) (hK _ _ rfl (Below.refl _ _)))),
            (fun QQ aa ww hS fr kn => sg0 rfl (fun K hK => wp_value (exec_ld rfl kn.1 (ld_src (SAt.kept r2 hS))) (hK _ _ rfl (Below.refl _ _)))),
            (fun QQ aa ww hS fr kn => sg0 rfl (fun K hK => wp_value (exec_eqA rfl kn.1 kn.2.1) (hK _ _ rfl (Below.refl _ _)))),
            (fun QQ aa ww hS fr kn => sg0 rfl (fun K hK => wp_value (exec_move rfl kn.1) (hK _ _ rfl (Below.refl _ _)))),
            (fun QQ aa ww hS fr kn => sgT rfl kn.1 (fun hc K hK => wp_value (exec_fpk 1 (by decide) rfl fr.1) (hK _ _ (gv_t hc).symm (Below.refl _ _))) (fun h0 => (gv_f h0).symm)),
            (fun QQ aa ww hS fr kn => sgT rfl kn.1 (fun hc K hK => wp_value (exec_ld rfl (kn.2.1.trans (gv_t hc)) (ld_dst (SAt.kept r1 hS))) (hK _ _ (gv_t hc).symm (Below.refl _ _))) (fun h0 => (gv_f h0).symm)),
            (fun QQ aa ww hS fr kn => sgT rfl kn.1 (fun hc K hK => wp_value (exec_fpk 1 (by decide) rfl fr.2.1) (hK _ _ (gv_t hc).symm (Below.refl _ _))) (fun h0 => (gv_f h0).symm)),
            (fun QQ aa ww hS fr kn => sgT rfl kn.1 (fun hc K hK => wp_value (exec_ld rfl (kn.2.1.trans (gv_t hc)) (ld_dst (SAt.kept r2 hS))) (hK _ _ (gv_t hc).symm (Below.refl _ _))) (fun h0 => (gv_f h0).symm)),
            (fun QQ aa ww hS fr kn => sgT rfl kn.1 (fun hc K hK => wp_value (exec_eqA rfl (kn.2.1.trans (gv_t hc)) (kn.2.2.1.trans (gv_t hc))) (hK _ _ (gv_t hc).symm (Below.refl _ _))) (fun h0 => (gv_f h0).symm)),
            (fun QQ aa ww hS fr kn => sg0 rfl (fun K hK => wp_value (exec_pickAnd rfl kn.1 (fun hx => kn.2.1.trans (gv_t hx)) rfl) (hK _ _ rfl (Below.refl _ _)))),
            (fun QQ aa ww hS fr kn => sg0 rfl (fun K hK => wp_value (exec_move rfl kn.1) (hK _ _ rfl (Below.refl _ _)))),
            (fun QQ aa ww hS fr kn => sgT rfl kn.1 (fun hc K hK => wp_value (exec_fpk 2 (by decide) rfl fr.1) (hK _ _ (gv_t hc).symm (Below.refl _ _))) (fun h0 => (gv_f h0).symm)),
            (fun QQ aa ww hS fr kn => sgT rfl kn.1 (fun hc K hK => wp_value (exec_ld rfl (kn.2.1.trans (gv_t hc)) (ldP (pk_proto (SAt.kept r1 hS)))) (hK _ _ (gv_t hc).symm (Below.refl _ _))) (fun h0 => (gv_f h0).symm)),
            (fun QQ aa ww hS fr kn => sgT rfl kn.1 (fun hc K hK => wp_value (exec_fpk 2 (by decide) rfl fr.2.1) (hK _ _ (gv_t hc).symm (Below.refl _ _))) (fun h0 => (gv_f h0).symm)),
            (fun QQ aa ww hS fr kn => sgT rfl kn.1 (fun hc K hK => wp_value (exec_ld rfl (kn.2.1.trans (gv_t hc)) (ldP (pk_proto (SAt.kept r2 hS)))) (hK _ _ (gv_t hc).symm (Below.refl _ _))) (fun h0 => (gv_f h0).symm)),
            (fun QQ aa ww hS fr kn => sgT rfl kn.1 (fun hc K hK => wp_value (cmp_eq (m := P.proto) (n := Q.proto) rfl (kn.2.1.trans (gv_t hc)) (kn.2.2.1.trans (gv_t hc))) (hK _ _ (gv_t hc).symm (Below.refl _ _))) (fun h0 => (gv_f h0).symm)),
            (fun QQ aa ww hS fr kn => sg0 rfl (fun K hK => wp_value (exec_pickAnd rfl kn.1 (fun hx => kn.2.1.trans (gv_t hx)) rfl) (hK _ _ rfl (Below.refl _ _)))),
            (fun QQ aa ww hS fr kn => sg0 rfl (fun K hK => wp_value (exec_move rfl kn.1) (hK _ _ rfl (Below.refl _ _)))),
            (fun QQ aa ww hS fr kn => sgT rfl kn.1 (fun hc K hK => wp_value (exec_fpk 3 (by decide) rfl fr.1) (hK _ _ (gv_t hc).symm (Below.refl _ _))) (fun h0 => (gv_f h0).symm)),
            (fun QQ aa ww hS fr kn => sgT rfl kn.1 (fun hc K hK => wp_value (exec_ld rfl (kn.2.1.trans (gv_t hc)) (ldP (pk_hop (SAt.kept r1 hS)))) (hK _ _ (gv_t hc).symm (Below.refl _ _))) (fun h0 => (gv_f h0).symm)),
            (fun QQ aa ww hS fr kn => sgT rfl kn.1 (fun hc K hK => wp_value (exec_fpk 3 (by decide) rfl fr.2.1) (hK _ _ (gv_t hc).symm (Below.refl _ _))) (fun h0 => (gv_f h0).symm)),
            (fun QQ aa ww hS fr kn => sgT rfl kn.1 (fun hc K hK => wp_value (exec_ld rfl (kn.2.1.trans (gv_t hc)) (ldP (pk_hop (SAt.kept r2 hS)))) (hK _ _ (gv_t hc).symm (Below.refl _ _))) (fun h0 => (gv_f h0).symm)),
            (fun QQ aa ww hS fr kn => sgT rfl kn.1 (fun hc K hK => wp_value (cmp_eq (m := P.hop) (n := Q.hop) rfl (kn.2.1.trans (gv_t hc)) (kn.2.2.1.trans (gv_t hc))) (hK _ _ (gv_t hc).symm (Below.refl _ _))) (fun h0 => (gv_f h0).symm)),
            (fun QQ aa ww hS fr kn => sg0 rfl (fun K hK => wp_value (exec_pickAnd rfl kn.1 (fun hx => kn.2.1.trans (gv_t hx)) rfl) (hK _ _ rfl (Below.refl _ _)))),
            (fun QQ aa ww hS fr kn => sg0 rfl (fun K hK => wp_value (exec_move rfl kn.1) (hK _ _ rfl (Below.refl _ _)))),
            (fun QQ aa ww hS fr kn => sgT rfl kn.1 (fun hc K hK => wp_value (exec_fpk 4 (by decide) rfl fr.1) (hK _ _ (gv_t hc).symm (Below.refl _ _))) (fun h0 => (gv_f h0).symm)),
            (fun QQ aa ww hS fr kn => sgT rfl kn.1 (fun hc K hK => wp_value (exec_ld rfl (kn.2.1.trans (gv_t hc)) (ldP (pk_cls (SAt.kept r1 hS)))) (hK _ _ (gv_t hc).symm (Below.refl _ _))) (fun h0 => (gv_f h0).symm)),
            (fun QQ aa ww hS fr kn => sgT rfl kn.1 (fun hc K hK => wp_value (exec_fpk 4 (by decide) rfl fr.2.1) (hK _ _ (gv_t hc).symm (Below.refl _ _))) (fun h0 => (gv_f h0).symm)),
            (fun QQ aa ww hS fr kn => sgT rfl kn.1 (fun hc K hK => wp_value (exec_ld rfl (kn.2.1.trans (gv_t hc)) (ldP (pk_cls (SAt.kept r2 hS)))) (hK _ _ (gv_t hc).symm (Below.refl _ _))) (fun h0 => (gv_f h0).symm)),
            (fun QQ aa ww hS fr kn => sgT rfl kn.1 (fun hc K hK => wp_value (cmp_eq (m := P.cls) (n := Q.cls) rfl (kn.2.1.trans (gv_t hc)) (kn.2.2.1.trans (gv_t hc))) (hK _ _ (gv_t hc).symm (Below.refl _ _))) (fun h0 => (gv_f h0).symm)),
            (fun QQ aa ww hS fr kn => sg0 rfl (fun K hK => wp_value (exec_pickAnd rfl kn.1 (fun hx => kn.2.1.trans (gv_t hx)) rfl) (hK _ _ rfl (Below.refl _ _)))),
            (fun QQ aa ww hS fr kn => sg0 rfl (fun K hK => wp_value (exec_move rfl kn.1) (hK _ _ rfl (Below.refl _ _)))),
            (fun QQ aa ww hS fr kn => sgT rfl kn.1 (fun hc K hK => wp_value (exec_fpk 5 (by decide) rfl fr.1) (hK _ _ (gv_t hc).symm (Below.refl _ _))) (fun h0 => (gv_f h0).symm)),
            (fun QQ aa ww hS fr kn => sgT rfl kn.1 (fun hc K hK => wp_value (exec_ld rfl (kn.2.1.trans (gv_t hc)) (ldP (pk_id (SAt.kept r1 hS)))) (hK _ _ (gv_t hc).symm (Below.refl _ _))) (fun h0 => (gv_f h0).symm)),
            (fun QQ aa ww hS fr kn => sgT rfl kn.1 (fun hc K hK => wp_value (exec_fpk 5 (by decide) rfl fr.2.1) (hK _ _ (gv_t hc).symm (Below.refl _ _))) (fun h0 => (gv_f h0).symm)),
            (fun QQ aa ww hS fr kn => sgT rfl kn.1 (fun hc K hK => wp_value (exec_ld rfl (kn.2.1.trans (gv_t hc)) (ldP (pk_id (SAt.kept r2 hS)))) (hK _ _ (gv_t hc).symm (Below.refl _ _))) (fun h0 => (gv_f h0).symm)),
            (fun QQ aa ww hS fr kn => sgT rfl kn.1 (fun hc K hK => wp_value (cmp_eq (m := P.id) (n := Q.id) rfl (kn.2.1.trans (gv_t hc)) (kn.2.2.1.trans (gv_t hc))) (hK _ _ (gv_t hc).symm (Below.refl _ _))) (fun h0 => (gv_f h0).symm)),
            (fun QQ aa ww hS fr kn => sg0 rfl (fun K hK => wp_value (exec_pickAnd rfl kn.1 (fun hx => kn.2.1.trans (gv_t hx)) rfl) (hK _ _ rfl (Below.refl _ _)))),
            (fun QQ aa ww hS fr kn => sg0 rfl (fun K hK => wp_value (exec_assign rfl kn.1) (hK _ _ rfl (Below.refl _ _)))),
            trivial⟩ ?_
        intro vs z2 hB3 kn
        have e6 : vs 6 = .bool ((((((eqAF P.sv P.sb Q.sv Q.sb) && (eqAF P.dv P.db Q.dv Q.db)) && (decide (P.proto = Q.proto))) && (decide (P.hop = Q.hop))) && (decide (P.cls = Q.cls))) && (decide (P.id = Q.id))) := kn 40 (by decide)
        clear kn
        simp only [putAll, Act.put, List.setIfInBounds_toArray, List.set_cons_zero, List.set_cons_succ, e6]
        clear e6
        replace r1 := SAt.kept rr1 hB3
        replace r2 := SAt.kept rr2 hB3
        obtain ⟨X, hX⟩ : ∃ X, (eqAF P.sv P.sb Q.sv Q.sb && eqAF P.dv P.db Q.dv Q.db && decide (P.proto = Q.proto) && decide (P.hop = Q.hop) && decide (P.cls = Q.cls) && decide (P.id = Q.id)) = X := ⟨_, rfl⟩
        rw [hX] at HQ ⊢
        go_upto_region 9 with fail
        refine wp_plain_steps (Below z2.heap.size z2) (fun v v' => Below v.heap.size v v') (fun j vv _ => vv = ((.pointer (some ⟨g1, 38, none⟩) :: .int .i64 P.off :: .pointer (some ⟨g2, 38, none⟩) :: .int .i64 Q.off :: .bool (decide (P.off = Q.off)) :: .bool (decide (P.off = Q.off)) :: gv (decide (P.off = Q.off)) (.pointer (some ⟨g1, 39, none⟩)) :: gv (decide (P.off = Q.off)) (.bool P.more) :: gv (decide (P.off = Q.off)) (.pointer (some ⟨g2, 39, none⟩)) :: gv (decide (P.off = Q.off)) (.bool Q.more) :: gv (decide (P.off = Q.off)) (.bool (P.more == Q.more)) :: .bool ((decide (P.off = Q.off)) && (P.more == Q.more)) :: .bool ((decide (P.off = Q.off)) && (P.more == Q.more)) :: gv ((decide (P.off = Q.off)) && (P.more == Q.more)) (.pointer (some ⟨g1, 40, none⟩)) :: gv ((decide (P.off = Q.off)) && (P.more == Q.more)) (.bool P.still) :: gv ((decide (P.off = Q.off)) && (P.more == Q.more)) (.pointer (some ⟨g2, 40, none⟩)) :: gv ((decide (P.off = Q.off)) && (P.more == Q.more)) (.bool Q.still) :: gv ((decide (P.off = Q.off)) && (P.more == Q.more)) (.bool (P.still == Q.still)) :: .bool (((decide (P.off = Q.off)) && (P.more == Q.more)) && (P.still == Q.still)) :: .bool (((decide (P.off = Q.off)) && (P.more == Q.more)) && (P.still == Q.still)) :: gv (((decide (P.off = Q.off)) && (P.more == Q.more)) && (P.still == Q.still)) (.pointer (some ⟨g1, 41, none⟩)) :: gv (((decide (P.off = Q.off)) && (P.more == Q.more)) && (P.still == Q.still)) (.string P.opts) :: gv (((decide (P.off = Q.off)) && (P.more == Q.more)) && (P.still == Q.still)) (.pointer (some ⟨g2, 41, none⟩)) :: gv (((decide (P.off = Q.off)) && (P.more == Q.more)) && (P.still == Q.still)) (.string Q.opts) :: gv (((decide (P.off = Q.off)) && (P.more == Q.more)) && (P.still == Q.still)) (.bool (decide (P.opts = Q.opts))) :: .bool ((((decide (P.off = Q.off)) && (P.more == Q.more)) && (P.still == Q.still)) && (decide (P.opts = Q.opts))) :: .bool ((((decide (P.off = Q.off)) && (P.more == Q.more)) && (P.still == Q.still)) && (decide (P.opts = Q.opts))) :: gv ((((decide (P.off = Q.off)) && (P.more == Q.more)) && (P.still == Q.still)) && (decide (P.opts = Q.opts))) (.pointer (some ⟨g1, 42, none⟩)) :: gv ((((decide (P.off = Q.off)) && (P.more == Q.more)) && (P.still == Q.still)) && (decide (P.opts = Q.opts))) (.int .i64 P.flow) :: gv ((((decide (P.off = Q.off)) && (P.more == Q.more)) && (P.still == Q.still)) && (decide (P.opts = Q.opts))) (.pointer (some ⟨g2, 42, none⟩)) :: gv ((((decide (P.off = Q.off)) && (P.more == Q.more)) && (P.still == Q.still)) && (decide (P.opts = Q.opts))) (.int .i64 Q.flow) :: gv ((((decide (P.off = Q.off)) && (P.more == Q.more)) && (P.still == Q.still)) && (decide (P.opts = Q.opts))) (.bool (decide (P.flow = Q.flow))) :: .bool (((((decide (P.off = Q.off)) && (P.more == Q.more)) && (P.still == Q.still)) && (decide (P.opts = Q.opts))) && (decide (P.flow = Q.flow))) :: .bool (((((decide (P.off = Q.off)) && (P.more == Q.more)) && (P.still == Q.still)) && (decide (P.opts = Q.opts))) && (decide (P.flow = Q.flow))) :: []) : List Value).getD j undef)
            (73 :: 74 :: 75 :: 76 :: 77 :: 78 :: 79 :: 80 :: 81 :: 82 :: 83 :: 84 :: 85 :: 86 :: 87 :: 88 :: 89 :: 90 :: 91 :: 92 :: 93 :: 94 :: 95 :: 96 :: 97 :: 98 :: 99 :: 100 :: 101 :: 102 :: 103 :: 104 :: 105 :: 7 :: [])
            [(2, .pointer (some ⟨g1, 0, none⟩)), (3, .pointer (some ⟨g2, 0, none⟩))] [] 0
            ([] :: [0] :: [] :: [2] :: [1, 3] :: [4] :: [5] :: [5, 6] :: [5] :: [5, 8] :: [5, 7, 9] :: [5, 10] :: [11] :: [12] :: [12, 13] :: [12] :: [12, 15] :: [12, 14, 16] :: [12, 17] :: [18] :: [19] :: [19, 20] :: [19] :: [19, 22] :: [19, 21, 23] :: [19, 24] :: [25] :: [26] :: [26, 27] :: [26] :: [26, 29] :: [26, 28, 30] :: [26, 31] :: [32] :: [])
            (by kernel_rfl) ⟨rfl, rfl, trivial⟩ trivial (Below.refl _ _) (fun v v' h hb => h.trans (hb.mono h.size)) (fun _ _ _ _ h _ => h)
            ⟨
            (fun QQ aa ww hS fr kn => sg0 rfl (fun K hK => wp_value (exec_fpk 6 (by decide) rfl fr.1) (hK _ _ rfl (Below.refl _ _)))),
            (fun QQ aa ww hS fr kn => sg0 rfl (fun K hK => wp_value (exec_ld rfl kn.1 (ldP (pk_off (SAt.kept r1 hS)))) (hK _ _ rfl (Below.refl _ _)))),
            (fun QQ aa ww hS fr kn => sg0 rfl (fun K hK => wp_value (exec_fpk 6 (by decide) rfl fr.2.1) (hK _ _ rfl (Below.refl _ _)))),
            (fun QQ aa ww hS fr kn => sg0 rfl (fun K hK => wp_value (exec_ld rfl kn.1 (ldP (pk_off (SAt.kept r2 hS)))) (hK _ _ rfl (Below.refl _ _)))),
            (fun QQ aa ww hS fr kn => sg0 rfl (fun K hK => wp_value (cmp_eq (m := P.off) (n := Q.off) rfl kn.1 kn.2.1) (hK _ _ rfl (Below.refl _ _)))),
            (fun QQ aa ww hS fr kn => sg0 rfl (fun K hK => wp_value (exec_move rfl kn.1) (hK _ _ rfl (Below.refl _ _)))),
            (fun QQ aa ww hS fr kn => sgT rfl kn.1 (fun hc K hK => wp_value (exec_fpk 7 (by decide) rfl fr.1) (hK _ _ (gv_t hc).symm (Below.refl _ _))) (fun h0 => (gv_f h0).symm)),
            (fun QQ aa ww hS fr kn => sgT rfl kn.1 (fun hc K hK => wp_value (exec_ld rfl (kn.2.1.trans (gv_t hc)) (ldPb (pk_more (SAt.kept r1 hS)))) (hK _ _ (gv_t hc).symm (Below.refl _ _))) (fun h0 => (gv_f h0).symm)),
            (fun QQ aa ww hS fr kn => sgT rfl kn.1 (fun hc K hK => wp_value (exec_fpk 7 (by decide) rfl fr.2.1) (hK _ _ (gv_t hc).symm (Below.refl _ _))) (fun h0 => (gv_f h0).symm)),
            (fun QQ aa ww hS fr kn => sgT rfl kn.1 (fun hc K hK => wp_value (exec_ld rfl (kn.2.1.trans (gv_t hc)) (ldPb (pk_more (SAt.kept r2 hS)))) (hK _ _ (gv_t hc).symm (Below.refl _ _))) (fun h0 => (gv_f h0).symm)),
            (fun QQ aa ww hS fr kn => sgT rfl kn.1 (fun hc K hK => wp_value (cmp_eqB rfl (kn.2.1.trans (gv_t hc)) (kn.2.2.1.trans (gv_t hc))) (hK _ _ (gv_t hc).symm (Below.refl _ _))) (fun h0 => (gv_f h0).symm)),
            (fun QQ aa ww hS fr kn => sg0 rfl (fun K hK => wp_value (exec_pickAnd rfl kn.1 (fun hx => kn.2.1.trans (gv_t hx)) rfl) (hK _ _ rfl (Below.refl _ _)))),
            (fun QQ aa ww hS fr kn => sg0 rfl (fun K hK => wp_value (exec_move rfl kn.1) (hK _ _ rfl (Below.refl _ _)))),
            (fun QQ aa ww hS fr kn => sgT rfl kn.1 (fun hc K hK => wp_value (exec_fpk 8 (by decide) rfl fr.1) (hK _ _ (gv_t hc).symm (Below.refl _ _))) (fun h0 => (gv_f h0).symm)),
            (fun QQ aa ww hS fr kn => sgT rfl kn.1 (fun hc K hK => wp_value (exec_ld rfl (kn.2.1.trans (gv_t hc)) (ldPb (pk_still (SAt.kept r1 hS)))) (hK _ _ (gv_t hc).symm (Below.refl _ _))) (fun h0 => (gv_f h0).symm)),
            (fun QQ aa ww hS fr kn => sgT rfl kn.1 (fun hc K hK => wp_value (exec_fpk 8 (by decide) rfl fr.2.1) (hK _ _ (gv_t hc).symm (Below.refl _ _))) (fun h0 => (gv_f h0).symm)),
            (fun QQ aa ww hS fr kn => sgT rfl kn.1 (fun hc K hK => wp_value (exec_ld rfl (kn.2.1.trans (gv_t hc)) (ldPb (pk_still (SAt.kept r2 hS)))) (hK _ _ (gv_t hc).symm (Below.refl _ _))) (fun h0 => (gv_f h0).symm)),
            (fun QQ aa ww hS fr kn => sgT rfl kn.1 (fun hc K hK => wp_value (cmp_eqB rfl (kn.2.1.trans (gv_t hc)) (kn.2.2.1.trans (gv_t hc))) (hK _ _ (gv_t hc).symm (Below.refl _ _))) (fun h0 => (gv_f h0).symm)),
            (fun QQ aa ww hS fr kn => sg0 rfl (fun K hK => wp_value (exec_pickAnd rfl kn.1 (fun hx => kn.2.1.trans (gv_t hx)) rfl) (hK _ _ rfl (Below.refl _ _)))),
            (fun QQ aa ww hS fr kn => sg0 rfl (fun K hK => wp_value (exec_move rfl kn.1) (hK _ _ rfl (Below.refl _ _)))),
            (fun QQ aa ww hS fr kn => sgT rfl kn.1 (fun hc K hK => wp_value (exec_fpk 9 (by decide) rfl fr.1) (hK _ _ (gv_t hc).symm (Below.refl _ _))) (fun h0 => (gv_f h0).symm)),
            (fun QQ aa ww hS fr kn => sgT rfl kn.1 (fun hc K hK => wp_value (exec_ld rfl (kn.2.1.trans (gv_t hc)) (ldPs (pk_opts (SAt.kept r1 hS)))) (hK _ _ (gv_t hc).symm (Below.refl _ _))) (fun h0 => (gv_f h0).symm)),
            (fun QQ aa ww hS fr kn => sgT rfl kn.1 (fun hc K hK => wp_value (exec_fpk 9 (by decide) rfl fr.2.1) (hK _ _ (gv_t hc).symm (Below.refl _ _))) (fun h0 => (gv_f h0).symm)),
            (fun QQ aa ww hS fr kn => sgT rfl kn.1 (fun hc K hK => wp_value (exec_ld rfl (kn.2.1.trans (gv_t hc)) (ldPs (pk_opts (SAt.kept r2 hS)))) (hK _ _ (gv_t hc).symm (Below.refl _ _))) (fun h0 => (gv_f h0).symm)),
            (fun QQ aa ww hS fr kn => sgT rfl kn.1 (fun hc K hK => wp_value (exec_eqSd (s := P.opts) (t := Q.opts) rfl (kn.2.1.trans (gv_t hc)) (kn.2.2.1.trans (gv_t hc))) (hK _ _ (gv_t hc).symm (Below.refl _ _))) (fun h0 => (gv_f h0).symm)),
            (fun QQ aa ww hS fr kn => sg0 rfl (fun K hK => wp_value (exec_pickAnd rfl kn.1 (fun hx => kn.2.1.trans (gv_t hx)) rfl) (hK _ _ rfl (Below.refl _ _)))),
            (fun QQ aa ww hS fr kn => sg0 rfl (fun K hK => wp_value (exec_move rfl kn.1) (hK _ _ rfl (Below.refl _ _)))),
            (fun QQ aa ww hS fr kn => sgT rfl kn.1 (fun hc K hK => wp_value (exec_fpk 10 (by decide) rfl fr.1) (hK _ _ (gv_t hc).symm (Below.refl _ _))) (fun h0 => (gv_f h0).symm)),
            (fun QQ aa ww hS fr kn => sgT rfl kn.1 (fun hc K hK => wp_value (exec_ld rfl (kn.2.1.trans (gv_t hc)) (ldP (pk_flow (SAt.kept r1 hS)))) (hK _ _ (gv_t hc).symm (Below.refl _ _))) (fun h0 => (gv_f h0).symm)),
            (fun QQ aa ww hS fr kn => sgT rfl kn.1 (fun hc K hK => wp_value (exec_fpk 10 (by decide) rfl fr.2.1) (hK _ _ (gv_t hc).symm (Below.refl _ _))) (fun h0 => (gv_f h0).symm)),
            (fun QQ aa ww hS fr kn => sgT rfl kn.1 (fun hc K hK => wp_value (exec_ld rfl (kn.2.1.trans (gv_t hc)) (ldP (pk_flow (SAt.kept r2 hS)))) (hK _ _ (gv_t hc).symm (Below.refl _ _))) (fun h0 => (gv_f h0).symm)),
            (fun QQ aa ww hS fr kn => sgT rfl kn.1 (fun hc K hK => wp_value (cmp_eq (m := P.flow) (n := Q.flow) rfl (kn.2.1.trans (gv_t hc)) (kn.2.2.1.trans (gv_t hc))) (hK _ _ (gv_t hc).symm (Below.refl _ _))) (fun h0 => (gv_f h0).symm)),
            (fun QQ aa ww hS fr kn => sg0 rfl (fun K hK => wp_value (exec_pickAnd rfl kn.1 (fun hx => kn.2.1.trans (gv_t hx)) rfl) (hK _ _ rfl (Below.refl _ _)))),
            (fun QQ aa ww hS fr kn => sg0 rfl (fun K hK => wp_value (exec_assign rfl kn.1) (hK _ _ rfl (Below.refl _ _)))),
            trivial⟩ ?_
        intro vs z3 hB4 kn
        have e7 : vs 7 = .bool (((((decide (P.off = Q.off)) && (P.more == Q.more)) && (P.still == Q.still)) && (decide (P.opts = Q.opts))) && (decide (P.flow = Q.flow))) := kn 33 (by decide)
        clear kn
        simp only [putAll, Act.put, List.setIfInBounds_toArray, List.set_cons_zero, List.set_cons_succ, e7]
        clear e7
        replace r1 := SAt.kept r1 hB4
        replace r2 := SAt.kept r2 hB4
        obtain ⟨Y, hY⟩ : ∃ Y, (decide (P.off = Q.off) && (P.more == Q.more) && (P.still == Q.still) && decide (P.opts = Q.opts) && decide (P.flow = Q.flow)) = Y := ⟨_, rfl⟩
        rw [hY] at HQ ⊢
        go_upto_region 10 with fail
        refine wp_plain_steps (Below z3.heap.size z3) (fun v v' => Below v.heap.size v v') (fun j vv _ => vv = ([.bool X, .bool X, gv X (.bool Y), .bool (X && Y), .bool (X && Y), gv (X && Y) (.pointer (some ⟨g1, 44, none⟩)), gv (X && Y) (.bool P.cut), gv (X && Y) (.pointer (some ⟨g2, 44, none⟩)), gv (X && Y) (.bool Q.cut), gv (X && Y) (.bool (P.cut == Q.cut)), .bool ((X && Y) && (P.cut == Q.cut)), .bool ((X && Y) && (P.cut == Q.cut)), gv ((X && Y) && (P.cut == Q.cut)) (.pointer (some ⟨g1, 45, none⟩)), gv ((X && Y) && (P.cut == Q.cut)) (.string P.pay), gv ((X && Y) && (P.cut == Q.cut)) (.pointer (some ⟨g2, 45, none⟩)), gv ((X && Y) && (P.cut == Q.cut)) (.string Q.pay), gv ((X && Y) && (P.cut == Q.cut)) (.bool (decide (P.pay = Q.pay))), .bool (((X && Y) && (P.cut == Q.cut)) && (decide (P.pay = Q.pay))), .bool (((X && Y) && (P.cut == Q.cut)) && (decide (P.pay = Q.pay)))] : List Value).getD j undef)
            [106, 107, 108, 109, 110, 111, 112, 113, 114, 115, 116, 117, 118, 119, 120, 121, 122, 123, 4]
            [(6, .bool X), (7, .bool Y), (2, .pointer (some ⟨g1, 0, none⟩)), (3, .pointer (some ⟨g2, 0, none⟩))] [] 0
            [[], [0], [1], [1, 2], [3], [4], [4, 5], [4], [4, 7], [4, 6, 8], [4, 9], [10], [11], [11, 12], [11], [11, 14], [11, 13, 15], [11, 16], [17]]
            (by kernel_rfl) ⟨rfl, rfl, rfl, rfl, trivial⟩ trivial (Below.refl _ _) (fun v v' h hb => h.trans (hb.mono h.size)) (fun _ _ _ _ h _ => h)
            ⟨
            (fun QQ aa ww hS fr kn => sg0 rfl (fun K hK => wp_value (exec_move rfl fr.1) (hK _ _ rfl (Below.refl _ _)))),
            (fun QQ aa ww hS fr kn => sg0 rfl (fun K hK => wp_value (exec_move rfl kn.1) (hK _ _ rfl (Below.refl _ _)))),
            (fun QQ aa ww hS fr kn => sgT rfl kn.1 (fun hc K hK => wp_value (exec_move rfl fr.2.1) (hK _ _ (gv_t hc).symm (Below.refl _ _))) (fun h0 => (gv_f h0).symm)),
            (fun QQ aa ww hS fr kn => sg0 rfl (fun K hK => wp_value (exec_pickAnd rfl kn.1 (fun hx => kn.2.1.trans (gv_t hx)) rfl) (hK _ _ rfl (Below.refl _ _)))),
            (fun QQ aa ww hS fr kn => sg0 rfl (fun K hK => wp_value (exec_move rfl kn.1) (hK _ _ rfl (Below.refl _ _)))),
            (fun QQ aa ww hS fr kn => sgT rfl kn.1 (fun hc K hK => wp_value (exec_fpk 12 (by decide) rfl fr.2.2.1) (hK _ _ (gv_t hc).symm (Below.refl _ _))) (fun h0 => (gv_f h0).symm)),
            (fun QQ aa ww hS fr kn => sgT rfl kn.1 (fun hc K hK => wp_value (exec_ld rfl (kn.2.1.trans (gv_t hc)) (ldPb (pk_cut (SAt.kept r1 hS)))) (hK _ _ (gv_t hc).symm (Below.refl _ _))) (fun h0 => (gv_f h0).symm)),
            (fun QQ aa ww hS fr kn => sgT rfl kn.1 (fun hc K hK => wp_value (exec_fpk 12 (by decide) rfl fr.2.2.2.1) (hK _ _ (gv_t hc).symm (Below.refl _ _))) (fun h0 => (gv_f h0).symm)),
            (fun QQ aa ww hS fr kn => sgT rfl kn.1 (fun hc K hK => wp_value (exec_ld rfl (kn.2.1.trans (gv_t hc)) (ldPb (pk_cut (SAt.kept r2 hS)))) (hK _ _ (gv_t hc).symm (Below.refl _ _))) (fun h0 => (gv_f h0).symm)),
            (fun QQ aa ww hS fr kn => sgT rfl kn.1 (fun hc K hK => wp_value (cmp_eqB rfl (kn.2.1.trans (gv_t hc)) (kn.2.2.1.trans (gv_t hc))) (hK _ _ (gv_t hc).symm (Below.refl _ _))) (fun h0 => (gv_f h0).symm)),
            (fun QQ aa ww hS fr kn => sg0 rfl (fun K hK => wp_value (exec_pickAnd rfl kn.1 (fun hx => kn.2.1.trans (gv_t hx)) rfl) (hK _ _ rfl (Below.refl _ _)))),
            (fun QQ aa ww hS fr kn => sg0 rfl (fun K hK => wp_value (exec_move rfl kn.1) (hK _ _ rfl (Below.refl _ _)))),
            (fun QQ aa ww hS fr kn => sgT rfl kn.1 (fun hc K hK => wp_value (exec_fpk 13 (by decide) rfl fr.2.2.1) (hK _ _ (gv_t hc).symm (Below.refl _ _))) (fun h0 => (gv_f h0).symm)),
            (fun QQ aa ww hS fr kn => sgT rfl kn.1 (fun hc K hK => wp_value (exec_ld rfl (kn.2.1.trans (gv_t hc)) (ldPs (pk_pay (SAt.kept r1 hS)))) (hK _ _ (gv_t hc).symm (Below.refl _ _))) (fun h0 => (gv_f h0).symm)),
            (fun QQ aa ww hS fr kn => sgT rfl kn.1 (fun hc K hK => wp_value (exec_fpk 13 (by decide) rfl fr.2.2.2.1) (hK _ _ (gv_t hc).symm (Below.refl _ _))) (fun h0 => (gv_f h0).symm)),
            (fun QQ aa ww hS fr kn => sgT rfl kn.1 (fun hc K hK => wp_value (exec_ld rfl (kn.2.1.trans (gv_t hc)) (ldPs (pk_pay (SAt.kept r2 hS)))) (hK _ _ (gv_t hc).symm (Below.refl _ _))) (fun h0 => (gv_f h0).symm)),
            (fun QQ aa ww hS fr kn => sgT rfl kn.1 (fun hc K hK => wp_value (exec_eqSd (s := P.pay) (t := Q.pay) rfl (kn.2.1.trans (gv_t hc)) (kn.2.2.1.trans (gv_t hc))) (hK _ _ (gv_t hc).symm (Below.refl _ _))) (fun h0 => (gv_f h0).symm)),
            (fun QQ aa ww hS fr kn => sg0 rfl (fun K hK => wp_value (exec_pickAnd rfl kn.1 (fun hx => kn.2.1.trans (gv_t hx)) rfl) (hK _ _ rfl (Below.refl _ _)))),
            (fun QQ aa ww hS fr kn => sg0 rfl (fun K hK => wp_value (exec_assign rfl kn.1) (hK _ _ rfl (Below.refl _ _)))),
            trivial⟩ ?_
        intro vs z4 hB5 kn
        have e4 : vs 4 = .bool (((X && Y) && (P.cut == Q.cut)) && (decide (P.pay = Q.pay))) := kn 18 (by decide)
        clear kn
        simp only [putAll, Act.put, List.setIfInBounds_toArray, List.set_cons_zero, List.set_cons_succ, e4]
        clear e4
        go_wp2_with fail
        go_ret
        have hBy := hBz.trans (hB3.mono hBz.size)
        have hBx := hBy.trans (hB4.mono hBy.size)
        have hBw := hBx.trans (hB5.mono hBx.size)
        exact ⟨by rw [HQ.out]; rfl, hB2.trans (hBw.mono hB2.size)⟩
  · have hr : r = false := by rw [HT.out, exEq_len he]; rfl
    have hei : ¬ (P.exts.length : Int) = (Q.exts.length : Int) := by omega
    go_wp2_with (first | (refine wl_value rfl (exec_fpk 11 (by decide) rfl (by rfl)) ?_) | (refine wl_value rfl (exec_ld rfl (by rfl) (ldPx s1)) ?_) | (refine wl_value rfl (exec_ld rfl (by rfl) (ldPx s2)) ?_))
    go_ret
    exact ⟨by rw [hr]; rfl, hB2⟩
end Go.Proofs.YtojekoakgpkkdaaDoor

/-
  Own text. What was built is read again as the packet that it was.
-/
namespace Go.Proofs.YtojekoakgpkkdaaDoor
open Go.RowKit Go.Proofs
set_option maxRecDepth 100000
/-- The numbers of a packet that may be. -/
structure PkOk (P : Pk) : Prop where
  sb : Byts 16 P.sb
  db : Byts 16 P.db
theorem bN_lt (b : Bool) (n : Nat) : bN b n ≤ n := by unfold bN; split <;> omega
theorem exB_size {P : Pk} : ∀ {l : List Ex} {i : Nat}, exsOk l i = true → (exB P l).size = exLen l + (if P.cut = true then 8 else 0)
  | [], _, _ => by
    unfold exB exLen cuB
    split
    · simp only [ByteArray.size_append, putT_size]
    · rw [ByteArray.size_empty]
  | x :: l, i, h => by
    unfold exsOk at h
    rw [Bool.and_eq_true] at h
    have := exB_size (P := P) h.2
    unfold exB exLen
    simp only [ByteArray.size_append, putT_size, this]
    omega
theorem exsOk_kind {P : Pk} (hp : isHd P.proto = false) : ∀ {l : List Ex} {i : Nat}, exsOk l i = true → (0 ≤ P.proto ∧ P.proto ≤ 255) → 0 ≤ nextK P l ∧ nextK P l ≤ 255 ∧ (l = [] → isHd (nextK P l) = P.cut)
  | [], _, _, hb => by
    unfold nextK tailK
    cases hc : P.cut
    · simp [hp, hb]
    · simp; decide
  | x :: l, i, h, _ => by
    unfold exsOk at h
    rw [Bool.and_eq_true, exOk_iff] at h
    have e : nextK P (x :: l) = x.kind := rfl
    rw [e]
    exact ⟨by omega, by omega, fun h => by cases h⟩
theorem exsOk_len : ∀ {l : List Ex} {i : Nat}, exsOk l i = true → l = [] ∨ i + l.length ≤ 4
  | [], _, _ => .inl rfl
  | x :: l, i, h => by
    unfold exsOk at h
    rw [Bool.and_eq_true, exOk_iff] at h
    rcases exsOk_len h.2 with e | e
    · subst e
      right
      simp
      omega
    · right
      simp
      omega
theorem a4_size (P : Pk) : (a4 P).size = 10 := by unfold a4; simp only [ByteArray.size_append, putT_size]
theorem b4_size {P : Pk} (h : rgtP P = true) (h4 : P.sv = false) : (b4 P).size = 8 + P.opts.size := by
  obtain ⟨h1, h2, h3, _⟩ := rgtP_iff.1 h
  have hd : P.dv = false := by rw [← h3]; exact h4
  have z1 := bytT_len h1
  have z2 := bytT_len h2
  rw [if_neg (by rw [h4]; decide)] at z1
  rw [if_neg (by rw [hd]; decide)] at z2
  unfold b4
  simp only [ByteArray.size_append, z1, z2]
theorem four_size {P : Pk} (h : rgtP P = true) (h4 : P.sv = false) : (fourB P).size = headP P + P.pay.size := by
  unfold fourB headP
  rw [if_neg (by rw [h4]; decide)]
  simp only [ByteArray.size_append, a4_size, b4_size h h4, putT_size]
  omega
end Go.Proofs.YtojekoakgpkkdaaDoor

