/-
  Own text. The same as in Inv, where the region's last operation waits for all the others and stores: it is walked behind them. No program is named here.
-/
import Derived.Test.YtjnknhgjlllhjaaJ1
import Derived.Test.YtjnknhgjlllhjaaJ3
import Derived.BigQuiet
import Derived.ProofKit
import Derived.OpenShut
import Derived.SizedLaws
import Derived.Carry
namespace Go.Proofs.Ytjnknhgjlllhjaa
open Go
section
variable {P : Program} {ops : Array Oper} {Q : Exit → Act → World → Prop}
/-- Each operation but the last one writes a slot of its own, and waits for earlier ones alone; the last one writes none, has no guard and waits for all. -/
def invB2 (ops : Array Oper) (m : Nat) : Bool :=
  decide (ops.size = m + 1) && (ops.toList.take m).all (fun o => o.dst.isSome) && decide (dsts ops).Nodup &&
  (List.range ops.size).all (fun i => match ops[i]? with
    | some o => o.after.all (fun e => !Region.binds .any e || decide (e.on < i))
    | none => true) &&
  (match ops[m]? with | some o => o.guard.isNone && (List.range m).all (fun j => predOf o j) | none => false)
/-- THE LAW. -/
theorem wp_region_last {id : Nat} {a0 : Act} {w0 : World} (m : Nat) (ol : Oper) (S : World → Prop) (R : World → World → Prop) (φ : Nat → Value → World → Prop) (hm : P.follows .mixedOrders = true) (hB : invB2 ops m = true) (hol : ops[m]? = some ol)
    (hS0 : S w0.drew) (hSR : ∀ w w', S w → R w w' → S w') (hφ : ∀ i v w w', φ i v w → R w w' → φ i v w')
    (step : ∀ (i : Nat) (o : Oper), i < m → ops[i]? = some o → ∀ (a : Act) (w : World), S w → (∀ t : Nat, (∀ (j : Nat) (oj : Oper), ops[j]? = some oj → oj.dst = some t → predOf oj i = true) → a.tmps[t]? = a0.tmps[t]?) →
      (∀ (j : Nat) (oj : Oper) (d : Nat), ops[j]? = some oj → oj.dst = some d → predOf o j = true → φ j (a.tmps.getD d undef) w) →
      wpOp P ops Q i (fun a' w' => ∃ v, a' = a.put o.dst v ∧ φ i v w' ∧ R w w') a w)
    (fin : ∀ (vs : Nat → Value) (w : World), S w → (∀ (i : Nat) (o : Oper) (d : Nat), i < m → ops[i]? = some o → o.dst = some d → φ i (vs d) w) → ol.wp P (putAll a0 vs (dsts ops)) w (fun a' w' => Q .normal a' w') Q)
    (hsz : ∀ d ∈ dsts ops, d < a0.tmps.size) : (Code.region id ops true).wp P Q a0 w0 := by
  simp only [invB2, Bool.and_eq_true, decide_eq_true_eq, hol] at hB
  obtain ⟨⟨⟨⟨hsize, hsome⟩, hnd⟩, hord⟩, hgn, hwait⟩ := hB
  refine wp_region_any hm (wpAny_inv (fun listed a w => (Mid ops a0 S φ listed a w ∧ listed.getD m false = false) ∨ ((∀ i, i < ops.size → listed.getD i true = true) ∧ Q .normal a w)) ?_ ?_ ops.size _ a0 _ ?_ ?_)
  · intro listed a w i inv hi
    obtain ⟨hun, oi, hoi, hall⟩ := mem_ready.1 hi
    have hils : i < listed.size := by
      rcases Nat.lt_or_ge i listed.size with h | h
      · exact h
      · simp [Array.getElem?_eq_none h] at hun
    have hilt : i < ops.size := (Array.getElem?_eq_some_iff.1 hoi).1
    have hunf : listed.getD i false = false := by simp [hils] at hun ⊢; exact hun
    rcases inv with ⟨mid, hnl⟩ | ⟨hdone, _⟩
    · by_cases him : i = m
      · subst him
        obtain rfl : oi = ol := Option.some.inj (hoi.symm.trans hol)
        have hlist : ∀ j, j < i → listed.getD j false = true := fun j hj => by
          have h1 := List.all_eq_true.1 hwait j (List.mem_range.2 hj)
          obtain ⟨e, he, hb⟩ := Array.any_eq_true'.1 h1
          simp only [Bool.and_eq_true, beq_iff_eq] at hb
          have h2 := hall e he hb.1
          rwa [hb.2] at h2
        have hq := fin (fun d => a.tmps.getD d undef) w mid.world (fun j o d hj ho hd => mid.known j o d ho hd (hlist j hj))
        have ha : putAll a0 (fun d => a.tmps.getD d undef) (dsts ops) = a := by
          have h1 := putAll_defers (fun d => a.tmps.getD d undef) (dsts ops) a0
          have h2 : (putAll a0 (fun d => a.tmps.getD d undef) (dsts ops)).tmps = a.tmps := by
            apply Array.ext_getElem?
            intro t
            by_cases ht : t < a0.tmps.size
            · rw [putAll_get _ _ _ _ ht]
              by_cases hm2 : t ∈ dsts ops
              · rw [if_pos hm2]
                have : t < a.tmps.size := by rw [mid.size]; exact ht
                simp [this]
              · rw [if_neg hm2]
                exact (mid.frame t (fun i o hi _ hd => hm2 (List.mem_filterMap.2 ⟨o, by simpa using Array.mem_of_getElem? hi, hd⟩))).symm
            · rw [Array.getElem?_eq_none (by rw [putAll_size]; omega), Array.getElem?_eq_none (by rw [mid.size]; omega)]
          rw [← mid.defers] at h1
          generalize putAll a0 (fun d => a.tmps.getD d undef) (dsts ops) = b at h1 h2
          cases a; cases b
          simp only at h1 h2
          rw [h1, h2]
        rw [ha] at hq
        have hw : Region.wanted oi (yielded ops a.tmps) = true := by
          unfold Region.wanted
          cases hgd : oi.guard with
          | none => rfl
          | some x => rw [hgd] at hgn; simp at hgn
        have hlsz : listed.size = ops.size := mid.lsize
        unfold wpOp
        simp only [hoi, hw, if_true]
        refine .inl (Oper.wp_mono (fun a' w' h => .inr ⟨fun j hj => ?_, h⟩) hq)
        by_cases hji : i = j
        · subst hji; simp [hils]
        · rw [getD_set_ne true hji]
          have h1 := hlist j (by omega)
          have hjl : j < listed.size := by omega
          simp [hjl] at h1 ⊢; exact h1
      · have hlt : i < m := by omega
        have hst := step i oi hlt hoi a w mid.world
          (fun t ht => mid.frame t (fun j oj hj hl hd => by
            obtain ⟨e, he, hb⟩ := Array.any_eq_true'.1 (ht j oj hj hd)
            simp only [Bool.and_eq_true, beq_iff_eq] at hb
            have := mid.closed j oj hj hl e he hb.1
            rw [hb.2, hunf] at this
            cases this))
          (fun j oj d hj hd hp => by
            obtain ⟨e, he, hb⟩ := Array.any_eq_true'.1 hp
            simp only [Bool.and_eq_true, beq_iff_eq] at hb
            have := hall e he hb.1
            rw [hb.2] at this
            exact mid.known j oj d hj hd this)
        refine wpOp_mono (fun a' w' h' => ?_) hst
        obtain ⟨v, rfl, hv, hR⟩ := h'
        have hsi : oi.dst.isSome = true := List.all_eq_true.1 hsome oi (List.mem_of_getElem? (i := i) (by rw [List.getElem?_take, if_pos hlt]; simpa using hoi))
        obtain ⟨di, hdi⟩ := Option.isSome_iff_exists.1 hsi
        have hmem : di ∈ dsts ops := List.mem_filterMap.2 ⟨oi, by simpa using Array.mem_of_getElem? hoi, hdi⟩
        have hdlt : di < a.tmps.size := by rw [mid.size]; exact hsz di hmem
        have hself : (listed.setIfInBounds i true).getD i false = true := by simp [hils]
        rw [hdi]
        refine .inl ⟨⟨by simp [mid.lsize], fun j oj hj hl e he hb => ?_, by simpa [Act.put] using mid.size, mid.defers, hSR w w' mid.world hR, fun t ht => ?_, fun j oj d hj hd hl => ?_⟩, by rw [getD_set_ne false him]; exact hnl⟩
        · rcases getD_set_false hl with rfl | hl
          · obtain rfl : oj = oi := Option.some.inj (hj.symm.trans hoi)
            have h1 := hall e he hb
            by_cases hie : j = e.on
            · rw [hie]; rw [hie] at hself; exact hself
            · rw [getD_set_ne false hie]; exact h1
          · have h1 := mid.closed j oj hj hl e he hb
            by_cases hie : i = e.on
            · rw [← hie]; exact hself
            · rw [getD_set_ne false hie]; exact h1
        · have hne : di ≠ t := fun h => ht i oi hoi hself (by rw [hdi, h])
          rw [show (a.put (some di) v).tmps[t]? = a.tmps[t]? from by simp [Act.put, hne]]
          exact mid.frame t (fun j oj hj hl => ht j oj hj (by
            by_cases hij : i = j
            · subst hij; exact hself
            · rw [getD_set_ne false hij]; exact hl))
        · rcases getD_set_false hl with rfl | hl
          · obtain rfl : oj = oi := Option.some.inj (hj.symm.trans hoi)
            obtain rfl : d = di := Option.some.inj (hd.symm.trans hdi)
            rw [show (a.put (some d) v).tmps.getD d undef = v from by simp [Act.put, hdlt]]
            exact hv
          · have hne : di ≠ d := fun h => by
              subst h
              have := nodup_dst hnd hoi hj hdi hd
              subst this
              rw [hunf] at hl
              cases hl
            rw [show (a.put (some di) v).tmps.getD d undef = a.tmps.getD d undef from by simp [Act.put, hne]]
            exact hφ j _ w w' (mid.known j oj d hj hd hl) hR
    · have := hdone i hilt
      rw [hun] at this
      cases this
  · intro listed a w inv hr
    rcases inv with ⟨mid, hnl⟩ | ⟨_, hq⟩
    · exfalso
      have hall : ∀ n i, i < n → i < ops.size → listed.getD i false = true := by
        intro n
        induction n with
        | zero => intro i h; cases h
        | succ n ih =>
          intro i hin hil
          by_cases hlt : i < n
          · exact ih i hlt hil
          · have hin' : i = n := by omega
            subst hin'
            cases hg : listed.getD i false with
            | true => rfl
            | false =>
              have ho : ops[i]? = some ops[i] := Array.getElem?_eq_getElem hil
              have h1 := List.all_eq_true.1 hord i (List.mem_range.2 hil)
              simp only [ho] at h1
              have hin2 : i ∈ Region.ready .any ops listed := mem_ready.2 ⟨by
                have : i < listed.size := by rw [mid.lsize]; exact hil
                simp [this] at hg ⊢; exact hg, _, ho, fun e he hb => by
                have h2 := Array.all_eq_true'.1 h1 e he
                simp only [hb, Bool.not_true, Bool.false_or, decide_eq_true_eq] at h2
                exact ih e.on h2 (by omega)⟩
              rw [hr] at hin2
              cases hin2
      have h1 := hall (m + 1) m (by omega) (by omega)
      rw [hnl] at h1
      cases h1
    · exact hq
  · unfold leftOf
    exact Nat.le_trans (List.length_filter_le _ _) (by simp)
  · exact .inl ⟨⟨by simp, fun j oj _ hl => (by rw [getD_replicate_f] at hl; cases hl), rfl, rfl, hS0, fun _ _ => rfl, fun i o d _ _ hl => (by rw [getD_replicate_f] at hl; cases hl)⟩, getD_replicate_f _ _⟩
/-- The last operation's walk, behind a name that is not looked through. -/
structure Last (P : Program) (Q : Exit → Act → World → Prop) (ol : Oper) (a : Act) (w : World) : Prop where
  out : ol.wp P a w (fun a' w' => Q .normal a' w') Q
theorem eval_putAll {a : Act} {vs : Nat → Value} {l : List Nat} {t : Nat} (ht : t ∈ l) (hs : t < a.tmps.size) : (putAll a vs l).eval (.tmp t) = vs t := by
  simp only [Act.eval]
  rw [Array.getD_eq_getD_getElem?, putAll_get vs l a t hs, if_pos ht]
  rfl
/-- Do the tables fit the region, but for its last operation? -/
def tabB2 (ops : Array Oper) (m : Nat) (ds : List Nat) (base : List Nat) (p : List (List Nat)) : Bool :=
  ((ops.toList.take m).map (·.dst) == ds.map some) && base.all (fun t => !ds.contains t) &&
  (List.range m).all (fun k => match ops[k]? with
    | some o => (p.getD k []).all (fun j => predOf o j && decide (j < m)) && (match o.guard with | some (g, _) => decide (g < m) | none => true)
    | none => true) && (match ops[m]? with | some o => o.dst.isNone | none => false)
/-- THE LAW, operation by operation. -/
theorem wp_region_steps2 {id : Nat} {a0 : Act} {w0 : World} (m : Nat) (ol : Oper) (S : World → Prop) (R : World → World → Prop) (φ : Nat → Value → World → Prop) (ds : List Nat) (base : List (Nat × Value)) (p : List (List Nat))
    (hm : P.follows .mixedOrders = true) (hB : (invB2 ops m && tabB2 ops m ds (base.map (·.1)) p && ds.all (fun d => decide (d < a0.tmps.size))) = true) (hdrop : ops.toList.drop m = [ol])
    (hb0 : Holds a0 base) (hS0 : S w0.drew) (hSR : ∀ w w', S w → R w w' → S w') (hφ : ∀ i v w w', φ i v w → R w w' → φ i v w')
    (steps : AllSteps P S R φ ds base p 0 (ops.toList.take m))
    (fin : ∀ (vs : Nat → Value) (w : World), S w → (∀ j : Nat, j < ds.length → φ j (vs (ds.getD j 0)) w) → Last P Q ol (putAll a0 vs ds) w) : (Code.region id ops true).wp P Q a0 w0 := by
  have hol : ops[m]? = some ol := by
    rw [← Array.getElem?_toList]
    have h := congrArg (fun l => l[0]?) hdrop
    simpa [List.getElem?_drop] using h
  simp only [Bool.and_eq_true] at hB
  obtain ⟨⟨hI, hT⟩, hsz⟩ := hB
  have hsize : ops.size = m + 1 := by
    simp only [invB2, Bool.and_eq_true, decide_eq_true_eq] at hI
    exact hI.1.1.1.1
  simp only [tabB2, Bool.and_eq_true, beq_iff_eq, hol] at hT
  obtain ⟨⟨⟨hds, hbase⟩, htab⟩, hnone⟩ := hT
  have hnone' : ol.dst = none := by simpa using hnone
  have hm1 : m < ops.size := by omega
  have hat : ∀ (j : Nat) (oj : Oper), j < m → ops[j]? = some oj → (ops.toList.take m)[j]? = some oj := fun j oj hj ho => by
    rw [List.getElem?_take, if_pos hj]; simpa using ho
  have hdst : ∀ (j : Nat) (oj : Oper), j < m → ops[j]? = some oj → oj.dst = some (ds.getD j 0) ∧ j < ds.length := fun j oj hjm hj => by
    have h1 : ((ops.toList.take m).map (·.dst))[j]? = some oj.dst := by rw [List.getElem?_map, hat j oj hjm hj]; rfl
    rw [hds, List.getElem?_map] at h1
    cases hq : ds[j]? with
    | none => rw [hq] at h1; simp at h1
    | some d =>
      rw [hq] at h1
      have hl : j < ds.length := (List.getElem?_eq_some_iff.1 hq).1
      refine ⟨?_, hl⟩
      rw [List.getD_eq_getElem?_getD, hq]
      simpa using h1.symm
  have hlt : ∀ (j : Nat) (oj : Oper) (d : Nat), ops[j]? = some oj → oj.dst = some d → j < m := fun j oj d hj hd => by
    have h1 : j < ops.size := (Array.getElem?_eq_some_iff.1 hj).1
    by_cases e : j = m
    · subst e
      obtain rfl : oj = ol := Option.some.inj (hj.symm.trans hol)
      rw [hnone'] at hd
      cases hd
    · omega
  have hdsts : dsts ops = ds := by
    unfold dsts
    have hsplit : ops.toList = ops.toList.take m ++ [ol] := by
      have h1 := (List.take_append_drop m ops.toList).symm
      have h2 : ops.toList.drop m = [ol] := by
        have hl : m < ops.toList.length := by simpa using hm1
        rw [List.drop_eq_getElem_cons hl, List.drop_of_length_le (by rw [Array.length_toList]; omega)]
        have h3 : ops.toList[m]? = some ol := by simpa using hol
        rw [List.getElem?_eq_getElem hl] at h3
        rw [Option.some.inj h3]
      rw [h2] at h1
      exact h1
    rw [hsplit, List.filterMap_append]
    have h1 : (ops.toList.take m).filterMap (·.dst) = ((ops.toList.take m).map (·.dst)).filterMap (fun x => x) := by rw [List.filterMap_map]; rfl
    rw [h1, hds, List.filterMap_map]
    have h4 : ([ol].filterMap fun o => o.dst) = [] := by simp [hnone']
    rw [h4, List.append_nil]
    exact List.filterMap_some
  refine wp_region_last m ol S R φ hm hI hol hS0 hSR hφ (fun i o him hi a w hS hfr hkn => ?_) (fun vs w hS h => ?_) (fun d hd => by rw [hdsts] at hd; simpa using List.all_eq_true.1 hsz d hd)
  · have hil : i < ops.size := (Array.getElem?_eq_some_iff.1 hi).1
    have ht := List.all_eq_true.1 htab i (List.mem_range.2 him)
    simp only [hi, Bool.and_eq_true] at ht
    have st := AllSteps.at (ops.toList.take m) p 0 steps i o (hat i o him hi)
    rw [Nat.zero_add] at st
    obtain ⟨hg, hk⟩ := st Q a w hS
      (holds_of base (fun t htm => eval_tmp_of (hfr t (fun j oj hj hd => by
        exfalso
        have h1 := List.all_eq_true.1 hbase t htm
        have h2 := (hdst j oj (hlt j oj t hj hd) hj).1
        rw [hd] at h2
        have h3 : t = ds.getD j 0 := Option.some.inj h2
        have h4 : t ∈ ds := by
          rw [h3, List.getD_eq_getElem?_getD, List.getElem?_eq_getElem (hdst j oj (hlt j oj t hj hd) hj).2]
          simp
        simp [h4] at h1))) hb0)
      (knows_of _ (fun j hj => by
        have h1 := List.all_eq_true.1 ht.1 j hj
        simp only [Bool.and_eq_true, decide_eq_true_eq] at h1
        have hoj : ops[j]? = some (ops[j]'(by omega)) := Array.getElem?_eq_getElem (by omega)
        have h2 := hkn j _ _ hoj (hdst j _ h1.2 hoj).1 h1.1
        simpa [Act.eval] using h2))
    have hw : Region.wanted o (yielded ops a.tmps) = true := by
      unfold Region.wanted
      cases hgd : o.guard with
      | none => rfl
      | some x =>
        obtain ⟨g, b⟩ := x
        rw [hgd] at hg
        have h2 := ht.2
        rw [hgd] at h2
        simp only [decide_eq_true_eq] at h2
        have hog : ops[g]? = some (ops[g]'(by omega)) := Array.getElem?_eq_getElem (by omega)
        have hd := (hdst g _ h2 hog).1
        have h4 : a.tmps[ds.getD g 0]? = some (.bool b) := by
          simp only [Act.eval] at hg
          rw [Array.getD_eq_getD_getElem?] at hg
          cases hq : a.tmps[ds.getD g 0]? with
          | none => rw [hq] at hg; simp [undef] at hg
          | some v => rw [hq] at hg; simpa using hg
        have hy : yielded ops a.tmps g = some b := by
          unfold yielded
          rw [hog]
          simp only [Option.bind_some, hd, h4]
        simp [hy]
    unfold wpOp
    simp only [hi, hw, if_true]
    exact .inl (hk _ (fun v w' h1 h2 => ⟨v, rfl, h1, h2⟩))
  · rw [hdsts]
    refine (fin vs w hS (fun j hj => ?_)).out
    have hlen : (ops.toList.take m).length = ds.length := by have := congrArg List.length hds; simpa using this
    have hjm : j < m := by rw [← hlen, List.length_take] at hj; omega
    have hoj : ops[j]? = some (ops[j]'(by omega)) := Array.getElem?_eq_getElem (by omega)
    exact h j _ _ hjm hoj (hdst j _ hjm hoj).1
end
end Go.Proofs.Ytjnknhgjlllhjaa
/-
  Own text. The program's windows of numbers of 64 bits: Take.
-/
namespace Go.Proofs.Ytjnknhgjlllhjaa
open Go.RowKit Go.Proofs
set_option maxRecDepth 100000
theorem enterPlc64 (args : Array Value) (w : World) : (callFunc 33 args).run Try.prog w = .ok (.enter 33 args) w := by kernel_rfl
theorem enterBit64 (args : Array Value) (w : World) : (callFunc 34 args).run Try.prog w = .ok (.enter 34 args) w := by kernel_rfl
theorem exec_fw64 {a : Act} {o : Oper} {w : World} {x : Operand} (ho : o.op = .fieldAddr 52 x 2) {b : Nat} (hx : a.eval x = .pointer (some ⟨b, 0, none⟩)) : (execOp a.eval o).run Try.prog w = .ok (.value (.pointer (some ⟨b, 2, none⟩))) w := by
  unfold execOp
  simp only [ho, hx]
  simp [go_sem]
set_option maxHeartbeats 4000000 in
theorem take64_no {w : World} {b g : Nat} {r sz : Int} {T : Nat} {f : Nat → Int} (hW : WB64 w b g r T (wK sz) f) (hz : max r 1 = sz) (h2 : sz ≤ 8192) (c : Nat) (hc : c < 18446744073709551616) (hT : T < 18446744073709551616) (hu : ∀ j, j < wK sz → U64 (f j))
    (hF : (!decide (c = 18446744073709551615) && (decide (T ≤ c) || (decide (lowN sz T ≤ c) && !bt (f (c / 64 % wK sz)) (c % 64)))) = false) :
    Calls Try.prog 16 #[.pointer (some ⟨b, 0, none⟩), .int .u64 (c : Int)] w fun e w' => e = .returned (.bool false) ∧ Below w.heap.size w w' := by
  have hrun := fresh64_gen hW hz h2 c hc hT hu
  rw [hF] at hrun
  go_enter Try.func16, Try.ntmps16
  go_wp2_with fail
  refine hrun.mono ?_
  rintro e v0 ⟨rfl, m, rfl⟩
  go_wp2_with fail
  go_ret
  exact ⟨rfl, below_dn w m⟩
set_option maxHeartbeats 8000000 in
theorem take64_mid {w : World} {b g : Nat} {r sz : Int} {T n : Nat} {s f : Nat → Int} (hW : WB64 w b g r T (wK sz) f) (hz : max r 1 = sz) (h2 : sz ≤ 8192) (c : Nat) (hc : c + 1 < 18446744073709551616) (hT : T < 18446744073709551616) (hX : Words sz T n s f)
    (hF : (!decide (c = 18446744073709551615) && (decide (T ≤ c) || (decide (lowN sz T ≤ c) && !bt (f (c / 64 % wK sz)) (c % 64)))) = true) (hlt : c < T) (hl : (T : Int) ≤ c + sz) :
    Calls Try.prog 16 #[.pointer (some ⟨b, 0, none⟩), .int .u64 (c : Int)] w fun e w' => e = .returned (.bool true) ∧ ∃ f', WB64 w' b g r T (wK sz) f' ∧ Words sz T (n + 1) (cat n s (fun _ => (c : Int))) f' ∧ Touch (fun k => k = b ∨ k = g) w w' := by
  have hrun := fresh64_gen hW hz h2 c (by omega) hT hX.u
  rw [hF] at hrun
  have HX := Hid.mk (Words.put hX.u (hX.bits (by omega)) (word_in hlt hl).1 (word_in hlt hl).2 (T := T) (by omega) rfl)
  have hK := wK_pos sz
  have hK2 : wK sz ≤ 1000 := by have := wK_le h2; omega
  have hp := Nat.mod_lt (c / 64) hK
  have hq := or_bit (hX.u _ hp) (c % 64) (by omega)
  have HQ : Hid (∀ ww, Calls Try.prog 34 #[.int .u64 (c : Int)] ww fun e w' => e = .returned (.int .u64 ((2 ^ (c % 64) : Nat) : Int)) ∧ w' = ww) := Hid.mk (fun ww => bit64_run ww c (by omega))
  clear hX hF
  generalize hp0 : c / 64 % wK sz = p at *
  generalize hx0 : f p = x at *
  generalize ((2 ^ (c % 64) : Nat) : Int) = q at *
  generalize hy0 : ((x.toNat ||| 2 ^ (c % 64) : Nat) : Int) = y at *
  have HO := Hid.mk hq
  clear hq
  generalize wK sz = K at *
  have hd : decide ((T : Int) ≤ (c : Int)) = false := decide_eq_false (by omega)
  go_enter Try.func16, Try.ntmps16
  go_wp2_with fail
  refine hrun.mono ?_
  rintro e u0 ⟨rfl, m, hu0⟩
  have hb0 := below_dn w m
  rw [← hu0] at hb0
  clear hrun hu0
  have hW0 := hW.kept hb0
  have c1 := hW0.c1
  have c2 := hW0.c2
  go_wp2_with (refine wl_value rfl (exec_nil29 rfl (by rfl)) ?_)
  clear c1 c2
  have hcW := hW0.row.cell p hp
  have HC : Hid (∀ ww, Below u0.heap.size u0 ww → ww.cell? ⟨b, 2, none⟩ = some (.slice (some ⟨g, 0, none⟩) K K) ∧ ww.cell? ⟨g, p, none⟩ = some (.int .u64 x)) := Hid.mk (fun ww hb => ⟨(hW0.kept hb).c2, by rw [← hx0]; exact (hW0.kept hb).row.cell p hp⟩)
  have HP : Hid (∀ ww, Below u0.heap.size u0 ww → Calls Try.prog 33 #[.pointer (some ⟨b, 0, none⟩), .int .u64 (c : Int)] ww fun e w' => e = .returned (.int .i64 (p : Int)) ∧ w' = ww) := Hid.mk (fun ww hb => by rw [← hp0]; exact place64_run c (by omega) (hW0.kept hb).c2 hK hK2)
  have HW := Hid.mk hW0
  clear hcW hW0
  refine wp_region_steps2 13 _ (Below u0.heap.size u0) (fun v v' => Below v.heap.size v v') (fun i v _ => match i with | 0 => v = .pointer (some ⟨b, 0, none⟩) | 1 => v = .pointer (some ⟨b, 0, none⟩) | 2 => v = .pointer (some ⟨b, 2, none⟩) | 3 => v = .slice (some ⟨g, 0, none⟩) K K | 4 => v = .pointer (some ⟨b, 0, none⟩) | 5 => v = .int .u64 (c : Int) | 6 => v = .int .i64 (p : Int) | 7 => v = .pointer (some ⟨g, p, none⟩) | 8 => v = .int .u64 x | 9 => v = .int .u64 (c : Int) | 10 => v = .int .u64 q | 11 => v = .int .u64 y | 12 => v = .pointer (some ⟨g, p, none⟩) | _ => True) [29, 30, 31, 32, 33, 34, 35, 36, 37, 38, 39, 40, 41]
    [(0, .pointer (some ⟨b, 0, none⟩)), (1, .int .u64 (c : Int))] [[], [0], [1], [2], [], [], [4, 5], [3, 6], [7], [], [9], [8, 10], [3, 6]] rfl (by kernel_rfl) rfl ⟨rfl, rfl, trivial⟩ (Below.drew (Below.refl _ _)) (fun v v' h hb => h.trans (hb.mono h.size)) ?_
    ⟨
    (fun Q a1 ww hS fr kn => ⟨trivial, fun K hK => wp_value (exec_move rfl fr.1) (hK _ _ rfl (Below.refl _ _))⟩),
    (fun Q a1 ww hS fr kn => ⟨trivial, fun K hK => wp_value (exec_nilc rfl kn.1) (hK _ _ rfl (Below.refl _ _))⟩),
    (fun Q a1 ww hS fr kn => ⟨trivial, fun K hK => wp_value (exec_fw64 rfl kn.1) (hK _ _ rfl (Below.refl _ _))⟩),
    (fun Q a1 ww hS fr kn => ⟨trivial, fun K hK => wp_value (exec_ld rfl kn.1 (load_sl ((HC.out ww hS).1))) (hK _ _ rfl (Below.refl _ _))⟩),
    (fun Q a1 ww hS fr kn => ⟨trivial, fun K hK => wp_value (exec_move rfl fr.1) (hK _ _ rfl (Below.refl _ _))⟩),
    (fun Q a1 ww hS fr kn => ⟨trivial, fun K hK => wp_value (exec_move rfl fr.2.1) (hK _ _ rfl (Below.refl _ _))⟩),
    (fun Q a1 ww hS fr kn => ⟨trivial, fun K hK => stepc enterPlc64 rfl (args2 kn.1 kn.2.1) ((HP.out ww hS).mono (fun _ _ h => ⟨h.1, h.2 ▸ Below.refl _ _⟩)) (fun w' hb => hK _ _ rfl hb)⟩),
    (fun Q a1 ww hS fr kn => ⟨trivial, fun K hK => wp_value (exec_idxW rfl kn.1 kn.2.1 hp) (hK _ _ rfl (Below.refl _ _))⟩),
    (fun Q a1 ww hS fr kn => ⟨trivial, fun K hK => wp_value (exec_ld rfl kn.1 (load_u64 ((HC.out ww hS).2))) (hK _ _ rfl (Below.refl _ _))⟩),
    (fun Q a1 ww hS fr kn => ⟨trivial, fun K hK => wp_value (exec_move rfl fr.2.1) (hK _ _ rfl (Below.refl _ _))⟩),
    (fun Q a1 ww hS fr kn => ⟨trivial, fun K hK => stepc enterBit64 rfl (args1 kn.1) ((HQ.out ww).mono (fun _ _ h => ⟨h.1, h.2 ▸ Below.refl _ _⟩)) (fun w' hb => hK _ _ rfl hb)⟩),
    (fun Q a1 ww hS fr kn => ⟨trivial, fun K hK => wp_value (exec_orW rfl kn.1 kn.2.1 HO.out) (hK _ _ rfl (Below.refl _ _))⟩),
    (fun Q a1 ww hS fr kn => ⟨trivial, fun K hK => wp_value (exec_idxW rfl kn.1 kn.2.1 hp) (hK _ _ rfl (Below.refl _ _))⟩),
    trivial⟩ ?_
  · intro i v u u' h hb
    exact h
  intro vs v9 hS9 hk9
  have e40 : vs 40 = .int .u64 y := hk9 11 (by decide)
  have e41 : vs 41 = .pointer (some ⟨g, p, none⟩) := hk9 12 (by decide)
  clear hk9
  simp only [putAll, Act.put, List.setIfInBounds_toArray, List.set_cons_zero, List.set_cons_succ, e40, e41]
  have hW9 := HW.out.kept hS9
  refine ⟨act_w64 rfl (by rfl) (by rfl) hW9.row hp ?_⟩
  intro v10 g10 o10
  simp only [Act.put]
  have HF := Hid.mk (And.intro (WB64.mk ((o10.block b hW9.ne).trans hW9.blk) g10 hW9.ne) (touch_bg (belT (T := fun k => k = b ∨ k = g) hS9) (Touch.mono (touch_only o10) (T' := fun k => k = b ∨ k = g) (fun k _ e => .inr e))))
  clear hW9 hS9 g10 o10
  go_wp2_with fail
  go_ret
  obtain ⟨f1, f2⟩ := HF.out
  exact ⟨rfl, _, f1, HX.out, touch_bg (belT (T := fun k => k = b ∨ k = g) hb0) f2⟩
set_option maxHeartbeats 8000000 in
theorem take64_new {w : World} {b g : Nat} {r sz : Int} {T n : Nat} {s f : Nat → Int} (hW : WB64 w b g r T (wK sz) f) (hz : max r 1 = sz) (h2 : sz ≤ 8192) (c : Nat) (hc : c + 1 < 18446744073709551616) (hT : T < 18446744073709551616) (hX : Words sz T n s f) (hs : ∀ i, i < n → 0 ≤ s i ∧ s i < T)
    (hF : (!decide (c = 18446744073709551615) && (decide (T ≤ c) || (decide (lowN sz T ≤ c) && !bt (f (c / 64 % wK sz)) (c % 64)))) = true) (hge : T ≤ c) :
    Calls Try.prog 16 #[.pointer (some ⟨b, 0, none⟩), .int .u64 (c : Int)] w fun e w' => e = .returned (.bool true) ∧ ∃ f', WB64 w' b g r (c + 1) (wK sz) f' ∧ Words sz (c + 1) (n + 1) (cat n s (fun _ => (c : Int))) f' ∧ Touch (fun k => k = b ∨ k = g) w w' := by
  have hrun := fresh64_gen hW hz h2 c (by omega) hT hX.u
  rw [hF] at hrun
  have hmov := fun u (hu : WB64 u b g r T (wK sz) f) => mov64_run hu h2 hX hs c hc hge
  have HQ : Hid (∀ ww, Calls Try.prog 34 #[.int .u64 (c : Int)] ww fun e w' => e = .returned (.int .u64 ((2 ^ (c % 64) : Nat) : Int)) ∧ w' = ww) := Hid.mk (fun ww => bit64_run ww c (by omega))
  clear hX hF hs
  have hd : ((T : Int) ≤ (c : Int)) := by omega
  go_enter Try.func16, Try.ntmps16
  go_wp2_with fail
  refine hrun.mono ?_
  rintro e u1 ⟨rfl, m, hu0⟩
  have hb0 := below_dn w m
  rw [← hu0] at hb0
  clear hrun hu0
  have hW1 := hW.kept hb0
  have c1 := hW1.c1
  have c2 := hW1.c2
  go_wp2_with (refine wl_value rfl (exec_nil29 rfl (by rfl)) ?_)
  refine (hmov u1 hW1).mono ?_
  rintro e u0 ⟨rfl, f0, hW0, hU, hB, hT1⟩
  clear c1 c2 hmov hW1
  have hK := wK_pos sz
  have HX := Hid.mk (Words.put hU hB (c := c) (Nat.le_refl _) (by omega) (T := c + 1) (by omega) rfl)
  have hK2 : wK sz ≤ 1000 := by have := wK_le h2; omega
  have hp := Nat.mod_lt (c / 64) hK
  have hq := or_bit (hU _ hp) (c % 64) (by omega)
  clear hU hB hW
  generalize hp0 : c / 64 % wK sz = p at *
  generalize hx0 : f0 p = x at *
  generalize ((2 ^ (c % 64) : Nat) : Int) = q at *
  generalize hy0 : ((x.toNat ||| 2 ^ (c % 64) : Nat) : Int) = y at *
  have HO := Hid.mk hq
  clear hq
  generalize hKK : wK sz = K at *
  go_wp2_with fail
  have hcW := hW0.row.cell p hp
  have HC : Hid (∀ ww, Below u0.heap.size u0 ww → ww.cell? ⟨b, 2, none⟩ = some (.slice (some ⟨g, 0, none⟩) K K) ∧ ww.cell? ⟨g, p, none⟩ = some (.int .u64 x)) := Hid.mk (fun ww hb => ⟨(hW0.kept hb).c2, by rw [← hx0]; exact (hW0.kept hb).row.cell p hp⟩)
  have HP : Hid (∀ ww, Below u0.heap.size u0 ww → Calls Try.prog 33 #[.pointer (some ⟨b, 0, none⟩), .int .u64 (c : Int)] ww fun e w' => e = .returned (.int .i64 (p : Int)) ∧ w' = ww) := Hid.mk (fun ww hb => by rw [← hp0]; exact place64_run c (by omega) (hW0.kept hb).c2 hK hK2)
  have HW := Hid.mk hW0
  clear hcW hW0
  refine wp_region_steps2 13 _ (Below u0.heap.size u0) (fun v v' => Below v.heap.size v v') (fun i v _ => match i with | 0 => v = .pointer (some ⟨b, 0, none⟩) | 1 => v = .pointer (some ⟨b, 0, none⟩) | 2 => v = .pointer (some ⟨b, 2, none⟩) | 3 => v = .slice (some ⟨g, 0, none⟩) K K | 4 => v = .pointer (some ⟨b, 0, none⟩) | 5 => v = .int .u64 (c : Int) | 6 => v = .int .i64 (p : Int) | 7 => v = .pointer (some ⟨g, p, none⟩) | 8 => v = .int .u64 x | 9 => v = .int .u64 (c : Int) | 10 => v = .int .u64 q | 11 => v = .int .u64 y | 12 => v = .pointer (some ⟨g, p, none⟩) | _ => True) [29, 30, 31, 32, 33, 34, 35, 36, 37, 38, 39, 40, 41]
    [(0, .pointer (some ⟨b, 0, none⟩)), (1, .int .u64 (c : Int))] [[], [0], [1], [2], [], [], [4, 5], [3, 6], [7], [], [9], [8, 10], [3, 6]] rfl (by kernel_rfl) rfl ⟨rfl, rfl, trivial⟩ (Below.drew (Below.refl _ _)) (fun v v' h hb => h.trans (hb.mono h.size)) ?_
    ⟨
    (fun Q a1 ww hS fr kn => ⟨trivial, fun K hK => wp_value (exec_move rfl fr.1) (hK _ _ rfl (Below.refl _ _))⟩),
    (fun Q a1 ww hS fr kn => ⟨trivial, fun K hK => wp_value (exec_nilc rfl kn.1) (hK _ _ rfl (Below.refl _ _))⟩),
    (fun Q a1 ww hS fr kn => ⟨trivial, fun K hK => wp_value (exec_fw64 rfl kn.1) (hK _ _ rfl (Below.refl _ _))⟩),
    (fun Q a1 ww hS fr kn => ⟨trivial, fun K hK => wp_value (exec_ld rfl kn.1 (load_sl ((HC.out ww hS).1))) (hK _ _ rfl (Below.refl _ _))⟩),
    (fun Q a1 ww hS fr kn => ⟨trivial, fun K hK => wp_value (exec_move rfl fr.1) (hK _ _ rfl (Below.refl _ _))⟩),
    (fun Q a1 ww hS fr kn => ⟨trivial, fun K hK => wp_value (exec_move rfl fr.2.1) (hK _ _ rfl (Below.refl _ _))⟩),
    (fun Q a1 ww hS fr kn => ⟨trivial, fun K hK => stepc enterPlc64 rfl (args2 kn.1 kn.2.1) ((HP.out ww hS).mono (fun _ _ h => ⟨h.1, h.2 ▸ Below.refl _ _⟩)) (fun w' hb => hK _ _ rfl hb)⟩),
    (fun Q a1 ww hS fr kn => ⟨trivial, fun K hK => wp_value (exec_idxW rfl kn.1 kn.2.1 hp) (hK _ _ rfl (Below.refl _ _))⟩),
    (fun Q a1 ww hS fr kn => ⟨trivial, fun K hK => wp_value (exec_ld rfl kn.1 (load_u64 ((HC.out ww hS).2))) (hK _ _ rfl (Below.refl _ _))⟩),
    (fun Q a1 ww hS fr kn => ⟨trivial, fun K hK => wp_value (exec_move rfl fr.2.1) (hK _ _ rfl (Below.refl _ _))⟩),
    (fun Q a1 ww hS fr kn => ⟨trivial, fun K hK => stepc enterBit64 rfl (args1 kn.1) ((HQ.out ww).mono (fun _ _ h => ⟨h.1, h.2 ▸ Below.refl _ _⟩)) (fun w' hb => hK _ _ rfl hb)⟩),
    (fun Q a1 ww hS fr kn => ⟨trivial, fun K hK => wp_value (exec_orW rfl kn.1 kn.2.1 HO.out) (hK _ _ rfl (Below.refl _ _))⟩),
    (fun Q a1 ww hS fr kn => ⟨trivial, fun K hK => wp_value (exec_idxW rfl kn.1 kn.2.1 hp) (hK _ _ rfl (Below.refl _ _))⟩),
    trivial⟩ ?_
  · intro i v u u' h hb
    exact h
  intro vs v9 hS9 hk9
  have e40 : vs 40 = .int .u64 y := hk9 11 (by decide)
  have e41 : vs 41 = .pointer (some ⟨g, p, none⟩) := hk9 12 (by decide)
  clear hk9
  simp only [putAll, Act.put, List.setIfInBounds_toArray, List.set_cons_zero, List.set_cons_succ, e40, e41]
  have hW9 := HW.out.kept hS9
  refine ⟨act_w64 rfl (by rfl) (by rfl) hW9.row hp ?_⟩
  intro v10 g10 o10
  simp only [Act.put]
  have HF := Hid.mk (And.intro (WB64.mk ((o10.block b hW9.ne).trans hW9.blk) g10 hW9.ne) (touch_bg (belT (T := fun k => k = b ∨ k = g) hS9) (Touch.mono (touch_only o10) (T' := fun k => k = b ∨ k = g) (fun k _ e => .inr e))))
  clear hW9 hS9 g10 o10
  go_wp2_with fail
  go_ret
  obtain ⟨f1, f2⟩ := HF.out
  exact ⟨rfl, _, by rw [hKK]; exact f1, HX.out, touch_bg (touch_bg (belT (T := fun k => k = b ∨ k = g) hb0) hT1) f2⟩
end Go.Proofs.Ytjnknhgjlllhjaa
/-
  Own text. The program's windows of numbers of 64 bits: New, Came.
-/
namespace Go.Proofs.Ytjnknhgjlllhjaa
open Go.RowKit Go.Proofs
set_option maxRecDepth 100000
theorem run_bld64 (r : Int) (q : Option Addr) (n c : Nat) (w : World) : (Instr.build 52 #[(0, .int .i64 r), (2, .slice q n c)]).run Try.prog w = .ok (.agg #[.int .i64 r, .int .u64 0, .slice q n c]) w := by kernel_rfl
theorem exec_bld64 {a : Act} {o : Oper} {w : World} {x y : Operand} (ho : o.op = .build 52 #[(0, x), (2, y)]) {r : Int} {q : Option Addr} {n c : Nat} (hx : a.eval x = .int .i64 r) (hy : a.eval y = .slice q n c) : (execOp a.eval o).run Try.prog w = .ok (.value (.agg #[.int .i64 r, .int .u64 0, .slice q n c])) w := by
  have h := run_bld64 r q n c w
  unfold execOp
  simp only [ho, List.map_toArray, List.map_cons, List.map_nil, hx, hy, Sem.run_bind, h, Result.andThen_ok, Sem.run_pure]
theorem wl_boxW64 {ops : Array Oper} {rest : List Oper} {d : Option Tmp} {x : Operand} {t : TypeId} {ps : String} {af : Array Edge} {a : Act} {w : World} {Q : Exit → Act → World → Prop} {cs : Array Value} (hx : a.eval x = .agg cs)
    (h : ∀ w', w'.heap[w.heap.size]? = some (.cells cs 52 (0, 0)) → Below w.heap.size w w' → wpList Try.prog ops Q rest (a.put d (.pointer (some ⟨w.heap.size, 0, none⟩))) w') :
    wpList Try.prog ops Q ({ dst := d, op := .box 52 x, type := t, pos := ps, after := af, guard := none } :: rest) a w := by
  refine wl_act rfl ?_
  unfold Oper.wp execOp
  simp only [hx]
  simp [go_sem]
  exact h _ (heap_alloc_new w _) ((Below.refl _ _).alloc (Nat.le_refl _) _)
set_option maxHeartbeats 4000000 in
theorem new64_run (x : Int) (w : World) : Calls Try.prog 9 #[.int .i64 x] w fun e w' => ∃ b g, e = .returned (.pointer (some ⟨b, 0, none⟩)) ∧ WB64 w' b g (clampF x) 0 (wK (clampF x)) (fun _ => 0) ∧ w.heap.size ≤ b ∧ w.heap.size ≤ g ∧ Below w.heap.size w w' := by
  have hz := clampF_range x
  have hw := wordsFor_run (clampF x) hz w
  have hcl : clampF x = if x < 1 then 1 else if 8192 < x then 8192 else x := rfl
  generalize clampF x = z at *
  generalize wK z = K at *
  have hm : min (max x 1) 8192 = z := by rw [hcl]; split <;> (try split) <;> omega
  have HM := Hid.mk hm
  clear hcl hm
  go_enter Try.func9, Try.ntmps9
  go_wp2_with (first | (refine wl_value rfl (exec_max rfl (by rfl) (by rfl)) ?_) | (refine wl_value rfl (exec_min rfl (by rfl) (by rfl)) ?_))
  rw [HM.out]
  refine hw.mono ?_
  rintro e v1 ⟨rfl, g1, hb1⟩
  go_wp2_with (first | (refine wl_value rfl (exec_bld64 rfl (by rfl) (by rfl)) ?_) | (refine wl_boxW64 (by rfl) ?_; intro v2 gm hb2))
  go_ret
  have hl := g1.lt
  exact ⟨v1.heap.size, w.heap.size, rfl, ⟨gm, g1.kept hb2, by omega⟩, hb1.size, Nat.le_refl _, hb1.trans (hb2.mono hb1.size)⟩
set_option maxHeartbeats 8000000 in
theorem came64_run {w : World} {b g : Nat} {r sz : Int} {T n : Nat} {s f : Nat → Int} (hW : WB64 w b g r T (wK sz) f) (hz : max r 1 = sz) (h2 : sz ≤ 8192) (hT : T < 18446744073709551616) (hX : Words sz T n s f) (hs : ∀ i, i < n → 0 ≤ s i ∧ s i < T) :
    Calls Try.prog 20 #[.pointer (some ⟨b, 0, none⟩)] w fun e w' => ∃ vo m f, e = .returned vo ∧ w'.ownsRow w.heap.size 26 1 vo m (nums .u64 m f) ∧ CameI s sz (T : Int) n m f ∧ Below w.heap.size w w' := by
  have hL := low64_run hW.c0 hW.c1 hz h2 hT
  have hlt : lowN sz T ≤ T := by unfold lowN; omega
  have hle : (T : Int) ≤ (lowN sz T : Int) + sz := by unfold lowN; omega
  have hgap : T - lowN sz T ≤ 8192 := by unfold lowN; omega
  have HE : Hid (∀ m fo, CamI n s (lowN sz T) T m fo → CameI s sz (T : Int) n m fo) := Hid.mk (fun m fo h => CamI.end (by omega) hs h)
  have HH : Hid (∀ u x, Below w.heap.size w u → lowN sz T ≤ x → x < T → Calls Try.prog 30 #[.pointer (some ⟨b, 0, none⟩), .int .u64 (x : Int)] u fun e w' => e = .returned (.bool (memb n s (x : Int))) ∧ ∃ m, w' = u.drewN m) := Hid.mk (fun u x hb h3 h4 => by
    have := has64_run (hW.kept hb) x (by omega) (wK_pos sz) (by have := wK_le h2; omega) (hX.u _ (Nat.mod_lt _ (wK_pos sz)))
    rw [hX.has h4 (by omega)] at this
    exact this)
  have HC : Hid (∀ u, Below w.heap.size w u → u.cell? ⟨b, 1, none⟩ = some (.int .u64 (T : Int))) := Hid.mk (fun u hb => (hW.kept hb).c1)
  clear hW hX hs hz
  generalize lowN sz T = L at *
  go_enter Try.func20, Try.ntmps20
  go_wp2_with fail
  refine hL.mono ?_
  rintro e v0 ⟨rfl, rfl⟩
  clear hL
  go_wp2_with fail
  go_loopg [3, 4] (T - L) (fun gm vo iv v => ∃ x m : Nat, Hid (gm + x = T) ∧ L ≤ x ∧ iv = .int .u64 (x : Int) ∧ ∃ fo, Hid (CamI n s L x m fo ∧ v.ownsRow v0.heap.size 26 1 vo m (nums .u64 m fo)) ∧ Below v0.heap.size v0 v)
  case atStart => exact ⟨L, 0, Hid.mk (by omega), Nat.le_refl _, rfl, fun _ => 0, Hid.mk ⟨CamI.nil _ _ _ _, World.ownsRow_nil _ _ _ 1⟩, Below.refl _ _⟩
  case round =>
    rename_i v
    obtain ⟨x, m, HX, hLx, rfl, fo, HI, hB⟩ := hrel
    have c1 := HC.out _ hB
    have hx : x ≤ T := by have := HX.out; omega
    by_cases hxt : x < T
    · have hxi : (x : Int) < (T : Int) := by omega
      go_wp2_with fail
      refine (HH.out _ x hB hLx hxt).mono ?_
      rintro e v1 ⟨rfl, k, hv1⟩
      have hb1 := below_dn wr k
      rw [← hv1] at hb1
      have hB1 := hB.trans (hb1.mono hB.size)
      have hO1 := own_kept HI.out.2 hb1
      have HM := Hid.mk HI.out.1
      clear hv1 hB HI c1
      cases hmb : memb n s (x : Int)
      · have HM2 := Hid.mk (HM.out.no hmb)
        have HO2 := Hid.mk hO1
        clear HM hO1 hb1
        go_wp2_with fail
        go_roundg (T - (x + 1))
        case rel => exact ⟨x + 1, m, Hid.mk (by omega), by omega, by simp, fo, Hid.mk ⟨HM2.out, HO2.out⟩, hB1⟩
        case measure => have := HX.out; omega
      · have HM2 := Hid.mk (HM.out.yes hLx hmb)
        have hfew := HM.out.few
        have hb2 := (Below.refl v1.heap.size v1).alloc (Nat.le_refl _) (.cells #[.int .u64 (x : Int)] 26)
        have hO2 := own_kept hO1 hb2
        have hB2 := hB1.trans (hb2.mono hB1.size)
        clear HM hO1 hb1
        go_wp2_with (at_builtin; refine ap_own rfl _ _ 29 26 .u64 8 Try.underlying29 infoU64 (by decide) (by rfl) (n := m) (m := 1) (by rfl) hO2 (by rfl) (r := fun _ => (x : Int)) (fun j hj => by obtain rfl : j = 0 := (by omega); exact cell_of_row _ _ 0 _ _ _ (heap_alloc_new v1 _)) (by omega) hB2.size ?_; intro va v2 h2 hg)
        have hB3 := hB2.trans hg
        go_roundg (T - (x + 1))
        case rel => exact ⟨x + 1, m + 1, Hid.mk (by omega), by omega, by simp, _, Hid.mk ⟨HM2.out, h2⟩, hB3⟩
        case measure => have := HX.out; omega
    · have hxi : decide ((x : Int) < (T : Int)) = false := decide_eq_false (by omega)
      obtain rfl : x = T := by omega
      go_wp2_with fail
      go_ret
      exact ⟨_, m, fo, rfl, HI.out.2, HE.out m fo HI.out.1, hB⟩
end Go.Proofs.Ytjnknhgjlllhjaa
/-
  Own text. What the program's Fresh answers is what the document says.
-/
namespace Go.Proofs.Ytjnknhgjlllhjaa
open Go.RowKit Go.Proofs
set_option maxRecDepth 100000
theorem fresh_code {last c : Nat} {sz : Int} {T n : Nat} {s f : Nat → Int} (hX : Words sz T n s f) (hT : (T : Int) = topF s n) (hs : ∀ i, i < n → 0 ≤ s i) (h1 : 1 ≤ sz) :
    (!decide (c = last) && (decide (T ≤ c) || (decide (lowN sz T ≤ c) && !bt (f (c / 64 % wK sz)) (c % 64)))) = freshD (last : Int) sz n s (c : Int) := by
  have e1 : decide ((c : Int) = (last : Int)) = decide (c = last) := by
    by_cases e : c = last
    · subst e; simp
    · rw [decide_eq_false e, decide_eq_false (by omega)]
  by_cases h2 : T ≤ c
  · rw [fresh_top (by omega), e1, decide_eq_true h2]
    simp
  · by_cases h3 : lowN sz T ≤ c
    · rw [fresh_mid (by unfold lowN at h3; omega), e1, decide_eq_false h2, decide_eq_true h3, hX.has (by omega) (by unfold lowN at h3; omega)]
      simp
    · rw [fresh_late hs (by omega) h1 (by unfold lowN at h3; omega), decide_eq_false h2, decide_eq_false h3]
      simp
end Go.Proofs.Ytjnknhgjlllhjaa
/-
  Own text. The program's windows of numbers of 64 bits: Clear, Copy.
-/
namespace Go.Proofs.Ytjnknhgjlllhjaa
open Go.RowKit Go.Proofs
set_option maxRecDepth 100000
theorem WB64.top0 {w : World} {b g : Nat} {r : Int} {T K : Nat} {f : Nat → Int} (h : WB64 w b g r T K f) (c : Nat) : WB64 (w.setCell ⟨b, 1, none⟩ (.int .u64 (c : Int))) b g r c K f := by
  refine ⟨?_, h.row.only only_set (Ne.symm h.ne), h.ne⟩
  have h2 := heap_setCell_same w b 1 _ _ (.int .u64 (c : Int)) h.blk
  simpa using h2
set_option maxHeartbeats 4000000 in
theorem clear64_run {w : World} {b g : Nat} {r : Int} {T K : Nat} {f : Nat → Int} (hW : WB64 w b g r T K f) (hK : 0 < K) :
    Calls Try.prog 17 #[.pointer (some ⟨b, 0, none⟩)] w fun e w' => e = .returned (.tuple #[]) ∧ WB64 w' b g r 0 K (fun _ => 0) ∧ Touch (fun k => k = b ∨ k = g) w w' := by
  have c1 := hW.c1
  have f1 := frozen_of_row w b 1 _ _ hW.blk
  have hW1 := hW.top0 0
  have o0 := only_set (w := w) (g := b) (i := 1) (v := .int .u64 0)
  have e0 : (((0 : Nat) : Int)) = 0 := rfl
  rw [e0] at hW1
  have c2 := hW1.c2
  clear hW e0
  go_enter Try.func17, Try.ntmps17
  go_wp2_with (refine wl_clear (by rfl) hK hW1.row ?_; intro v1 g1 o1)
  exact bodyPost_end (results_none rfl _ _ _) rfl ⟨rfl, ⟨(o1.block b hW1.ne).trans hW1.blk, g1, hW1.ne⟩, touch_bg (Touch.mono (touch_only o0) (T' := fun k => k = b ∨ k = g) (fun k _ e => .inl e)) (Touch.mono (touch_only o1) (T' := fun k => k = b ∨ k = g) (fun k _ e => .inr e))⟩
theorem copy_w64 {w : World} {g' g K : Nat} {t : TypeId} {s r : Nat → Int} (ty : TypeId) (hg : ArrAt w g' .u64 t K s) (hr : ArrAt w g .u64 t K r) :
    ∃ w', (Builtin.copy_ #[29, 29] ty #[.slice (some ⟨g', 0, none⟩) K K, .slice (some ⟨g, 0, none⟩) K K]).run Try.prog w = .ok (goInt K) w' ∧ ArrAt w' g' .u64 t K r ∧ Only g' w w' := by
  have h0 := run_copy_cells (P := Try.prog) w 29 29 ty 26 g' 0 K K ⟨g, 0, none⟩ K K (nums .u64 K r) Try.underlying29 (by kernel_rfl) (by rw [nums_len]; simp)
    (fun j v hj => by
      obtain ⟨hj2, rfl⟩ := nums_get hj
      rw [Addr.add_lit, Nat.zero_add]
      exact hr.cell j hj2)
    (fun j hj => by rw [nums_len] at hj; rw [Nat.zero_add, hg.cell _ hj]; rfl) (fun j _ => hg.free _) nums_one
  rw [nums_len] at h0
  obtain ⟨C', h1, h2, h3, h4, h5⟩ := setCells_heap (nums .u64 K r) 0 w _ hg (by rw [nums_len, WA_size]; omega)
  rw [nums_len] at h3
  rw [WA_size] at h2
  have e : C' = WA .u64 K r := WA_ext h2 (fun i hi => by
    have := h3 i hi
    rw [Nat.zero_add] at this
    rw [this, nums_at .u64 K r hi])
  exact ⟨_, h0, by unfold ArrAt; rw [h1, e], h5⟩
set_option maxHeartbeats 4000000 in
theorem copy64_run {w : World} {b g : Nat} {r sz : Int} {T : Nat} {f : Nat → Int} (hW : WB64 w b g r T (wK sz) f) (hz : max r 1 = sz) (h2 : sz ≤ 8192) :
    Calls Try.prog 13 #[.pointer (some ⟨b, 0, none⟩)] w fun e w' => ∃ b' g', e = .returned (.pointer (some ⟨b', 0, none⟩)) ∧ WB64 w' b' g' sz T (wK sz) f ∧ w.heap.size ≤ b' ∧ w.heap.size ≤ g' ∧ Below w.heap.size w w' := by
  have hS := size64_run hW.c0
  rw [hz] at hS
  have hN := new64_run sz w
  rw [show clampF sz = sz by unfold clampF; split <;> (try split) <;> omega] at hN
  have HW := Hid.mk hW
  clear hW
  generalize wK sz = K at *
  go_enter Try.func13, Try.ntmps13
  go_wp2_with fail
  refine hS.mono ?_
  rintro e v0 ⟨rfl, rfl⟩
  go_wp2_with fail
  refine hN.mono ?_
  rintro e v1 ⟨b', g', rfl, hW1, hb', hg', hB⟩
  have hW0 := HW.out.kept hB
  have hbb : b < v0.heap.size := HW.out.lt
  have hgg : g < v0.heap.size := HW.out.row.lt
  have c1 := hW0.c1
  have d1 := hW1.c1
  have f1 := frozen_of_row v1 b' 1 _ _ hW1.blk
  have hN1 := hW1.top0 T
  have o1 := only_set (w := v1) (g := b') (i := 1) (v := .int .u64 (T : Int))
  have hO1 := hW0.same (o1.block b (by omega)) (o1.block g (by omega))
  obtain ⟨v3, hcp, hr3, o3⟩ := copy_w64 3 hN1.row.drew hO1.row.drew
  have d2 := hN1.c2
  have e2 := hO1.c2
  have HN : Hid (WB64 v3 b' g' sz T K f ∧ Below v0.heap.size v0 v3) := Hid.mk ⟨⟨(o3.block b' hN1.ne).trans hN1.blk, hr3, hN1.ne⟩, hB.trans ((o1.below hb').trans ((Below.drew (Below.refl _ _)).trans (o3.below hg')))⟩
  clear hN hS hW1 hW0 HW hN1 hO1 o1 o3 hr3
  go_wp2_with fail
  go_region
  go_wp2_with fail
  go_ret
  exact ⟨b', g', rfl, HN.out.1, hb', hg', HN.out.2⟩
end Go.Proofs.Ytjnknhgjlllhjaa
/-
  Own text. What the program's windows of numbers of 64 bits do.
-/
namespace Go.Proofs.Ytjnknhgjlllhjaa
open Go.RowKit Go.Proofs
set_option maxRecDepth 100000
/-- Block b is a window of the program of size sz; s 0 .. s (n - 1) came. -/
def Win64 (w : World) (b : Nat) (sz : Int) (n : Nat) (s : Nat → Int) (S : Nat → Prop) : Prop :=
  ∃ (g : Nat) (r : Int) (f : Nat → Int) (T : Nat), (T : Int) = topF s n ∧ max r 1 = sz ∧ sz ≤ 8192 ∧ WB64 w b g r T (wK sz) f ∧ Words sz T n s f ∧ S = (fun k => k = b ∨ k = g)
theorem nums_top64 {n : Nat} {s : Nat → Int} {T : Nat} (hN : Nums L64 n s) (hT : (T : Int) = topF s n) : T < 18446744073709551616 ∧ ∀ i, i < n → 0 ≤ s i ∧ s i < (T : Int) := by
  have h1 := topF_bound (s := s) (M := L64) (by unfold L64; omega) (n := n) (fun i hi => (hN.1 i hi).2)
  unfold L64 at h1
  exact ⟨by omega, fun i hi => ⟨(hN.1 i hi).1, by have := topF_le (s := s) hi; omega⟩⟩
theorem last64 : ((18446744073709551615 : Nat) : Int) = L64 := rfl
theorem new_win64 (x : Int) (w : World) : Calls Try.prog 9 #[.int .i64 x] w fun e w' => ∃ b S, e = .returned (.pointer (some ⟨b, 0, none⟩)) ∧ Win64 w' b (clampF x) 0 (fun _ => 0) S ∧ (∀ k, S k → w.heap.size ≤ k) ∧ Below w.heap.size w w' := by
  refine (new64_run x w).mono ?_
  rintro e w' ⟨b, g, rfl, h, hb, hg, hB⟩
  have hc := clampF_range x
  exact ⟨b, _, rfl, ⟨g, clampF x, _, 0, rfl, by omega, hc.2, h, Words.nil _ _, rfl⟩, fun k hk => by rcases hk with rfl | rfl <;> assumption, hB⟩
theorem fresh_win64 {w : World} {b n : Nat} {sz : Int} {s : Nat → Int} {S : Nat → Prop} (c : Int) (h : Win64 w b sz n s S) (hN : Nums L64 n s) (hc : U64 c) : Calls Try.prog 11 #[.pointer (some ⟨b, 0, none⟩), .int .u64 c] w fun e w' => e = .returned (.bool (freshD L64 sz n s c)) ∧ Below w.heap.size w w' := by
  obtain ⟨g, r, f, T, hT, hz, h2, hW, hX, rfl⟩ := h
  obtain ⟨t1, t2⟩ := nums_top64 hN hT
  unfold U64 at hc
  obtain ⟨c, rfl⟩ := Int.eq_ofNat_of_zero_le hc.1
  have := fresh64_gen hW hz h2 c (by omega) t1 hX.u
  rw [fresh_code hX hT (fun i hi => (t2 i hi).1) (by omega), last64] at this
  refine this.mono ?_
  rintro e w' ⟨rfl, m, rfl⟩
  exact ⟨rfl, below_dn w m⟩
theorem takeNo_win64 {w : World} {b n : Nat} {sz : Int} {s : Nat → Int} {S : Nat → Prop} (c : Int) (h : Win64 w b sz n s S) (hN : Nums L64 n s) (hc : U64 c) (hf : freshD L64 sz n s c = false) : Calls Try.prog 16 #[.pointer (some ⟨b, 0, none⟩), .int .u64 c] w fun e w' => e = .returned (.bool false) ∧ Below w.heap.size w w' := by
  obtain ⟨g, r, f, T, hT, hz, h2, hW, hX, rfl⟩ := h
  obtain ⟨t1, t2⟩ := nums_top64 hN hT
  unfold U64 at hc
  obtain ⟨c, rfl⟩ := Int.eq_ofNat_of_zero_le hc.1
  exact take64_no hW hz h2 c (by omega) t1 hX.u (by rw [fresh_code hX hT (fun i hi => (t2 i hi).1) (by omega), last64]; exact hf)
theorem takeYes_win64 {w : World} {b n : Nat} {sz : Int} {s : Nat → Int} {S : Nat → Prop} (c : Int) (h : Win64 w b sz n s S) (hN : Nums L64 n s) (hc : U64 c) (hf : freshD L64 sz n s c = true) : Calls Try.prog 16 #[.pointer (some ⟨b, 0, none⟩), .int .u64 c] w fun e w' => e = .returned (.bool true) ∧ ∃ S', Win64 w' b sz (n + 1) (cat n s (fun _ => c)) S' ∧ Touch S w w' ∧ ∀ k, S' k → S k ∨ w.heap.size ≤ k := by
  obtain ⟨g, r, f, T, hT, hz, h2, hW, hX, rfl⟩ := h
  obtain ⟨t1, t2⟩ := nums_top64 hN hT
  unfold U64 at hc
  obtain ⟨c, rfl⟩ := Int.eq_ofNat_of_zero_le hc.1
  have hf2 := fresh_code (last := 18446744073709551615) (c := c) hX hT (fun i hi => (t2 i hi).1) (by omega)
  have hcl := (fresh_iff.1 hf).1
  rw [last64, hf] at hf2
  unfold L64 at hcl
  by_cases hge : T ≤ c
  · refine (take64_new hW hz h2 c (by omega) t1 hX t2 hf2 hge).mono ?_
    rintro e w' ⟨rfl, f', h1, h3, h4⟩
    exact ⟨rfl, _, ⟨g, r, f', c + 1, by rw [topF_cat, if_pos (by omega)]; rfl, hz, h2, h1, h3, rfl⟩, h4, fun k hk => .inl hk⟩
  · have hl : (T : Int) ≤ c + sz := by
      by_cases e : (c : Int) + sz < topF s n
      · rw [fresh_late (fun i hi => (t2 i hi).1) (by omega) (by omega) e] at hf
        cases hf
      · omega
    refine (take64_mid hW hz h2 c (by omega) t1 hX hf2 (by omega) hl).mono ?_
    rintro e w' ⟨rfl, f', h1, h3, h4⟩
    exact ⟨rfl, _, ⟨g, r, f', T, by rw [topF_cat, if_neg (by omega)]; exact hT, hz, h2, h1, h3, rfl⟩, h4, fun k hk => .inl hk⟩
theorem top_win64 {w : World} {b n : Nat} {sz : Int} {s : Nat → Int} {S : Nat → Prop} (h : Win64 w b sz n s S) : Calls Try.prog 14 #[.pointer (some ⟨b, 0, none⟩)] w fun e w' => e = .returned (.int .u64 (topF s n)) ∧ Below w.heap.size w w' := by
  obtain ⟨g, r, f, T, hT, hz, h2, hW, hX, rfl⟩ := h
  rw [← hT]
  refine (top64_run hW.c1).mono ?_
  rintro e w' ⟨rfl, rfl⟩
  exact ⟨rfl, Below.refl _ _⟩
theorem size_win64 {w : World} {b n : Nat} {sz : Int} {s : Nat → Int} {S : Nat → Prop} (h : Win64 w b sz n s S) : Calls Try.prog 15 #[.pointer (some ⟨b, 0, none⟩)] w fun e w' => e = .returned (.int .i64 sz) ∧ Below w.heap.size w w' := by
  obtain ⟨g, r, f, T, hT, hz, h2, hW, hX, rfl⟩ := h
  refine (size64_run hW.c0).mono ?_
  rintro e w' ⟨rfl, rfl⟩
  exact ⟨by rw [hz], Below.refl _ _⟩
theorem came_win64 {w : World} {b n : Nat} {sz : Int} {s : Nat → Int} {S : Nat → Prop} (h : Win64 w b sz n s S) (hN : Nums L64 n s) : Calls Try.prog 20 #[.pointer (some ⟨b, 0, none⟩)] w fun e w' => ∃ vo m f, e = .returned vo ∧ w'.ownsRow w.heap.size 26 1 vo m (nums .u64 m f) ∧ CameI s sz (topF s n) n m f ∧ Below w.heap.size w w' := by
  obtain ⟨g, r, f, T, hT, hz, h2, hW, hX, rfl⟩ := h
  obtain ⟨t1, t2⟩ := nums_top64 hN hT
  rw [← hT]
  exact came64_run hW hz h2 t1 hX t2
theorem lt_win64 {w : World} {b n : Nat} {sz : Int} {s : Nat → Int} {S : Nat → Prop} (h : Win64 w b sz n s S) : ∀ k, S k → k < w.heap.size := by
  obtain ⟨g, r, f, T, hT, hz, h2, hW, hX, rfl⟩ := h
  rintro k (rfl | rfl)
  · exact hW.lt
  · exact hW.row.lt
theorem kept_win64 {w w' : World} {b n : Nat} {sz : Int} {s : Nat → Int} {S : Nat → Prop} (h : Win64 w b sz n s S) (hb : ∀ k, S k → w'.heap[k]? = w.heap[k]?) : Win64 w' b sz n s S := by
  obtain ⟨g, r, f, T, hT, hz, h2, hW, hX, rfl⟩ := h
  exact ⟨g, r, f, T, hT, hz, h2, hW.same (hb b (.inl rfl)) (hb g (.inr rfl)), hX, rfl⟩
theorem copy_win64 {w : World} {b n : Nat} {sz : Int} {s : Nat → Int} {S : Nat → Prop} (h : Win64 w b sz n s S) : Calls Try.prog 13 #[.pointer (some ⟨b, 0, none⟩)] w fun e w' => ∃ b' S', e = .returned (.pointer (some ⟨b', 0, none⟩)) ∧ Win64 w' b' sz n s S' ∧ (∀ k, S' k → w.heap.size ≤ k) ∧ Below w.heap.size w w' := by
  obtain ⟨g, r, f, T, hT, hz, h2, hW, hX, rfl⟩ := h
  refine (copy64_run hW hz h2).mono ?_
  rintro e w' ⟨b', g', rfl, h1, hb, hg, hB⟩
  exact ⟨b', _, rfl, ⟨g', sz, f, T, hT, by omega, h2, h1, hX, rfl⟩, fun k hk => by rcases hk with rfl | rfl <;> assumption, hB⟩
theorem clear_win64 {w : World} {b n : Nat} {sz : Int} {s : Nat → Int} {S : Nat → Prop} (h : Win64 w b sz n s S) : Calls Try.prog 17 #[.pointer (some ⟨b, 0, none⟩)] w fun e w' => e = .returned (.tuple #[]) ∧ ∃ S', Win64 w' b sz 0 (fun _ => 0) S' ∧ Touch S w w' ∧ ∀ k, S' k → S k ∨ w.heap.size ≤ k := by
  obtain ⟨g, r, f, T, hT, hz, h2, hW, hX, rfl⟩ := h
  refine (clear64_run hW (wK_pos sz)).mono ?_
  rintro e w' ⟨rfl, h1, h3⟩
  exact ⟨rfl, _, ⟨g, r, _, 0, rfl, hz, h2, h1, Words.nil _ _, rfl⟩, h3, fun k hk => .inl hk⟩
theorem code64 : Code64 Win64 where
  lt := lt_win64
  kept := fun h _ hb => kept_win64 h hb
  new := new_win64
  fresh := fun c h hN _ hc _ => fresh_win64 c h hN hc
  takeNo := fun c h hN _ hc _ hf => takeNo_win64 c h hN hc hf
  takeYes := fun c h hN _ hc _ hf => takeYes_win64 c h hN hc hf
  top := fun h _ _ => top_win64 h
  size := fun h _ => size_win64 h
  came := fun h hN _ _ => came_win64 h hN
  copy := fun h _ => copy_win64 h
  clear := fun h => clear_win64 h
end Go.Proofs.Ytjnknhgjlllhjaa
/-
  Own text. The program's windows of numbers of 32 bits: in memory; Size, Top, low, place, bit, has.
-/
namespace Go.Proofs.Ytjnknhgjlllhjaa
open Go.RowKit Go.Proofs
set_option maxRecDepth 100000
/-- Block b is a window: its size (r, as it was given), its top T, its K words in block g. -/
structure WB32 (w : World) (b g : Nat) (r : Int) (T K : Nat) (f : Nat → Int) : Prop where
  blk : w.heap[b]? = some (.cells #[.int .i64 r, .int .u32 (T : Int), .slice (some ⟨g, 0, none⟩) K K] 59 (0, 0))
  row : ArrAt w g .u64 26 K f
  ne : b ≠ g
section
variable {w w' : World} {b g : Nat} {r : Int} {T K : Nat} {f : Nat → Int}
theorem WB32.c0 (h : WB32 w b g r T K f) : w.cell? ⟨b, 0, none⟩ = some (.int .i64 r) := cell_of_row w b 0 _ _ _ h.blk
theorem WB32.c1 (h : WB32 w b g r T K f) : w.cell? ⟨b, 1, none⟩ = some (.int .u32 (T : Int)) := cell_of_row w b 1 _ _ _ h.blk
theorem WB32.c2 (h : WB32 w b g r T K f) : w.cell? ⟨b, 2, none⟩ = some (.slice (some ⟨g, 0, none⟩) K K) := cell_of_row w b 2 _ _ _ h.blk
theorem WB32.lt (h : WB32 w b g r T K f) : b < w.heap.size := heap_lt h.blk
theorem WB32.kept (h : WB32 w b g r T K f) (hb : Below w.heap.size w w') : WB32 w' b g r T K f := ⟨(hb.block b h.lt).trans h.blk, h.row.kept hb, h.ne⟩
theorem WB32.same (h : WB32 w b g r T K f) (h1 : w'.heap[b]? = w.heap[b]?) (h2 : w'.heap[g]? = w.heap[g]?) : WB32 w' b g r T K f := ⟨h1.trans h.blk, h.row.block h2, h.ne⟩
end
set_option maxHeartbeats 1000000 in
theorem size32_run {w : World} {b : Nat} {r : Int} (c0 : w.cell? ⟨b, 0, none⟩ = some (.int .i64 r)) : Calls Try.prog 37 #[.pointer (some ⟨b, 0, none⟩)] w fun e w' => e = .returned (.int .i64 (max r 1)) ∧ w' = w := by
  go_enter Try.func37, Try.ntmps37
  by_cases h : r < 1
  · have hm : max r 1 = 1 := by omega
    go_wp2
    go_ret
    exact ⟨by rw [hm]; rfl, rfl⟩
  · have hm : max r 1 = r := by omega
    go_wp2
    go_ret
    exact ⟨by first | rfl | (rw [hm]; rfl), rfl⟩
set_option maxHeartbeats 1000000 in
theorem top32_run {w : World} {b : Nat} {T : Int} (c1 : w.cell? ⟨b, 1, none⟩ = some (.int .u32 T)) : Calls Try.prog 25 #[.pointer (some ⟨b, 0, none⟩)] w fun e w' => e = .returned (.int .u32 T) ∧ w' = w := by
  go_enter Try.func25, Try.ntmps25
  go_wp2
  go_ret
  exact ⟨rfl, rfl⟩
set_option maxHeartbeats 1000000 in
theorem low32_run {w : World} {b : Nat} {r sz : Int} {T : Nat} (c0 : w.cell? ⟨b, 0, none⟩ = some (.int .i64 r)) (c1 : w.cell? ⟨b, 1, none⟩ = some (.int .u32 (T : Int))) (hz : max r 1 = sz) (h2 : sz ≤ 8192) (hT : T < 4294967296) :
    Calls Try.prog 35 #[.pointer (some ⟨b, 0, none⟩)] w fun e w' => e = .returned (.int .u32 (lowN sz T : Int)) ∧ w' = w := by
  have hrun := size32_run c0
  rw [hz] at hrun
  have h1 : 1 ≤ sz := by omega
  have HL := Hid.mk (show ((T : Int) > sz → (T : Int) - sz = (lowN sz T : Int)) ∧ ((T : Int) ≤ sz → (0 : Int) = (lowN sz T : Int)) by unfold lowN; omega)
  generalize lowN sz T = L at *
  go_enter Try.func35, Try.ntmps35
  go_wp2_with fail
  refine hrun.mono ?_
  rintro e v0 ⟨rfl, rfl⟩
  clear hrun c0 hz
  by_cases h : (T : Int) > sz
  · have hL := HL.out.1 h
    clear HL
    go_wp2_with fail
    go_ret
    exact ⟨by rw [← hL]; rfl, rfl⟩
  · have hL := HL.out.2 (by omega)
    clear HL
    go_wp2_with fail
    go_ret
    exact ⟨by rw [← hL]; rfl, rfl⟩
set_option maxHeartbeats 1000000 in
theorem place32_run {w : World} {b : Nat} {p : Option Addr} {K cp : Nat} (c : Nat) (hc : c < 4294967296) (c2 : w.cell? ⟨b, 2, none⟩ = some (.slice p K cp)) (hK : 0 < K) (hK2 : K ≤ 1000) :
    Calls Try.prog 39 #[.pointer (some ⟨b, 0, none⟩), .int .u32 (c : Int)] w fun e w' => e = .returned (.int .i64 ((c / 64 % K : Nat) : Int)) ∧ w' = w := by
  have hm := Nat.mod_lt (c / 64) hK
  have e : wrap64 ((c : Int) / 64 % (K : Int)) = ((c / 64 % K : Nat) : Int) := by
    have e1 : (c : Int) / 64 % (K : Int) = ((c / 64 % K : Nat) : Int) := by simp
    rw [e1]
    unfold wrap64
    omega
  have HE := Hid.mk e
  clear e
  go_enter Try.func39, Try.ntmps39
  go_wp2
  go_ret
  exact ⟨by rw [← HE.out]; rfl, rfl⟩
set_option maxHeartbeats 1000000 in
theorem bit32_run (w : World) (c : Nat) (hc : c < 4294967296) :
    Calls Try.prog 40 #[.int .u32 (c : Int)] w fun e w' => e = .returned (.int .u64 ((2 ^ (c % 64) : Nat) : Int)) ∧ w' = w := by
  have h1 : 2 ^ (c % 64) < 2 ^ 64 := Nat.pow_lt_pow_right (by omega) (by omega)
  have HE := Hid.mk (show IntKind.u64.wrap (2 ^ (c % 64)) = ((2 ^ (c % 64) : Nat) : Int) by
    rw [show (2 : Int) ^ (c % 64) = ((2 ^ (c % 64) : Nat) : Int) by simp]
    generalize (2 ^ (c % 64) : Nat) = q at *
    rw [IntKind.wrap_u64]
    omega)
  clear h1
  go_enter Try.func40, Try.ntmps40
  go_wp2
  go_ret
  exact ⟨by rw [← HE.out]; rfl, rfl⟩
end Go.Proofs.Ytjnknhgjlllhjaa
/-
  Own text. The program's windows of numbers of 32 bits: has, Fresh.
-/
namespace Go.Proofs.Ytjnknhgjlllhjaa
open Go.RowKit Go.Proofs
set_option maxRecDepth 100000
set_option maxHeartbeats 2000000 in
theorem has32_run {w : World} {b g : Nat} {r : Int} {T K : Nat} {f : Nat → Int} (hW : WB32 w b g r T K f) (c : Nat) (hc : c < 4294967296) (hK : 0 < K) (hK2 : K ≤ 1000) (hf : U64 (f (c / 64 % K))) :
    Calls Try.prog 36 #[.pointer (some ⟨b, 0, none⟩), .int .u32 (c : Int)] w fun e w' => e = .returned (.bool (bt (f (c / 64 % K)) (c % 64))) ∧ ∃ m, w' = w.drewN m := by
  have c2 := hW.c2
  have hP : ∀ m, Calls Try.prog 39 #[.pointer (some ⟨b, 0, none⟩), .int .u32 (c : Int)] (w.drewN m) fun e w' => e = .returned (.int .i64 ((c / 64 % K : Nat) : Int)) ∧ w' = w.drewN m := fun m => place32_run c hc (show (w.drewN m).cell? ⟨b, 2, none⟩ = _ from c2) hK hK2
  have hQ : ∀ m, Calls Try.prog 40 #[.int .u32 (c : Int)] (w.drewN m) fun e w' => e = .returned (.int .u64 ((2 ^ (c % 64) : Nat) : Int)) ∧ w' = w.drewN m := fun m => bit32_run (w.drewN m) c hc
  have hm := Nat.mod_lt (c / 64) hK
  have cx := hW.row.cell _ hm
  have ha := and_bit hf (c % 64) (by omega)
  generalize bt (f (c / 64 % K)) (c % 64) = z at *
  generalize f (c / 64 % K) = x at *
  generalize c / 64 % K = p at *
  generalize ((2 ^ (c % 64) : Nat) : Int) = q at *
  clear hW hK2 hf
  obtain ⟨y, hy, hz⟩ := ha
  have hp1 : (p : Int) < (K : Int) := by omega
  cases z
  · have hy0 : y = 0 := by simpa using hz
    subst hy0
    clear hz
    go_enter Try.func36, Try.ntmps36
    go_wp2_with fail
    go_quiet (first | (go_at_call 39; exact Calls.quiet_of_same (hP _)) | (go_at_call 40; exact Calls.quiet_of_same (hQ _)))
    go_wp2_with fail
    go_ret
    exact ⟨rfl, _, rfl⟩
  · have hy0 : ¬ y = 0 := by simpa using hz
    clear hz
    go_enter Try.func36, Try.ntmps36
    go_wp2_with fail
    go_quiet (first | (go_at_call 39; exact Calls.quiet_of_same (hP _)) | (go_at_call 40; exact Calls.quiet_of_same (hQ _)))
    go_wp2_with fail
    go_ret
    exact ⟨by show Ending.returned (Value.bool (y != 0)) = _; rw [show (y != 0) = true by simpa using hy0], _, rfl⟩
theorem exec_nt32 {a : Act} {o : Oper} {w : World} {x : Operand} (ho : o.op = .unOp .xor 43 x) (hx : a.eval x = .int .u32 0) : (execOp a.eval o).run Try.prog w = .ok (.value (.int .u32 4294967295)) w := by
  have h : bits .xor .u32 IntKind.u32.max 0 = 4294967295 := by decide
  unfold execOp
  simp only [ho, hx]
  simp [go_sem]
  exact h
set_option maxHeartbeats 2000000 in
theorem fresh32_gen {w : World} {b g : Nat} {r sz : Int} {T : Nat} {f : Nat → Int} (hW : WB32 w b g r T (wK sz) f) (hz : max r 1 = sz) (h2 : sz ≤ 8192) (c : Nat) (hc : c < 4294967296) (hT : T < 4294967296) (hu : ∀ j, j < wK sz → U64 (f j)) :
    Calls Try.prog 23 #[.pointer (some ⟨b, 0, none⟩), .int .u32 (c : Int)] w fun e w' => e = .returned (.bool (!decide (c = 4294967295) && (decide (T ≤ c) || (decide (lowN sz T ≤ c) && !bt (f (c / 64 % wK sz)) (c % 64))))) ∧ ∃ m, w' = w.drewN m := by
  have c1 := hW.c1
  have hL := low32_run hW.c0 c1 hz h2 hT
  have hH := has32_run hW c hc (wK_pos sz) (by have := wK_le h2; omega) (hu _ (Nat.mod_lt _ (wK_pos sz)))
  generalize bt (f (c / 64 % wK sz)) (c % 64) = z at *
  have hl : lowN sz T < 4294967296 := by unfold lowN; omega
  generalize lowN sz T = L at *
  clear hW hu hz h2
  by_cases e1 : c = 4294967295
  · subst e1
    go_enter Try.func23, Try.ntmps23
    go_wp2_with (refine wl_value rfl (exec_nt32 rfl (by rfl)) ?_)
    go_ret
    exact ⟨rfl, 0, rfl⟩
  · have d1 : decide (c = 4294967295) = false := decide_eq_false e1
    have e2 : ¬ ((c : Int) = 4294967295) := by omega
    by_cases e3 : T ≤ c
    · have d2 : decide (T ≤ c) = true := decide_eq_true e3
      have HD := Hid.mk (And.intro d1 d2)
      have e4 : ((T : Int) ≤ (c : Int)) := by omega
      clear d1 d2
      go_enter Try.func23, Try.ntmps23
      go_wp2_with (refine wl_value rfl (exec_nt32 rfl (by rfl)) ?_)
      go_ret
      exact ⟨by rw [HD.out.1, HD.out.2]; rfl, 0, rfl⟩
    · have d2 : decide (T ≤ c) = false := decide_eq_false e3
      have e4 : decide ((T : Int) ≤ (c : Int)) = false := decide_eq_false (by omega)
      by_cases e5 : L ≤ c
      · have d3 : decide (L ≤ c) = true := decide_eq_true e5
        have HD := Hid.mk (And.intro d1 (And.intro d2 d3))
        have e6 : ((L : Int) ≤ (c : Int)) := by omega
        clear d1 d2 d3
        go_enter Try.func23, Try.ntmps23
        go_wp2_with (refine wl_value rfl (exec_nt32 rfl (by rfl)) ?_)
        refine hL.mono ?_
        rintro e v0 ⟨rfl, rfl⟩
        go_wp2_with fail
        refine hH.mono ?_
        rintro e v1 ⟨rfl, m, rfl⟩
        go_wp2_with fail
        go_ret
        exact ⟨by rw [HD.out.1, HD.out.2.1, HD.out.2.2]; simp, m, rfl⟩
      · have d3 : decide (L ≤ c) = false := decide_eq_false e5
        have HD := Hid.mk (And.intro d1 (And.intro d2 d3))
        have e6 : decide ((L : Int) ≤ (c : Int)) = false := decide_eq_false (by omega)
        clear d1 d2 d3
        go_enter Try.func23, Try.ntmps23
        go_wp2_with (refine wl_value rfl (exec_nt32 rfl (by rfl)) ?_)
        refine hL.mono ?_
        rintro e v0 ⟨rfl, rfl⟩
        go_wp2_with fail
        go_ret
        exact ⟨by rw [HD.out.1, HD.out.2.1, HD.out.2.2]; simp, 0, rfl⟩
end Go.Proofs.Ytjnknhgjlllhjaa
/-
  Own text. The program's windows of numbers of 32 bits: clearBehind, moveTo.
-/
namespace Go.Proofs.Ytjnknhgjlllhjaa
open Go.RowKit Go.Proofs
set_option maxRecDepth 100000
theorem WB32.set {w : World} {b g : Nat} {r : Int} {T K : Nat} {f : Nat → Int} (h : WB32 w b g r T K f) (p : Nat) (v : Int) (hp : p < K) : WB32 (w.setCell ⟨g, p, none⟩ (.int .u64 v)) b g r T K (upd f p v) :=
  ⟨(only_set (w := w) (g := g)).block b h.ne |>.trans h.blk, h.row.set p v hp, h.ne⟩
theorem WB32.drew {w : World} {b g : Nat} {r : Int} {T K : Nat} {f : Nat → Int} (h : WB32 w b g r T K f) : WB32 w.drew b g r T K f := ⟨h.blk, h.row, h.ne⟩
set_option maxHeartbeats 4000000 in
theorem clr32_run {w : World} {b g : Nat} {r : Int} {T K n : Nat} {s f : Nat → Int} (hW : WB32 w b g r T K f) (hK : 0 < K) (hK2 : K ≤ 1000) (a c : Nat) (hac : a ≤ c) (hc : c < 4294967296 / 64) (hu : ∀ j, j < K → U64 (f j)) (hB : Bts K a n s f) (hs : ∀ i, i < n → 0 ≤ s i ∧ s i < 64 * ((a : Int) + 1)) :
    Calls Try.prog 42 #[.pointer (some ⟨b, 0, none⟩), .int .u32 (a : Int), .int .u32 (c : Int)] w fun e w' => e = .returned (.tuple #[]) ∧ ∃ f', WB32 w' b g r T K f' ∧ (∀ j, j < K → U64 (f' j)) ∧ Bts K c n s f' ∧ Touch (fun k => k = g) w w' := by
  have c2 := hW.c2
  by_cases h : c - a ≥ K
  · have hs2 : ∀ i, i < n → s i / 64 + K ≤ c := fun i hi => by have := hs i hi; omega
    have HB := Hid.mk (bts_all (f := fun _ => 0) hs2 (fun _ _ => rfl))
    clear hs2 hB hs hu
    go_enter Try.func42, Try.ntmps42
    go_wp2_with (refine wl_clear (by rfl) hK hW.row ?_; intro v1 g1 o1)
    exact bodyPost_ret (results_none rfl _ _ _) rfl ⟨rfl, _, ⟨(o1.block b hW.ne).trans hW.blk, g1, hW.ne⟩, fun j hj => by unfold U64; omega, HB.out, touch_only o1⟩
  · have HU := Hid.mk hu
    have HB := Hid.mk hB
    have HS := Hid.mk hs
    have HW := Hid.mk hW
    have hd : decide ((K : Int) ≤ (c : Int) - (a : Int)) = false := decide_eq_false (by omega)
    clear hu hB hs hW
    go_enter Try.func42, Try.ntmps42
    go_wp2_with fail
    clear c2
    go_loopg [7] (c - a) (fun gm iv v => ∃ q : Nat, Hid (gm + q = c - a) ∧ iv = .int .u32 ((a + 1 + q : Nat) : Int) ∧ ∃ f', Hid (WB32 v b g r T K f' ∧ (∀ j, j < K → U64 (f' j)) ∧ Bts K (a + q) n s f' ∧ Touch (fun k => k = g) w v))
    case atStart => exact ⟨0, Hid.mk rfl, by simp, f, Hid.mk ⟨HW.out, HU.out, HB.out, Touch.refl _ _⟩⟩
    case round =>
      rename_i v
      obtain ⟨q, HQ, rfl, f', HI⟩ := hrel
      have c2 := HI.out.1.c2
      have hq : q ≤ c - a := by have := HQ.out; omega
      by_cases hlt : q < c - a
      · have hm := Nat.mod_lt (a + 1 + q) hK
        generalize hx : a + 1 + q = x at *
        have hl : ((x % K : Nat) : Int) < (K : Int) := by omega
        have fz := HI.out.1.row.free (x % K)
        have cz := HI.out.1.row.cell (x % K) hm
        have hx2 : (x : Int) ≤ (c : Int) := by omega
        go_wp2_with fail
        go_region
        have HN : Hid (WB32 (wr.setCell ⟨g, x % K, none⟩ (.int .u64 0)).drew b g r T K (upd f' (x % K) 0) ∧ (∀ j, j < K → U64 (upd f' (x % K) 0 j)) ∧ Bts K (a + (q + 1)) n s (upd f' (x % K) 0) ∧ Touch (fun k => k = g) w (wr.setCell ⟨g, x % K, none⟩ (.int .u64 0)).drew) := Hid.mk (by
          obtain ⟨i1, i2, i3, i4⟩ := HI.out
          refine ⟨(i1.set _ 0 hm).drew, u64_upd i2 (by unfold U64; omega), ?_, (Touch.trans i4 (touch_only only_set)).drew⟩
          have := bts_step i3 (fun i hi => by have := HS.out i hi; omega)
          rw [show a + q + 1 = x by omega] at this
          rw [show a + (q + 1) = x by omega]
          exact this)
        clear HI cz fz c2 hl hm
        go_wp2_with fail
        go_roundg (c - a - (q + 1))
        case rel => exact ⟨q + 1, Hid.mk (by omega), by rw [← hx]; simp [Int.add_assoc], _, HN⟩
        case measure => have := HQ.out; omega
      · generalize hx : a + 1 + q = x at *
        have hx2 : decide ((x : Int) ≤ (c : Int)) = false := decide_eq_false (by omega)
        go_wp2_with fail
        have hqe : a + q = c := by omega
        obtain ⟨i1, i2, i3, i4⟩ := HI.out
        rw [hqe] at i3
        exact bodyPost_end (results_none rfl _ _ _) rfl ⟨rfl, f', i1, i2, i3, i4⟩
theorem WB32.top {w : World} {b g : Nat} {r : Int} {T K : Nat} {f : Nat → Int} (h : WB32 w b g r T K f) (c : Nat) : WB32 (w.setCell ⟨b, 1, none⟩ (.int .u32 ((c : Int) + 1))) b g r (c + 1) K f := by
  refine ⟨?_, h.row.only only_set (Ne.symm h.ne), h.ne⟩
  have h2 := heap_setCell_same w b 1 _ _ (.int .u32 ((c : Int) + 1)) h.blk
  simpa using h2
set_option maxHeartbeats 4000000 in
theorem mov32_run {w : World} {b g : Nat} {r sz : Int} {T n : Nat} {s f : Nat → Int} (hW : WB32 w b g r T (wK sz) f) (hz : sz ≤ 8192) (hX : Words sz T n s f) (hs : ∀ i, i < n → 0 ≤ s i ∧ s i < T) (c : Nat) (hc : c + 1 < 4294967296) (hT : T ≤ c) :
    Calls Try.prog 38 #[.pointer (some ⟨b, 0, none⟩), .int .u32 (c : Int)] w fun e w' => e = .returned (.tuple #[]) ∧ ∃ f', WB32 w' b g r (c + 1) (wK sz) f' ∧ (∀ j, j < wK sz → U64 (f' j)) ∧ Bts (wK sz) (c / 64) n s f' ∧ Touch (fun k => k = b ∨ k = g) w w' := by
  have c1 := hW.c1
  by_cases h0 : T = 0
  · subst h0
    have hB : Bts (wK sz) (c / 64) n s f := bts_all (fun i hi => by have := hs i hi; omega) (hX.zero rfl)
    have HN := Hid.mk (And.intro (hW.top c) (And.intro hX.u (And.intro hB (Touch.mono (touch_only (only_set (w := w) (g := b) (i := 1) (v := .int .u32 ((c : Int) + 1)))) (T' := fun k => k = b ∨ k = g) (fun k _ e => .inl e)))))
    have f1 := frozen_of_row w b 1 _ _ hW.blk
    clear hX hB hs hW
    go_enter Try.func38, Try.ntmps38
    go_wp2_with fail
    exact bodyPost_end (results_none rfl _ _ _) rfl ⟨rfl, f, HN.out⟩
  · have hB := hX.bits (by omega)
    have hrun := fun u (hu : WB32 u b g r T (wK sz) f) => clr32_run hu (wK_pos sz) (by have := wK_le hz; omega) ((T - 1) / 64) (c / 64) (by omega) (by omega) hX.u hB (fun i hi => by have := hs i hi; omega)
    have e1 : ((T : Int) - 1) / 64 = (((T - 1) / 64 : Nat) : Int) := by omega
    have e2 : (c : Int) / 64 = ((c / 64 : Nat) : Int) := by omega
    have hr := hrun w hW
    clear hrun hX hB hs
    have HE := Hid.mk (And.intro e1 e2)
    clear e1 e2
    go_enter Try.func38, Try.ntmps38
    go_wp2_with fail
    rw [HE.out.1, HE.out.2]
    refine hr.mono ?_
    rintro e v1 ⟨rfl, f', i1, i2, i3, i4⟩
    have c1 := i1.c1
    have f1 := frozen_of_row v1 b 1 _ _ i1.blk
    have HN := Hid.mk (And.intro (i1.top c) (And.intro i2 (And.intro i3 (touch_bg (Touch.mono i4 (T' := fun k => k = b ∨ k = g) (fun k _ e => .inr e)) (Touch.mono (touch_only (only_set (w := v1) (g := b) (i := 1) (v := .int .u32 ((c : Int) + 1)))) (T' := fun k => k = b ∨ k = g) (fun k _ e => .inl e))))))
    clear i1 i2 i3 i4 hr hW
    go_wp2_with fail
    exact bodyPost_end (results_none rfl _ _ _) rfl ⟨rfl, f', HN.out⟩
end Go.Proofs.Ytjnknhgjlllhjaa
/-
  Own text. The program's windows of numbers of 32 bits: Take.
-/
namespace Go.Proofs.Ytjnknhgjlllhjaa
open Go.RowKit Go.Proofs
set_option maxRecDepth 100000
theorem enterPlc32 (args : Array Value) (w : World) : (callFunc 39 args).run Try.prog w = .ok (.enter 39 args) w := by kernel_rfl
theorem enterBit32 (args : Array Value) (w : World) : (callFunc 40 args).run Try.prog w = .ok (.enter 40 args) w := by kernel_rfl
theorem exec_fw32 {a : Act} {o : Oper} {w : World} {x : Operand} (ho : o.op = .fieldAddr 59 x 2) {b : Nat} (hx : a.eval x = .pointer (some ⟨b, 0, none⟩)) : (execOp a.eval o).run Try.prog w = .ok (.value (.pointer (some ⟨b, 2, none⟩))) w := by
  unfold execOp
  simp only [ho, hx]
  simp [go_sem]
set_option maxHeartbeats 4000000 in
theorem take32_no {w : World} {b g : Nat} {r sz : Int} {T : Nat} {f : Nat → Int} (hW : WB32 w b g r T (wK sz) f) (hz : max r 1 = sz) (h2 : sz ≤ 8192) (c : Nat) (hc : c < 4294967296) (hT : T < 4294967296) (hu : ∀ j, j < wK sz → U64 (f j))
    (hF : (!decide (c = 4294967295) && (decide (T ≤ c) || (decide (lowN sz T ≤ c) && !bt (f (c / 64 % wK sz)) (c % 64)))) = false) :
    Calls Try.prog 24 #[.pointer (some ⟨b, 0, none⟩), .int .u32 (c : Int)] w fun e w' => e = .returned (.bool false) ∧ Below w.heap.size w w' := by
  have hrun := fresh32_gen hW hz h2 c hc hT hu
  rw [hF] at hrun
  go_enter Try.func24, Try.ntmps24
  go_wp2_with fail
  refine hrun.mono ?_
  rintro e v0 ⟨rfl, m, rfl⟩
  go_wp2_with fail
  go_ret
  exact ⟨rfl, below_dn w m⟩
set_option maxHeartbeats 8000000 in
theorem take32_mid {w : World} {b g : Nat} {r sz : Int} {T n : Nat} {s f : Nat → Int} (hW : WB32 w b g r T (wK sz) f) (hz : max r 1 = sz) (h2 : sz ≤ 8192) (c : Nat) (hc : c + 1 < 4294967296) (hT : T < 4294967296) (hX : Words sz T n s f)
    (hF : (!decide (c = 4294967295) && (decide (T ≤ c) || (decide (lowN sz T ≤ c) && !bt (f (c / 64 % wK sz)) (c % 64)))) = true) (hlt : c < T) (hl : (T : Int) ≤ c + sz) :
    Calls Try.prog 24 #[.pointer (some ⟨b, 0, none⟩), .int .u32 (c : Int)] w fun e w' => e = .returned (.bool true) ∧ ∃ f', WB32 w' b g r T (wK sz) f' ∧ Words sz T (n + 1) (cat n s (fun _ => (c : Int))) f' ∧ Touch (fun k => k = b ∨ k = g) w w' := by
  have hrun := fresh32_gen hW hz h2 c (by omega) hT hX.u
  rw [hF] at hrun
  have HX := Hid.mk (Words.put hX.u (hX.bits (by omega)) (word_in hlt hl).1 (word_in hlt hl).2 (T := T) (by omega) rfl)
  have hK := wK_pos sz
  have hK2 : wK sz ≤ 1000 := by have := wK_le h2; omega
  have hp := Nat.mod_lt (c / 64) hK
  have hq := or_bit (hX.u _ hp) (c % 64) (by omega)
  have HQ : Hid (∀ ww, Calls Try.prog 40 #[.int .u32 (c : Int)] ww fun e w' => e = .returned (.int .u64 ((2 ^ (c % 64) : Nat) : Int)) ∧ w' = ww) := Hid.mk (fun ww => bit32_run ww c (by omega))
  clear hX hF
  generalize hp0 : c / 64 % wK sz = p at *
  generalize hx0 : f p = x at *
  generalize ((2 ^ (c % 64) : Nat) : Int) = q at *
  generalize hy0 : ((x.toNat ||| 2 ^ (c % 64) : Nat) : Int) = y at *
  have HO := Hid.mk hq
  clear hq
  generalize wK sz = K at *
  have hd : decide ((T : Int) ≤ (c : Int)) = false := decide_eq_false (by omega)
  go_enter Try.func24, Try.ntmps24
  go_wp2_with fail
  refine hrun.mono ?_
  rintro e u0 ⟨rfl, m, hu0⟩
  have hb0 := below_dn w m
  rw [← hu0] at hb0
  clear hrun hu0
  have hW0 := hW.kept hb0
  have c1 := hW0.c1
  have c2 := hW0.c2
  go_wp2_with (refine wl_value rfl (exec_nil29 rfl (by rfl)) ?_)
  clear c1 c2
  have hcW := hW0.row.cell p hp
  have HC : Hid (∀ ww, Below u0.heap.size u0 ww → ww.cell? ⟨b, 2, none⟩ = some (.slice (some ⟨g, 0, none⟩) K K) ∧ ww.cell? ⟨g, p, none⟩ = some (.int .u64 x)) := Hid.mk (fun ww hb => ⟨(hW0.kept hb).c2, by rw [← hx0]; exact (hW0.kept hb).row.cell p hp⟩)
  have HP : Hid (∀ ww, Below u0.heap.size u0 ww → Calls Try.prog 39 #[.pointer (some ⟨b, 0, none⟩), .int .u32 (c : Int)] ww fun e w' => e = .returned (.int .i64 (p : Int)) ∧ w' = ww) := Hid.mk (fun ww hb => by rw [← hp0]; exact place32_run c (by omega) (hW0.kept hb).c2 hK hK2)
  have HW := Hid.mk hW0
  clear hcW hW0
  refine wp_region_steps2 13 _ (Below u0.heap.size u0) (fun v v' => Below v.heap.size v v') (fun i v _ => match i with | 0 => v = .pointer (some ⟨b, 0, none⟩) | 1 => v = .pointer (some ⟨b, 0, none⟩) | 2 => v = .pointer (some ⟨b, 2, none⟩) | 3 => v = .slice (some ⟨g, 0, none⟩) K K | 4 => v = .pointer (some ⟨b, 0, none⟩) | 5 => v = .int .u32 (c : Int) | 6 => v = .int .i64 (p : Int) | 7 => v = .pointer (some ⟨g, p, none⟩) | 8 => v = .int .u64 x | 9 => v = .int .u32 (c : Int) | 10 => v = .int .u64 q | 11 => v = .int .u64 y | 12 => v = .pointer (some ⟨g, p, none⟩) | _ => True) [29, 30, 31, 32, 33, 34, 35, 36, 37, 38, 39, 40, 41]
    [(0, .pointer (some ⟨b, 0, none⟩)), (1, .int .u32 (c : Int))] [[], [0], [1], [2], [], [], [4, 5], [3, 6], [7], [], [9], [8, 10], [3, 6]] rfl (by kernel_rfl) rfl ⟨rfl, rfl, trivial⟩ (Below.drew (Below.refl _ _)) (fun v v' h hb => h.trans (hb.mono h.size)) ?_
    ⟨
    (fun Q a1 ww hS fr kn => ⟨trivial, fun K hK => wp_value (exec_move rfl fr.1) (hK _ _ rfl (Below.refl _ _))⟩),
    (fun Q a1 ww hS fr kn => ⟨trivial, fun K hK => wp_value (exec_nilc rfl kn.1) (hK _ _ rfl (Below.refl _ _))⟩),
    (fun Q a1 ww hS fr kn => ⟨trivial, fun K hK => wp_value (exec_fw32 rfl kn.1) (hK _ _ rfl (Below.refl _ _))⟩),
    (fun Q a1 ww hS fr kn => ⟨trivial, fun K hK => wp_value (exec_ld rfl kn.1 (load_sl ((HC.out ww hS).1))) (hK _ _ rfl (Below.refl _ _))⟩),
    (fun Q a1 ww hS fr kn => ⟨trivial, fun K hK => wp_value (exec_move rfl fr.1) (hK _ _ rfl (Below.refl _ _))⟩),
    (fun Q a1 ww hS fr kn => ⟨trivial, fun K hK => wp_value (exec_move rfl fr.2.1) (hK _ _ rfl (Below.refl _ _))⟩),
    (fun Q a1 ww hS fr kn => ⟨trivial, fun K hK => stepc enterPlc32 rfl (args2 kn.1 kn.2.1) ((HP.out ww hS).mono (fun _ _ h => ⟨h.1, h.2 ▸ Below.refl _ _⟩)) (fun w' hb => hK _ _ rfl hb)⟩),
    (fun Q a1 ww hS fr kn => ⟨trivial, fun K hK => wp_value (exec_idxW rfl kn.1 kn.2.1 hp) (hK _ _ rfl (Below.refl _ _))⟩),
    (fun Q a1 ww hS fr kn => ⟨trivial, fun K hK => wp_value (exec_ld rfl kn.1 (load_u64 ((HC.out ww hS).2))) (hK _ _ rfl (Below.refl _ _))⟩),
    (fun Q a1 ww hS fr kn => ⟨trivial, fun K hK => wp_value (exec_move rfl fr.2.1) (hK _ _ rfl (Below.refl _ _))⟩),
    (fun Q a1 ww hS fr kn => ⟨trivial, fun K hK => stepc enterBit32 rfl (args1 kn.1) ((HQ.out ww).mono (fun _ _ h => ⟨h.1, h.2 ▸ Below.refl _ _⟩)) (fun w' hb => hK _ _ rfl hb)⟩),
    (fun Q a1 ww hS fr kn => ⟨trivial, fun K hK => wp_value (exec_orW rfl kn.1 kn.2.1 HO.out) (hK _ _ rfl (Below.refl _ _))⟩),
    (fun Q a1 ww hS fr kn => ⟨trivial, fun K hK => wp_value (exec_idxW rfl kn.1 kn.2.1 hp) (hK _ _ rfl (Below.refl _ _))⟩),
    trivial⟩ ?_
  · intro i v u u' h hb
    exact h
  intro vs v9 hS9 hk9
  have e40 : vs 40 = .int .u64 y := hk9 11 (by decide)
  have e41 : vs 41 = .pointer (some ⟨g, p, none⟩) := hk9 12 (by decide)
  clear hk9
  simp only [putAll, Act.put, List.setIfInBounds_toArray, List.set_cons_zero, List.set_cons_succ, e40, e41]
  have hW9 := HW.out.kept hS9
  refine ⟨act_w64 rfl (by rfl) (by rfl) hW9.row hp ?_⟩
  intro v10 g10 o10
  simp only [Act.put]
  have HF := Hid.mk (And.intro (WB32.mk ((o10.block b hW9.ne).trans hW9.blk) g10 hW9.ne) (touch_bg (belT (T := fun k => k = b ∨ k = g) hS9) (Touch.mono (touch_only o10) (T' := fun k => k = b ∨ k = g) (fun k _ e => .inr e))))
  clear hW9 hS9 g10 o10
  go_wp2_with fail
  go_ret
  obtain ⟨f1, f2⟩ := HF.out
  exact ⟨rfl, _, f1, HX.out, touch_bg (belT (T := fun k => k = b ∨ k = g) hb0) f2⟩
set_option maxHeartbeats 8000000 in
theorem take32_new {w : World} {b g : Nat} {r sz : Int} {T n : Nat} {s f : Nat → Int} (hW : WB32 w b g r T (wK sz) f) (hz : max r 1 = sz) (h2 : sz ≤ 8192) (c : Nat) (hc : c + 1 < 4294967296) (hT : T < 4294967296) (hX : Words sz T n s f) (hs : ∀ i, i < n → 0 ≤ s i ∧ s i < T)
    (hF : (!decide (c = 4294967295) && (decide (T ≤ c) || (decide (lowN sz T ≤ c) && !bt (f (c / 64 % wK sz)) (c % 64)))) = true) (hge : T ≤ c) :
    Calls Try.prog 24 #[.pointer (some ⟨b, 0, none⟩), .int .u32 (c : Int)] w fun e w' => e = .returned (.bool true) ∧ ∃ f', WB32 w' b g r (c + 1) (wK sz) f' ∧ Words sz (c + 1) (n + 1) (cat n s (fun _ => (c : Int))) f' ∧ Touch (fun k => k = b ∨ k = g) w w' := by
  have hrun := fresh32_gen hW hz h2 c (by omega) hT hX.u
  rw [hF] at hrun
  have hmov := fun u (hu : WB32 u b g r T (wK sz) f) => mov32_run hu h2 hX hs c hc hge
  have HQ : Hid (∀ ww, Calls Try.prog 40 #[.int .u32 (c : Int)] ww fun e w' => e = .returned (.int .u64 ((2 ^ (c % 64) : Nat) : Int)) ∧ w' = ww) := Hid.mk (fun ww => bit32_run ww c (by omega))
  clear hX hF hs
  have hd : ((T : Int) ≤ (c : Int)) := by omega
  go_enter Try.func24, Try.ntmps24
  go_wp2_with fail
  refine hrun.mono ?_
  rintro e u1 ⟨rfl, m, hu0⟩
  have hb0 := below_dn w m
  rw [← hu0] at hb0
  clear hrun hu0
  have hW1 := hW.kept hb0
  have c1 := hW1.c1
  have c2 := hW1.c2
  go_wp2_with (refine wl_value rfl (exec_nil29 rfl (by rfl)) ?_)
  refine (hmov u1 hW1).mono ?_
  rintro e u0 ⟨rfl, f0, hW0, hU, hB, hT1⟩
  clear c1 c2 hmov hW1
  have hK := wK_pos sz
  have HX := Hid.mk (Words.put hU hB (c := c) (Nat.le_refl _) (by omega) (T := c + 1) (by omega) rfl)
  have hK2 : wK sz ≤ 1000 := by have := wK_le h2; omega
  have hp := Nat.mod_lt (c / 64) hK
  have hq := or_bit (hU _ hp) (c % 64) (by omega)
  clear hU hB hW
  generalize hp0 : c / 64 % wK sz = p at *
  generalize hx0 : f0 p = x at *
  generalize ((2 ^ (c % 64) : Nat) : Int) = q at *
  generalize hy0 : ((x.toNat ||| 2 ^ (c % 64) : Nat) : Int) = y at *
  have HO := Hid.mk hq
  clear hq
  generalize hKK : wK sz = K at *
  go_wp2_with fail
  have hcW := hW0.row.cell p hp
  have HC : Hid (∀ ww, Below u0.heap.size u0 ww → ww.cell? ⟨b, 2, none⟩ = some (.slice (some ⟨g, 0, none⟩) K K) ∧ ww.cell? ⟨g, p, none⟩ = some (.int .u64 x)) := Hid.mk (fun ww hb => ⟨(hW0.kept hb).c2, by rw [← hx0]; exact (hW0.kept hb).row.cell p hp⟩)
  have HP : Hid (∀ ww, Below u0.heap.size u0 ww → Calls Try.prog 39 #[.pointer (some ⟨b, 0, none⟩), .int .u32 (c : Int)] ww fun e w' => e = .returned (.int .i64 (p : Int)) ∧ w' = ww) := Hid.mk (fun ww hb => by rw [← hp0]; exact place32_run c (by omega) (hW0.kept hb).c2 hK hK2)
  have HW := Hid.mk hW0
  clear hcW hW0
  refine wp_region_steps2 13 _ (Below u0.heap.size u0) (fun v v' => Below v.heap.size v v') (fun i v _ => match i with | 0 => v = .pointer (some ⟨b, 0, none⟩) | 1 => v = .pointer (some ⟨b, 0, none⟩) | 2 => v = .pointer (some ⟨b, 2, none⟩) | 3 => v = .slice (some ⟨g, 0, none⟩) K K | 4 => v = .pointer (some ⟨b, 0, none⟩) | 5 => v = .int .u32 (c : Int) | 6 => v = .int .i64 (p : Int) | 7 => v = .pointer (some ⟨g, p, none⟩) | 8 => v = .int .u64 x | 9 => v = .int .u32 (c : Int) | 10 => v = .int .u64 q | 11 => v = .int .u64 y | 12 => v = .pointer (some ⟨g, p, none⟩) | _ => True) [29, 30, 31, 32, 33, 34, 35, 36, 37, 38, 39, 40, 41]
    [(0, .pointer (some ⟨b, 0, none⟩)), (1, .int .u32 (c : Int))] [[], [0], [1], [2], [], [], [4, 5], [3, 6], [7], [], [9], [8, 10], [3, 6]] rfl (by kernel_rfl) rfl ⟨rfl, rfl, trivial⟩ (Below.drew (Below.refl _ _)) (fun v v' h hb => h.trans (hb.mono h.size)) ?_
    ⟨
    (fun Q a1 ww hS fr kn => ⟨trivial, fun K hK => wp_value (exec_move rfl fr.1) (hK _ _ rfl (Below.refl _ _))⟩),
    (fun Q a1 ww hS fr kn => ⟨trivial, fun K hK => wp_value (exec_nilc rfl kn.1) (hK _ _ rfl (Below.refl _ _))⟩),
    (fun Q a1 ww hS fr kn => ⟨trivial, fun K hK => wp_value (exec_fw32 rfl kn.1) (hK _ _ rfl (Below.refl _ _))⟩),
    (fun Q a1 ww hS fr kn => ⟨trivial, fun K hK => wp_value (exec_ld rfl kn.1 (load_sl ((HC.out ww hS).1))) (hK _ _ rfl (Below.refl _ _))⟩),
    (fun Q a1 ww hS fr kn => ⟨trivial, fun K hK => wp_value (exec_move rfl fr.1) (hK _ _ rfl (Below.refl _ _))⟩),
    (fun Q a1 ww hS fr kn => ⟨trivial, fun K hK => wp_value (exec_move rfl fr.2.1) (hK _ _ rfl (Below.refl _ _))⟩),
    (fun Q a1 ww hS fr kn => ⟨trivial, fun K hK => stepc enterPlc32 rfl (args2 kn.1 kn.2.1) ((HP.out ww hS).mono (fun _ _ h => ⟨h.1, h.2 ▸ Below.refl _ _⟩)) (fun w' hb => hK _ _ rfl hb)⟩),
    (fun Q a1 ww hS fr kn => ⟨trivial, fun K hK => wp_value (exec_idxW rfl kn.1 kn.2.1 hp) (hK _ _ rfl (Below.refl _ _))⟩),
    (fun Q a1 ww hS fr kn => ⟨trivial, fun K hK => wp_value (exec_ld rfl kn.1 (load_u64 ((HC.out ww hS).2))) (hK _ _ rfl (Below.refl _ _))⟩),
    (fun Q a1 ww hS fr kn => ⟨trivial, fun K hK => wp_value (exec_move rfl fr.2.1) (hK _ _ rfl (Below.refl _ _))⟩),
    (fun Q a1 ww hS fr kn => ⟨trivial, fun K hK => stepc enterBit32 rfl (args1 kn.1) ((HQ.out ww).mono (fun _ _ h => ⟨h.1, h.2 ▸ Below.refl _ _⟩)) (fun w' hb => hK _ _ rfl hb)⟩),
    (fun Q a1 ww hS fr kn => ⟨trivial, fun K hK => wp_value (exec_orW rfl kn.1 kn.2.1 HO.out) (hK _ _ rfl (Below.refl _ _))⟩),
    (fun Q a1 ww hS fr kn => ⟨trivial, fun K hK => wp_value (exec_idxW rfl kn.1 kn.2.1 hp) (hK _ _ rfl (Below.refl _ _))⟩),
    trivial⟩ ?_
  · intro i v u u' h hb
    exact h
  intro vs v9 hS9 hk9
  have e40 : vs 40 = .int .u64 y := hk9 11 (by decide)
  have e41 : vs 41 = .pointer (some ⟨g, p, none⟩) := hk9 12 (by decide)
  clear hk9
  simp only [putAll, Act.put, List.setIfInBounds_toArray, List.set_cons_zero, List.set_cons_succ, e40, e41]
  have hW9 := HW.out.kept hS9
  refine ⟨act_w64 rfl (by rfl) (by rfl) hW9.row hp ?_⟩
  intro v10 g10 o10
  simp only [Act.put]
  have HF := Hid.mk (And.intro (WB32.mk ((o10.block b hW9.ne).trans hW9.blk) g10 hW9.ne) (touch_bg (belT (T := fun k => k = b ∨ k = g) hS9) (Touch.mono (touch_only o10) (T' := fun k => k = b ∨ k = g) (fun k _ e => .inr e))))
  clear hW9 hS9 g10 o10
  go_wp2_with fail
  go_ret
  obtain ⟨f1, f2⟩ := HF.out
  exact ⟨rfl, _, by rw [hKK]; exact f1, HX.out, touch_bg (touch_bg (belT (T := fun k => k = b ∨ k = g) hb0) hT1) f2⟩
end Go.Proofs.Ytjnknhgjlllhjaa
/-
  Own text. The program's windows of numbers of 32 bits: New, Came.
-/
namespace Go.Proofs.Ytjnknhgjlllhjaa
open Go.RowKit Go.Proofs
set_option maxRecDepth 100000
theorem run_bld32 (r : Int) (q : Option Addr) (n c : Nat) (w : World) : (Instr.build 59 #[(0, .int .i64 r), (2, .slice q n c)]).run Try.prog w = .ok (.agg #[.int .i64 r, .int .u32 0, .slice q n c]) w := by kernel_rfl
theorem exec_bld32 {a : Act} {o : Oper} {w : World} {x y : Operand} (ho : o.op = .build 59 #[(0, x), (2, y)]) {r : Int} {q : Option Addr} {n c : Nat} (hx : a.eval x = .int .i64 r) (hy : a.eval y = .slice q n c) : (execOp a.eval o).run Try.prog w = .ok (.value (.agg #[.int .i64 r, .int .u32 0, .slice q n c])) w := by
  have h := run_bld32 r q n c w
  unfold execOp
  simp only [ho, List.map_toArray, List.map_cons, List.map_nil, hx, hy, Sem.run_bind, h, Result.andThen_ok, Sem.run_pure]
theorem wl_boxW32 {ops : Array Oper} {rest : List Oper} {d : Option Tmp} {x : Operand} {t : TypeId} {ps : String} {af : Array Edge} {a : Act} {w : World} {Q : Exit → Act → World → Prop} {cs : Array Value} (hx : a.eval x = .agg cs)
    (h : ∀ w', w'.heap[w.heap.size]? = some (.cells cs 59 (0, 0)) → Below w.heap.size w w' → wpList Try.prog ops Q rest (a.put d (.pointer (some ⟨w.heap.size, 0, none⟩))) w') :
    wpList Try.prog ops Q ({ dst := d, op := .box 59 x, type := t, pos := ps, after := af, guard := none } :: rest) a w := by
  refine wl_act rfl ?_
  unfold Oper.wp execOp
  simp only [hx]
  simp [go_sem]
  exact h _ (heap_alloc_new w _) ((Below.refl _ _).alloc (Nat.le_refl _) _)
set_option maxHeartbeats 4000000 in
theorem new32_run (x : Int) (w : World) : Calls Try.prog 22 #[.int .i64 x] w fun e w' => ∃ b g, e = .returned (.pointer (some ⟨b, 0, none⟩)) ∧ WB32 w' b g (clampF x) 0 (wK (clampF x)) (fun _ => 0) ∧ w.heap.size ≤ b ∧ w.heap.size ≤ g ∧ Below w.heap.size w w' := by
  have hz := clampF_range x
  have hw := wordsFor_run (clampF x) hz w
  have hcl : clampF x = if x < 1 then 1 else if 8192 < x then 8192 else x := rfl
  generalize clampF x = z at *
  generalize wK z = K at *
  have hm : min (max x 1) 8192 = z := by rw [hcl]; split <;> (try split) <;> omega
  have HM := Hid.mk hm
  clear hcl hm
  go_enter Try.func22, Try.ntmps22
  go_wp2_with (first | (refine wl_value rfl (exec_max rfl (by rfl) (by rfl)) ?_) | (refine wl_value rfl (exec_min rfl (by rfl) (by rfl)) ?_))
  rw [HM.out]
  refine hw.mono ?_
  rintro e v1 ⟨rfl, g1, hb1⟩
  go_wp2_with (first | (refine wl_value rfl (exec_bld32 rfl (by rfl) (by rfl)) ?_) | (refine wl_boxW32 (by rfl) ?_; intro v2 gm hb2))
  go_ret
  have hl := g1.lt
  exact ⟨v1.heap.size, w.heap.size, rfl, ⟨gm, g1.kept hb2, by omega⟩, hb1.size, Nat.le_refl _, hb1.trans (hb2.mono hb1.size)⟩
theorem infoU32 : (Try.prog.info? 43).map (fun i => (i.zero, i.size, i.bytes)) = some (some (.int .u32 0), 1, 4) := by kernel_rfl
set_option maxHeartbeats 8000000 in
theorem came32_run {w : World} {b g : Nat} {r sz : Int} {T n : Nat} {s f : Nat → Int} (hW : WB32 w b g r T (wK sz) f) (hz : max r 1 = sz) (h2 : sz ≤ 8192) (hT : T < 4294967296) (hX : Words sz T n s f) (hs : ∀ i, i < n → 0 ≤ s i ∧ s i < T) :
    Calls Try.prog 26 #[.pointer (some ⟨b, 0, none⟩)] w fun e w' => ∃ vo m f, e = .returned vo ∧ w'.ownsRow w.heap.size 43 1 vo m (nums .u32 m f) ∧ CameI s sz (T : Int) n m f ∧ Below w.heap.size w w' := by
  have hL := low32_run hW.c0 hW.c1 hz h2 hT
  have hlt : lowN sz T ≤ T := by unfold lowN; omega
  have hle : (T : Int) ≤ (lowN sz T : Int) + sz := by unfold lowN; omega
  have hgap : T - lowN sz T ≤ 8192 := by unfold lowN; omega
  have HE : Hid (∀ m fo, CamI n s (lowN sz T) T m fo → CameI s sz (T : Int) n m fo) := Hid.mk (fun m fo h => CamI.end (by omega) hs h)
  have HH : Hid (∀ u x, Below w.heap.size w u → lowN sz T ≤ x → x < T → Calls Try.prog 36 #[.pointer (some ⟨b, 0, none⟩), .int .u32 (x : Int)] u fun e w' => e = .returned (.bool (memb n s (x : Int))) ∧ ∃ m, w' = u.drewN m) := Hid.mk (fun u x hb h3 h4 => by
    have := has32_run (hW.kept hb) x (by omega) (wK_pos sz) (by have := wK_le h2; omega) (hX.u _ (Nat.mod_lt _ (wK_pos sz)))
    rw [hX.has h4 (by omega)] at this
    exact this)
  have HC : Hid (∀ u, Below w.heap.size w u → u.cell? ⟨b, 1, none⟩ = some (.int .u32 (T : Int))) := Hid.mk (fun u hb => (hW.kept hb).c1)
  clear hW hX hs hz
  generalize lowN sz T = L at *
  go_enter Try.func26, Try.ntmps26
  go_wp2_with fail
  refine hL.mono ?_
  rintro e v0 ⟨rfl, rfl⟩
  clear hL
  go_wp2_with fail
  go_loopg [3, 4] (T - L) (fun gm vo iv v => ∃ x m : Nat, Hid (gm + x = T) ∧ L ≤ x ∧ iv = .int .u32 (x : Int) ∧ ∃ fo, Hid (CamI n s L x m fo ∧ v.ownsRow v0.heap.size 43 1 vo m (nums .u32 m fo)) ∧ Below v0.heap.size v0 v)
  case atStart => exact ⟨L, 0, Hid.mk (by omega), Nat.le_refl _, rfl, fun _ => 0, Hid.mk ⟨CamI.nil _ _ _ _, World.ownsRow_nil _ _ _ 1⟩, Below.refl _ _⟩
  case round =>
    rename_i v
    obtain ⟨x, m, HX, hLx, rfl, fo, HI, hB⟩ := hrel
    have c1 := HC.out _ hB
    have hx : x ≤ T := by have := HX.out; omega
    by_cases hxt : x < T
    · have hxi : (x : Int) < (T : Int) := by omega
      go_wp2_with fail
      refine (HH.out _ x hB hLx hxt).mono ?_
      rintro e v1 ⟨rfl, k, hv1⟩
      have hb1 := below_dn wr k
      rw [← hv1] at hb1
      have hB1 := hB.trans (hb1.mono hB.size)
      have hO1 := own_kept HI.out.2 hb1
      have HM := Hid.mk HI.out.1
      clear hv1 hB HI c1
      cases hmb : memb n s (x : Int)
      · have HM2 := Hid.mk (HM.out.no hmb)
        have HO2 := Hid.mk hO1
        clear HM hO1 hb1
        go_wp2_with fail
        go_roundg (T - (x + 1))
        case rel => exact ⟨x + 1, m, Hid.mk (by omega), by omega, by simp, fo, Hid.mk ⟨HM2.out, HO2.out⟩, hB1⟩
        case measure => have := HX.out; omega
      · have HM2 := Hid.mk (HM.out.yes hLx hmb)
        have hfew := HM.out.few
        have hb2 := (Below.refl v1.heap.size v1).alloc (Nat.le_refl _) (.cells #[.int .u32 (x : Int)] 43)
        have hO2 := own_kept hO1 hb2
        have hB2 := hB1.trans (hb2.mono hB1.size)
        clear HM hO1 hb1
        go_wp2_with (at_builtin; refine ap_own rfl _ _ 40 43 .u32 4 Try.underlying40 infoU32 (by decide) (by rfl) (n := m) (m := 1) (by rfl) hO2 (by rfl) (r := fun _ => (x : Int)) (fun j hj => by obtain rfl : j = 0 := (by omega); exact cell_of_row _ _ 0 _ _ _ (heap_alloc_new v1 _)) (by omega) hB2.size ?_; intro va v2 h2 hg)
        have hB3 := hB2.trans hg
        go_roundg (T - (x + 1))
        case rel => exact ⟨x + 1, m + 1, Hid.mk (by omega), by omega, by simp, _, Hid.mk ⟨HM2.out, h2⟩, hB3⟩
        case measure => have := HX.out; omega
    · have hxi : decide ((x : Int) < (T : Int)) = false := decide_eq_false (by omega)
      obtain rfl : x = T := by omega
      go_wp2_with fail
      go_ret
      exact ⟨_, m, fo, rfl, HI.out.2, HE.out m fo HI.out.1, hB⟩
end Go.Proofs.Ytjnknhgjlllhjaa
/-
  Own text. What the program's windows of numbers of 32 bits do.
-/
namespace Go.Proofs.Ytjnknhgjlllhjaa
open Go.RowKit Go.Proofs
set_option maxRecDepth 100000
/-- Block b is a window of the program of size sz; s 0 .. s (n - 1) came. -/
def Win32 (w : World) (b : Nat) (sz : Int) (n : Nat) (s : Nat → Int) (S : Nat → Prop) : Prop :=
  ∃ (g : Nat) (r : Int) (f : Nat → Int) (T : Nat), (T : Int) = topF s n ∧ max r 1 = sz ∧ sz ≤ 8192 ∧ WB32 w b g r T (wK sz) f ∧ Words sz T n s f ∧ S = (fun k => k = b ∨ k = g)
theorem nums_top32 {n : Nat} {s : Nat → Int} {T : Nat} (hN : Nums L32 n s) (hT : (T : Int) = topF s n) : T < 4294967296 ∧ ∀ i, i < n → 0 ≤ s i ∧ s i < (T : Int) := by
  have h1 := topF_bound (s := s) (M := L32) (by unfold L32; omega) (n := n) (fun i hi => (hN.1 i hi).2)
  unfold L32 at h1
  exact ⟨by omega, fun i hi => ⟨(hN.1 i hi).1, by have := topF_le (s := s) hi; omega⟩⟩
theorem last32 : ((4294967295 : Nat) : Int) = L32 := rfl
theorem new_win32 (x : Int) (w : World) : Calls Try.prog 22 #[.int .i64 x] w fun e w' => ∃ b S, e = .returned (.pointer (some ⟨b, 0, none⟩)) ∧ Win32 w' b (clampF x) 0 (fun _ => 0) S ∧ (∀ k, S k → w.heap.size ≤ k) ∧ Below w.heap.size w w' := by
  refine (new32_run x w).mono ?_
  rintro e w' ⟨b, g, rfl, h, hb, hg, hB⟩
  have hc := clampF_range x
  exact ⟨b, _, rfl, ⟨g, clampF x, _, 0, rfl, by omega, hc.2, h, Words.nil _ _, rfl⟩, fun k hk => by rcases hk with rfl | rfl <;> assumption, hB⟩
theorem fresh_win32 {w : World} {b n : Nat} {sz : Int} {s : Nat → Int} {S : Nat → Prop} (c : Int) (h : Win32 w b sz n s S) (hN : Nums L32 n s) (hc : U32 c) : Calls Try.prog 23 #[.pointer (some ⟨b, 0, none⟩), .int .u32 c] w fun e w' => e = .returned (.bool (freshD L32 sz n s c)) ∧ Below w.heap.size w w' := by
  obtain ⟨g, r, f, T, hT, hz, h2, hW, hX, rfl⟩ := h
  obtain ⟨t1, t2⟩ := nums_top32 hN hT
  unfold U32 at hc
  obtain ⟨c, rfl⟩ := Int.eq_ofNat_of_zero_le hc.1
  have := fresh32_gen hW hz h2 c (by omega) t1 hX.u
  rw [fresh_code hX hT (fun i hi => (t2 i hi).1) (by omega), last32] at this
  refine this.mono ?_
  rintro e w' ⟨rfl, m, rfl⟩
  exact ⟨rfl, below_dn w m⟩
theorem takeNo_win32 {w : World} {b n : Nat} {sz : Int} {s : Nat → Int} {S : Nat → Prop} (c : Int) (h : Win32 w b sz n s S) (hN : Nums L32 n s) (hc : U32 c) (hf : freshD L32 sz n s c = false) : Calls Try.prog 24 #[.pointer (some ⟨b, 0, none⟩), .int .u32 c] w fun e w' => e = .returned (.bool false) ∧ Below w.heap.size w w' := by
  obtain ⟨g, r, f, T, hT, hz, h2, hW, hX, rfl⟩ := h
  obtain ⟨t1, t2⟩ := nums_top32 hN hT
  unfold U32 at hc
  obtain ⟨c, rfl⟩ := Int.eq_ofNat_of_zero_le hc.1
  exact take32_no hW hz h2 c (by omega) t1 hX.u (by rw [fresh_code hX hT (fun i hi => (t2 i hi).1) (by omega), last32]; exact hf)
theorem takeYes_win32 {w : World} {b n : Nat} {sz : Int} {s : Nat → Int} {S : Nat → Prop} (c : Int) (h : Win32 w b sz n s S) (hN : Nums L32 n s) (hc : U32 c) (hf : freshD L32 sz n s c = true) : Calls Try.prog 24 #[.pointer (some ⟨b, 0, none⟩), .int .u32 c] w fun e w' => e = .returned (.bool true) ∧ ∃ S', Win32 w' b sz (n + 1) (cat n s (fun _ => c)) S' ∧ Touch S w w' ∧ ∀ k, S' k → S k ∨ w.heap.size ≤ k := by
  obtain ⟨g, r, f, T, hT, hz, h2, hW, hX, rfl⟩ := h
  obtain ⟨t1, t2⟩ := nums_top32 hN hT
  unfold U32 at hc
  obtain ⟨c, rfl⟩ := Int.eq_ofNat_of_zero_le hc.1
  have hf2 := fresh_code (last := 4294967295) (c := c) hX hT (fun i hi => (t2 i hi).1) (by omega)
  have hcl := (fresh_iff.1 hf).1
  rw [last32, hf] at hf2
  unfold L32 at hcl
  by_cases hge : T ≤ c
  · refine (take32_new hW hz h2 c (by omega) t1 hX t2 hf2 hge).mono ?_
    rintro e w' ⟨rfl, f', h1, h3, h4⟩
    exact ⟨rfl, _, ⟨g, r, f', c + 1, by rw [topF_cat, if_pos (by omega)]; rfl, hz, h2, h1, h3, rfl⟩, h4, fun k hk => .inl hk⟩
  · have hl : (T : Int) ≤ c + sz := by
      by_cases e : (c : Int) + sz < topF s n
      · rw [fresh_late (fun i hi => (t2 i hi).1) (by omega) (by omega) e] at hf
        cases hf
      · omega
    refine (take32_mid hW hz h2 c (by omega) t1 hX hf2 (by omega) hl).mono ?_
    rintro e w' ⟨rfl, f', h1, h3, h4⟩
    exact ⟨rfl, _, ⟨g, r, f', T, by rw [topF_cat, if_neg (by omega)]; exact hT, hz, h2, h1, h3, rfl⟩, h4, fun k hk => .inl hk⟩
theorem top_win32 {w : World} {b n : Nat} {sz : Int} {s : Nat → Int} {S : Nat → Prop} (h : Win32 w b sz n s S) : Calls Try.prog 25 #[.pointer (some ⟨b, 0, none⟩)] w fun e w' => e = .returned (.int .u32 (topF s n)) ∧ Below w.heap.size w w' := by
  obtain ⟨g, r, f, T, hT, hz, h2, hW, hX, rfl⟩ := h
  rw [← hT]
  refine (top32_run hW.c1).mono ?_
  rintro e w' ⟨rfl, rfl⟩
  exact ⟨rfl, Below.refl _ _⟩
theorem size_win32 {w : World} {b n : Nat} {sz : Int} {s : Nat → Int} {S : Nat → Prop} (h : Win32 w b sz n s S) : Calls Try.prog 37 #[.pointer (some ⟨b, 0, none⟩)] w fun e w' => e = .returned (.int .i64 sz) ∧ Below w.heap.size w w' := by
  obtain ⟨g, r, f, T, hT, hz, h2, hW, hX, rfl⟩ := h
  refine (size32_run hW.c0).mono ?_
  rintro e w' ⟨rfl, rfl⟩
  exact ⟨by rw [hz], Below.refl _ _⟩
theorem came_win32 {w : World} {b n : Nat} {sz : Int} {s : Nat → Int} {S : Nat → Prop} (h : Win32 w b sz n s S) (hN : Nums L32 n s) : Calls Try.prog 26 #[.pointer (some ⟨b, 0, none⟩)] w fun e w' => ∃ vo m f, e = .returned vo ∧ w'.ownsRow w.heap.size 43 1 vo m (nums .u32 m f) ∧ CameI s sz (topF s n) n m f ∧ Below w.heap.size w w' := by
  obtain ⟨g, r, f, T, hT, hz, h2, hW, hX, rfl⟩ := h
  obtain ⟨t1, t2⟩ := nums_top32 hN hT
  rw [← hT]
  exact came32_run hW hz h2 t1 hX t2
theorem lt_win32 {w : World} {b n : Nat} {sz : Int} {s : Nat → Int} {S : Nat → Prop} (h : Win32 w b sz n s S) : ∀ k, S k → k < w.heap.size := by
  obtain ⟨g, r, f, T, hT, hz, h2, hW, hX, rfl⟩ := h
  rintro k (rfl | rfl)
  · exact hW.lt
  · exact hW.row.lt
theorem kept_win32 {w w' : World} {b n : Nat} {sz : Int} {s : Nat → Int} {S : Nat → Prop} (h : Win32 w b sz n s S) (hb : ∀ k, S k → w'.heap[k]? = w.heap[k]?) : Win32 w' b sz n s S := by
  obtain ⟨g, r, f, T, hT, hz, h2, hW, hX, rfl⟩ := h
  exact ⟨g, r, f, T, hT, hz, h2, hW.same (hb b (.inl rfl)) (hb g (.inr rfl)), hX, rfl⟩
theorem code32 : Code32 Win32 where
  lt := lt_win32
  kept := fun h _ hb => kept_win32 h hb
  new := new_win32
  fresh := fun c h hN _ hc _ => fresh_win32 c h hN hc
  takeNo := fun c h hN _ hc _ hf => takeNo_win32 c h hN hc hf
  takeYes := fun c h hN _ hc _ hf => takeYes_win32 c h hN hc hf
  top := fun h _ _ => top_win32 h
  came := fun h hN _ _ => came_win32 h hN
end Go.Proofs.Ytjnknhgjlllhjaa
/-
  Own text. Take of a window that New did not make: its words are made first. What comes of no window.
-/
namespace Go.Proofs.Ytjnknhgjlllhjaa
open Go.RowKit Go.Proofs
set_option maxRecDepth 100000
set_option maxHeartbeats 4000000 in
theorem fresh64_top {w : World} {b T c : Nat} (c1 : w.cell? ⟨b, 1, none⟩ = some (.int .u64 (T : Int))) (hc : c + 1 < 18446744073709551616) (hge : T ≤ c) :
    Calls Try.prog 11 #[.pointer (some ⟨b, 0, none⟩), .int .u64 (c : Int)] w fun e w' => e = .returned (.bool true) ∧ w' = w := by
  have e2 : ¬ ((c : Int) = 18446744073709551615) := by omega
  have e4 : ((T : Int) ≤ (c : Int)) := by omega
  go_enter Try.func11, Try.ntmps11
  go_wp2_with (refine wl_value rfl (exec_nt64 rfl (by rfl)) ?_)
  go_ret
  exact ⟨rfl, rfl⟩
theorem exec_nilN {a : Act} {o : Oper} {w : World} {x : Operand} {t : TypeId} (ho : o.op = .binOp .eql 29 x (.const (.slice none 0 0)) t) {n c : Nat} (hx : a.eval x = .slice none n c) : (execOp a.eval o).run Try.prog w = .ok (.value (.bool true)) w := by
  have h := Lib.run_eql_slice_nil (P := Try.prog) w 29 26 none n c 0 0 Try.underlying29
  exact exec_bin2 ho hx rfl rfl h
/-- A window that New did not make, with words. -/
theorem zero_win {w : World} {b g : Nat} (hb : w.heap[b]? = some (.cells #[.int .i64 0, .int .u64 0, .slice none 0 0] 52 (0, 0))) (hg : ArrAt w g .u64 26 (wK 1) (fun _ => 0)) (hne : b ≠ g) :
    WB64 (w.setCell ⟨b, 2, none⟩ (.slice (some ⟨g, 0, none⟩) (wK 1) (wK 1))) b g 0 0 (wK 1) (fun _ => 0) := by
  refine ⟨?_, hg.only only_set (Ne.symm hne), hne⟩
  have h2 := heap_setCell_same w b 2 _ _ (.slice (some ⟨g, 0, none⟩) (wK 1) (wK 1)) hb
  simpa using h2
set_option maxHeartbeats 8000000 in
theorem take64_zero {w : World} {b : Nat} (hblk : w.heap[b]? = some (.cells #[.int .i64 0, .int .u64 0, .slice none 0 0] 52 (0, 0))) (c : Nat) (hc : c + 1 < 18446744073709551616) :
    Calls Try.prog 16 #[.pointer (some ⟨b, 0, none⟩), .int .u64 (c : Int)] w fun e w' => e = .returned (.bool true) ∧ ∃ S', Win64 w' b 1 1 (cat 0 (fun _ => 0) (fun _ => (c : Int))) S' ∧ Touch (fun k => k = b) w w' ∧ ∀ k, S' k → k = b ∨ w.heap.size ≤ k := by
  have c0 : w.cell? ⟨b, 0, none⟩ = some (.int .i64 0) := cell_of_row w b 0 _ _ _ hblk
  have c1 : w.cell? ⟨b, 1, none⟩ = some (.int .u64 ((0 : Nat) : Int)) := cell_of_row w b 1 _ _ _ hblk
  have c2 : w.cell? ⟨b, 2, none⟩ = some (.slice none 0 0) := cell_of_row w b 2 _ _ _ hblk
  have hrun := fresh64_top c1 hc (by omega)
  have hsz := size64_run c0
  rw [show max (0 : Int) 1 = 1 by decide] at hsz
  have hwd : Calls Try.prog 28 #[.int .i64 1] w fun e w' => ∃ g, w.heap.size ≤ g ∧ e = .returned (.slice (some ⟨g, 0, none⟩) (wK 1) (wK 1)) ∧ ArrAt w' g .u64 26 (wK 1) (fun _ => 0) ∧ Below w.heap.size w w' := (wordsFor_run 1 (by decide) w).mono (fun e w' h => ⟨_, Nat.le_refl _, h⟩)
  have hlt := heap_lt hblk
  have HQ : Hid (∀ ww, Calls Try.prog 34 #[.int .u64 (c : Int)] ww fun e w' => e = .returned (.int .u64 ((2 ^ (c % 64) : Nat) : Int)) ∧ w' = ww) := Hid.mk (fun ww => bit64_run ww c (by omega))
  have hd : ((0 : Int) ≤ (c : Int)) := by omega
  go_enter Try.func16, Try.ntmps16
  go_wp2_with fail
  refine hrun.mono ?_
  rintro e u1 ⟨rfl, rfl⟩
  clear hrun
  go_wp2_with (refine wl_value rfl (exec_nilN rfl (by rfl)) ?_)
  refine hsz.mono ?_
  rintro e u2 ⟨rfl, rfl⟩
  clear hsz
  go_wp2_with fail
  refine hwd.mono ?_
  rintro e u3 ⟨g, hg, rfl, g3, hb3⟩
  have hblk3 := (hb3.block b hlt).trans hblk
  have d2 : u3.cell? ⟨b, 2, none⟩ = some (.slice none 0 0) := cell_of_row u3 b 2 _ _ _ hblk3
  have fz := frozen_of_row u3 b 2 _ _ hblk3
  have hW1 := zero_win hblk3 g3 (by omega)
  have d1 := hW1.c1
  have hT0 : Touch (fun k => k = b) u2 (u3.setCell ⟨b, 2, none⟩ (.slice (some ⟨g, 0, none⟩) (wK 1) (wK 1))) := Touch.trans (belT hb3) (touch_only only_set)
  have hmov := mov64_run hW1 (by decide) (Words.nil 1 (fun _ => 0)) (fun i hi => by omega) c hc (by omega)
  clear c0 c1 c2 hwd hblk hblk3 g3
  go_wp2_with fail
  refine hmov.mono ?_
  rintro e u0 ⟨rfl, f0, hW0, hU, hB, hT1⟩
  clear hmov hW1 d1 d2 fz hb3
  have hK := wK_pos 1
  have HX := Hid.mk (Words.put hU hB (c := c) (Nat.le_refl _) (by omega) (T := c + 1) (by omega) rfl)
  have hK2 : wK 1 ≤ 1000 := by decide
  have hp := Nat.mod_lt (c / 64) hK
  have hq := or_bit (hU _ hp) (c % 64) (by omega)
  clear hU hB
  generalize hp0 : c / 64 % wK 1 = p at *
  generalize hx0 : f0 p = x at *
  generalize ((2 ^ (c % 64) : Nat) : Int) = q at *
  generalize hy0 : ((x.toNat ||| 2 ^ (c % 64) : Nat) : Int) = y at *
  have HO := Hid.mk hq
  clear hq
  generalize hKK : wK 1 = K at *
  go_wp2_with fail
  have hcW := hW0.row.cell p hp
  have HC : Hid (∀ ww, Below u0.heap.size u0 ww → ww.cell? ⟨b, 2, none⟩ = some (.slice (some ⟨g, 0, none⟩) K K) ∧ ww.cell? ⟨g, p, none⟩ = some (.int .u64 x)) := Hid.mk (fun ww hb => ⟨(hW0.kept hb).c2, by rw [← hx0]; exact (hW0.kept hb).row.cell p hp⟩)
  have HP : Hid (∀ ww, Below u0.heap.size u0 ww → Calls Try.prog 33 #[.pointer (some ⟨b, 0, none⟩), .int .u64 (c : Int)] ww fun e w' => e = .returned (.int .i64 (p : Int)) ∧ w' = ww) := Hid.mk (fun ww hb => by rw [← hp0]; exact place64_run c (by omega) (hW0.kept hb).c2 hK hK2)
  have HW := Hid.mk hW0
  clear hcW hW0
  refine wp_region_steps2 13 _ (Below u0.heap.size u0) (fun v v' => Below v.heap.size v v') (fun i v _ => match i with | 0 => v = .pointer (some ⟨b, 0, none⟩) | 1 => v = .pointer (some ⟨b, 0, none⟩) | 2 => v = .pointer (some ⟨b, 2, none⟩) | 3 => v = .slice (some ⟨g, 0, none⟩) K K | 4 => v = .pointer (some ⟨b, 0, none⟩) | 5 => v = .int .u64 (c : Int) | 6 => v = .int .i64 (p : Int) | 7 => v = .pointer (some ⟨g, p, none⟩) | 8 => v = .int .u64 x | 9 => v = .int .u64 (c : Int) | 10 => v = .int .u64 q | 11 => v = .int .u64 y | 12 => v = .pointer (some ⟨g, p, none⟩) | _ => True) [29, 30, 31, 32, 33, 34, 35, 36, 37, 38, 39, 40, 41]
    [(0, .pointer (some ⟨b, 0, none⟩)), (1, .int .u64 (c : Int))] [[], [0], [1], [2], [], [], [4, 5], [3, 6], [7], [], [9], [8, 10], [3, 6]] rfl (by kernel_rfl) rfl ⟨rfl, rfl, trivial⟩ (Below.drew (Below.refl _ _)) (fun v v' h hb => h.trans (hb.mono h.size)) ?_
    ⟨
    (fun Q a1 ww hS fr kn => ⟨trivial, fun K hK => wp_value (exec_move rfl fr.1) (hK _ _ rfl (Below.refl _ _))⟩),
    (fun Q a1 ww hS fr kn => ⟨trivial, fun K hK => wp_value (exec_nilc rfl kn.1) (hK _ _ rfl (Below.refl _ _))⟩),
    (fun Q a1 ww hS fr kn => ⟨trivial, fun K hK => wp_value (exec_fw64 rfl kn.1) (hK _ _ rfl (Below.refl _ _))⟩),
    (fun Q a1 ww hS fr kn => ⟨trivial, fun K hK => wp_value (exec_ld rfl kn.1 (load_sl ((HC.out ww hS).1))) (hK _ _ rfl (Below.refl _ _))⟩),
    (fun Q a1 ww hS fr kn => ⟨trivial, fun K hK => wp_value (exec_move rfl fr.1) (hK _ _ rfl (Below.refl _ _))⟩),
    (fun Q a1 ww hS fr kn => ⟨trivial, fun K hK => wp_value (exec_move rfl fr.2.1) (hK _ _ rfl (Below.refl _ _))⟩),
    (fun Q a1 ww hS fr kn => ⟨trivial, fun K hK => stepc enterPlc64 rfl (args2 kn.1 kn.2.1) ((HP.out ww hS).mono (fun _ _ h => ⟨h.1, h.2 ▸ Below.refl _ _⟩)) (fun w' hb => hK _ _ rfl hb)⟩),
    (fun Q a1 ww hS fr kn => ⟨trivial, fun K hK => wp_value (exec_idxW rfl kn.1 kn.2.1 hp) (hK _ _ rfl (Below.refl _ _))⟩),
    (fun Q a1 ww hS fr kn => ⟨trivial, fun K hK => wp_value (exec_ld rfl kn.1 (load_u64 ((HC.out ww hS).2))) (hK _ _ rfl (Below.refl _ _))⟩),
    (fun Q a1 ww hS fr kn => ⟨trivial, fun K hK => wp_value (exec_move rfl fr.2.1) (hK _ _ rfl (Below.refl _ _))⟩),
    (fun Q a1 ww hS fr kn => ⟨trivial, fun K hK => stepc enterBit64 rfl (args1 kn.1) ((HQ.out ww).mono (fun _ _ h => ⟨h.1, h.2 ▸ Below.refl _ _⟩)) (fun w' hb => hK _ _ rfl hb)⟩),
    (fun Q a1 ww hS fr kn => ⟨trivial, fun K hK => wp_value (exec_orW rfl kn.1 kn.2.1 HO.out) (hK _ _ rfl (Below.refl _ _))⟩),
    (fun Q a1 ww hS fr kn => ⟨trivial, fun K hK => wp_value (exec_idxW rfl kn.1 kn.2.1 hp) (hK _ _ rfl (Below.refl _ _))⟩),
    trivial⟩ ?_
  · intro i v u u' h hb
    exact h
  intro vs v9 hS9 hk9
  have e40 : vs 40 = .int .u64 y := hk9 11 (by decide)
  have e41 : vs 41 = .pointer (some ⟨g, p, none⟩) := hk9 12 (by decide)
  clear hk9
  simp only [putAll, Act.put, List.setIfInBounds_toArray, List.set_cons_zero, List.set_cons_succ, e40, e41]
  have hW9 := HW.out.kept hS9
  refine ⟨act_w64 rfl (by rfl) (by rfl) hW9.row hp ?_⟩
  intro v10 g10 o10
  simp only [Act.put]
  have HF := Hid.mk (And.intro (WB64.mk ((o10.block b hW9.ne).trans hW9.blk) g10 hW9.ne) (touch_bg (belT (T := fun k => k = b ∨ k = g) hS9) (Touch.mono (touch_only o10) (T' := fun k => k = b ∨ k = g) (fun k _ e => .inr e))))
  clear hW9 hS9 g10 o10
  go_wp2_with fail
  go_ret
  obtain ⟨f1, f2⟩ := HF.out
  refine ⟨rfl, _, ⟨g, 0, _, c + 1, ?_, by decide, by decide, by rw [hKK]; exact f1, HX.out, rfl⟩, ?_, fun k hk => ?_⟩
  · rw [topF_cat, if_pos (by simp [topF] <;> omega)]; rfl
  · have h3 := touch_bg hT1 f2
    exact ⟨h3.os.trans hT0.os, h3.tape.trans hT0.tape, h3.output.trans hT0.output, Nat.le_trans hT0.size h3.size, fun k hk hn => (h3.block k (Nat.lt_of_lt_of_le hk hT0.size) (fun e => e.elim hn (fun e => by omega))).trans (hT0.block k hk hn)⟩
  · rcases hk with rfl | rfl
    · exact .inl rfl
    · exact .inr (by omega)
end Go.Proofs.Ytjnknhgjlllhjaa
/-
  Own text. The lift of ReplayNil's walk to its statement.
-/
namespace Go.Proofs.Ytjnknhgjlllhjaa
open Go.ChangeShapes Go.WideShapes Go.ChangeAt Go.WideMaps Go.WideElems Go.ChangeMaps Go.RowKit Go.Proofs
set_option maxRecDepth 100000
def ReplayNilWalk : Prop := ∀ (a0 : Int) (_ : (Lit.int .u64 a0).wf = true) (W : World), Calls Try.prog 6 #[.int .u64 a0] W fun e w' => e = .returned (.bool true) ∧ Below W.heap.size W w'
theorem own_replayNil : ownKnob Try.prog.godebug = none := by kernel_rfl
set_option maxRecDepth 100000 in
theorem lifted_replayNil (hwalk : ReplayNilWalk) (os : Os) (started : os.Started) (H : Type) (enc : TypeId × Value → H) :
    ReturnsInHanded {} Try.checked os 6 .any (Rows.replayNilSpec.pre6 enc Try.prog Try.f6 Rows.replayNilRow.domain false) (Rows.replayNilSpec.post enc Try.prog Try.f6 false true false false) := by
  refine returnsInHanded_of_change (C := Try.checked) own_replayNil started (by kernel_rfl) Try.func6
    (ChangeSpec.witness6 (enc := enc) (C := Try.checked) false ⟨#[], #[.int .u64 0], []⟩ 8 (by kernel_rfl) (by kernel_rfl) (by kernel_rfl) (by kernel_rfl)) ?_
  intro W base args ds gs before hval0 hW _ _
  have hval : ∀ (j : Nat) t v, Try.f6.params[j]? = some t → args[j]? = some v → Value.okWide Try.prog W .any base t v := hval0
  have hW' := hW
  obtain ⟨p, q, hA0, hV, rfl, hfz, hnd⟩ := hW
  have hA : DataW.TrodAll enc Try.prog W 0 (fun _ => true) true Try.f6.params.toList args.toList ds p := hA0
  rw [Try.params6] at hA hval
  obtain ⟨v0, vs0, d0, ds0, p0, q0, hargs, rfl, rfl, h0, r0⟩ := trodAll_cons hA
  obtain ⟨rfl, rfl, rfl⟩ := trodAll_nil r0
  obtain rfl : args = #[v0] := by cases args; simp_all
  obtain ⟨rfl, rfl⟩ := trodVars_none hV
  obtain ⟨a0, rfl, rfl, rfl, w0⟩ := open_int Try.underlying26 (hval 0 26 v0 rfl rfl) h0
  clear hA0 hval0
  simp only [List.append_nil] at hW'
  refine (hwalk a0 w0 W ).mono fun e W' ⟨he, hg⟩ => ?_
  subst he
  refine ⟨_, rfl, _, _, _, [], ([] ++ []), [], hW', trodAll_mk1 (shut_bool Try.underlying4 true), ?_, rfl, hg.frame _, fun h => by cases h⟩
  exact (trodAll_cons_mk (shut_int Try.underlying26 w0) trodAll_mk0)
theorem replayNil_said (hwalk : ReplayNilWalk) : Rows.ReplayNilSaid :=
  OpenClaim.holds_of_wide 6 Try.f6 rfl rfl rfl rfl rfl rfl rfl ⟨rfl, rfl, rfl, rfl, rfl⟩ rfl rfl rfl rfl rfl (by kernel_rfl) Try.func6 (by kernel_rfl)
    (of_decide_eq_true (by kernel_rfl)) (by unfold Func.isWrapper; first | (rw [if_pos (by decide +kernel)]; kernel_rfl) | (rw [if_neg (by decide +kernel)]; exact ⟨rfl, rfl⟩))
    (fun os started H enc _ => lifted_replayNil hwalk os started H enc)
end Go.Proofs.Ytjnknhgjlllhjaa
/-
  Own text. The walk of ReplayNil: of no window nothing comes; a zero one is of Size 1.
-/
namespace Go.Proofs.Ytjnknhgjlllhjaa
open Go.RowKit Go.Proofs
set_option maxRecDepth 100000
theorem copy_nil (w : World) : Calls Try.prog 13 #[.pointer none] w fun e w' => ∃ b S, e = .returned (.pointer (some ⟨b, 0, none⟩)) ∧ Win64 w' b 1 0 (fun _ => 0) S ∧ (∀ k, S k → w.heap.size ≤ k) ∧ Below w.heap.size w w' := by
  have hN := new_win64 1 w
  rw [show clampF 1 = 1 by decide] at hN
  go_enter Try.func13, Try.ntmps13
  go_wp2_with fail
  refine hN.mono ?_
  rintro e v0 ⟨b, S, rfl, h0, hS, hb⟩
  go_wp2_with fail
  go_ret
  exact ⟨b, S, rfl, h0, hS, hb⟩
theorem clear_nil (w : World) : Calls Try.prog 17 #[.pointer none] w fun e w' => e = .returned (.tuple #[]) ∧ w' = w := by
  go_enter Try.func17, Try.ntmps17
  go_wp2_with fail
  exact bodyPost_ret (results_none rfl _ _ _) rfl ⟨rfl, rfl⟩
theorem fresh_nil (c : Int) (w : World) : Calls Try.prog 11 #[.pointer none, .int .u64 c] w fun e w' => e = .returned (.bool false) ∧ w' = w := by
  go_enter Try.func11, Try.ntmps11
  go_wp2_with fail
  go_ret
  exact ⟨rfl, rfl⟩
theorem take_nil (c : Int) (w : World) : Calls Try.prog 16 #[.pointer none, .int .u64 c] w fun e w' => e = .returned (.bool false) ∧ w' = w := by
  go_enter Try.func16, Try.ntmps16
  go_wp2_with fail
  refine (fresh_nil c _).mono ?_
  rintro e v0 ⟨rfl, rfl⟩
  go_wp2_with fail
  go_ret
  exact ⟨rfl, rfl⟩
theorem top_nil (w : World) : Calls Try.prog 14 #[.pointer none] w fun e w' => e = .returned (.int .u64 0) ∧ w' = w := by
  go_enter Try.func14, Try.ntmps14
  go_wp2_with fail
  go_ret
  exact ⟨rfl, rfl⟩
theorem size_nil (w : World) : Calls Try.prog 15 #[.pointer none] w fun e w' => e = .returned (.int .i64 0) ∧ w' = w := by
  go_enter Try.func15, Try.ntmps15
  go_wp2_with fail
  go_ret
  exact ⟨rfl, rfl⟩
theorem came_nil (w : World) : Calls Try.prog 20 #[.pointer none] w fun e w' => e = .returned (.slice none 0 0) ∧ w' = w := by
  go_enter Try.func20, Try.ntmps20
  go_wp2_with fail
  go_ret
  exact ⟨rfl, rfl⟩
theorem run_bld0 (w : World) : (Instr.build 52 #[]).run Try.prog w = .ok (.agg #[.int .i64 0, .int .u64 0, .slice none 0 0]) w := by kernel_rfl
theorem exec_bld0 {a : Act} {o : Oper} {w : World} (ho : o.op = .build 52 #[]) : (execOp a.eval o).run Try.prog w = .ok (.value (.agg #[.int .i64 0, .int .u64 0, .slice none 0 0])) w := by
  have h := run_bld0 w
  unfold execOp
  simp only [ho, List.map_toArray, List.map_nil, Sem.run_bind, h, Result.andThen_ok, Sem.run_pure]
def z1 : Nat → Int := cat 0 (fun _ => 0) (fun _ => 7)
def z2 : Nat → Int := cat 1 z1 (fun _ => 8)
theorem g6 : freshD L64 1 1 z1 6 = false := by decide
theorem g8 : freshD L64 1 1 z1 8 = true := by decide
theorem take_zero7 {w : World} {b : Nat} (hblk : w.heap[b]? = some (.cells #[.int .i64 0, .int .u64 0, .slice none 0 0] 52 (0, 0))) :
    Calls Try.prog 16 #[.pointer (some ⟨b, 0, none⟩), .int .u64 7] w fun e w' => e = .returned (.bool true) ∧ ∃ S', Win64 w' b 1 1 z1 S' ∧ Touch (fun k => k = b) w w' ∧ ∀ k, S' k → k = b ∨ w.heap.size ≤ k := take64_zero hblk 7 (by decide)
set_option maxHeartbeats 2000000 in
theorem nil_walk : ReplayNilWalk := by
  intro n _ w
  have n1 : Nums L64 1 z1 := (Nums.nil L64 (fun _ => 0)).take (sz := 1) (by decide) (by decide) (by decide)
  have u6 : U64 6 := by unfold U64; decide
  have u8 : U64 8 := by unfold U64; decide
  go_enter Try.func6, Try.ntmps6
  go_wp2_with (first | (refine wl_value rfl (exec_bld0 rfl) ?_) | (refine wl_boxW64 (by rfl) ?_; intro v0 gm hB; refine Hid.out ?_))
  refine Hid.mk ?_
  go_wp2_with fail
  refine (copy_nil _).mono ?_
  rintro e v1 ⟨c, S, rfl, hc, hS, hb⟩
  have hzl := heap_lt gm
  have hcz : ∀ k, S k → k ≠ w.heap.size := fun k hk e => by have := hS k hk; omega
  replace gm := (hb.block w.heap.size hzl).trans gm
  replace hB := hB.trans (hb.mono hB.size)
  clear hb hS hzl
  go_wp2_with fail
  refine (clear_nil _).mono ?_
  rintro e v2 ⟨rfl, rfl⟩
  go_wp2_with fail
  refine (take_zero7 gm).mono ?_
  rintro e v3 ⟨rfl, S3, h3, hT, hS3⟩
  have hlt := lt_win64 hc
  have hcS : ∀ k, S k → ¬ S3 k := fun k hk h => by
    have a1 := hlt k hk
    have a2 := hcz k hk
    rcases hS3 k h with e | e
    · exact a2 e
    · omega
  have hS3z : ∀ k, S3 k → w.heap.size ≤ k := fun k hk => by
    have := hB.size
    rcases hS3 k hk with e | e <;> omega
  replace hc := kept_win64 hc (fun k hk => hT.block k (hlt k hk) (hcz k hk))
  replace hB := below_T hB hT (fun k hk => by omega) hB.size
  clear hT hS3 gm hlt hcz
  go_wp2_with fail
  refine (takeNo_win64 6 h3 n1 u6 g6).mono ?_
  rintro e v4 ⟨rfl, hb⟩
  replace hc := code64.below hc hb
  replace h3 := code64.below h3 hb
  replace hB := hB.trans (hb.mono hB.size)
  clear hb
  go_wp2_with fail
  refine (takeYes_win64 8 h3 n1 u8 g8).mono ?_
  rintro e v5 ⟨rfl, S5, h5, hT, hS5⟩
  replace hc := kept_win64 hc (fun k hk => hT.block k (lt_win64 hc k hk) (hcS k hk))
  replace hB := below_T hB hT hS3z hB.size
  clear hT hS5 h3 hcS hS3z
  go_wp2_with fail
  refine (awake8_run code64 _).mono ?_
  rintro e v6 ⟨rfl, hb⟩
  replace hc := code64.below hc hb
  replace h5 := code64.below h5 hb
  replace hB := hB.trans (hb.mono hB.size)
  clear hb
  go_wp2_with fail
  refine (fresh_nil n _).mono ?_
  rintro e v7 ⟨rfl, rfl⟩
  go_wp2_with fail
  refine (take_nil n _).mono ?_
  rintro e v8 ⟨rfl, rfl⟩
  go_wp2_with fail
  refine (top_nil _).mono ?_
  rintro e v9 ⟨rfl, rfl⟩
  go_wp2_with fail
  refine (size_nil _).mono ?_
  rintro e v10 ⟨rfl, rfl⟩
  go_wp2_with fail
  refine (came_nil _).mono ?_
  rintro e v11 ⟨rfl, rfl⟩
  go_wp2_with fail
  refine (size_win64 hc).mono ?_
  rintro e v12 ⟨rfl, hb⟩
  replace h5 := code64.below h5 hb
  replace hB := hB.trans (hb.mono hB.size)
  clear hb
  go_wp2_with fail
  refine (size_win64 h5).mono ?_
  rintro e v13 ⟨rfl, hb⟩
  replace hB := hB.trans (hb.mono hB.size)
  clear hb
  go_wp2_with fail
  go_ret
  exact ⟨rfl, hB⟩
end Go.Proofs.Ytjnknhgjlllhjaa
