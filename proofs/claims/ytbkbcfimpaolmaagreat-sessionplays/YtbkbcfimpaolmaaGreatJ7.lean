/-
  Own text. Inv's laws for the first operations of a region that is cut (Cut). No program is named here.
-/
import Derived.Test.YtbkbcfimpaolmaaGreatJ1
import Derived.Test.YtbkbcfimpaolmaaGreatJ6
namespace Go.Proofs.YtbkbcfimpaolmaaGreat
open Go
section
variable {P : Program} {ops : Array Oper} {Q : Exit → Act → World → Prop}
theorem any_inv {a0 : Act} {w0 : World} (S : World → Prop) (R : World → World → Prop) (φ : Nat → Value → World → Prop) (hB : invB ops = true)
    (hS0 : S w0.drew) (hSR : ∀ w w', S w → R w w' → S w') (hφ : ∀ i v w w', φ i v w → R w w' → φ i v w')
    (step : ∀ (i : Nat) (o : Oper), ops[i]? = some o → ∀ (a : Act) (w : World), S w → (∀ t : Nat, (∀ (j : Nat) (oj : Oper), ops[j]? = some oj → oj.dst = some t → predOf oj i = true) → a.tmps[t]? = a0.tmps[t]?) →
      (∀ (j : Nat) (oj : Oper) (d : Nat), ops[j]? = some oj → oj.dst = some d → predOf o j = true → φ j (a.tmps.getD d undef) w) →
      wpOp P ops Q i (fun a' w' => ∃ v, a' = a.put o.dst v ∧ φ i v w' ∧ R w w') a w)
    (fin : ∀ (vs : Nat → Value) (w : World), S w → (∀ (i : Nat) (o : Oper) (d : Nat), ops[i]? = some o → o.dst = some d → φ i (vs d) w) → Q .normal (putAll a0 vs (dsts ops)) w)
    (hsz : ∀ d ∈ dsts ops, d < a0.tmps.size) : wpAny P .any ops Q ops.size (Array.replicate ops.size false) a0 { w0 with drawn := w0.drawn + 1 } := by
  simp only [invB, Bool.and_eq_true, decide_eq_true_eq] at hB
  obtain ⟨⟨hsome, hnd⟩, hord⟩ := hB
  refine (wpAny_inv (Mid ops a0 S φ) ?_ ?_ ops.size _ a0 _ ?_ ?_)
  · intro listed a w i mid hi
    obtain ⟨hun, oi, hoi, hall⟩ := mem_ready.1 hi
    have hils : i < listed.size := by
      rcases Nat.lt_or_ge i listed.size with h | h
      · exact h
      · simp [Array.getElem?_eq_none h] at hun
    have hunf : listed.getD i false = false := by simp [hils] at hun ⊢; exact hun
    have hst := step i oi hoi a w mid.world
      (fun t ht => mid.frame t (fun j oj hj hl hd => by
        obtain ⟨e, he, hb⟩ := Array.any_eq_true'.1 (ht j oj hj hd)
        simp only [Bool.and_eq_true, beq_iff_eq] at hb
        have := mid.closed j oj hj hl e he hb.1
        rw [hb.2, hunf] at this
        cases this))
      (fun j oj d hj hd hp => by
        obtain ⟨e, he, hb⟩ := Array.any_eq_true'.1 hp
        simp only [Bool.and_eq_true, beq_iff_eq] at hb
        have := hall e he hb.1
        rw [hb.2] at this
        exact mid.known j oj d hj hd this)
    refine wpOp_mono (fun a' w' h' => ?_) hst
    obtain ⟨v, rfl, hv, hR⟩ := h'
    have hsi : oi.dst.isSome = true := List.all_eq_true.1 hsome oi (by simpa using Array.mem_of_getElem? hoi)
    obtain ⟨di, hdi⟩ := Option.isSome_iff_exists.1 hsi
    have hmem : di ∈ dsts ops := List.mem_filterMap.2 ⟨oi, by simpa using Array.mem_of_getElem? hoi, hdi⟩
    have hdlt : di < a.tmps.size := by rw [mid.size]; exact hsz di hmem
    have hself : (listed.setIfInBounds i true).getD i false = true := by simp [hils]
    rw [hdi]
    refine ⟨by simp [mid.lsize], fun j oj hj hl e he hb => ?_, by simpa [Act.put] using mid.size, mid.defers, hSR w w' mid.world hR, fun t ht => ?_, fun j oj d hj hd hl => ?_⟩
    · rcases getD_set_false hl with rfl | hl
      · obtain rfl : oj = oi := Option.some.inj (hj.symm.trans hoi)
        have h1 := hall e he hb
        by_cases hie : j = e.on
        · rw [hie]; rw [hie] at hself; exact hself
        · rw [getD_set_ne false hie]; exact h1
      · have h1 := mid.closed j oj hj hl e he hb
        by_cases hie : i = e.on
        · rw [← hie]; exact hself
        · rw [getD_set_ne false hie]; exact h1
    · have hne : di ≠ t := fun h => ht i oi hoi hself (by rw [hdi, h])
      rw [show (a.put (some di) v).tmps[t]? = a.tmps[t]? from by simp [Act.put, hne]]
      exact mid.frame t (fun j oj hj hl => ht j oj hj (by
        by_cases hij : i = j
        · subst hij; exact hself
        · rw [getD_set_ne false hij]; exact hl))
    · rcases getD_set_false hl with rfl | hl
      · obtain rfl : oj = oi := Option.some.inj (hj.symm.trans hoi)
        obtain rfl : d = di := Option.some.inj (hd.symm.trans hdi)
        rw [show (a.put (some d) v).tmps.getD d undef = v from by simp [Act.put, hdlt]]
        exact hv
      · have hne : di ≠ d := fun h => by
          subst h
          have := nodup_dst hnd hoi hj hdi hd
          subst this
          rw [hunf] at hl
          cases hl
        rw [show (a.put (some di) v).tmps.getD d undef = a.tmps.getD d undef from by simp [Act.put, hne]]
        exact hφ j _ w w' (mid.known j oj d hj hd hl) hR
  · intro listed a w mid hr
    have hall : ∀ n i, i < n → i < ops.size → listed.getD i false = true := by
      intro n
      induction n with
      | zero => intro i h; cases h
      | succ n ih =>
        intro i hin hil
        by_cases hlt : i < n
        · exact ih i hlt hil
        · have hin' : i = n := by omega
          subst hin'
          cases hg : listed.getD i false with
          | true => rfl
          | false =>
            have ho : ops[i]? = some ops[i] := Array.getElem?_eq_getElem hil
            have h1 := List.all_eq_true.1 hord i (List.mem_range.2 hil)
            simp only [ho] at h1
            have hin2 : i ∈ Region.ready .any ops listed := mem_ready.2 ⟨by
              have : i < listed.size := by rw [mid.lsize]; exact hil
              simp [this] at hg ⊢; exact hg, _, ho, fun e he hb => by
              have h2 := Array.all_eq_true'.1 h1 e he
              simp only [hb, Bool.not_true, Bool.false_or, decide_eq_true_eq] at h2
              exact ih e.on h2 (by omega)⟩
            rw [hr] at hin2
            cases hin2
    have hq := fin (fun d => a.tmps.getD d undef) w mid.world (fun i o d ho hd => mid.known i o d ho hd (hall (i + 1) i (by omega) (Array.getElem?_eq_some_iff.1 ho).1))
    have ha : putAll a0 (fun d => a.tmps.getD d undef) (dsts ops) = a := by
      have h1 := putAll_defers (fun d => a.tmps.getD d undef) (dsts ops) a0
      have h2 : (putAll a0 (fun d => a.tmps.getD d undef) (dsts ops)).tmps = a.tmps := by
        apply Array.ext_getElem?
        intro t
        by_cases ht : t < a0.tmps.size
        · rw [putAll_get _ _ _ _ ht]
          by_cases hm2 : t ∈ dsts ops
          · rw [if_pos hm2]
            have : t < a.tmps.size := by rw [mid.size]; exact ht
            simp [this]
          · rw [if_neg hm2]
            exact (mid.frame t (fun i o hi _ hd => hm2 (List.mem_filterMap.2 ⟨o, by simpa using Array.mem_of_getElem? hi, hd⟩))).symm
        · rw [Array.getElem?_eq_none (by rw [putAll_size]; omega), Array.getElem?_eq_none (by rw [mid.size]; omega)]
      rw [← mid.defers] at h1
      generalize putAll a0 (fun d => a.tmps.getD d undef) (dsts ops) = b at h1 h2
      cases a; cases b
      simp only at h1 h2
      rw [h1, h2]
    rw [ha] at hq
    exact hq
  · unfold leftOf
    exact Nat.le_trans (List.length_filter_le _ _) (by simp)
  · exact ⟨by simp, fun j oj _ hl => (by rw [getD_replicate_f] at hl; cases hl), rfl, rfl, hS0, fun _ _ => rfl, fun i o d _ _ hl => (by rw [getD_replicate_f] at hl; cases hl)⟩
theorem any_steps {a0 : Act} {w0 : World} (S : World → Prop) (R : World → World → Prop) (φ : Nat → Value → World → Prop) (ds : List Nat) (base : List (Nat × Value)) (p : List (List Nat))
    (hB : (invB ops && tabB ops ds (base.map (·.1)) p && ds.all (fun d => decide (d < a0.tmps.size))) = true)
    (hb0 : Holds a0 base) (hS0 : S w0.drew) (hSR : ∀ w w', S w → R w w' → S w') (hφ : ∀ i v w w', φ i v w → R w w' → φ i v w')
    (steps : AllSteps P S R φ ds base p 0 ops.toList)
    (fin : ∀ (vs : Nat → Value) (w : World), S w → (∀ j : Nat, j < ds.length → φ j (vs (ds.getD j 0)) w) → Q .normal (putAll a0 vs ds) w) : wpAny P .any ops Q ops.size (Array.replicate ops.size false) a0 { w0 with drawn := w0.drawn + 1 } := by
  simp only [Bool.and_eq_true] at hB
  obtain ⟨⟨hI, hT⟩, hsz⟩ := hB
  simp only [tabB, Bool.and_eq_true, beq_iff_eq] at hT
  obtain ⟨⟨hds, hbase⟩, htab⟩ := hT
  have hdst : ∀ (j : Nat) (oj : Oper), ops[j]? = some oj → oj.dst = some (ds.getD j 0) ∧ j < ds.length := fun j oj hj => by
    have h1 : (ops.toList.map (·.dst))[j]? = some oj.dst := by rw [List.getElem?_map]; simp [hj]
    rw [hds, List.getElem?_map] at h1
    cases hq : ds[j]? with
    | none => rw [hq] at h1; simp at h1
    | some d =>
      rw [hq] at h1
      have hl : j < ds.length := (List.getElem?_eq_some_iff.1 hq).1
      refine ⟨?_, hl⟩
      rw [List.getD_eq_getElem?_getD, hq]
      simpa using h1.symm
  have hdsts : dsts ops = ds := by
    unfold dsts
    have h1 : ops.toList.filterMap (·.dst) = (ops.toList.map (·.dst)).filterMap (fun x => x) := by rw [List.filterMap_map]; rfl
    rw [h1, hds, List.filterMap_map]
    exact List.filterMap_some
  refine any_inv S R φ hI hS0 hSR hφ (fun i o hi a w hS hfr hkn => ?_) (fun vs w hS h => ?_) (fun d hd => by rw [hdsts] at hd; simpa using List.all_eq_true.1 hsz d hd)
  · have hil : i < ops.size := (Array.getElem?_eq_some_iff.1 hi).1
    have ht := List.all_eq_true.1 htab i (List.mem_range.2 hil)
    simp only [hi, Bool.and_eq_true] at ht
    have st := AllSteps.at ops.toList p 0 steps i o (by simpa using hi)
    rw [Nat.zero_add] at st
    obtain ⟨hg, hk⟩ := st Q a w hS
      (holds_of base (fun t htm => eval_tmp_of (hfr t (fun j oj hj hd => by
        exfalso
        have h1 := List.all_eq_true.1 hbase t htm
        have h2 := (hdst j oj hj).1
        rw [hd] at h2
        have h3 : t = ds.getD j 0 := Option.some.inj h2
        have h4 : t ∈ ds := by
          rw [h3, List.getD_eq_getElem?_getD, List.getElem?_eq_getElem (hdst j oj hj).2]
          simp
        simp [h4] at h1))) hb0)
      (knows_of _ (fun j hj => by
        have h1 := List.all_eq_true.1 ht.1 j hj
        simp only [Bool.and_eq_true, decide_eq_true_eq] at h1
        have hoj : ops[j]? = some ops[j] := Array.getElem?_eq_getElem h1.2
        have h2 := hkn j _ _ hoj (hdst j _ hoj).1 h1.1
        simpa [Act.eval] using h2))
    have hw : Region.wanted o (yielded ops a.tmps) = true := by
      unfold Region.wanted
      cases hgd : o.guard with
      | none => rfl
      | some x =>
        obtain ⟨g, b⟩ := x
        rw [hgd] at hg
        have h2 := ht.2
        rw [hgd] at h2
        simp only [decide_eq_true_eq] at h2
        have hog : ops[g]? = some ops[g] := Array.getElem?_eq_getElem h2
        have hd := (hdst g _ hog).1
        have h4 : a.tmps[ds.getD g 0]? = some (.bool b) := by
          simp only [Act.eval] at hg
          rw [Array.getD_eq_getD_getElem?] at hg
          cases hq : a.tmps[ds.getD g 0]? with
          | none => rw [hq] at hg; simp [undef] at hg
          | some v => rw [hq] at hg; simpa using hg
        have hy : yielded ops a.tmps g = some b := by
          unfold yielded
          rw [hog]
          simp only [Option.bind_some, hd, h4]
        simp [hy]
    unfold wpOp
    simp only [hi, hw, if_true]
    exact .inl (hk _ (fun v w' h1 h2 => ⟨v, rfl, h1, h2⟩))
  · rw [hdsts]
    refine fin vs w hS (fun j hj => ?_)
    have hlen : ops.toList.length = ds.length := by have := congrArg List.length hds; simpa using this
    have hjl : j < ops.size := by rw [← hlen] at hj; simpa using hj
    have hoj : ops[j]? = some ops[j] := Array.getElem?_eq_getElem hjl
    exact h j _ _ hoj (hdst j _ hoj).1
end
end Go.Proofs.YtbkbcfimpaolmaaGreat
/-
  Own text. Package session: newSlot, told, due, open.
-/
namespace Go.Proofs.YtbkbcfimpaolmaaGreat
open Go.RowKit Go.Proofs
set_option maxRecDepth 100000
/-- A pair: send, receive, local, far. -/
def paiV (S R : Nat → Int) (l f : Int) (i : Nat) : Value := if i < 32 then .int .u8 (S i) else if i < 64 then .int .u8 (R (i - 32)) else if i < 65 then .int .u32 l else .int .u32 f
theorem isPair : IsSt 30 66 := ⟨_, Tryz.underlying30, rfl, by kernel_rfl⟩
section
variable {w : World} {b : Nat} {S R : Nat → Int} {l f : Int}
theorem pai_s (h : SAt w b 30 66 (paiV S R l f)) : w.rangeAt b 0 (nums .u8 32 S) := SAt.range h (by omega) (fun j hj => by unfold paiV; rw [Nat.zero_add, if_pos hj])
theorem pai_r (h : SAt w b 30 66 (paiV S R l f)) : w.rangeAt b 32 (nums .u8 32 R) := SAt.range h (by omega) (fun j hj => by unfold paiV; rw [if_neg (by omega), if_pos (by omega), Nat.add_sub_cancel_left])
theorem pai_l (h : SAt w b 30 66 (paiV S R l f)) : w.cell? ⟨b, 64, none⟩ = some (.int .u32 l) := SAt.at h 64 (by omega)
theorem pai_f (h : SAt w b 30 66 (paiV S R l f)) : w.cell? ⟨b, 65, none⟩ = some (.int .u32 f) := SAt.at h 65 (by omega)
end
/-- A struct as a parameter lies in a block of its own. -/
theorem wl_boxG {ops : Array Oper} {rest : List Oper} {d : Option Tmp} {x : Operand} {ty t : TypeId} {ps : String} {af : Array Edge} {a : Act} {w : World} {Q : Exit → Act → World → Prop} {n : Nat} {V : Nat → Value} (_hA : IsSt ty n) (hx : a.eval x = .agg (SC n V))
    (h : ∀ g w', w.heap.size ≤ g → SAt w' g ty n V → Below w.heap.size w w' → wpList Tryz.prog ops Q rest (a.put d (.pointer (some ⟨g, 0, none⟩))) w') :
    wpList Tryz.prog ops Q ({ dst := d, op := .box ty x, type := t, pos := ps, after := af, guard := none } :: rest) a w := by
  refine wl_act rfl ?_
  unfold Oper.wp execOp
  simp only [hx]
  simp [go_sem]
  exact h _ _ (Nat.le_refl _) (heap_alloc_new w _) ((Below.refl _ _).alloc (Nat.le_refl _) _)
theorem wl_al {ops : Array Oper} {rest : List Oper} {d : Option Tmp} {ty t : TypeId} {ps : String} {af : Array Edge} {a : Act} {w : World} {Q : Exit → Act → World → Prop} {n : Nat} {V : Nat → Value} (hz : ∀ w, (zeroValue ty).run Tryz.prog w = .ok (.agg (SC n V)) w)
    (h : ∀ g w', w.heap.size ≤ g → SAt w' g ty n V → Below w.heap.size w w' → wpList Tryz.prog ops Q rest (a.put d (.pointer (some ⟨g, 0, none⟩))) w') :
    wpList Tryz.prog ops Q ({ dst := d, op := .alloc ty, type := t, pos := ps, after := af, guard := none } :: rest) a w :=
  wl_act rfl (act_alloc hz rfl (fun w' hb hg => h _ w' (Nat.le_refl _) hg hb))
theorem res_st {fn : Func} {q : Tmp} {ty : TypeId} (h : fn.results = #[.cell q ty]) {tmps : Array Value} {w : World} {g n : Nat} {V : Nat → Value} (hA : IsSt ty n) (hg : SAt w g ty n V) (hq : tmps.getD q undef = .pointer (some ⟨g, 0, none⟩)) :
    (results fn tmps).run Tryz.prog w = .ok (.agg (SC n V)) w := by
  obtain ⟨d, h1, h2, h3⟩ := hA
  exact results_cell_row h tmps w g ty _ (0, 0) _ hq hg h1 (by cases d <;> first | rfl | exact h2) (by rw [SC_size]; exact h3)
theorem run_sl (ks kr : Nat → Int) (loc far ep born : Int) (f : Bool) (g : Nat) (w : World) : (Instr.build 55 #[(0, .agg (SC 66 (paiV ks kr loc far))), (1, .int .i64 ep), (3, .int .i64 born), (2, .bool f), (5, .pointer (some ⟨g, 0, none⟩))]).run Tryz.prog w = .ok (.agg (SC 71 (slR (kpNew ks kr loc far ep born f, some g)))) w := by kernel_rfl
theorem exec_slB {a : Act} {o : Oper} {w : World} {x0 x1 x3 x2 x5 : Operand} (ho : o.op = .build 55 #[(0, x0), (1, x1), (3, x3), (2, x2), (5, x5)]) {ks kr : Nat → Int} {loc far ep born : Int} {f : Bool} {g : Nat} (h0 : a.eval x0 = .agg (SC 66 (paiV ks kr loc far))) (h1 : a.eval x1 = .int .i64 ep) (h3 : a.eval x3 = .int .i64 born) (h2 : a.eval x2 = .bool f) (h5 : a.eval x5 = .pointer (some ⟨g, 0, none⟩)) : (execOp a.eval o).run Tryz.prog w = .ok (.value (.agg (SC 71 (slR (kpNew ks kr loc far ep born f, some g))))) w := by
  have h := run_sl ks kr loc far ep born f g w
  unfold execOp
  simp only [ho, List.map_toArray, List.map_cons, List.map_nil, h0, h1, h2, h3, h5, Sem.run_bind, h, Result.andThen_ok, Sem.run_pure]
theorem enterNewW (args : Array Value) (w : World) : (callFunc 54 args).run Tryz.prog w = .ok (.enter 54 args) w := by kernel_rfl
theorem enterTopW (args : Array Value) (w : World) : (callFunc 59 args).run Tryz.prog w = .ok (.enter 59 args) w := by kernel_rfl
theorem enterNonce9 (args : Array Value) (w : World) : (callFunc 35 args).run Tryz.prog w = .ok (.enter 35 args) w := by kernel_rfl
theorem enterOpen9 (args : Array Value) (w : World) : (callFunc 64 args).run Tryz.prog w = .ok (.enter 64 args) w := by kernel_rfl
theorem enterSeal9 (args : Array Value) (w : World) : (callFunc 34 args).run Tryz.prog w = .ok (.enter 34 args) w := by kernel_rfl
theorem win_below {w w' : World} {b n : Nat} {sz : Int} {s : Nat → Int} {S : Nat → Prop} (h : Win64 w b sz n s S) (hb : Below w.heap.size w w') : Win64 w' b sz n s S := kept_win64 h (fun k hk => hb.block k (lt_win64 h k hk))
/-- A new window, at B or above. -/
def NewW (B : Nat) (g : Nat) (w : World) : Prop := ∃ S, Win64 w g 8192 0 (fun _ => 0) S ∧ ∀ k, S k → B ≤ k
theorem NewW.below {B g : Nat} {w w' : World} (h : NewW B g w) (hb : Below w.heap.size w w') : NewW B g w' := by
  obtain ⟨S, h1, h2⟩ := h
  exact ⟨S, win_below h1 hb, h2⟩
theorem newW_run {w : World} {B : Nat} (hB : B ≤ w.heap.size) : Calls Tryz.prog 54 #[.int .i64 8192] w fun e w' => ∃ v, e = .returned v ∧ (∃ g, v = .pointer (some ⟨g, 0, none⟩) ∧ NewW B g w') ∧ Below w.heap.size w w' := by
  refine (new_win64 8192 w).mono ?_
  rintro e w' ⟨b, S, rfl, h1, h2, h3⟩
  exact ⟨_, rfl, ⟨b, rfl, S, h1, fun k hk => by have := h2 k hk; omega⟩, h3⟩
set_option maxHeartbeats 4000000 in
theorem newSlot_run (ks kr : Nat → Int) (loc far ep born : Int) (f : Bool) (w : World) : Calls Tryz.prog 31 #[.agg (SC 66 (paiV ks kr loc far)), .int .i64 ep, .int .i64 born, .bool f] w fun e w' => ∃ g, e = .returned (.agg (SC 71 (slR (kpNew ks kr loc far ep born f, some g)))) ∧ NewW w.heap.size g w' ∧ Below w.heap.size w w' := by
  go_enter Tryz.func31, Tryz.ntmps31
  go_wp2_with (refine wl_boxG isPair (by rfl) ?_; intro gp u1 hgp g1 hB1; refine Hid.out ?_)
  refine Hid.mk ?_
  go_wp2_with (refine wl_al zeroSlotV ?_; intro gs u2 hgs g2 hB2; refine Hid.out ?_)
  refine Hid.mk ?_
  have h1 := SAt.kept g1 hB2
  have hB := hB1.trans (hB2.mono hB1.size)
  have HG1 : Hid (∀ v, Below u2.heap.size u2 v → SAt v gp 30 66 (paiV ks kr loc far)) := Hid.mk (fun v hv => SAt.kept h1 hv)
  have hz := hB.size
  have hgs' : w.heap.size ≤ gs := by have := hB1.size; omega
  clear g1 h1 hB1 hB2
  go_wp2_with fail
  refine wp_region_steps2 6 _ (Below u2.heap.size u2) (fun v v' => Below v.heap.size v v') (fun i v v0 => match i with | 0 => v = .agg (SC 66 (paiV ks kr loc far)) | 1 => v = .int .i64 ep | 2 => v = .int .i64 born | 3 => v = .bool f | 4 => ∃ g, v = .pointer (some ⟨g, 0, none⟩) ∧ NewW u2.heap.size g v0 | 5 => ∃ g, v = .agg (SC 71 (slR (kpNew ks kr loc far ep born f, some g))) ∧ NewW u2.heap.size g v0 | _ => True) [9, 10, 11, 12, 13, 14]
    [(4, .pointer (some ⟨gp, 0, none⟩)), (1, .int .i64 ep), (2, .int .i64 born), (3, .bool f)] [[], [], [], [], [], [0, 1, 2, 3, 4]] rfl (by kernel_rfl) rfl ⟨rfl, rfl, rfl, rfl, trivial⟩ (Below.drew (Below.refl _ _)) (fun v v' h hb => h.trans (hb.mono h.size)) ?_
    ⟨
    (fun Q a1 ww hS fr kn => ⟨trivial, fun K hK => wp_value (look_st rfl isPair (HG1.out ww hS) fr.1) (hK _ _ rfl (Below.refl _ _))⟩),
    (fun Q a1 ww hS fr kn => ⟨trivial, fun K hK => wp_value (exec_move rfl fr.2.1) (hK _ _ rfl (Below.refl _ _))⟩),
    (fun Q a1 ww hS fr kn => ⟨trivial, fun K hK => wp_value (exec_move rfl fr.2.2.1) (hK _ _ rfl (Below.refl _ _))⟩),
    (fun Q a1 ww hS fr kn => ⟨trivial, fun K hK => wp_value (exec_move rfl fr.2.2.2.1) (hK _ _ rfl (Below.refl _ _))⟩),
    (fun Q a1 ww hS fr kn => ⟨trivial, fun K hK => stepp enterNewW rfl (args1 rfl) (newW_run hS.size) (fun v w' hv => hK _ _ hv.1 hv.2)⟩),
    (fun Q a1 ww hS fr kn => ⟨trivial, fun K hK => by
      obtain ⟨g, hg, hn⟩ := kn.2.2.2.2.1
      exact wp_value (exec_slB rfl kn.1 kn.2.1 kn.2.2.1 kn.2.2.2.1 hg) (hK _ _ ⟨g, rfl, hn⟩ (Below.refl _ _))⟩),
    trivial⟩ ?_
  · intro i v u u' hh hb
    match i with
    | 0 | 1 | 2 | 3 => exact hh
    | 4 => obtain ⟨g, e, hn⟩ := hh; exact ⟨g, e, hn.below hb⟩
    | 5 => obtain ⟨g, e, hn⟩ := hh; exact ⟨g, e, hn.below hb⟩
    | n + 6 => trivial
  intro vs v9 hS9 hk9
  obtain ⟨g, e14, hn⟩ := hk9 5 (by decide)
  replace e14 : vs 14 = .agg (SC 71 (slR (kpNew ks kr loc far ep born f, some g))) := e14
  clear hk9
  simp only [putAll, Act.put, List.setIfInBounds_toArray, List.set_cons_zero, List.set_cons_succ, e14]
  refine ⟨act_st7 rfl isSlot (slR_one _) (by rfl) (by rfl) (SAt.kept g2 hS9) ?_⟩
  intro v10 g10 o10
  simp only [Act.put]
  have HN : Hid (NewW w.heap.size g v10) := by
    obtain ⟨S, q1, q2⟩ := hn
    have hgl := SAt.lt g2
    exact Hid.mk ⟨S, kept_win64 q1 (fun k hk => o10.block k (fun e => by
      have := q2 k hk
      omega)), fun k hk => by have := q2 k hk; omega⟩
  have HB : Hid (Below w.heap.size w v10) := Hid.mk ((hB.trans (hS9.mono hB.size)).trans (o10.below hgs'))
  clear hn hS9 o10 hB
  go_wp2_with fail
  exact bodyPost_ret (res_st rfl isSlot g10 (by rfl)) rfl ⟨g, rfl, HN.out, HB.out⟩
end Go.Proofs.YtbkbcfimpaolmaaGreat
/-
  Own text. Package session: told, due, open.
-/
namespace Go.Proofs.YtbkbcfimpaolmaaGreat
open Go.RowKit Go.Proofs
set_option maxRecDepth 100000
theorem run_fsl (b o k : Nat) (w : World) : k < 6 → (Instr.fieldAt 55 (.pointer (some ⟨b, o, none⟩)) k).run Tryz.prog w = .ok (.pointer (some ⟨b, o + [0, 66, 67, 68, 69, 70].getD k 0, none⟩)) w := by
  intro hk
  match k, hk with
  | 0, _ => simp [go_sem]
  | 1, _ => simp [go_sem]
  | 2, _ => simp [go_sem]
  | 3, _ => simp [go_sem]
  | 4, _ => simp [go_sem]
  | 5, _ => simp [go_sem]
theorem exec_fsl {a : Act} {o : Oper} {w : World} {x : Operand} {k : Nat} (ho : o.op = .fieldAddr 55 x k) {b f : Nat} (hx : a.eval x = .pointer (some ⟨b, f, none⟩)) (hk : k < 6) : (execOp a.eval o).run Tryz.prog w = .ok (.value (.pointer (some ⟨b, f + [0, 66, 67, 68, 69, 70].getD k 0, none⟩))) w := by
  have h := run_fsl b f k w hk
  unfold execOp
  simp only [ho, hx, Sem.run_bind, h, Result.andThen_ok, Sem.run_pure]
theorem run_fpa (b o k : Nat) (w : World) : k < 4 → (Instr.fieldAt 30 (.pointer (some ⟨b, o, none⟩)) k).run Tryz.prog w = .ok (.pointer (some ⟨b, o + [0, 32, 64, 65].getD k 0, none⟩)) w := by
  intro hk
  match k, hk with
  | 0, _ => simp [go_sem]
  | 1, _ => simp [go_sem]
  | 2, _ => simp [go_sem]
  | 3, _ => simp [go_sem]
theorem exec_fpa {a : Act} {o : Oper} {w : World} {x : Operand} {k : Nat} (ho : o.op = .fieldAddr 30 x k) {b f : Nat} (hx : a.eval x = .pointer (some ⟨b, f, none⟩)) (hk : k < 4) : (execOp a.eval o).run Tryz.prog w = .ok (.value (.pointer (some ⟨b, f + [0, 32, 64, 65].getD k 0, none⟩))) w := by
  have h := run_fpa b f k w hk
  unfold execOp
  simp only [ho, hx, Sem.run_bind, h, Result.andThen_ok, Sem.run_pure]
theorem ld_int {w : World} {p : Addr} {n : Int} (h : w.cell? p = some (.int .i64 n)) : (Instr.loadAt 3 (.pointer (some p))).run Tryz.prog w = .ok (.int .i64 n) w := by simp [go_sem, h]
theorem ld_u32 {w : World} {p : Addr} {n : Int} (h : w.cell? p = some (.int .u32 n)) : (Instr.loadAt 28 (.pointer (some p))).run Tryz.prog w = .ok (.int .u32 n) w := by simp [go_sem, h]
theorem ld_u64 {w : World} {p : Addr} {n : Int} (h : w.cell? p = some (.int .u64 n)) : (Instr.loadAt 31 (.pointer (some p))).run Tryz.prog w = .ok (.int .u64 n) w := by simp [go_sem, h]
theorem ld_bool {w : World} {p : Addr} {n : Bool} (h : w.cell? p = some (.bool n)) : (Instr.loadAt 4 (.pointer (some p))).run Tryz.prog w = .ok (.bool n) w := by simp [go_sem, h]
theorem ld_win {w : World} {p : Addr} {n : Option Addr} (h : w.cell? p = some (.pointer n)) : (Instr.loadAt 53 (.pointer (some p))).run Tryz.prog w = .ok (.pointer n) w := by simp [go_sem, h]
/-- What is told of a slot. -/
def toV (i : Nat) (k : Kp) (j : Nat) : Value := if j < 1 then .int .i64 (i : Int) else if j < 2 then .int .i64 k.ep else if j < 3 then .int .u32 k.loc else if j < 4 then .int .u32 k.far else if j < 5 then .bool k.fst else if j < 6 then .int .i64 k.born else if j < 7 then .int .u64 k.sent else .int .u64 (topF k.s k.n)
def toZ (j : Nat) : Value := if j < 2 then .int .i64 0 else if j < 4 then .int .u32 0 else if j < 5 then .bool false else if j < 6 then .int .i64 0 else .int .u64 0
theorem toV_one (i : Nat) (k : Kp) (j : Nat) : (toV i k j).oneCell' = true := by unfold toV; (repeat' split) <;> rfl
theorem zeroTold (w : World) : (zeroValue 52).run Tryz.prog w = .ok (.agg (SC 8 toZ)) w := by kernel_rfl
theorem run_to (i : Nat) (k : Kp) (w : World) : (Instr.build 52 #[(0, .int .i64 (i : Int)), (1, .int .i64 k.ep), (2, .int .u32 k.loc), (3, .int .u32 k.far), (4, .bool k.fst), (5, .int .i64 k.born), (6, .int .u64 k.sent), (7, .int .u64 (topF k.s k.n))]).run Tryz.prog w = .ok (.agg (SC 8 (toV i k))) w := by kernel_rfl
theorem exec_to {a : Act} {o : Oper} {w : World} {x0 x1 x2 x3 x4 x5 x6 x7 : Operand} (ho : o.op = .build 52 #[(0, x0), (1, x1), (2, x2), (3, x3), (4, x4), (5, x5), (6, x6), (7, x7)]) {i : Nat} {k : Kp} (h0 : a.eval x0 = .int .i64 (i : Int)) (h1 : a.eval x1 = .int .i64 k.ep) (h2 : a.eval x2 = .int .u32 k.loc) (h3 : a.eval x3 = .int .u32 k.far) (h4 : a.eval x4 = .bool k.fst) (h5 : a.eval x5 = .int .i64 k.born) (h6 : a.eval x6 = .int .u64 k.sent) (h7 : a.eval x7 = .int .u64 (topF k.s k.n)) : (execOp a.eval o).run Tryz.prog w = .ok (.value (.agg (SC 8 (toV i k)))) w := by
  have h := run_to i k w
  unfold execOp
  simp only [ho, List.map_toArray, List.map_cons, List.map_nil, h0, h1, h2, h3, h4, h5, h6, h7, Sem.run_bind, h, Result.andThen_ok, Sem.run_pure]
set_option maxHeartbeats 8000000 in
theorem told_run {w : World} {gw : Nat} {S : Nat → Prop} (i : Nat) (r : Kp × Option Nat) (hr : r.2 = some gw) (hW : Win64 w gw 8192 r.1.n r.1.s S) : Calls Tryz.prog 36 #[.agg (SC 71 (slR r)), .int .i64 (i : Int)] w fun e w' => e = .returned (.agg (SC 8 (toV i r.1))) ∧ Below w.heap.size w w' := by
  go_enter Tryz.func36, Tryz.ntmps36
  go_wp2_with (refine wl_box (by rfl) ?_; intro g u1 hg g1 hB1; refine Hid.out ?_)
  refine Hid.mk ?_
  go_wp2_with (refine wl_al zeroTold ?_; intro gs u2 hgs g2 hB2; refine Hid.out ?_)
  refine Hid.mk ?_
  have h1 := SAt.kept g1 hB2
  have hB := hB1.trans (hB2.mono hB1.size)
  have hW2 := win_below (win_below hW hB1) hB2
  have hg1 := SAt.lt g1
  have hz1 := hB1.size
  have hgs' : w.heap.size ≤ gs := by omega
  have HG : Hid (∀ v, Touch (fun x => x = gs) u2 v → SAt v g 55 71 (slR r)) := Hid.mk (fun v hv => h1.tou hv (by omega))
  have HW : Hid (∀ v, Touch (fun x => x = gs) u2 v → Win64 v gw 8192 r.1.n r.1.s S) := Hid.mk (fun v hv => kept_win64 hW2 (fun k hk => hv.block k (lt_win64 hW2 k hk) (fun e => by have := lt_win64 hW k hk; omega)))
  have HC : Hid (∀ v, Touch (fun x => x = gs) u2 v → v.cell? ⟨g, 0 + 70, none⟩ = some (.pointer (some ⟨gw, 0, none⟩))) := Hid.mk (fun v hv => by have := sl_win (h1.tou hv (by omega)); rw [hr] at this; exact this)
  clear g1 h1 hB1 hB2 hW hW2 hr
  go_wp2_with fail
  refine wp_region3 (Touch (fun x => x = gs) u2) u2.heap.size
      [(gs, ⟨isOb (SC 8 toZ) 52, [(19, isOb (SC 8 (toV i r.1)) 52)]⟩)]
      [kv (.int .i64 (i : Int)), kv (.pointer (some ⟨g, 0 + 66, none⟩)), kv (.int .i64 r.1.ep), kv (.pointer (some ⟨g, 0 + 0, none⟩)), kv (.pointer (some ⟨g, 0 + 0 + 64, none⟩)), kv (.int .u32 r.1.loc), kv (.pointer (some ⟨g, 0 + 0, none⟩)), kv (.pointer (some ⟨g, 0 + 0 + 65, none⟩)), kv (.int .u32 r.1.far), kv (.pointer (some ⟨g, 0 + 67, none⟩)), kv (.bool r.1.fst), kv (.pointer (some ⟨g, 0 + 68, none⟩)), kv (.int .i64 r.1.born), kv (.pointer (some ⟨g, 0 + 69, none⟩)), kv (.int .u64 r.1.sent), kv (.pointer (some ⟨g, 0 + 70, none⟩)), kv (.pointer (some ⟨gw, 0, none⟩)), kv (.int .u64 (topF r.1.s r.1.n)), kv (.agg (SC 8 (toV i r.1))), .val fun _ => True]
      [.none, .none, .none, .none, .none, .none, .none, .none, .none, .none, .none, .none, .none, .none, .none, .none, .none, .none, .none, .base 0 1]
      [some 5, some 6, some 7, some 8, some 9, some 10, some 11, some 12, some 13, some 14, some 15, some 16, some 17, some 18, some 19, some 20, some 21, some 22, some 23, none]
      [(2, .pointer (some ⟨g, 0, none⟩)), (1, .int .i64 (i : Int)), (4, .pointer (some ⟨gs, 0, none⟩))]
      [[], [], [.slot 1], [], [.slot 3], [.slot 4], [], [.slot 6], [.slot 7], [], [.slot 9], [], [.slot 11], [], [.slot 13], [], [.slot 15], [.slot 16], [.slot 0, .slot 2, .slot 5, .slot 8, .slot 10, .slot 12, .slot 14, .slot 17], [.slot 18, .base 0 0]]
      [.base 0 1] [5, 6, 7, 8, 9, 10, 11, 12, 13, 14, 15, 16, 17, 18, 19, 20, 21, 22, 23]
      rfl (by kernel_rfl) ⟨rfl, rfl, rfl, trivial⟩ (Touch.refl _ _).drew (Nat.le_refl _) ⟨⟨SAt.lt g2, obIn g2⟩, trivial⟩ ⟨trivial, trivial⟩ (touch_G1 (fun x hx => by simpa using hx))
      ⟨
        (fun Q aq ww own hS hBg fr kn => .inl ⟨trivial, fun K hK => wp_value (exec_move rfl fr.2.1) (hK _ _ ⟨Touch.refl _ _, rfl⟩)⟩),
        (fun Q aq ww own hS hBg fr kn => .inl ⟨trivial, fun K hK => wp_value (exec_fsl (k := 1) rfl fr.1 (by decide)) (hK _ _ ⟨Touch.refl _ _, rfl⟩)⟩),
        (fun Q aq ww own hS hBg fr kn => .inl ⟨trivial, fun K hK => wp_value (exec_ld rfl kn.1 (ld_int (sl_ep (HG.out ww hS)))) (hK _ _ ⟨Touch.refl _ _, rfl⟩)⟩),
        (fun Q aq ww own hS hBg fr kn => .inl ⟨trivial, fun K hK => wp_value (exec_fsl (k := 0) rfl fr.1 (by decide)) (hK _ _ ⟨Touch.refl _ _, rfl⟩)⟩),
        (fun Q aq ww own hS hBg fr kn => .inl ⟨trivial, fun K hK => wp_value (exec_fpa (k := 2) rfl kn.1 (by decide)) (hK _ _ ⟨Touch.refl _ _, rfl⟩)⟩),
        (fun Q aq ww own hS hBg fr kn => .inl ⟨trivial, fun K hK => wp_value (exec_ld rfl kn.1 (ld_u32 (sl_loc (HG.out ww hS)))) (hK _ _ ⟨Touch.refl _ _, rfl⟩)⟩),
        (fun Q aq ww own hS hBg fr kn => .inl ⟨trivial, fun K hK => wp_value (exec_fsl (k := 0) rfl fr.1 (by decide)) (hK _ _ ⟨Touch.refl _ _, rfl⟩)⟩),
        (fun Q aq ww own hS hBg fr kn => .inl ⟨trivial, fun K hK => wp_value (exec_fpa (k := 3) rfl kn.1 (by decide)) (hK _ _ ⟨Touch.refl _ _, rfl⟩)⟩),
        (fun Q aq ww own hS hBg fr kn => .inl ⟨trivial, fun K hK => wp_value (exec_ld rfl kn.1 (ld_u32 (sl_far (HG.out ww hS)))) (hK _ _ ⟨Touch.refl _ _, rfl⟩)⟩),
        (fun Q aq ww own hS hBg fr kn => .inl ⟨trivial, fun K hK => wp_value (exec_fsl (k := 2) rfl fr.1 (by decide)) (hK _ _ ⟨Touch.refl _ _, rfl⟩)⟩),
        (fun Q aq ww own hS hBg fr kn => .inl ⟨trivial, fun K hK => wp_value (exec_ld rfl kn.1 (ld_bool (sl_fst (HG.out ww hS)))) (hK _ _ ⟨Touch.refl _ _, rfl⟩)⟩),
        (fun Q aq ww own hS hBg fr kn => .inl ⟨trivial, fun K hK => wp_value (exec_fsl (k := 3) rfl fr.1 (by decide)) (hK _ _ ⟨Touch.refl _ _, rfl⟩)⟩),
        (fun Q aq ww own hS hBg fr kn => .inl ⟨trivial, fun K hK => wp_value (exec_ld rfl kn.1 (ld_int (sl_born (HG.out ww hS)))) (hK _ _ ⟨Touch.refl _ _, rfl⟩)⟩),
        (fun Q aq ww own hS hBg fr kn => .inl ⟨trivial, fun K hK => wp_value (exec_fsl (k := 4) rfl fr.1 (by decide)) (hK _ _ ⟨Touch.refl _ _, rfl⟩)⟩),
        (fun Q aq ww own hS hBg fr kn => .inl ⟨trivial, fun K hK => wp_value (exec_ld rfl kn.1 (ld_u64 (sl_sent (HG.out ww hS)))) (hK _ _ ⟨Touch.refl _ _, rfl⟩)⟩),
        (fun Q aq ww own hS hBg fr kn => .inl ⟨trivial, fun K hK => wp_value (exec_fsl (k := 5) rfl fr.1 (by decide)) (hK _ _ ⟨Touch.refl _ _, rfl⟩)⟩),
        (fun Q aq ww own hS hBg fr kn => .inl ⟨trivial, fun K hK => wp_value (exec_ld rfl kn.1 (ld_win (HC.out ww hS))) (hK _ _ ⟨Touch.refl _ _, rfl⟩)⟩),
        (fun Q aq ww own hS hBg fr kn => .inl ⟨trivial, fun K hK => stepc enterTopW rfl (args1 kn.1) (top_win64 (HW.out ww hS)) (fun w' hb => hK _ _ ⟨touch_below hb, rfl⟩)⟩),
        (fun Q aq ww own hS hBg fr kn => .inl ⟨trivial, fun K hK => wp_value (exec_to rfl kn.1 kn.2.1 kn.2.2.1 kn.2.2.2.1 kn.2.2.2.2.1 kn.2.2.2.2.2.1 kn.2.2.2.2.2.2.1 kn.2.2.2.2.2.2.2.1) (hK _ _ ⟨Touch.refl _ _, rfl⟩)⟩),
        (fun Q aq ww own hS hBg fr kn => .inl ⟨trivial, fun K hK => act_st7 rfl isTold (toV_one _ _) fr.2.2.1 kn.1 (obAt kn.2.1) (fun w2 hg ho => hK _ _ ⟨⟨touch_only ho, obIn hg⟩, trivial⟩)⟩),
        trivial⟩ ?_
  intro vs own u4 hT4 hsz kn inj
  have g7 : SAt u4 gs 52 8 (toV i r.1) := obAt kn.1
  clear kn inj hsz HG HW HC
  simp only [putAll, Act.put, List.setIfInBounds_toArray, List.set_cons_zero, List.set_cons_succ]
  have HB : Hid (Below w.heap.size w u4) := Hid.mk (hB.trans ⟨hT4.os, hT4.tape, hT4.output, hT4.size, fun k hk => hT4.block k (by have := hB.size; omega) (by omega)⟩)
  clear hT4 hB
  go_wp2_with fail
  exact bodyPost_ret (res_st rfl isTold g7 (by rfl)) rfl ⟨rfl, HB.out⟩
def dueS (k : Kp) : Int := if k.ep = 0 then -1 else k.born + 180000
set_option maxHeartbeats 2000000 in
theorem due_run (r : Kp × Option Nat) (w : World) (h0 : 0 ≤ r.1.born) (h1 : r.1.born ≤ 9223372036854595807) : Calls Tryz.prog 52 #[.agg (SC 71 (slR r))] w fun e w' => e = .returned (.int .i64 (dueS r.1)) ∧ Below w.heap.size w w' := by
  go_enter Tryz.func52, Tryz.ntmps52
  go_wp2_with (refine wl_box (by rfl) ?_; intro g u1 hg g1 hB1; refine Hid.out ?_)
  refine Hid.mk ?_
  go_wp2_with (refine wl_value rfl (look_st rfl isSlot g1 (by rfl)) ?_)
  refine (empty_run r u1).mono ?_
  rintro e u2 ⟨rfl, hB2⟩
  have c1 := sl_born (SAt.kept g1 hB2)
  have hB := hB1.trans (hB2.mono hB1.size)
  clear g1 hB1 hB2
  by_cases he : r.1.ep = 0
  · have hd : dueS r.1 = -1 := by unfold dueS; rw [if_pos he]
    go_wp2_with fail
    go_ret
    exact ⟨by rw [hd]; rfl, hB⟩
  · have hd : dueS r.1 = r.1.born + 180000 := by unfold dueS; rw [if_neg he]
    go_wp2_with fail
    go_ret
    exact ⟨by rw [hd]; rfl, hB⟩
end Go.Proofs.YtbkbcfimpaolmaaGreat
/-
  Own text. Package session: a slot opens a box.
-/
namespace Go.Proofs.YtbkbcfimpaolmaaGreat
open Go.RowKit Go.Proofs
set_option maxRecDepth 100000
theorem nonN_b {c : Int} : Byts 12 (nonN c) := tailN_b (fun i _ => digN_b _ i)
theorem res_tt {fn : Func} {p q : Tmp} (h : fn.results = #[.tmp p, .tmp q]) {tmps : Array Value} {w : World} {x y : Value} (hp : tmps.getD p undef = x) (hq : tmps.getD q undef = y) : (results fn tmps).run Tryz.prog w = .ok (.tuple #[x, y]) w := by
  have hp' : tmps[p]?.getD undef = x := by simpa using hp
  have hq' : tmps[q]?.getD undef = y := by simpa using hq
  simp [results, h, hp', hq']
set_option maxHeartbeats 4000000 in
theorem sopen_no {w : World} {gw : Nat} {S : Nat → Prop} {c : Int} (r : Kp × Option Nat) (box : ByteArray) (hr : r.2 = some gw) (hW : Win64 w gw 8192 r.1.n r.1.s S) (hN : Nums L64 r.1.n r.1.s) (hc : U64 c) (hf : 18446744073709543423 ≤ c ∨ freshD L64 8192 r.1.n r.1.s c = false) :
    Calls Tryz.prog 46 #[.agg (SC 71 (slR r)), .int .u64 c, .string box] w fun e w' => e = .returned (.tuple #[.string ByteArray.empty, .int .i64 14]) ∧ Below w.heap.size w w' := by
  go_enter Tryz.func46, Tryz.ntmps46
  go_wp2_with (refine wl_box (by rfl) ?_; intro g u1 hg g1 hB1; refine Hid.out ?_)
  refine Hid.mk ?_
  have c1 : u1.cell? ⟨g, 70, none⟩ = some (.pointer (some ⟨gw, 0, none⟩)) := by have := sl_win g1; rw [hr] at this; exact this
  have hW1 := win_below hW hB1
  clear g1 hW hg
  by_cases hl : 18446744073709543423 ≤ c
  · have hd : decide (18446744073709543423 ≤ c) = true := decide_eq_true hl
    clear hf hl
    go_wp2_with fail
    exact bodyPost_ret (res_tt rfl (by rfl) (by rfl)) rfl ⟨rfl, hB1⟩
  · have hd : decide (18446744073709543423 ≤ c) = false := decide_eq_false (by omega)
    have hf2 : freshD L64 8192 r.1.n r.1.s c = false := hf.resolve_left hl
    have hrun := fresh_win64 c hW1 hN hc
    rw [hf2] at hrun
    clear hf hl hf2
    go_wp2_with fail
    refine hrun.mono ?_
    rintro e u2 ⟨rfl, hB2⟩
    go_wp2_with fail
    exact bodyPost_ret (res_tt rfl (by rfl) (by rfl)) rfl ⟨rfl, hB1.trans (hB2.mono hB1.size)⟩
set_option maxHeartbeats 8000000 in
theorem sopen_bad {w : World} {gw : Nat} {S : Nat → Prop} {c : Int} (r : Kp × Option Nat) (box : ByteArray) (hr : r.2 = some gw) (hW : Win64 w gw 8192 r.1.n r.1.s S) (hN : Nums L64 r.1.n r.1.s) (hc : U64 c) (hl : ¬ 18446744073709543423 ≤ c) (hf : freshD L64 8192 r.1.n r.1.s c = true) (hk : Byts 32 r.1.kr) (hx : box.size ≤ 140737488355328)
    (he : (openT r.1.kr (nonN c) box ByteArray.empty).2 ≠ 0) :
    Calls Tryz.prog 46 #[.agg (SC 71 (slR r)), .int .u64 c, .string box] w fun e w' => e = .returned (.tuple #[.string (openT r.1.kr (nonN c) box ByteArray.empty).1, .int .i64 (openT r.1.kr (nonN c) box ByteArray.empty).2]) ∧ Below w.heap.size w w' := by
  have HO : Hid (∀ u, Calls Tryz.prog 64 #[.agg (WA .u8 32 r.1.kr), .agg (WA .u8 12 (nonN c)), .string box, .string ByteArray.empty] u fun e w' => e = .returned (.tuple #[.string (openT r.1.kr (nonN c) box ByteArray.empty).1, .int .i64 (openT r.1.kr (nonN c) box ByteArray.empty).2]) ∧ Below u.heap.size u w') := Hid.mk (fun u => Open_run r.1.kr (nonN c) box ByteArray.empty u hk nonN_b hx (by show 0 ≤ _; omega))
  obtain ⟨T, hT⟩ : ∃ T, T = (openT r.1.kr (nonN c) box ByteArray.empty).1 := ⟨_, rfl⟩
  obtain ⟨E, hE⟩ : ∃ E, E = (openT r.1.kr (nonN c) box ByteArray.empty).2 := ⟨_, rfl⟩
  rw [← hT, ← hE] at HO
  rw [← hE] at he
  simp only [← hT, ← hE]
  clear hT hE
  go_enter Tryz.func46, Tryz.ntmps46
  go_wp2_with (refine wl_box (by rfl) ?_; intro g u1 hg g1 hB1; refine Hid.out ?_)
  refine Hid.mk ?_
  have c1 : u1.cell? ⟨g, 70, none⟩ = some (.pointer (some ⟨gw, 0, none⟩)) := by have := sl_win g1; rw [hr] at this; exact this
  have hW1 := win_below hW hB1
  have hd : decide (18446744073709543423 ≤ c) = false := decide_eq_false (by omega)
  have hrun := fresh_win64 c hW1 hN hc
  rw [hf] at hrun
  clear hl
  go_wp2_with fail
  refine hrun.mono ?_
  rintro e u2 ⟨rfl, hB2⟩
  replace hW1 := win_below hW1 hB2
  have g2 := SAt.kept g1 hB2
  replace hB1 := hB1.trans (hB2.mono hB1.size)
  clear hrun c1 g1 hB2 hd
  have HG : Hid (∀ v, Below u2.heap.size u2 v → SAt v g 55 71 (slR r)) := Hid.mk (fun v hv => SAt.kept g2 hv)
  go_wp2_with fail
  refine wp_region3 (Below u2.heap.size u2) u2.heap.size
      ([] : List (Nat × Cont))
      [kv (.pointer (some ⟨g, 0 + 0, none⟩)), kv (.pointer (some ⟨g, 0 + 0 + 32, none⟩)), kv (.agg (WA .u8 32 r.1.kr)), kv (.int .u64 c), kv (.agg (WA .u8 12 (nonN c))), kv (.string box), kv (.tuple #[.string T, .int .i64 E]), kv (.tuple #[.string T, .int .i64 E]), kv (.string T), kv (.int .i64 E), kv (.string T), kv (.int .i64 E)]
      [.none, .none, .none, .none, .none, .none, .none, .none, .none, .none, .none, .none]
      [some 20, some 21, some 22, some 23, some 24, some 25, some 26, some 19, some 27, some 28, some 8, some 9]
      [(3, .pointer (some ⟨g, 0, none⟩)), (1, .int .u64 c), (2, .string box)]
      [[], [.slot 0], [.slot 1], [], [.slot 3], [], [.slot 2, .slot 4, .slot 5], [.slot 6], [.slot 7], [.slot 7], [.slot 8], [.slot 9]]
      [.slot 10, .slot 11] [20, 21, 22, 23, 24, 25, 26, 19, 27, 28, 8, 9]
      rfl (by kernel_rfl) ⟨rfl, rfl, rfl, trivial⟩ (Below.refl _ u2).drew (Nat.le_refl _) trivial trivial (below_G (Nat.le_refl _) trivial)
      ⟨
        (fun Q aq ww own hS hBg fr kn => .inl ⟨trivial, fun K hK => wp_value (exec_fsl (k := 0) rfl fr.1 (by decide)) (hK _ _ ⟨Touch.refl _ _, rfl⟩)⟩),
        (fun Q aq ww own hS hBg fr kn => .inl ⟨trivial, fun K hK => wp_value (exec_fpa (k := 1) rfl kn.1 (by decide)) (hK _ _ ⟨Touch.refl _ _, rfl⟩)⟩),
        (fun Q aq ww own hS hBg fr kn => .inl ⟨trivial, fun K hK => wp_value (exec_ldmid rfl isArr32 kn.1 (sl_kr (HG.out ww hS))) (hK _ _ ⟨Touch.refl _ _, rfl⟩)⟩),
        (fun Q aq ww own hS hBg fr kn => .inl ⟨trivial, fun K hK => wp_value (exec_move rfl fr.2.1) (hK _ _ ⟨Touch.refl _ _, rfl⟩)⟩),
        (fun Q aq ww own hS hBg fr kn => .inl ⟨trivial, fun K hK => stepc enterNonce9 rfl (args1 kn.1) (Nonce_run c ww) (fun w' hb => hK _ _ ⟨touch_below hb, rfl⟩)⟩),
        (fun Q aq ww own hS hBg fr kn => .inl ⟨trivial, fun K hK => wp_value (exec_move rfl fr.2.2.1) (hK _ _ ⟨Touch.refl _ _, rfl⟩)⟩),
        (fun Q aq ww own hS hBg fr kn => .inl ⟨trivial, fun K hK => stepc enterOpen9 rfl (args4 kn.1 kn.2.1 kn.2.2.1 rfl) (HO.out ww) (fun w' hb => hK _ _ ⟨touch_below hb, rfl⟩)⟩),
        (fun Q aq ww own hS hBg fr kn => .inl ⟨trivial, fun K hK => wp_value (exec_move rfl kn.1) (hK _ _ ⟨Touch.refl _ _, rfl⟩)⟩),
        (fun Q aq ww own hS hBg fr kn => .inl ⟨trivial, fun K hK => wp_value (exec_ext rfl kn.1 rfl) (hK _ _ ⟨Touch.refl _ _, rfl⟩)⟩),
        (fun Q aq ww own hS hBg fr kn => .inl ⟨trivial, fun K hK => wp_value (exec_ext rfl kn.1 rfl) (hK _ _ ⟨Touch.refl _ _, rfl⟩)⟩),
        (fun Q aq ww own hS hBg fr kn => .inl ⟨trivial, fun K hK => wp_value (exec_assign rfl kn.1) (hK _ _ ⟨Touch.refl _ _, rfl⟩)⟩),
        (fun Q aq ww own hS hBg fr kn => .inl ⟨trivial, fun K hK => wp_value (exec_assign rfl kn.1) (hK _ _ ⟨Touch.refl _ _, rfl⟩)⟩),
        trivial⟩ ?_
  intro vs own u3 hB3 hsz kn inj
  have e8 : vs 8 = _ := kn.1
  have e9 : vs 9 = _ := kn.2.1
  clear kn inj hsz HO
  simp only [putAll, Act.put, List.setIfInBounds_toArray, List.set_cons_zero, List.set_cons_succ, e8, e9]
  replace hW1 := win_below hW1 hB3
  have c1 : u3.cell? ⟨g, 70, none⟩ = some (.pointer (some ⟨gw, 0, none⟩)) := by have := sl_win (HG.out u3 hB3); rw [hr] at this; exact this
  replace hB1 := hB1.trans (hB3.mono hB1.size)
  clear e8 e9 HG hB3 g2
  go_wp2_with fail
  exact bodyPost_ret (res_tt rfl (by rfl) (by rfl)) rfl ⟨rfl, hB1⟩
set_option maxHeartbeats 8000000 in
theorem sopen_yes {w : World} {gw : Nat} {S : Nat → Prop} {c : Int} (r : Kp × Option Nat) (box : ByteArray) (hr : r.2 = some gw) (hW : Win64 w gw 8192 r.1.n r.1.s S) (hN : Nums L64 r.1.n r.1.s) (hc : U64 c) (hl : ¬ 18446744073709543423 ≤ c) (hf : freshD L64 8192 r.1.n r.1.s c = true) (hk : Byts 32 r.1.kr) (hx : box.size ≤ 140737488355328)
    (he : (openT r.1.kr (nonN c) box ByteArray.empty).2 = 0) :
    Calls Tryz.prog 46 #[.agg (SC 71 (slR r)), .int .u64 c, .string box] w fun e w' => e = .returned (.tuple #[.string (openT r.1.kr (nonN c) box ByteArray.empty).1, .int .i64 (openT r.1.kr (nonN c) box ByteArray.empty).2]) ∧ ∃ S', Win64 w' gw 8192 (r.1.n + 1) (cat r.1.n r.1.s (fun _ => c)) S' ∧ Touch S w w' ∧ ∀ k, S' k → S k ∨ w.heap.size ≤ k := by
  have HO : Hid (∀ u, Calls Tryz.prog 64 #[.agg (WA .u8 32 r.1.kr), .agg (WA .u8 12 (nonN c)), .string box, .string ByteArray.empty] u fun e w' => e = .returned (.tuple #[.string (openT r.1.kr (nonN c) box ByteArray.empty).1, .int .i64 (openT r.1.kr (nonN c) box ByteArray.empty).2]) ∧ Below u.heap.size u w') := Hid.mk (fun u => Open_run r.1.kr (nonN c) box ByteArray.empty u hk nonN_b hx (by show 0 ≤ _; omega))
  obtain ⟨T, hT⟩ : ∃ T, T = (openT r.1.kr (nonN c) box ByteArray.empty).1 := ⟨_, rfl⟩
  obtain ⟨E, hE⟩ : ∃ E, E = (openT r.1.kr (nonN c) box ByteArray.empty).2 := ⟨_, rfl⟩
  rw [← hT, ← hE] at HO
  rw [← hE] at he
  simp only [← hT, ← hE]
  clear hT hE
  go_enter Tryz.func46, Tryz.ntmps46
  go_wp2_with (refine wl_box (by rfl) ?_; intro g u1 hg g1 hB1; refine Hid.out ?_)
  refine Hid.mk ?_
  have c1 : u1.cell? ⟨g, 70, none⟩ = some (.pointer (some ⟨gw, 0, none⟩)) := by have := sl_win g1; rw [hr] at this; exact this
  have hW1 := win_below hW hB1
  have hd : decide (18446744073709543423 ≤ c) = false := decide_eq_false (by omega)
  have hrun := fresh_win64 c hW1 hN hc
  rw [hf] at hrun
  clear hl
  go_wp2_with fail
  refine hrun.mono ?_
  rintro e u2 ⟨rfl, hB2⟩
  replace hW1 := win_below hW1 hB2
  have g2 := SAt.kept g1 hB2
  replace hB1 := hB1.trans (hB2.mono hB1.size)
  clear hrun c1 g1 hB2 hd
  have HG : Hid (∀ v, Below u2.heap.size u2 v → SAt v g 55 71 (slR r)) := Hid.mk (fun v hv => SAt.kept g2 hv)
  go_wp2_with fail
  refine wp_region3 (Below u2.heap.size u2) u2.heap.size
      ([] : List (Nat × Cont))
      [kv (.pointer (some ⟨g, 0 + 0, none⟩)), kv (.pointer (some ⟨g, 0 + 0 + 32, none⟩)), kv (.agg (WA .u8 32 r.1.kr)), kv (.int .u64 c), kv (.agg (WA .u8 12 (nonN c))), kv (.string box), kv (.tuple #[.string T, .int .i64 E]), kv (.tuple #[.string T, .int .i64 E]), kv (.string T), kv (.int .i64 E), kv (.string T), kv (.int .i64 E)]
      [.none, .none, .none, .none, .none, .none, .none, .none, .none, .none, .none, .none]
      [some 20, some 21, some 22, some 23, some 24, some 25, some 26, some 19, some 27, some 28, some 8, some 9]
      [(3, .pointer (some ⟨g, 0, none⟩)), (1, .int .u64 c), (2, .string box)]
      [[], [.slot 0], [.slot 1], [], [.slot 3], [], [.slot 2, .slot 4, .slot 5], [.slot 6], [.slot 7], [.slot 7], [.slot 8], [.slot 9]]
      [.slot 10, .slot 11] [20, 21, 22, 23, 24, 25, 26, 19, 27, 28, 8, 9]
      rfl (by kernel_rfl) ⟨rfl, rfl, rfl, trivial⟩ (Below.refl _ u2).drew (Nat.le_refl _) trivial trivial (below_G (Nat.le_refl _) trivial)
      ⟨
        (fun Q aq ww own hS hBg fr kn => .inl ⟨trivial, fun K hK => wp_value (exec_fsl (k := 0) rfl fr.1 (by decide)) (hK _ _ ⟨Touch.refl _ _, rfl⟩)⟩),
        (fun Q aq ww own hS hBg fr kn => .inl ⟨trivial, fun K hK => wp_value (exec_fpa (k := 1) rfl kn.1 (by decide)) (hK _ _ ⟨Touch.refl _ _, rfl⟩)⟩),
        (fun Q aq ww own hS hBg fr kn => .inl ⟨trivial, fun K hK => wp_value (exec_ldmid rfl isArr32 kn.1 (sl_kr (HG.out ww hS))) (hK _ _ ⟨Touch.refl _ _, rfl⟩)⟩),
        (fun Q aq ww own hS hBg fr kn => .inl ⟨trivial, fun K hK => wp_value (exec_move rfl fr.2.1) (hK _ _ ⟨Touch.refl _ _, rfl⟩)⟩),
        (fun Q aq ww own hS hBg fr kn => .inl ⟨trivial, fun K hK => stepc enterNonce9 rfl (args1 kn.1) (Nonce_run c ww) (fun w' hb => hK _ _ ⟨touch_below hb, rfl⟩)⟩),
        (fun Q aq ww own hS hBg fr kn => .inl ⟨trivial, fun K hK => wp_value (exec_move rfl fr.2.2.1) (hK _ _ ⟨Touch.refl _ _, rfl⟩)⟩),
        (fun Q aq ww own hS hBg fr kn => .inl ⟨trivial, fun K hK => stepc enterOpen9 rfl (args4 kn.1 kn.2.1 kn.2.2.1 rfl) (HO.out ww) (fun w' hb => hK _ _ ⟨touch_below hb, rfl⟩)⟩),
        (fun Q aq ww own hS hBg fr kn => .inl ⟨trivial, fun K hK => wp_value (exec_move rfl kn.1) (hK _ _ ⟨Touch.refl _ _, rfl⟩)⟩),
        (fun Q aq ww own hS hBg fr kn => .inl ⟨trivial, fun K hK => wp_value (exec_ext rfl kn.1 rfl) (hK _ _ ⟨Touch.refl _ _, rfl⟩)⟩),
        (fun Q aq ww own hS hBg fr kn => .inl ⟨trivial, fun K hK => wp_value (exec_ext rfl kn.1 rfl) (hK _ _ ⟨Touch.refl _ _, rfl⟩)⟩),
        (fun Q aq ww own hS hBg fr kn => .inl ⟨trivial, fun K hK => wp_value (exec_assign rfl kn.1) (hK _ _ ⟨Touch.refl _ _, rfl⟩)⟩),
        (fun Q aq ww own hS hBg fr kn => .inl ⟨trivial, fun K hK => wp_value (exec_assign rfl kn.1) (hK _ _ ⟨Touch.refl _ _, rfl⟩)⟩),
        trivial⟩ ?_
  intro vs own u3 hB3 hsz kn inj
  have e8 : vs 8 = _ := kn.1
  have e9 : vs 9 = _ := kn.2.1
  clear kn inj hsz HO
  simp only [putAll, Act.put, List.setIfInBounds_toArray, List.set_cons_zero, List.set_cons_succ, e8, e9]
  replace hW1 := win_below hW1 hB3
  have c1 : u3.cell? ⟨g, 70, none⟩ = some (.pointer (some ⟨gw, 0, none⟩)) := by have := sl_win (HG.out u3 hB3); rw [hr] at this; exact this
  replace hB1 := hB1.trans (hB3.mono hB1.size)
  clear e8 e9 HG hB3 g2
  subst he
  go_wp2_with fail
  refine (takeYes_win64 c hW1 hN hc hf).mono ?_
  rintro e u4 ⟨rfl, S', hW4, hT4, hS4⟩
  have HF := Hid.mk (And.intro hW4 (And.intro (touch_tr (touch_of_below hB1) hT4) (fun k hk => (hS4 k hk).imp id (fun hh => Nat.le_trans hB1.size hh))))
  clear hW4 hT4 hS4 hW1 hB1 hW c1
  go_wp2_with fail
  exact bodyPost_ret (res_tt rfl (by rfl) (by rfl)) rfl ⟨rfl, S', HF.out.1, HF.out.2.1, HF.out.2.2⟩
end Go.Proofs.YtbkbcfimpaolmaaGreat
/-
  Own text. A session of the program with the windows of its slots.
-/
namespace Go.Proofs.YtbkbcfimpaolmaaGreat
open Go.RowKit Go.Proofs
set_option maxRecDepth 100000
/-- The windows of the slots below n: each has blocks of its own (U g: those of the window at block g). -/
structure Wins (w : World) (b n : Nat) (R : Nat → Kp × Option Nat) (U : Nat → Nat → Prop) : Prop where
  no : ∀ i, i < n → (R i).1.ep = 0 → R i = rz
  yes : ∀ i, i < n → (R i).1.ep ≠ 0 → ∃ g, (R i).2 = some g ∧ Win64 w g 8192 (R i).1.n (R i).1.s (U g) ∧ ¬ U g b
  ap : ∀ i j g g', i < n → j < n → i ≠ j → (R i).1.ep ≠ 0 → (R j).1.ep ≠ 0 → (R i).2 = some g → (R j).2 = some g' → ∀ k, U g k → ¬ U g' k
def WinS (b n : Nat) (R : Nat → Kp × Option Nat) (U : Nat → Nat → Prop) (k : Nat) : Prop := k = b ∨ ∃ i g, i < n ∧ (R i).1.ep ≠ 0 ∧ (R i).2 = some g ∧ U g k
/-- A session of the program in memory: it lies in the blocks S. -/
def SesAt (w : World) (b : Nat) (σ : Ses) (S : Nat → Prop) : Prop := ∃ R U, SeAt w b R σ.t σ.c ∧ Wins w b 3 R U ∧ (fun i => (R i).1) = σ.K ∧ S = WinS b 3 R U
/-- What a call makes of a session that lies in the blocks S. -/
def Goes (Sess : World → Nat → Ses → (Nat → Prop) → Prop) (w : World) (b : Nat) (S : Nat → Prop) (σ' : Ses) (w' : World) : Prop := ∃ S', Sess w' b σ' S' ∧ Touch S w w' ∧ ∀ k, S' k → S k ∨ w.heap.size ≤ k
theorem win_self {w : World} {b n : Nat} {sz : Int} {s : Nat → Int} {S : Nat → Prop} (h : Win64 w b sz n s S) : S b := by
  obtain ⟨g, r, f, T, hT, hz, h2, hW, hX, rfl⟩ := h
  exact .inl rfl
section
variable {w w' : World} {b n : Nat} {R : Nat → Kp × Option Nat} {U : Nat → Nat → Prop}
theorem Wins.lt (h : Wins w b n R U) (hb : b < w.heap.size) : ∀ k, WinS b n R U k → k < w.heap.size := by
  rintro k (rfl | ⟨i, g, hi, he, hg, hk⟩)
  · exact hb
  · obtain ⟨g', e, hW, _⟩ := h.yes i hi he
    rw [hg] at e
    obtain rfl := Option.some.inj e
    exact lt_win64 hW k hk
theorem Wins.same (h : Wins w b n R U) (hb : ∀ k, WinS b n R U k → k ≠ b → w'.heap[k]? = w.heap[k]?) : Wins w' b n R U := by
  refine ⟨h.no, fun i hi he => ?_, h.ap⟩
  obtain ⟨g, hg, hW, hn⟩ := h.yes i hi he
  exact ⟨g, hg, kept_win64 hW (fun k hk => hb k (.inr ⟨i, g, hi, he, hg, hk⟩) (fun e => hn (e ▸ hk))), hn⟩
theorem Wins.below (h : Wins w b n R U) (hb : Below w.heap.size w w') : Wins w' b n R U := by
  refine ⟨h.no, fun i hi he => ?_, h.ap⟩
  obtain ⟨g, hg, hW, hn⟩ := h.yes i hi he
  exact ⟨g, hg, win_below hW hb, hn⟩
theorem Wins.tou (h : Wins w b n R U) (ht : Touch (fun x => x = b) w w') : Wins w' b n R U := by
  refine ⟨h.no, fun i hi he => ?_, h.ap⟩
  obtain ⟨g, hg, hW, hn⟩ := h.yes i hi he
  exact ⟨g, hg, kept_win64 hW (fun k hk => ht.block k (lt_win64 hW k hk) (fun e => hn (e ▸ hk))), hn⟩
/-- Slots change their places (src: where each was). -/
theorem Wins.move {m : Nat} {R' : Nat → Kp × Option Nat} (h : Wins w b n R U) (src : Nat → Nat) (hz : ∀ i, i < m → (R' i).1.ep = 0 → R' i = rz)
    (hs : ∀ i, i < m → (R' i).1.ep ≠ 0 → src i < n ∧ (R' i).1.ep = (R (src i)).1.ep ∧ (R' i).1.n = (R (src i)).1.n ∧ (R' i).1.s = (R (src i)).1.s ∧ (R' i).2 = (R (src i)).2)
    (hi : ∀ i j, i < m → j < m → i ≠ j → (R' i).1.ep ≠ 0 → (R' j).1.ep ≠ 0 → src i ≠ src j) : Wins w b m R' U ∧ ∀ k, WinS b m R' U k → WinS b n R U k := by
  refine ⟨⟨hz, fun i him he => ?_, fun i j g g' him hjm hij he hf hg hg' => ?_⟩, ?_⟩
  · obtain ⟨h1, h2, h3, h4, h5⟩ := hs i him he
    rw [h3, h4, h5]
    exact h.yes _ h1 (h2 ▸ he)
  · obtain ⟨h1, h2, _, _, h5⟩ := hs i him he
    obtain ⟨k1, k2, _, _, k5⟩ := hs j hjm hf
    exact h.ap (src i) (src j) g g' h1 k1 (hi i j him hjm hij he hf) (h2 ▸ he) (k2 ▸ hf) (h5 ▸ hg) (k5 ▸ hg')
  · rintro k (rfl | ⟨i, g, him, he, hg, hk⟩)
    · exact .inl rfl
    · obtain ⟨h1, h2, _, _, h5⟩ := hs i him he
      exact .inr ⟨src i, g, h1, h2 ▸ he, h5 ▸ hg, hk⟩
/-- A new window. -/
theorem Wins.push {g : Nat} {k0 : Kp} (h : Wins w b 3 R U) (hb : b < w.heap.size) (hn : NewW w.heap.size g w') (hB : Below w.heap.size w w') (hk0 : k0.ep ≠ 0) (h0 : k0.n = 0) (hs : k0.s = fun _ => 0) :
    ∃ U', Wins w' b 4 (setG R 3 (k0, some g)) U' ∧ ∀ k, WinS b 4 (setG R 3 (k0, some g)) U' k → WinS b 3 R U k ∨ w.heap.size ≤ k := by
  obtain ⟨S, hW, hS⟩ := hn
  have hgl : w.heap.size ≤ g := hS g (win_self hW)
  have hne : ∀ i g', i < 3 → (R i).1.ep ≠ 0 → (R i).2 = some g' → g' ≠ g := fun i g' hi he hg => by
    obtain ⟨g2, e, hW2, _⟩ := h.yes i hi he
    rw [hg] at e
    obtain rfl := Option.some.inj e
    have := lt_win64 hW2 _ (win_self hW2)
    omega
  have hlt : ∀ i g' k, i < 3 → (R i).1.ep ≠ 0 → (R i).2 = some g' → U g' k → k < w.heap.size := fun i g' k hi he hg hk => h.lt hb k (.inr ⟨i, g', hi, he, hg, hk⟩)
  have e3 : setG R 3 (k0, some g) 3 = (k0, some g) := by unfold setG; rw [if_pos rfl]
  have ei : ∀ i, i < 3 → setG R 3 (k0, some g) i = R i := fun i hi => by unfold setG; rw [if_neg (by omega)]
  refine ⟨fun x => if x = g then S else U x, ⟨fun i hi he => ?_, fun i hi he => ?_, fun i j g1 g2 hi hj hij he hf hg1 hg2 k hk => ?_⟩, ?_⟩
  · by_cases h3 : i < 3
    · rw [ei i h3] at he ⊢; exact h.no i h3 he
    · obtain rfl : i = 3 := by omega
      rw [e3] at he
      exact absurd he hk0
  · by_cases h3 : i < 3
    · rw [ei i h3] at he ⊢
      obtain ⟨g', hg', hW', hn'⟩ := h.yes i h3 he
      refine ⟨g', hg', ?_, ?_⟩
      · simp only [if_neg (hne i g' h3 he hg')]
        exact win_below hW' hB
      · simp only [if_neg (hne i g' h3 he hg')]
        exact hn'
    · obtain rfl : i = 3 := by omega
      rw [e3]
      refine ⟨g, rfl, ?_, ?_⟩
      · simp only [if_pos, h0, hs]
        exact hW
      · simp only [if_pos]
        exact fun hh => by have := hS b hh; omega
  · by_cases h3 : i < 3
    · rw [ei i h3] at he hg1
      have n1 := hne i g1 h3 he hg1
      simp only [if_neg n1] at hk
      by_cases h4 : j < 3
      · rw [ei j h4] at hf hg2
        have n2 := hne j g2 h4 hf hg2
        simp only [if_neg n2]
        exact h.ap i j g1 g2 h3 h4 hij he hf hg1 hg2 k hk
      · obtain rfl : j = 3 := by omega
        rw [e3] at hg2
        obtain rfl := Option.some.inj hg2
        simp only [if_pos]
        exact fun hh => by have := hS k hh; have := hlt i g1 k h3 he hg1 hk; omega
    · obtain rfl : i = 3 := by omega
      rw [e3] at hg1
      obtain rfl := Option.some.inj hg1
      simp only [if_pos] at hk
      have h4 : j < 3 := by omega
      rw [ei j h4] at hf hg2
      have n2 := hne j g2 h4 hf hg2
      simp only [if_neg n2]
      exact fun hh => by have := hS k hk; have := hlt j g2 k h4 hf hg2 hh; omega
  · rintro k (rfl | ⟨i, g1, hi, he, hg, hk⟩)
    · exact .inl (.inl rfl)
    · by_cases h3 : i < 3
      · rw [ei i h3] at he hg
        simp only [if_neg (hne i g1 h3 he hg)] at hk
        exact .inl (.inr ⟨i, g1, h3, he, hg, hk⟩)
      · obtain rfl : i = 3 := by omega
        rw [e3] at hg
        obtain rfl := Option.some.inj hg
        simp only [if_pos] at hk
        exact .inr (hS k hk)
/-- A counter came, in the window of slot i. -/
theorem Wins.took {i g : Nat} {c : Int} {S' : Nat → Prop} (h : Wins w b 3 R U) (hb : b < w.heap.size) (hi : i < 3) (he : (R i).1.ep ≠ 0) (hg : (R i).2 = some g) (hW : Win64 w' g 8192 ((R i).1.n + 1) (cat (R i).1.n (R i).1.s (fun _ => c)) S') (hT : Touch (U g) w w') (hS : ∀ k, S' k → U g k ∨ w.heap.size ≤ k) :
    ∃ U', Wins w' b 3 (setG R i (kpTook (R i).1 c, some g)) U' ∧ (∀ k, WinS b 3 (setG R i (kpTook (R i).1 c, some g)) U' k → WinS b 3 R U k ∨ w.heap.size ≤ k) := by
  have ee : setG R i (kpTook (R i).1 c, some g) i = (kpTook (R i).1 c, some g) := by unfold setG; rw [if_pos rfl]
  have ej : ∀ j, j ≠ i → setG R i (kpTook (R i).1 c, some g) j = R j := fun j hj => by unfold setG; rw [if_neg hj]
  obtain ⟨g0, e0, hW0, hn0⟩ := h.yes i hi he
  rw [hg] at e0
  obtain rfl := Option.some.inj e0
  have hself : U g g := win_self hW0
  have hne : ∀ j g', j < 3 → j ≠ i → (R j).1.ep ≠ 0 → (R j).2 = some g' → g' ≠ g := fun j g' hj hji hje hjg e => by
    subst e
    exact h.ap i j _ _ hi hj (Ne.symm hji) he hje hg hjg _ hself hself
  have hlt : ∀ j g' k, j < 3 → (R j).1.ep ≠ 0 → (R j).2 = some g' → U g' k → k < w.heap.size := fun j g' k hj he hg hk => h.lt hb k (.inr ⟨j, g', hj, he, hg, hk⟩)
  refine ⟨fun x => if x = g then S' else U x, ⟨fun j hj hje => ?_, fun j hj hje => ?_, fun j l g1 g2 hj hl hjl hje hle hg1 hg2 k hk => ?_⟩, ?_⟩
  · by_cases hji : j = i
    · subst hji; rw [ee] at hje; exact absurd hje he
    · rw [ej j hji] at hje ⊢; exact h.no j hj hje
  · by_cases hji : j = i
    · subst hji
      rw [ee]
      refine ⟨g, rfl, ?_, ?_⟩
      · simp only [if_pos]; exact hW
      · simp only [if_pos]; exact fun hh => (hS b hh).elim hn0 (fun h => by omega)
    · rw [ej j hji] at hje ⊢
      obtain ⟨g', hg', hW', hn'⟩ := h.yes j hj hje
      refine ⟨g', hg', ?_, ?_⟩
      · simp only [if_neg (hne j g' hj hji hje hg')]
        exact kept_win64 hW' (fun k hk => hT.block k (lt_win64 hW' k hk) (fun hh => h.ap i j g g' hi hj (Ne.symm hji) he hje hg hg' k hh hk))
      · simp only [if_neg (hne j g' hj hji hje hg')]
        exact hn'
  · by_cases hji : j = i
    · subst hji
      rw [ee] at hg1
      obtain rfl := Option.some.inj hg1
      simp only [if_pos] at hk
      have hli : l ≠ j := Ne.symm hjl
      rw [ej l hli] at hle hg2
      simp only [if_neg (hne l g2 hl hli hle hg2)]
      exact fun hh => (hS k hk).elim (fun hu => h.ap j l g g2 hj hl hjl he hle hg hg2 k hu hh) (fun hz => by have := hlt l g2 k hl hle hg2 hh; omega)
    · rw [ej j hji] at hje hg1
      simp only [if_neg (hne j g1 hj hji hje hg1)] at hk
      by_cases hli : l = i
      · subst hli
        rw [ee] at hg2
        obtain rfl := Option.some.inj hg2
        simp only [if_pos]
        exact fun hh => (hS k hh).elim (fun hu => h.ap l j g g1 hl hj (Ne.symm hji) he hje hg hg1 k hu hk) (fun hz => by have := hlt j g1 k hj hje hg1 hk; omega)
      · rw [ej l hli] at hle hg2
        simp only [if_neg (hne l g2 hl hli hle hg2)]
        exact h.ap j l g1 g2 hj hl hjl hje hle hg1 hg2 k hk
  · rintro k (rfl | ⟨j, g1, hj, hje, hg1, hk⟩)
    · exact .inl (.inl rfl)
    · by_cases hji : j = i
      · subst hji
        rw [ee] at hg1
        obtain rfl := Option.some.inj hg1
        simp only [if_pos] at hk
        exact (hS k hk).imp (fun hu => .inr ⟨j, g, hj, he, hg, hu⟩) id
      · rw [ej j hji] at hje hg1
        simp only [if_neg (hne j g1 hj hji hje hg1)] at hk
        exact .inl (.inr ⟨j, g1, hj, hje, hg1, hk⟩)
end
end Go.Proofs.YtbkbcfimpaolmaaGreat
/-
  Own text. Package session: New, Put.
-/
namespace Go.Proofs.YtbkbcfimpaolmaaGreat
open Go.RowKit Go.Proofs
set_option maxRecDepth 100000
theorem place_eq {R : Nat → Kp × Option Nat} {r : Kp × Option Nat} : placeG rep R r rz true 1 = r ∧ placeG rep R r rz true 2 = rz ∧ placeG rep R r rz true 0 = (if (R 2).1.ep ≠ 0 then R 2 else if (R 1).1.ep ≠ 0 then R 1 else R 0) := by
  have k2 : keepG rep R 1 2 = R 2 := by unfold keepG; rw [if_neg (by omega)]
  refine ⟨by simp [placeG, setG], by simp [placeG, setG], ?_⟩
  simp only [placeG, if_true, setG, show ¬ (0 = 2) by omega, show ¬ (0 = 1) by omega, if_false]
  unfold keepG at k2 ⊢
  simp only [true_and, show ¬ (2 = 0) by omega, false_and, if_false, rep]
theorem place_eqF {R : Nat → Kp × Option Nat} {r : Kp × Option Nat} : placeG rep R r rz false 2 = r ∧ placeG rep R r rz false 1 = R 1 ∧ placeG rep R r rz false 0 = R 0 := by
  refine ⟨by simp [placeG, setG], by simp [placeG, setG], by simp [placeG, setG]⟩
theorem Wins.place {w : World} {b : Nat} {R : Nat → Kp × Option Nat} {U : Nat → Nat → Prop} {r : Kp × Option Nat} (h : Wins w b 4 (setG R 3 r) U) (f : Bool) : Wins w b 3 (placeG rep R r rz f) U ∧ ∀ k, WinS b 3 (placeG rep R r rz f) U k → WinS b 4 (setG R 3 r) U k := by
  have e3 : setG R 3 r 3 = r := by unfold setG; rw [if_pos rfl]
  have ei : ∀ i, i < 3 → setG R 3 r i = R i := fun i hi => by unfold setG; rw [if_neg (by omega)]
  have s4 : ∀ i, i < 4 → (setG R 3 r i).1.ep = 0 → setG R 3 r i = rz := h.no
  have three : ∀ i, i < 3 → i = 0 ∨ i = 1 ∨ i = 2 := fun i hi => by omega
  have n0 := s4 0 (by omega); have n1 := s4 1 (by omega); have n2 := s4 2 (by omega); have n3 := s4 3 (by omega)
  rw [ei 0 (by omega)] at n0; rw [ei 1 (by omega)] at n1; rw [ei 2 (by omega)] at n2; rw [e3] at n3
  cases f
  · obtain ⟨p2, p1, p0⟩ := place_eqF (R := R) (r := r)
    refine h.move (fun i => if i = 2 then 3 else i) (fun i hi he => ?_) (fun i hi he => ?_) (fun i j hi hj hij _ _ => ?_)
    · rcases three i hi with rfl | rfl | rfl
      · rw [p0] at he ⊢; exact n0 he
      · rw [p1] at he ⊢; exact n1 he
      · rw [p2] at he ⊢; exact n3 he
    · rcases three i hi with rfl | rfl | rfl
      · simp only [p0, show ¬ (0 = 2) by omega, if_false, ei 0 (by omega)]; exact ⟨by omega, by trivial, by trivial, by trivial, by trivial⟩
      · simp only [p1, show ¬ (1 = 2) by omega, if_false, ei 1 (by omega)]; exact ⟨by omega, by trivial, by trivial, by trivial, by trivial⟩
      · simp only [p2, if_true, e3]; exact ⟨by omega, by trivial, by trivial, by trivial, by trivial⟩
    · show (if i = 2 then 3 else i) ≠ (if j = 2 then 3 else j)
      split <;> split <;> omega
  · obtain ⟨p1, p2, p0⟩ := place_eq (R := R) (r := r)
    refine h.move (fun i => if i = 1 then 3 else if (R 2).1.ep ≠ 0 then 2 else if (R 1).1.ep ≠ 0 then 1 else 0) (fun i hi he => ?_) (fun i hi he => ?_) (fun i j hi hj hij he hf => ?_)
    · rcases three i hi with rfl | rfl | rfl
      · rw [p0] at he ⊢
        by_cases h2 : (R 2).1.ep ≠ 0
        · rw [if_pos h2] at he; exact absurd he h2
        · rw [if_neg h2] at he ⊢
          by_cases h1 : (R 1).1.ep ≠ 0
          · rw [if_pos h1] at he; exact absurd he h1
          · rw [if_neg h1] at he ⊢; exact n0 he
      · rw [p1] at he ⊢; exact n3 he
      · rw [p2]
    · rcases three i hi with rfl | rfl | rfl
      · simp only [p0, show ¬ (0 = 1) by omega, if_false]
        by_cases h2 : (R 2).1.ep ≠ 0
        · simp only [if_pos h2, ei 2 (by omega)]; exact ⟨by omega, by trivial, by trivial, by trivial, by trivial⟩
        · simp only [if_neg h2]
          by_cases h1 : (R 1).1.ep ≠ 0
          · simp only [if_pos h1, ei 1 (by omega)]; exact ⟨by omega, by trivial, by trivial, by trivial, by trivial⟩
          · simp only [if_neg h1, ei 0 (by omega)]; exact ⟨by omega, by trivial, by trivial, by trivial, by trivial⟩
      · simp only [p1, if_true, e3]; exact ⟨by omega, by trivial, by trivial, by trivial, by trivial⟩
      · rw [p2] at he; exact absurd rfl he
    · have hi2 : i ≠ 2 := fun e => by subst e; rw [p2] at he; exact he rfl
      have hj2 : j ≠ 2 := fun e => by subst e; rw [p2] at hf; exact hf rfl
      show (if i = 1 then 3 else if (R 2).1.ep ≠ 0 then 2 else if (R 1).1.ep ≠ 0 then 1 else 0) ≠ (if j = 1 then 3 else if (R 2).1.ep ≠ 0 then 2 else if (R 1).1.ep ≠ 0 then 1 else 0)
      by_cases hi1 : i = 1
      · rw [if_pos hi1, if_neg (show ¬ j = 1 by omega)]; split; omega; split <;> omega
      · rw [if_neg hi1, if_pos (show j = 1 by omega)]; split; omega; split <;> omega
theorem enterNewSlot (args : Array Value) (w : World) : (callFunc 31 args).run Tryz.prog w = .ok (.enter 31 args) w := by kernel_rfl
theorem newSlotW_run (ks kr : Nat → Int) (loc far ep born : Int) (f : Bool) {w : World} {B : Nat} (hB : B ≤ w.heap.size) : Calls Tryz.prog 31 #[.agg (SC 66 (paiV ks kr loc far)), .int .i64 ep, .int .i64 born, .bool f] w fun e w' => ∃ v, e = .returned v ∧ (∃ g, v = .agg (SC 71 (slR (kpNew ks kr loc far ep born f, some g))) ∧ NewW B g w') ∧ Below w.heap.size w w' := by
  refine (newSlot_run ks kr loc far ep born f w).mono ?_
  rintro e w' ⟨g, rfl, ⟨S, q1, q2⟩, hb⟩
  exact ⟨_, rfl, ⟨g, rfl, S, q1, fun k hk => Nat.le_trans hB (q2 k hk)⟩, hb⟩
theorem goes_tell {w w' : World} {b : Nat} {R : Nat → Kp × Option Nat} {U : Nat → Nat → Prop} {c t' : Int} {K : Nat → Kp} (hK : (fun i => (R i).1) = K) (hW : Wins w b 3 R U) (h : SeAt w' b R t' c) (hT : Touch (fun x => x = b) w w') : Goes SesAt w b (WinS b 3 R U) ⟨t', c, K⟩ w' :=
  ⟨_, ⟨R, U, h, hW.tou hT, hK, rfl⟩, hT.mono (fun _ _ e => .inl e), fun _ hk => .inl hk⟩
theorem putS_no {σ : Ses} {now : Int} {ks kr : Nat → Int} {loc far : Int} {first : Bool} (h : atF σ.K loc ≠ -1) : putS σ now ks kr loc far first = ⟨max σ.t now, σ.c, σ.K⟩ := by unfold putS; rw [if_neg h]; rfl
theorem putS_yes {σ : Ses} {now : Int} {ks kr : Nat → Int} {loc far : Int} {first : Bool} (h : atF σ.K loc = -1) : putS σ now ks kr loc far first = ⟨max σ.t now, σ.c + 1, placeG Kp.ep σ.K (kpNew ks kr loc far (σ.c + 1) (max σ.t now) first) kp0 first⟩ := by unfold putS; rw [if_pos h]
set_option maxHeartbeats 8000000 in
theorem Put_run {w : World} {b : Nat} {σ : Ses} {S : Nat → Prop} (now : Int) (ks kr : Nat → Int) (loc far : Int) (first : Bool) (h : SesAt w b σ S) (hc0 : 0 ≤ σ.c) (hc1 : σ.c ≤ 1000) :
    Calls Tryz.prog 8 #[.pointer (some ⟨b, 0, none⟩), .int .i64 now, .agg (SC 66 (paiV ks kr loc far)), .bool first] w fun e w' => e = .returned (.tuple #[.int .i64 (putR σ loc).1, .int .i64 (putR σ loc).2]) ∧ Goes SesAt w b S (putS σ now ks kr loc far first) w' := by
  obtain ⟨R, U, h, hW, hK, rfl⟩ := h
  obtain ⟨t, c, K⟩ := σ
  simp only at h hK hc0 hc1
  have hlt := h.lt
  by_cases hA : atF K loc = -1
  · have HP : Hid (putR ⟨t, c, K⟩ loc = (c + 1, 0)) := Hid.mk (by unfold putR; rw [if_pos hA])
    have HQ := Hid.mk (putS_yes (σ := ⟨t, c, K⟩) (now := now) (ks := ks) (kr := kr) (far := far) (first := first) hA)
    rw [HP.out, HQ.out]
    go_enter Tryz.func8, Tryz.ntmps8
    go_wp2_with (refine wl_boxG isPair (by rfl) ?_; intro gp u1 hgp g1 hB1; refine Hid.out ?_)
    refine Hid.mk ?_
    go_wp2_with fail
    refine (tell_run now (h.kept hB1)).mono ?_
    rintro e u2 ⟨rfl, h2, o2⟩
    have hgp2 : gp ≠ b := by omega
    have g2 := g1.only o2 hgp2
    have c1 := pai_l g2
    go_wp2_with fail
    refine (find_run loc h2).mono ?_
    rintro e u3 ⟨rfl, hB3⟩
    rw [hK]
    have h3 := h2.kept hB3
    have g3 := SAt.kept g2 hB3
    have hT3 : Touch (fun x => x = b) w u3 := touch_tr (touch_tr (touch_of_below hB1) (touch_only o2)) (touch_of_below hB3)
    clear c1 h2 g2 hB1 o2 hB3 g1 h
    have c2 := h3.count
    have f2 : u3.frozen? ⟨b, 214, none⟩ = false := frozen_of_row u3 b 214 _ _ h3
    have HT := Hid.mk (And.intro (h3.counts (c + 1)) ((Only.refl b u3).setCell 214 (.int .i64 (c + 1))))
    go_wp2_with fail
    refine wp_gen (fun u => SeAt u b R (max t now) (c + 1) ∧ Only b u3 u) HT.out ?_
    rintro u4 ⟨h4, o4⟩
    clear c2 f2 HT h3
    have g4 := g3.only o4 hgp2
    have hT4 := touch_tr hT3 (touch_only o4)
    have hW4 := hW.tou hT4
    have HS : Hid (∀ v, Below u4.heap.size u4 v → SeAt v b R (max t now) (c + 1)) := Hid.mk (fun v hv => h4.kept hv)
    have HG : Hid (∀ v, Below u4.heap.size u4 v → SAt v gp 30 66 (paiV ks kr loc far)) := Hid.mk (fun v hv => SAt.kept g4 hv)
    clear g3 g4 o4 hT3
    refine wp_region_cut 12 rfl (by kernel_rfl) (any_steps (Below u4.heap.size u4) (fun v v' => Below v.heap.size v v') (fun i v v0 => match i with | 0 => v = .pointer (some ⟨b, 0, none⟩) | 1 => v = .agg (SC 66 (paiV ks kr loc far)) | 2 => v = .pointer (some ⟨b, 0, none⟩) | 3 => v = .pointer (some ⟨b, 0, none⟩) | 4 => v = .pointer (some ⟨b, 214, none⟩) | 5 => v = .int .i64 (c + 1) | 6 => v = .pointer (some ⟨b, 0, none⟩) | 7 => v = .pointer (some ⟨b, 0, none⟩) | 8 => v = .pointer (some ⟨b, 213, none⟩) | 9 => v = .int .i64 (max t now) | 10 => v = .bool first | 11 => ∃ g, v = .agg (SC 71 (slR (kpNew ks kr loc far (c + 1) (max t now) first, some g))) ∧ NewW u4.heap.size g v0 | _ => True) [27, 28, 29, 30, 31, 32, 33, 34, 35, 36, 37, 38]
      [(0, .pointer (some ⟨b, 0, none⟩)), (6, .pointer (some ⟨gp, 0, none⟩)), (3, .bool first)] [[], [], [], [2], [3], [4], [], [6], [7], [8], [], [1, 5, 9, 10]] (by kernel_rfl) ⟨rfl, rfl, rfl, trivial⟩ (Below.drew (Below.refl _ _)) (fun v v' h hb => h.trans (hb.mono h.size)) ?_
      ⟨
      (fun Q a1 ww hS fr kn => ⟨trivial, fun K hK => wp_value (exec_move rfl fr.1) (hK _ _ rfl (Below.refl _ _))⟩),
      (fun Q a1 ww hS fr kn => ⟨trivial, fun K hK => wp_value (look_st rfl isPair (HG.out ww hS) fr.2.1) (hK _ _ rfl (Below.refl _ _))⟩),
      (fun Q a1 ww hS fr kn => ⟨trivial, fun K hK => wp_value (exec_move rfl fr.1) (hK _ _ rfl (Below.refl _ _))⟩),
      (fun Q a1 ww hS fr kn => ⟨trivial, fun K hK => wp_value (exec_nilc rfl kn.1) (hK _ _ rfl (Below.refl _ _))⟩),
      (fun Q a1 ww hS fr kn => ⟨trivial, fun K hK => wp_value (exec_fse (k := 2) rfl kn.1 (by decide)) (hK _ _ rfl (Below.refl _ _))⟩),
      (fun Q a1 ww hS fr kn => ⟨trivial, fun K hK => wp_value (exec_ld rfl kn.1 (ld_int (HS.out ww hS).count)) (hK _ _ rfl (Below.refl _ _))⟩),
      (fun Q a1 ww hS fr kn => ⟨trivial, fun K hK => wp_value (exec_move rfl fr.1) (hK _ _ rfl (Below.refl _ _))⟩),
      (fun Q a1 ww hS fr kn => ⟨trivial, fun K hK => wp_value (exec_nilc rfl kn.1) (hK _ _ rfl (Below.refl _ _))⟩),
      (fun Q a1 ww hS fr kn => ⟨trivial, fun K hK => wp_value (exec_fse (k := 1) rfl kn.1 (by decide)) (hK _ _ rfl (Below.refl _ _))⟩),
      (fun Q a1 ww hS fr kn => ⟨trivial, fun K hK => wp_value (exec_ld rfl kn.1 (ld_int (HS.out ww hS).time)) (hK _ _ rfl (Below.refl _ _))⟩),
      (fun Q a1 ww hS fr kn => ⟨trivial, fun K hK => wp_value (exec_move rfl fr.2.2.1) (hK _ _ rfl (Below.refl _ _))⟩),
      (fun Q a1 ww hS fr kn => ⟨trivial, fun K hK => stepp enterNewSlot rfl (args4 kn.1 kn.2.1 kn.2.2.1 kn.2.2.2.1) (newSlotW_run ks kr loc far (c + 1) (max t now) first hS.size) (fun v w' hv => hK _ _ hv.1 hv.2)⟩),
      trivial⟩ ?_)
    · intro i v u u' hh hb
      match i with
      | 0 | 1 | 2 | 3 | 4 | 5 | 6 | 7 | 8 | 9 | 10 => exact hh
      | 11 => obtain ⟨g, e, hn⟩ := hh; exact ⟨g, e, hn.below hb⟩
      | n + 12 => trivial
    intro vs u5 hS5 hk5
    have e27 : vs 27 = .pointer (some ⟨b, 0, none⟩) := hk5 0 (by decide)
    obtain ⟨g, e38, hn⟩ := hk5 11 (by decide)
    replace e38 : vs 38 = .agg (SC 71 (slR (kpNew ks kr loc far (c + 1) (max t now) first, some g))) := e38
    clear hk5
    have h5 := HS.out u5 hS5
    obtain ⟨U', hW5, hS5'⟩ := hW4.push (by have := h4.lt; omega) hn hS5 (k0 := kpNew ks kr loc far (c + 1) (max t now) first) (by show c + 1 ≠ 0; omega) rfl rfl
    obtain ⟨hW6, hS6⟩ := hW5.place first
    have HF : Hid (∀ u6, SeAt u6 b (placeG rep R (kpNew ks kr loc far (c + 1) (max t now) first, some g) rz first) (max t now) (c + 1) → Touch (fun x => x = b) u5 u6 → Goes SesAt w b (WinS b 3 R U) ⟨max t now, c + 1, placeG Kp.ep K (kpNew ks kr loc far (c + 1) (max t now) first) kp0 first⟩ u6) := Hid.mk (fun u6 h6 hT6 => by
      refine ⟨_, ⟨_, U', h6, hW6.tou hT6, ?_, rfl⟩, (touch_tr (touch_tr hT4 (touch_of_below hS5)) hT6).mono (fun k _ e => .inl e), fun k hk => ?_⟩
      · funext j
        rw [← hK]
        exact placeG_map Prod.fst Kp.ep R _ rz first j
      · rcases hS5' k (hS6 k hk) with hh | hh
        · exact .inl hh
        · exact .inr (Nat.le_trans hT4.size hh))
    clear hW5 hS5' hW6 hS6 hn hS5 HS HG hT4 hW4 h4
    show wpList Tryz.prog _ _ (_ :: []) _ _
    simp only [putAll, Act.put, List.setIfInBounds_toArray, List.set_cons_zero, List.set_cons_succ, e27, e38]
    clear e27 e38
    go_wp2_with fail
    refine (place_run _ h5).mono ?_
    rintro e u6 ⟨rfl, h6, hT6⟩
    have hG6 := Hid.mk (HF.out u6 h6 hT6)
    have c6 := h6.count
    clear HF h5 h6 hT6
    go_wp2_with fail
    exact bodyPost_ret (res_tt rfl (by rfl) (by rfl)) rfl ⟨rfl, hG6.out⟩
  · have HP : Hid (putR ⟨t, c, K⟩ loc = (0, 24)) := Hid.mk (by unfold putR; rw [if_neg hA])
    have HQ := Hid.mk (putS_no (σ := ⟨t, c, K⟩) (now := now) (ks := ks) (kr := kr) (far := far) (first := first) hA)
    rw [HP.out, HQ.out]
    go_enter Tryz.func8, Tryz.ntmps8
    go_wp2_with (refine wl_boxG isPair (by rfl) ?_; intro gp u1 hgp g1 hB1; refine Hid.out ?_)
    refine Hid.mk ?_
    go_wp2_with fail
    refine (tell_run now (h.kept hB1)).mono ?_
    rintro e u2 ⟨rfl, h2, o2⟩
    have hgp2 : gp ≠ b := by omega
    have g2 := g1.only o2 hgp2
    have c1 := pai_l g2
    go_wp2_with fail
    refine (find_run loc h2).mono ?_
    rintro e u3 ⟨rfl, hB3⟩
    rw [hK]
    have h3 := h2.kept hB3
    have g3 := SAt.kept g2 hB3
    have hT3 : Touch (fun x => x = b) w u3 := touch_tr (touch_tr (touch_of_below hB1) (touch_only o2)) (touch_of_below hB3)
    clear c1 h2 g2 hB1 o2 hB3 g1 h
    have hg := Hid.mk (goes_tell hK hW h3 hT3)
    go_wp2_with fail
    exact bodyPost_ret (res_tt rfl (by rfl) (by rfl)) rfl ⟨rfl, hg.out⟩
end Go.Proofs.YtbkbcfimpaolmaaGreat
/-
  Own text. Package session: Seal.
-/
namespace Go.Proofs.YtbkbcfimpaolmaaGreat
open Go.RowKit Go.Proofs
set_option maxRecDepth 100000
/-- What Seal tells. -/
def sealR (σ : Ses) (now : Int) (text : ByteArray) : Int × Int × ByteArray × Int :=
  if sealOk σ now = true then ((σ.K 1).far, (σ.K 1).sent, boxT (σ.K 1).ks (nonN (σ.K 1).sent) text ByteArray.empty, 0) else (0, 0, ByteArray.empty, 19)
theorem SeAt.sent {w : World} {b : Nat} {R : Nat → Kp × Option Nat} {t c : Int} (h : SeAt w b R t c) : SeAt (w.setCell ⟨b, 140, none⟩ (.int .u64 ((R 1).1.sent + 1))) b (setG R 1 (kpSent (R 1).1, (R 1).2)) t c := by
  refine SAt.congr (SAt.set h 140 _ (by omega)) (fun x hx => ?_)
  show (if x = 140 then Value.int .u64 ((R 1).1.sent + 1) else seV R t c x) = seV (setG R 1 (kpSent (R 1).1, (R 1).2)) t c x
  unfold seV
  by_cases e : x = 140
  · subst e; rfl
  · rw [if_neg e]
    by_cases h1 : x < 213
    · rw [if_pos h1, if_pos h1]
      unfold setG
      by_cases h2 : x / 71 = 1
      · rw [if_pos h2, h2]
        unfold slR slC
        simp only [kpSent]
        have : x % 71 ≠ 69 := by omega
        (repeat' split) <;> first | rfl | omega
      · rw [if_neg h2]
    · rw [if_neg h1, if_neg h1]
theorem res_4t {fn : Func} {p q r s : Tmp} (h : fn.results = #[.tmp p, .tmp q, .tmp r, .tmp s]) {tmps : Array Value} {w : World} {x y z u : Value} (hp : tmps.getD p undef = x) (hq : tmps.getD q undef = y) (hr : tmps.getD r undef = z) (hs : tmps.getD s undef = u) : (results fn tmps).run Tryz.prog w = .ok (.tuple #[x, y, z, u]) w := by
  have hp' : tmps[p]?.getD undef = x := by simpa using hp
  have hq' : tmps[q]?.getD undef = y := by simpa using hq
  have hr' : tmps[r]?.getD undef = z := by simpa using hr
  have hs' : tmps[s]?.getD undef = u := by simpa using hs
  simp [results, h, hp', hq', hr', hs']
theorem seal_no {σ : Ses} {now : Int} {text : ByteArray} (h : sealOk σ now = false) : sealR σ now text = (0, 0, ByteArray.empty, 19) ∧ sealS σ now = ⟨max σ.t now, σ.c, σ.K⟩ := by
  unfold sealR sealS
  rw [h]
  exact ⟨rfl, rfl⟩
theorem seal_yes {σ : Ses} {now : Int} {text : ByteArray} (h : sealOk σ now = true) : sealR σ now text = ((σ.K 1).far, (σ.K 1).sent, boxT (σ.K 1).ks (nonN (σ.K 1).sent) text ByteArray.empty, 0) ∧ sealS σ now = ⟨max σ.t now, σ.c, setG σ.K 1 (kpSent (σ.K 1))⟩ := by
  unfold sealR sealS
  rw [if_pos h, if_pos h]
  exact ⟨rfl, rfl⟩
theorem goes_sent {w w' : World} {b : Nat} {R : Nat → Kp × Option Nat} {U : Nat → Nat → Prop} {c t' : Int} (hW : Wins w b 3 R U) (he : (R 1).1.ep ≠ 0) (h : SeAt w' b (setG R 1 (kpSent (R 1).1, (R 1).2)) t' c) (hT : Touch (fun x => x = b) w w') : Goes SesAt w b (WinS b 3 R U) ⟨t', c, setG (fun i => (R i).1) 1 (kpSent (R 1).1)⟩ w' := by
  have e1 : setG R 1 (kpSent (R 1).1, (R 1).2) 1 = (kpSent (R 1).1, (R 1).2) := by unfold setG; rw [if_pos rfl]
  have ej : ∀ j, j ≠ 1 → setG R 1 (kpSent (R 1).1, (R 1).2) j = R j := fun j hj => by unfold setG; rw [if_neg hj]
  obtain ⟨h1, h2⟩ := hW.move (m := 3) (R' := setG R 1 (kpSent (R 1).1, (R 1).2)) (fun i => i) (fun i hi hz => by
      by_cases e : i = 1
      · subst e; rw [e1] at hz; exact absurd hz he
      · rw [ej i e] at hz ⊢; exact hW.no i hi hz)
    (fun i hi _ => by
      by_cases e : i = 1
      · subst e; rw [e1]; exact ⟨hi, rfl, rfl, rfl, rfl⟩
      · rw [ej i e]; exact ⟨hi, rfl, rfl, rfl, rfl⟩) (fun i j _ _ hij _ _ => hij)
  exact ⟨_, ⟨_, U, h, h1.tou hT, funext (fun j => setG_map Prod.fst R 1 _ j), rfl⟩, hT.mono (fun _ _ e => .inl e), fun k hk => .inl (h2 k hk)⟩
set_option maxHeartbeats 8000000 in
theorem Seal_run9 {w : World} {b M : Nat} {σ : Ses} {S : Nat → Prop} (now : Int) (text : ByteArray) (h : SesAt w b σ S) (ok : SesOk M σ) (hM : M ≤ 1000) (hnow : now ≤ 9223372036854775807) (ht : text.size ≤ 140737488355328) :
    Calls Tryz.prog 10 #[.pointer (some ⟨b, 0, none⟩), .int .i64 now, .string text] w fun e w' => e = .returned (.tuple #[.int .u32 (sealR σ now text).1, .int .u64 (sealR σ now text).2.1, .string (sealR σ now text).2.2.1, .int .i64 (sealR σ now text).2.2.2]) ∧ Goes SesAt w b S (sealS σ now) w' := by
  obtain ⟨R, U, h, hW, hK, rfl⟩ := h
  obtain ⟨t, c, K⟩ := σ
  simp only at h hK
  subst hK
  have hlt := h.lt
  have ht0 : 0 ≤ t := ok.t0
  have ht1 : t ≤ 9223372036854775807 := ok.t1
  have hm : max t now ≤ 9223372036854775807 := by omega
  by_cases he : (R 1).1.ep = 0
  · have hs : sealOk ⟨t, c, fun i => (R i).1⟩ now = false := by unfold sealOk; simp [he]
    obtain ⟨e1, e2⟩ := seal_no (text := text) hs
    rw [e1, e2]
    go_enter Tryz.func10, Tryz.ntmps10
    go_wp2_with fail
    refine (tell_run now h).mono ?_
    rintro e u2 ⟨rfl, h2, o2⟩
    have hT2 : Touch (fun x => x = b) w u2 := touch_only o2
    clear o2 h
    go_wp2_with (first | (refine wl_value rfl (exec_ldslot (i := 1) rfl (by rfl) (by decide) h2) ?_))
    refine (empty_run (R 1) u2).mono ?_
    rintro e u3 ⟨rfl, hB3⟩
    have h3 := h2.kept hB3
    replace hT2 := touch_tr hT2 (touch_of_below hB3)
    clear h2 hB3
    have hg := Hid.mk (goes_tell rfl hW h3 hT2)
    go_wp2_with fail
    exact bodyPost_ret (res_4t rfl (by rfl) (by rfl) (by rfl) (by rfl)) rfl ⟨rfl, hg.out⟩
  have ko := ok.ok 1 (by decide) he
  have hb0 : 0 ≤ (R 1).1.born := ko.b0
  have hb1 : (R 1).1.born ≤ t := ko.b1
  by_cases ho : oldF (max t now) (R 1).1 = true
  · have hs : sealOk ⟨t, c, fun i => (R i).1⟩ now = false := by unfold sealOk; simp [ho]
    obtain ⟨e1, e2⟩ := seal_no (text := text) hs
    rw [e1, e2]
    go_enter Tryz.func10, Tryz.ntmps10
    go_wp2_with fail
    refine (tell_run now h).mono ?_
    rintro e u2 ⟨rfl, h2, o2⟩
    have hT2 : Touch (fun x => x = b) w u2 := touch_only o2
    clear o2 h
    go_wp2_with (first | (refine wl_value rfl (exec_ldslot (i := 1) rfl (by rfl) (by decide) h2) ?_))
    refine (empty_run (R 1) u2).mono ?_
    rintro e u3 ⟨rfl, hB3⟩
    have h3 := h2.kept hB3
    replace hT2 := touch_tr hT2 (touch_of_below hB3)
    clear h2 hB3
    go_wp2_with (first | (refine wl_value rfl (exec_ldslot (i := 1) rfl (by rfl) (by decide) h3) ?_))
    refine (old_run (R 1) h3 hb0 (by omega) hm).mono ?_
    rintro e u4 ⟨rfl, hB4⟩
    have h4 := h3.kept hB4
    replace hT2 := touch_tr hT2 (touch_of_below hB4)
    clear h3 hB4
    have hg := Hid.mk (goes_tell rfl hW h4 hT2)
    go_wp2_with fail
    exact bodyPost_ret (res_4t rfl (by rfl) (by rfl) (by rfl) (by rfl)) rfl ⟨rfl, hg.out⟩
  · have ho' : oldF (max t now) (R 1).1 = false := by simpa using ho
    have hs : sealOk ⟨t, c, fun i => (R i).1⟩ now = true := by unfold sealOk; simp [he, ho']
    obtain ⟨e1, e2⟩ := seal_yes (text := text) hs
    rw [e1, e2]
    clear ho e1 e2 hs
    have hs0 : 0 ≤ (R 1).1.sent := ko.s0
    have hs1 : (R 1).1.sent ≤ 1000 := by have := ko.s1; simp only at this; omega
    have HKS := Hid.mk ko.ks
    clear ko ok
    go_enter Tryz.func10, Tryz.ntmps10
    go_wp2_with fail
    refine (tell_run now h).mono ?_
    rintro e u2 ⟨rfl, h2, o2⟩
    have hT2 : Touch (fun x => x = b) w u2 := touch_only o2
    clear o2 h
    go_wp2_with (first | (refine wl_value rfl (exec_ldslot (i := 1) rfl (by rfl) (by decide) h2) ?_))
    refine (empty_run (R 1) u2).mono ?_
    rintro e u3 ⟨rfl, hB3⟩
    have h3 := h2.kept hB3
    replace hT2 := touch_tr hT2 (touch_of_below hB3)
    clear h2 hB3
    go_wp2_with (first | (refine wl_value rfl (exec_ldslot (i := 1) rfl (by rfl) (by decide) h3) ?_))
    refine (old_run (R 1) h3 hb0 (by omega) hm).mono ?_
    rintro e u4 ⟨rfl, hB4⟩
    have h4 := h3.kept hB4
    replace hT2 := touch_tr hT2 (touch_of_below hB4)
    clear h3 hB4
    have c1 : u4.cell? ⟨b, 140, none⟩ = some (.int .u64 (R 1).1.sent) := h4.cell 1 69 (by omega) (by omega)
    have f1 : u4.frozen? ⟨b, 140, none⟩ = false := frozen_of_row u4 b 140 _ _ h4
    have HT := Hid.mk (And.intro h4.sent ((Only.refl b u4).setCell 140 (.int .u64 ((R 1).1.sent + 1))))
    go_wp2_with fail
    refine wp_gen (fun u => SeAt u b (setG R 1 (kpSent (R 1).1, (R 1).2)) (max t now) c ∧ Only b u4 u) HT.out ?_
    rintro u5 ⟨h5, o5⟩
    have hT5 := touch_tr hT2 (touch_only o5)
    clear c1 f1 HT h4 o5 hT2
    have e1 : setG R 1 (kpSent (R 1).1, (R 1).2) 1 = (kpSent (R 1).1, (R 1).2) := by unfold setG; rw [if_pos rfl]
    have HR : Hid (∀ v, Below u5.heap.size u5 v → v.rangeAt b (71 + 0 + 0) (nums .u8 32 (R 1).1.ks)) := Hid.mk (fun v hv j x hj => by
      obtain ⟨hj2, rfl⟩ := nums_get hj
      have := (h5.kept hv).cell 1 j (by omega) (by omega)
      rw [e1] at this
      rw [show 71 + 0 + 0 + j = 71 * 1 + j by omega, this]
      unfold slR slC
      rw [if_pos hj2]
      rfl)
    have HSE : Hid (∀ v, Calls Tryz.prog 34 #[.agg (WA .u8 32 (R 1).1.ks), .agg (WA .u8 12 (nonN (R 1).1.sent)), .string text, .string ByteArray.empty] v fun e w' => e = .returned (.string (boxT (R 1).1.ks (nonN (R 1).1.sent) text ByteArray.empty)) ∧ Below v.heap.size v w') := Hid.mk (fun v => Seal_run (R 1).1.ks (nonN (R 1).1.sent) text ByteArray.empty v HKS.out nonN_b ht (by show 0 ≤ _; omega))
    go_wp2_with fail
    refine wp_region3 (Below u5.heap.size u5) u5.heap.size
        ([] : List (Nat × Cont))
        [kv (.pointer (some ⟨b, 71, none⟩)), kv (.pointer (some ⟨b, 71, none⟩)), kv (.pointer (some ⟨b, 71 + 0, none⟩)), kv (.pointer (some ⟨b, 71 + 0 + 0, none⟩)), kv (.agg (WA .u8 32 (R 1).1.ks)), kv (.int .u64 (R 1).1.sent), kv (.agg (WA .u8 12 (nonN (R 1).1.sent))), kv (.string text), kv (.string (boxT (R 1).1.ks (nonN (R 1).1.sent) text ByteArray.empty)), kv (.string (boxT (R 1).1.ks (nonN (R 1).1.sent) text ByteArray.empty))]
        [.none, .none, .none, .none, .none, .none, .none, .none, .none, .none]
        [some 49, some 50, some 51, some 52, some 53, some 54, some 55, some 56, some 57, some 12]
        [(10, .pointer (some ⟨b, 71, none⟩)), (11, .int .u64 (R 1).1.sent), (2, .string text)]
        [[], [.slot 0], [.slot 1], [.slot 2], [.slot 3], [], [.slot 5], [], [.slot 4, .slot 6, .slot 7], [.slot 8]]
        [.slot 9] [49, 50, 51, 52, 53, 54, 55, 56, 57, 12]
        rfl (by kernel_rfl) ⟨rfl, rfl, rfl, trivial⟩ (Below.refl _ u5).drew (Nat.le_refl _) trivial trivial (below_G (Nat.le_refl _) trivial)
        ⟨
          (fun Q aq ww own hS hBg fr kn => .inl ⟨trivial, fun K hK => wp_value (exec_move rfl fr.1) (hK _ _ ⟨Touch.refl _ _, rfl⟩)⟩),
          (fun Q aq ww own hS hBg fr kn => .inl ⟨trivial, fun K hK => wp_value (exec_nilc rfl kn.1) (hK _ _ ⟨Touch.refl _ _, rfl⟩)⟩),
          (fun Q aq ww own hS hBg fr kn => .inl ⟨trivial, fun K hK => wp_value (exec_fsl (k := 0) rfl kn.1 (by decide)) (hK _ _ ⟨Touch.refl _ _, rfl⟩)⟩),
          (fun Q aq ww own hS hBg fr kn => .inl ⟨trivial, fun K hK => wp_value (exec_fpa (k := 0) rfl kn.1 (by decide)) (hK _ _ ⟨Touch.refl _ _, rfl⟩)⟩),
          (fun Q aq ww own hS hBg fr kn => .inl ⟨trivial, fun K hK => wp_value (exec_ldmid rfl isArr32 kn.1 (HR.out ww hS)) (hK _ _ ⟨Touch.refl _ _, rfl⟩)⟩),
          (fun Q aq ww own hS hBg fr kn => .inl ⟨trivial, fun K hK => wp_value (exec_move rfl fr.2.1) (hK _ _ ⟨Touch.refl _ _, rfl⟩)⟩),
          (fun Q aq ww own hS hBg fr kn => .inl ⟨trivial, fun K hK => stepc enterNonce9 rfl (args1 kn.1) (Nonce_run _ ww) (fun w' hb => hK _ _ ⟨touch_below hb, rfl⟩)⟩),
          (fun Q aq ww own hS hBg fr kn => .inl ⟨trivial, fun K hK => wp_value (exec_move rfl fr.2.2.1) (hK _ _ ⟨Touch.refl _ _, rfl⟩)⟩),
          (fun Q aq ww own hS hBg fr kn => .inl ⟨trivial, fun K hK => stepc enterSeal9 rfl (args4 kn.1 kn.2.1 kn.2.2.1 rfl) (HSE.out ww) (fun w' hb => hK _ _ ⟨touch_below hb, rfl⟩)⟩),
          (fun Q aq ww own hS hBg fr kn => .inl ⟨trivial, fun K hK => wp_value (exec_assign rfl kn.1) (hK _ _ ⟨Touch.refl _ _, rfl⟩)⟩),
          trivial⟩ ?_
    intro vs own u6 hB6 hsz kn inj
    have e12 : vs 12 = _ := kn.1
    clear kn inj hsz HR HSE HKS
    simp only [putAll, Act.put, List.setIfInBounds_toArray, List.set_cons_zero, List.set_cons_succ, e12]
    have h6 := h5.kept hB6
    have c6 : u6.cell? ⟨b, 136, none⟩ = some (.int .u32 (R 1).1.far) := by have := h6.cell 1 65 (by omega) (by omega); rw [e1] at this; exact this
    have hg := Hid.mk (goes_sent hW he h6 (touch_tr hT5 (touch_of_below hB6)))
    clear h6 h5 hB6 e12 e1
    go_wp2_with fail
    exact bodyPost_ret (res_4t rfl (by rfl) (by rfl) (by rfl) (by rfl)) rfl ⟨rfl, hg.out⟩
end Go.Proofs.YtbkbcfimpaolmaaGreat
/-
  Own text. Package session: Open.
-/
namespace Go.Proofs.YtbkbcfimpaolmaaGreat
open Go.RowKit Go.Proofs
set_option maxRecDepth 100000
theorem res_ttt {fn : Func} {p q r : Tmp} (h : fn.results = #[.tmp p, .tmp q, .tmp r]) {tmps : Array Value} {w : World} {x y z : Value} (hp : tmps.getD p undef = x) (hq : tmps.getD q undef = y) (hr : tmps.getD r undef = z) : (results fn tmps).run Tryz.prog w = .ok (.tuple #[x, y, z]) w := by
  have hp' : tmps[p]?.getD undef = x := by simpa using hp
  have hq' : tmps[q]?.getD undef = y := by simpa using hq
  have hr' : tmps[r]?.getD undef = z := by simpa using hr
  simp [results, h, hp', hq', hr']
theorem at_cases (K : Nat → Kp) (x : Int) : atF K x = -1 ∨ ∃ i : Nat, i < 3 ∧ atF K x = (i : Int) ∧ (K i).ep ≠ 0 ∧ (K i).loc = x := by
  have hl : ∀ i, hasL K x i = true → (K i).ep ≠ 0 ∧ (K i).loc = x := fun i h => by
    unfold hasL at h
    simpa using h
  unfold atF
  by_cases h0 : hasL K x 0 = true
  · rw [if_pos h0]; exact .inr ⟨0, by omega, rfl, hl 0 h0⟩
  · rw [if_neg h0]
    by_cases h1 : hasL K x 1 = true
    · rw [if_pos h1]; exact .inr ⟨1, by omega, rfl, hl 1 h1⟩
    · rw [if_neg h1]
      by_cases h2 : hasL K x 2 = true
      · rw [if_pos h2]; exact .inr ⟨2, by omega, rfl, hl 2 h2⟩
      · rw [if_neg h2]; exact .inl rfl
/-- Some slots are emptied. -/
theorem Wins.emptied {w : World} {b n : Nat} {R R' : Nat → Kp × Option Nat} {U : Nat → Nat → Prop} (h : Wins w b n R U) (hR : ∀ i, i < n → R' i = rz ∨ R' i = R i) : Wins w b n R' U ∧ ∀ k, WinS b n R' U k → WinS b n R U k := by
  refine h.move (fun i => i) (fun i hi he => ?_) (fun i hi he => ?_) (fun i j _ _ hij _ _ => hij)
  · rcases hR i hi with e | e
    · exact e
    · rw [e] at he ⊢; exact h.no i hi he
  · rcases hR i hi with e | e
    · rw [e] at he; exact absurd rfl he
    · rw [e]; exact ⟨hi, rfl, rfl, rfl, rfl⟩
theorem moved_eq {R : Nat → Kp × Option Nat} : movedG rep R rz 1 = R 2 ∧ movedG rep R rz 2 = rz ∧ movedG rep R rz 0 = (if (R 1).1.ep ≠ 0 then R 1 else R 0) := by
  refine ⟨by simp [movedG, setG], by simp [movedG, setG], ?_⟩
  simp only [movedG, setG, show ¬ (0 = 2) by omega, show ¬ (0 = 1) by omega, if_false]
  unfold keepG
  simp only [true_and, rep]
theorem Wins.moved {w : World} {b : Nat} {R : Nat → Kp × Option Nat} {U : Nat → Nat → Prop} (h : Wins w b 3 R U) : Wins w b 3 (movedG rep R rz) U ∧ ∀ k, WinS b 3 (movedG rep R rz) U k → WinS b 3 R U k := by
  obtain ⟨p1, p2, p0⟩ := moved_eq (R := R)
  have three : ∀ i, i < 3 → i = 0 ∨ i = 1 ∨ i = 2 := fun i hi => by omega
  refine h.move (fun i => if i = 1 then 2 else if (R 1).1.ep ≠ 0 then 1 else 0) (fun i hi he => ?_) (fun i hi he => ?_) (fun i j hi hj hij he hf => ?_)
  · rcases three i hi with rfl | rfl | rfl
    · rw [p0] at he ⊢
      by_cases h1 : (R 1).1.ep ≠ 0
      · rw [if_pos h1] at he; exact absurd he h1
      · rw [if_neg h1] at he ⊢; exact h.no 0 (by omega) he
    · rw [p1] at he ⊢; exact h.no 2 (by omega) he
    · rw [p2]
  · rcases three i hi with rfl | rfl | rfl
    · simp only [p0, show ¬ (0 = 1) by omega, if_false]
      by_cases h1 : (R 1).1.ep ≠ 0
      · simp only [if_pos h1]; exact ⟨by omega, by trivial, by trivial, by trivial, by trivial⟩
      · simp only [if_neg h1]; exact ⟨by omega, by trivial, by trivial, by trivial, by trivial⟩
    · simp only [p1, if_true]; exact ⟨by omega, by trivial, by trivial, by trivial, by trivial⟩
    · rw [p2] at he; exact absurd rfl he
  · have hi2 : i ≠ 2 := fun e => by subst e; rw [p2] at he; exact he rfl
    have hj2 : j ≠ 2 := fun e => by subst e; rw [p2] at hf; exact hf rfl
    show (if i = 1 then 2 else if (R 1).1.ep ≠ 0 then 1 else 0) ≠ (if j = 1 then 2 else if (R 1).1.ep ≠ 0 then 1 else 0)
    by_cases hi1 : i = 1
    · rw [if_pos hi1, if_neg (show ¬ j = 1 by omega)]; split <;> omega
    · rw [if_neg hi1, if_pos (show j = 1 by omega)]; split <;> omega
theorem Wins.opened {w : World} {b : Nat} {R : Nat → Kp × Option Nat} {U : Nat → Nat → Prop} (h : Wins w b 3 R U) (i : Nat) : Wins w b 3 (openedR R i) U ∧ ∀ k, WinS b 3 (openedR R i) U k → WinS b 3 R U k := by
  have key : ∀ R2 : Nat → Kp × Option Nat, Wins w b 3 R2 U → Wins w b 3 (setG R2 0 rz) U ∧ ∀ k, WinS b 3 (setG R2 0 rz) U k → WinS b 3 R2 U k := fun R2 h2 =>
    h2.emptied (fun i _ => by unfold setG; by_cases e : i = 0; exact .inl (if_pos e); exact .inr (if_neg e))
  unfold openedR
  by_cases e : i = 2
  · simp only [if_pos e]
    obtain ⟨h1, h2⟩ := h.moved
    split
    · obtain ⟨h3, h4⟩ := key _ h1
      exact ⟨h3, fun k hk => h2 k (h4 k hk)⟩
    · exact ⟨h1, h2⟩
  · simp only [if_neg e]
    split
    · exact key _ h
    · exact ⟨h, fun k hk => hk⟩
theorem opened_map (R : Nat → Kp × Option Nat) (i j : Nat) : (openedR R i j).1 = openedF (fun i => (R i).1) i j := by
  have hm : (fun j => (movedG rep R rz j).1) = movedG Kp.ep (fun i => (R i).1) kp0 := funext (fun j => movedG_map Prod.fst Kp.ep R rz j)
  have hs : ∀ (R2 : Nat → Kp × Option Nat), (setG R2 0 rz j).1 = setG (fun i => (R2 i).1) 0 kp0 j := fun R2 => setG_map Prod.fst R2 0 rz j
  unfold openedR openedF
  by_cases e : i = 2
  · simp only [if_pos e]
    have h1 : (movedG rep R rz 1).1 = movedG Kp.ep (fun i => (R i).1) kp0 1 := congrFun hm 1
    rw [h1]
    split
    · rw [hs, hm]
    · exact congrFun hm j
  · simp only [if_neg e]
    split
    · rw [hs]
    · rfl
theorem opened2_eq (R : Nat → Kp × Option Nat) : openedR (movedG rep R rz) 1 = openedR R 2 := by
  unfold openedR
  simp
theorem opened_run {w : World} {b g i : Nat} {R : Nat → Kp × Option Nat} {t c : Int} {S : Nat → Prop} (hi : i < 3) (h : SeAt w b R t c) (hg : (R i).2 = some g) (hW : Win64 w g 8192 (R i).1.n (R i).1.s S) (hbS : ¬ S b) : Calls Tryz.prog 47 #[.pointer (some ⟨b, 0, none⟩), .int .i64 (i : Int)] w fun e w' => e = .returned (.tuple #[]) ∧ SeAt w' b (openedR R i) t c ∧ Touch (fun x => x = b) w w' := by
  have h3 : i = 0 ∨ i = 1 ∨ i = 2 := by omega
  rcases h3 with rfl | rfl | rfl
  · have e : openedR R 0 = R := by unfold openedR; simp
    rw [e]
    exact opened0_run h
  · exact opened1_run h hg hW
  · rw [← opened2_eq]
    exact opened2_run h hg hW hbS
theorem openS_no {σ : Ses} {now x c : Int} {box : ByteArray} (h : atF σ.K x = -1) : openS σ now x c box = ((ByteArray.empty, 0, 15), ⟨max σ.t now, σ.c, σ.K⟩) := by unfold openS; rw [if_pos h]; rfl
theorem openS_at {σ : Ses} {now x c : Int} {box : ByteArray} {i : Nat} (h : atF σ.K x = (i : Int)) : openS σ now x c box = openAt σ now i c box := by unfold openS; rw [if_neg (by omega), h, Int.toNat_natCast]
theorem openAt_old {σ : Ses} {now c : Int} {i : Nat} {box : ByteArray} (h : oldF (max σ.t now) (σ.K i) = true) : openAt σ now i c box = ((ByteArray.empty, 0, 19), ⟨max σ.t now, σ.c, σ.K⟩) := by
  have e : openE σ now i c = 19 := by unfold openE; rw [if_pos h]
  unfold openAt; rw [e, if_pos (by decide)]; rfl
theorem openAt_rep {σ : Ses} {now c : Int} {i : Nat} {box : ByteArray} (h : oldF (max σ.t now) (σ.K i) = false) (hf : 18446744073709543423 ≤ c ∨ freshD L64 8192 (σ.K i).n (σ.K i).s c = false) : openAt σ now i c box = ((ByteArray.empty, 0, 14), ⟨max σ.t now, σ.c, σ.K⟩) := by
  have e : openE σ now i c = 14 := by unfold openE; rw [if_neg (by rw [h]; simp), if_pos hf]
  unfold openAt; rw [e, if_pos (by decide)]; rfl
theorem openE_ok {σ : Ses} {now c : Int} {i : Nat} (h : oldF (max σ.t now) (σ.K i) = false) (hl : ¬ 18446744073709543423 ≤ c) (hf : freshD L64 8192 (σ.K i).n (σ.K i).s c = true) : openE σ now i c = 0 := by unfold openE; rw [if_neg (by rw [h]; simp), if_neg (by rw [hf]; simp; omega)]
theorem openAt_bad {σ : Ses} {now c : Int} {i : Nat} {box : ByteArray} (h : openE σ now i c = 0) (he : (openT (σ.K i).kr (nonN c) box ByteArray.empty).2 ≠ 0) : openAt σ now i c box = ((ByteArray.empty, 0, (openT (σ.K i).kr (nonN c) box ByteArray.empty).2), ⟨max σ.t now, σ.c, σ.K⟩) := by
  unfold openAt; rw [h, if_neg (by simp), if_pos he]; rfl
theorem openAt_yes {σ : Ses} {now c : Int} {i : Nat} {box : ByteArray} (h : openE σ now i c = 0) (he : (openT (σ.K i).kr (nonN c) box ByteArray.empty).2 = 0) : openAt σ now i c box = (((openT (σ.K i).kr (nonN c) box ByteArray.empty).1, (σ.K i).ep, 0), ⟨max σ.t now, σ.c, openedF (setG σ.K i (kpTook (σ.K i) c)) i⟩) := by
  unfold openAt; rw [h, if_neg (by simp), if_neg (by simpa using he)]
set_option maxHeartbeats 8000000 in
theorem Open_run9 {w : World} {b M : Nat} {σ : Ses} {S : Nat → Prop} (now x c : Int) (box : ByteArray) (h : SesAt w b σ S) (ok : SesOk M σ) (_hM : M ≤ 1000) (hnow : now ≤ 9223372036854775807) (hc : U64 c) (hbx : box.size ≤ 140737488355328) :
    Calls Tryz.prog 23 #[.pointer (some ⟨b, 0, none⟩), .int .i64 now, .int .u32 x, .int .u64 c, .string box] w fun e w' => e = .returned (.tuple #[.string (openS σ now x c box).1.1, .int .i64 (openS σ now x c box).1.2.1, .int .i64 (openS σ now x c box).1.2.2]) ∧ Goes SesAt w b S (openS σ now x c box).2 w' := by
  obtain ⟨R, U, h, hW, hK, rfl⟩ := h
  obtain ⟨t, c', K⟩ := σ
  simp only at h hK
  subst hK
  have hlt := h.lt
  have ht0 : 0 ≤ t := ok.t0
  have ht1 : t ≤ 9223372036854775807 := ok.t1
  have hm : max t now ≤ 9223372036854775807 := by omega
  rcases at_cases (fun i => (R i).1) x with hA | ⟨i, hi, hA, he, hx⟩
  · rw [openS_no hA]
    clear ok
    go_enter Tryz.func23, Tryz.ntmps23
    go_wp2_with fail
    refine (tell_run now h).mono ?_
    rintro e u2 ⟨rfl, h2, o2⟩
    have hT2 : Touch (fun x => x = b) w u2 := touch_only o2
    clear o2 h
    go_wp2_with fail
    refine (find_run x h2).mono ?_
    rintro e u3 ⟨rfl, hB3⟩
    have h3 := h2.kept hB3
    replace hT2 := touch_tr hT2 (touch_of_below hB3)
    clear h2 hB3
    have hg := Hid.mk (goes_tell rfl hW h3 hT2)
    go_wp2_with fail
    exact bodyPost_ret (res_ttt rfl (by rfl) (by rfl) (by rfl)) rfl ⟨rfl, hg.out⟩
  rw [openS_at hA]
  have ko := ok.ok i hi he
  have hb0 : 0 ≤ (R i).1.born := ko.b0
  have hb1 : (R i).1.born ≤ t := ko.b1
  have hN : Nums L64 (R i).1.n (R i).1.s := ko.nums
  have hkr : Byts 32 (R i).1.kr := ko.kr
  clear ko ok hx
  replace he : (R i).1.ep ≠ 0 := he
  by_cases ho : oldF (max t now) (R i).1 = true
  · rw [openAt_old (σ := ⟨t, c', fun i => (R i).1⟩) ho]
    go_enter Tryz.func23, Tryz.ntmps23
    go_wp2_with fail
    refine (tell_run now h).mono ?_
    rintro e u2 ⟨rfl, h2, o2⟩
    have hT2 : Touch (fun x => x = b) w u2 := touch_only o2
    clear o2 h
    go_wp2_with fail
    refine (find_run x h2).mono ?_
    rintro e u3 ⟨rfl, hB3⟩
    have h3 := h2.kept hB3
    replace hT2 := touch_tr hT2 (touch_of_below hB3)
    clear h2 hB3
    rw [hA]
    go_wp2_with (first | (refine wl_value rfl (exec_ix3 rfl (by rfl) (by rfl) hi) ?_) | (refine wl_take h3 hi (by rfl) (by intros; rfl) (by intros; rfl) ?_; intro g u4 hg g4 h4 hB4; refine Hid.out ?_))
    refine Hid.mk ?_
    have hgz : w.heap.size ≤ g := by have := hT2.size; omega
    replace hT2 := touch_tr hT2 (touch_of_below hB4)
    have hgb : g ≠ b := by have := h3.lt; omega
    clear h3 hB4 hg
    go_wp2_with (refine wl_value rfl (look_st rfl isSlot g4 (by rfl)) ?_)
    refine (old_run (R i) h4 hb0 (by omega) hm).mono ?_
    rintro e u5 ⟨rfl, hB5⟩
    have h5 := h4.kept hB5
    have g5 := SAt.kept g4 hB5
    replace hT2 := touch_tr hT2 (touch_of_below hB5)
    clear h4 hB5 g4
    have hg := Hid.mk (goes_tell rfl hW h5 hT2)
    go_wp2_with fail
    exact bodyPost_ret (res_ttt rfl (by rfl) (by rfl) (by rfl)) rfl ⟨rfl, hg.out⟩
  replace ho : oldF (max t now) (R i).1 = false := by simpa using ho
  by_cases hf : 18446744073709543423 ≤ c ∨ freshD L64 8192 (R i).1.n (R i).1.s c = false
  · rw [openAt_rep (σ := ⟨t, c', fun i => (R i).1⟩) ho hf]
    go_enter Tryz.func23, Tryz.ntmps23
    go_wp2_with fail
    refine (tell_run now h).mono ?_
    rintro e u2 ⟨rfl, h2, o2⟩
    have hT2 : Touch (fun x => x = b) w u2 := touch_only o2
    clear o2 h
    go_wp2_with fail
    refine (find_run x h2).mono ?_
    rintro e u3 ⟨rfl, hB3⟩
    have h3 := h2.kept hB3
    replace hT2 := touch_tr hT2 (touch_of_below hB3)
    clear h2 hB3
    rw [hA]
    go_wp2_with (first | (refine wl_value rfl (exec_ix3 rfl (by rfl) (by rfl) hi) ?_) | (refine wl_take h3 hi (by rfl) (by intros; rfl) (by intros; rfl) ?_; intro g u4 hg g4 h4 hB4; refine Hid.out ?_))
    refine Hid.mk ?_
    have hgz : w.heap.size ≤ g := by have := hT2.size; omega
    replace hT2 := touch_tr hT2 (touch_of_below hB4)
    have hgb : g ≠ b := by have := h3.lt; omega
    clear h3 hB4 hg
    go_wp2_with (refine wl_value rfl (look_st rfl isSlot g4 (by rfl)) ?_)
    refine (old_run (R i) h4 hb0 (by omega) hm).mono ?_
    rintro e u5 ⟨rfl, hB5⟩
    have h5 := h4.kept hB5
    have g5 := SAt.kept g4 hB5
    replace hT2 := touch_tr hT2 (touch_of_below hB5)
    clear h4 hB5 g4
    have hW5 := hW.tou hT2
    obtain ⟨gw, hgw, hWi, hnb⟩ := hW5.yes i hi he
    go_wp2_with (refine wl_value rfl (look_st rfl isSlot g5 (by rfl)) ?_)
    refine (sopen_no (R i) box hgw hWi hN hc hf).mono ?_
    rintro e u6 ⟨rfl, hB6⟩
    have hg := Hid.mk (goes_tell rfl hW (h5.kept hB6) (touch_tr hT2 (touch_of_below hB6)))
    go_wp2_with fail
    exact bodyPost_ret (res_ttt rfl (by rfl) (by rfl) (by rfl)) rfl ⟨rfl, hg.out⟩
  have hl : ¬ 18446744073709543423 ≤ c := fun e => hf (.inl e)
  replace hf : freshD L64 8192 (R i).1.n (R i).1.s c = true := by
    cases hh : freshD L64 8192 (R i).1.n (R i).1.s c
    · exact absurd (.inr hh) hf
    · rfl
  have hE := openE_ok (σ := ⟨t, c', fun i => (R i).1⟩) ho hl hf
  by_cases hz : (openT (R i).1.kr (nonN c) box ByteArray.empty).2 = 0
  · rw [openAt_yes hE hz]
    clear hE
    go_enter Tryz.func23, Tryz.ntmps23
    go_wp2_with fail
    refine (tell_run now h).mono ?_
    rintro e u2 ⟨rfl, h2, o2⟩
    have hT2 : Touch (fun x => x = b) w u2 := touch_only o2
    clear o2 h
    go_wp2_with fail
    refine (find_run x h2).mono ?_
    rintro e u3 ⟨rfl, hB3⟩
    have h3 := h2.kept hB3
    replace hT2 := touch_tr hT2 (touch_of_below hB3)
    clear h2 hB3
    rw [hA]
    go_wp2_with (first | (refine wl_value rfl (exec_ix3 rfl (by rfl) (by rfl) hi) ?_) | (refine wl_take h3 hi (by rfl) (by intros; rfl) (by intros; rfl) ?_; intro g u4 hg g4 h4 hB4; refine Hid.out ?_))
    refine Hid.mk ?_
    have hgz : w.heap.size ≤ g := by have := hT2.size; omega
    replace hT2 := touch_tr hT2 (touch_of_below hB4)
    have hgb : g ≠ b := by have := h3.lt; omega
    clear h3 hB4 hg
    go_wp2_with (refine wl_value rfl (look_st rfl isSlot g4 (by rfl)) ?_)
    refine (old_run (R i) h4 hb0 (by omega) hm).mono ?_
    rintro e u5 ⟨rfl, hB5⟩
    have h5 := h4.kept hB5
    have g5 := SAt.kept g4 hB5
    replace hT2 := touch_tr hT2 (touch_of_below hB5)
    clear h4 hB5 g4
    have hW5 := hW.tou hT2
    obtain ⟨gw, hgw, hWi, hnb⟩ := hW5.yes i hi he
    have hgU : ¬ U gw g := fun hh => by have := hW.lt hlt g (.inr ⟨i, gw, hi, he, hgw, hh⟩); omega
    go_wp2_with (refine wl_value rfl (look_st rfl isSlot g5 (by rfl)) ?_)
    refine (sopen_yes (R i) box hgw hWi hN hc (by omega) hf hkr hbx hz).mono ?_
    rintro e u6 ⟨rfl, S', hW6', hT6, hS6'⟩
    rw [hz]
    simp only
    obtain ⟨U', hW6, hS6⟩ := hW5.took h5.lt hi he hgw hW6' hT6 hS6'
    have h6 : SeAt u6 b (setG R i (kpTook (R i).1 c, some gw)) (max t now) c' := by
      refine SeAt.congr (SAt.block h5 (hT6.block b h5.lt hnb)) (fun j hj => ?_) rfl rfl
      by_cases e : j = i
      · subst e
        unfold setG
        rw [if_pos rfl]
        show slC (R j).1 (ptV (R j).2) = slC (kpTook (R j).1 c) (ptV (some gw))
        rw [hgw]
        rfl
      · unfold setG
        rw [if_neg e]
    have ee : setG R i (kpTook (R i).1 c, some gw) i = (kpTook (R i).1 c, some gw) := by unfold setG; rw [if_pos rfl]
    have g6 : SAt u6 g 55 71 (slR (R i)) := SAt.block g5 (hT6.block g (SAt.lt g5) hgU)
    have hlt6 := h6.lt
    obtain ⟨gw', hgw', hWi', hnb'⟩ := hW6.yes i hi (by rw [ee]; exact he)
    have hTS : Touch (WinS b 3 R U) w u6 := touch_tr (hT2.mono (fun _ _ e => .inl e)) (hT6.mono (fun k _ hk => .inr ⟨i, gw, hi, he, hgw, hk⟩))
    have hz6 := hT2.size
    have HG : Hid (∀ u7, SeAt u7 b (openedR (setG R i (kpTook (R i).1 c, some gw)) i) (max t now) c' → Touch (fun x => x = b) u6 u7 → Goes SesAt w b (WinS b 3 R U) ⟨max t now, c', openedF (setG (fun i => (R i).1) i (kpTook (R i).1 c)) i⟩ u7) := Hid.mk (fun u7 h7 hT7 => by
      obtain ⟨q1, q2⟩ := hW6.opened i
      refine ⟨_, ⟨_, U', h7, q1.tou hT7, ?_, rfl⟩, touch_tr hTS (hT7.mono (fun _ _ e => .inl e)), fun k hk => ?_⟩
      · funext j
        rw [opened_map]
        exact congrFun (congrArg (fun f => openedF f i) (funext (fun j => setG_map Prod.fst R i _ j))) j
      · rcases hS6 k (q2 k hk) with hh | hh
        · exact .inl hh
        · exact .inr (Nat.le_trans hz6 hh))
    clear hW6 hS6 hTS hW5 hWi hW6' hT6 hS6' h5 g5 hT2
    go_wp2_with fail
    refine (opened_run hi h6 hgw' hWi' hnb').mono ?_
    rintro e u7 ⟨rfl, h7, hT7⟩
    have hg : Hid (∀ nq, Goes SesAt w b (WinS b 3 R U) ⟨max t now, c', openedF (setG (fun i => (R i).1) i (kpTook (R i).1 c)) i⟩ (u7.drewN nq)) := Hid.mk (fun nq => HG.out (u7.drewN nq) (SAt.block h7 rfl) ⟨hT7.os, hT7.tape, hT7.output, hT7.size, hT7.block⟩)
    have c7 := sl_ep (g6.tou hT7 hgb)
    clear HG h7 hT7 h6 g6 hWi' hgw' hnb'
    go_wp2_with fail
    go_quiet (fail)
    go_wp2_with fail
    exact bodyPost_ret (res_ttt rfl (by rfl) (by rfl) (by rfl)) rfl ⟨rfl, hg.out _⟩
  · rw [openAt_bad hE hz]
    clear hE
    go_enter Tryz.func23, Tryz.ntmps23
    go_wp2_with fail
    refine (tell_run now h).mono ?_
    rintro e u2 ⟨rfl, h2, o2⟩
    have hT2 : Touch (fun x => x = b) w u2 := touch_only o2
    clear o2 h
    go_wp2_with fail
    refine (find_run x h2).mono ?_
    rintro e u3 ⟨rfl, hB3⟩
    have h3 := h2.kept hB3
    replace hT2 := touch_tr hT2 (touch_of_below hB3)
    clear h2 hB3
    rw [hA]
    go_wp2_with (first | (refine wl_value rfl (exec_ix3 rfl (by rfl) (by rfl) hi) ?_) | (refine wl_take h3 hi (by rfl) (by intros; rfl) (by intros; rfl) ?_; intro g u4 hg g4 h4 hB4; refine Hid.out ?_))
    refine Hid.mk ?_
    have hgz : w.heap.size ≤ g := by have := hT2.size; omega
    replace hT2 := touch_tr hT2 (touch_of_below hB4)
    have hgb : g ≠ b := by have := h3.lt; omega
    clear h3 hB4 hg
    go_wp2_with (refine wl_value rfl (look_st rfl isSlot g4 (by rfl)) ?_)
    refine (old_run (R i) h4 hb0 (by omega) hm).mono ?_
    rintro e u5 ⟨rfl, hB5⟩
    have h5 := h4.kept hB5
    have g5 := SAt.kept g4 hB5
    replace hT2 := touch_tr hT2 (touch_of_below hB5)
    clear h4 hB5 g4
    have hW5 := hW.tou hT2
    obtain ⟨gw, hgw, hWi, hnb⟩ := hW5.yes i hi he
    go_wp2_with (refine wl_value rfl (look_st rfl isSlot g5 (by rfl)) ?_)
    refine (sopen_bad (R i) box hgw hWi hN hc (by omega) hf hkr hbx hz).mono ?_
    rintro e u6 ⟨rfl, hB6⟩
    have hg := Hid.mk (goes_tell rfl hW (h5.kept hB6) (touch_tr hT2 (touch_of_below hB6)))
    go_wp2_with fail
    exact bodyPost_ret (res_ttt rfl (by rfl) (by rfl) (by rfl)) rfl ⟨rfl, hg.out⟩
end Go.Proofs.YtbkbcfimpaolmaaGreat
/-
  Own text. Package session: New, Slots, Due, Wants.
-/
namespace Go.Proofs.YtbkbcfimpaolmaaGreat
open Go.RowKit Go.Proofs
set_option maxRecDepth 100000
theorem SesAt.lt {w : World} {b : Nat} {σ : Ses} {S : Nat → Prop} (h : SesAt w b σ S) : ∀ k, S k → k < w.heap.size := by
  obtain ⟨R, U, h1, h2, _, rfl⟩ := h
  exact h2.lt h1.lt
theorem SesAt.self {w : World} {b : Nat} {σ : Ses} {S : Nat → Prop} (h : SesAt w b σ S) : S b := by
  obtain ⟨R, U, h1, h2, _, rfl⟩ := h
  exact .inl rfl
theorem SesAt.same {w w' : World} {b : Nat} {σ : Ses} {S : Nat → Prop} (h : SesAt w b σ S) (hb : ∀ k, S k → w'.heap[k]? = w.heap[k]?) : SesAt w' b σ S := by
  obtain ⟨R, U, h1, h2, h3, rfl⟩ := h
  exact ⟨R, U, SAt.block h1 (hb b (.inl rfl)), h2.same (fun k hk _ => hb k hk), h3, rfl⟩
theorem SesAt.below {w w' : World} {b : Nat} {σ : Ses} {S : Nat → Prop} (h : SesAt w b σ S) (hb : Below w.heap.size w w') : SesAt w' b σ S := h.same (fun k hk => hb.block k (h.lt k hk))
def ses0 : Ses := ⟨0, 0, fun _ => kp0⟩
theorem run_ses0 (w : World) : (Instr.build 58 #[]).run Tryz.prog w = .ok (.agg (SC 215 (seV (fun _ => rz) 0 0))) w := by kernel_rfl
theorem exec_ses0 {a : Act} {o : Oper} {w : World} (ho : o.op = .build 58 #[]) : (execOp a.eval o).run Tryz.prog w = .ok (.value (.agg (SC 215 (seV (fun _ => rz) 0 0)))) w := by
  have h := run_ses0 w
  unfold execOp
  simp only [ho, List.map_toArray, List.map_nil, Sem.run_bind, h, Result.andThen_ok, Sem.run_pure]
theorem ses_new {w : World} {b : Nat} (h : SAt w b 58 215 (seV (fun _ => rz) 0 0)) : SesAt w b ses0 (fun k => k = b) := by
  refine ⟨fun _ => rz, fun _ _ => False, h, ⟨fun _ _ _ => rfl, fun _ _ he => absurd rfl he, fun _ _ _ _ _ _ _ he => absurd rfl he⟩, rfl, ?_⟩
  funext k
  refine propext ⟨fun e => .inl e, fun e => ?_⟩
  rcases e with e | ⟨_, _, _, he, _⟩
  · exact e
  · exact absurd rfl he
set_option maxHeartbeats 2000000 in
theorem New_run9 (w : World) : Calls Tryz.prog 5 #[] w fun e w' => ∃ b, e = .returned (.pointer (some ⟨b, 0, none⟩)) ∧ SesAt w' b ses0 (fun k => k = b) ∧ w.heap.size ≤ b ∧ Below w.heap.size w w' := by
  go_enter Tryz.func5, Tryz.ntmps5
  go_wp2_with (first | (refine wl_value rfl (exec_ses0 rfl) ?_) | (refine wl_boxG isSes (by rfl) ?_; intro g u1 hg g1 hB; refine Hid.out ?_))
  refine Hid.mk ?_
  have hs := Hid.mk (ses_new g1)
  clear g1
  go_wp2_with fail
  go_ret
  exact ⟨g, rfl, hs.out, hg, hB⟩
-- rows of what is told
theorem infoTold : (Tryz.prog.info? 52).map (fun i => (i.zero, i.size, i.bytes)) = some (some (.agg (SC 8 toZ)), 8, 56) := by kernel_rfl
theorem run_bsT (V : Nat → Value) (w : World) : (Instr.buildSlice 49 1 #[(0, .agg (SC 8 V))]).run Tryz.prog w = .ok (.slice (some ⟨w.heap.size, 0, none⟩) 1 1) (w.alloc (.cells (SC 8 V) 52)) := by kernel_rfl
theorem wl_bsT {ops : Array Oper} {rest : List Oper} {d : Option Tmp} {x : Operand} {ty : TypeId} {ps : String} {af : Array Edge} {a : Act} {w : World} {Q : Exit → Act → World → Prop} {V : Nat → Value} (hx : a.eval x = .agg (SC 8 V))
    (h : ∀ g w', w.heap.size ≤ g → SAt w' g 52 8 V → Below w.heap.size w w' → wpList Tryz.prog ops Q rest (a.put d (.slice (some ⟨g, 0, none⟩) 1 1)) w') :
    wpList Tryz.prog ops Q ({ dst := d, op := .buildSlice 49 1 #[(0, x)], type := ty, pos := ps, after := af, guard := none } :: rest) a w := by
  have hr := run_bsT V w
  refine wl_act rfl ?_
  unfold Oper.wp execOp
  simp only [List.map_toArray, List.map_cons, List.map_nil, hx, Sem.run_bind, hr, Result.andThen_ok, Sem.run_pure, Oper.upon]
  exact h _ _ (Nat.le_refl _) (heap_alloc_new w _) ((Below.refl _ _).alloc (Nat.le_refl _) _)
theorem ap_told {ops : Array Oper} {rest : List Oper} {d : Option Tmp} {s x : Operand} {ty : TypeId} {ps : String} {af : Array Edge} {a : Act} {w : World} {Q : Exit → Act → World → Prop}
    {B k b : Nat} {xs : List Value} {v0 : Value} {V : Nat → Value} (hV : ∀ i, (V i).oneCell' = true) (hs : a.eval s = v0) (hx : a.eval x = .slice (some ⟨b, 0, none⟩) 1 1) (hD : w.ownsRow B 52 8 v0 k xs) (hg : SAt w b 52 8 V) (hl : k < 1000) (hB : B ≤ w.heap.size)
    (h : ∀ v' w', w'.ownsRow B 52 8 v' (k + 1) (xs ++ (SC 8 V).toList) → Below B w w' → wpList Tryz.prog ops Q rest (a.put d v') w') :
    wpList Tryz.prog ops Q ({ dst := d, op := .call { callee := .builtin .append, args := #[s, x], argTypes := #[49, 49] }, type := ty, pos := ps, after := af, guard := none } :: rest) a w := by
  obtain ⟨i0, hi, hz0, hz1, hz2⟩ := info_parts infoTold
  refine wpList_append_own w rfl s x 49 rfl B 52 i0 (.agg (SC 8 toZ)) 8 56 Tryz.underlying49 hi hz0 hz1 hz2 (by show (SC 8 toZ).size = 8; rw [SC_size]) (by decide) _ k _ hs hD ⟨b, 0, none⟩ 1 1 (SC 8 V).toList hx (by rw [Array.length_toList, SC_size]) ?_ ?_ ?_ ?_ hB ?_
  · intro j u hj
    have hj2 : j < 8 := by have := (List.getElem?_eq_some_iff.1 hj).1; rwa [Array.length_toList, SC_size] at this
    rw [Addr.add_lit, Nat.zero_add, hg.at j hj2, ← SC_get 8 V j hj2, ← Array.getElem?_toList, hj]
  · intro u hu
    have := (Array.all_eq_true_iff_forall_mem.1 (SC_one (n := 8) hV)) u (by simpa using hu)
    exact this
  · unfold maxLen; omega
  · omega
  · intro v' w1 hown hgrow _
    exact h v' w1 hown (Below.grow hgrow hB (fun q hq => (hD.lt q hq).1))
theorem ownT_kept {w w' : World} {B : Nat} {e : TypeId} {m : Nat} {v : Value} {n : Nat} {xs : List Value} (h : w.ownsRow B e m v n xs) (hb : Below w.heap.size w w') : w'.ownsRow B e m v n xs := by
  obtain ⟨h1, h2⟩ := h
  refine ⟨h1, ?_⟩
  rcases h2 with h2 | ⟨g, cap, cur, rfl, hb1, hg, hr⟩
  · exact .inl h2
  · refine .inr ⟨g, cap, cur, rfl, hb1, ?_, hr⟩
    rw [hb.block g (heap_lt hg)]
    exact hg
/-- The cells of what Slots tells. -/
def toldX (K : Nat → Kp) (l : List Nat) : List Value := l.flatMap (fun i => (SC 8 (toV i (K i))).toList)
theorem toldX_one (K : Nat → Kp) (l : List Nat) (i : Nat) : toldX K (l ++ [i]) = toldX K l ++ (SC 8 (toV i (K i))).toList := by simp [toldX]
theorem slotsL_len (K : Nat → Kp) : ∀ n, (slotsL K n).length ≤ n
  | 0 => Nat.le_refl _
  | n + 1 => by
    have := slotsL_len K n
    unfold slotsL
    rw [List.length_append]
    split <;> simp <;> omega
set_option maxHeartbeats 4000000 in
theorem Slots_run {w : World} {b : Nat} {σ : Ses} {S : Nat → Prop} (h : SesAt w b σ S) : Calls Tryz.prog 11 #[.pointer (some ⟨b, 0, none⟩)] w fun e w' => ∃ vo, e = .returned vo ∧ w'.ownsRow w.heap.size 52 8 vo (slotsL σ.K 3).length (toldX σ.K (slotsL σ.K 3)) ∧ Below w.heap.size w w' := by
  obtain ⟨R, U, h, hW, hK, rfl⟩ := h
  obtain ⟨t, c, K⟩ := σ
  simp only at h hK
  subst hK
  have HL : Hid (∀ n, slotsL (fun i => (R i).1) (n + 1) = slotsL (fun i => (R i).1) n ++ (if (R n).1.ep = 0 then [] else [n])) := Hid.mk (fun n => rfl)
  have HN := Hid.mk (slotsL_len (fun i => (R i).1))
  have H0 : Hid (slotsL (fun i => (R i).1) 0 = []) := Hid.mk rfl
  simp only
  generalize slotsL (fun i => (R i).1) = L at *
  go_enter Tryz.func11, Tryz.ntmps11
  go_wp2_with fail
  go_loopg [3, 8] (3 : Nat) (fun gm s3 s8 v => ∃ k : Nat, gm = 3 - k ∧ k ≤ 3 ∧ s8 = .int .i64 (k : Int) ∧ Hid (v.ownsRow w.heap.size 52 8 s3 (L k).length (toldX (fun i => (R i).1) (L k))) ∧ Below w.heap.size w v)
  case atStart => exact ⟨0, rfl, by omega, rfl, Hid.mk (by rw [H0.out]; exact World.ownsRow_nil _ _ _ 8), Below.refl _ _⟩
  case round =>
    obtain ⟨k, hgm, hk, rfl, HO, hB⟩ := hrel
    by_cases hlt : k < 3
    · have h0 := h.kept hB
      go_wp2_with (first | (refine wl_value rfl (exec_ix3 rfl (by rfl) (by rfl) hlt) ?_) | (refine wl_take h0 hlt (by rfl) (by intros; rfl) (by intros; rfl) ?_; intro g u1 hg g1 h1 hB1; refine Hid.out ?_))
      refine Hid.mk ?_
      go_wp2_with (refine wl_value rfl (look_st rfl isSlot g1 (by rfl)) ?_)
      refine (empty_run (R k) u1).mono ?_
      rintro e u2 ⟨rfl, hB2⟩
      have g2 := SAt.kept g1 hB2
      have HO2 := Hid.mk (ownT_kept (ownT_kept HO.out hB1) hB2)
      replace hB := hB.trans ((hB1.trans (hB2.mono hB1.size)).mono hB.size)
      clear g1 h1 hB1 hB2 h0 HO
      by_cases he : (R k).1.ep = 0
      · have HE : Hid (L (k + 1) = L k) := Hid.mk (by rw [HL.out k, if_pos he, List.append_nil])
        go_wp2_with fail
        go_roundg (3 - (k + 1))
        case rel => exact ⟨k + 1, rfl, by omega, by go_num, Hid.mk (by rw [HE.out]; exact HO2.out), hB⟩
        case measure => omega
      · have HE : Hid (L (k + 1) = L k ++ [k]) := Hid.mk (by rw [HL.out k, if_neg he])
        obtain ⟨gw, hgw, hWi, _⟩ := (hW.below hB).yes k hlt he
        go_wp2_with (refine wl_value rfl (look_st rfl isSlot g2 (by rfl)) ?_)
        refine (told_run k (R k) hgw hWi).mono ?_
        rintro e u3 ⟨rfl, hB3⟩
        have HO3 := Hid.mk (ownT_kept HO2.out hB3)
        replace hB := hB.trans (hB3.mono hB.size)
        clear HO2 hB3 g2 hWi hgw he
        go_wp2_with (refine wl_bsT (by rfl) ?_; intro g3 u4 hg3 g4 hB4; refine Hid.out ?_)
        refine Hid.mk ?_
        have hO4 := ownT_kept HO3.out hB4
        replace hB := hB.trans (hB4.mono hB.size)
        have hsz := hB.size
        have hlen := HN.out k
        clear HO3 hB4
        go_wp2_with (at_builtin; refine ap_told (toV_one k (R k).1) (by rfl) (by rfl) hO4 g4 (by omega) hsz ?_; intro v5 u5 hO5 hB5; refine Hid.out ?_)
        refine Hid.mk ?_
        have HO6 : Hid (u5.ownsRow w.heap.size 52 8 v5 (L (k + 1)).length (toldX (fun i => (R i).1) (L (k + 1)))) := Hid.mk (by rw [HE.out, toldX_one, List.length_append]; exact hO5)
        replace hB := hB.trans hB5
        clear hO4 g4 hO5 hB5 HE
        go_wp2_with fail
        go_roundg (3 - (k + 1))
        case rel => exact ⟨k + 1, rfl, by omega, by go_num, HO6, hB⟩
        case measure => omega
    · obtain rfl : k = 3 := by omega
      go_wp2_with fail
      go_ret
      exact ⟨_, rfl, HO.out, hB⟩
theorem dueF_range {K : Nat → Kp} (hb : ∀ i, i < 3 → 0 ≤ (K i).born ∧ (K i).born ≤ 4611686018427387904) : ∀ n, n ≤ 3 → -1 ≤ dueF K n ∧ dueF K n ≤ 4611686018427567904 ∧ (dueF K n < 0 → dueF K n = -1)
  | 0, _ => ⟨by unfold dueF; omega, by unfold dueF; omega, fun _ => rfl⟩
  | n + 1, hn => by
    have ih := dueF_range hb n (by omega)
    have := hb n (by omega)
    unfold dueF
    split <;> omega
set_option maxHeartbeats 4000000 in
theorem Due_run {w : World} {b : Nat} {σ : Ses} {S : Nat → Prop} (h : SesAt w b σ S) (hb : ∀ i, i < 3 → 0 ≤ (σ.K i).born ∧ (σ.K i).born ≤ 4611686018427387904) : Calls Tryz.prog 26 #[.pointer (some ⟨b, 0, none⟩)] w fun e w' => e = .returned (.int .i64 (dueF σ.K 3)) ∧ Below w.heap.size w w' := by
  obtain ⟨R, U, h, hW, hK, rfl⟩ := h
  obtain ⟨t, c, K⟩ := σ
  simp only at h hK hb
  subst hK
  have HL : Hid (∀ n, dueF (fun i => (R i).1) (n + 1) = if (R n).1.ep ≠ 0 ∧ (dueF (fun i => (R i).1) n = -1 ∨ (R n).1.born + 180000 < dueF (fun i => (R i).1) n) then (R n).1.born + 180000 else dueF (fun i => (R i).1) n) := Hid.mk (fun n => rfl)
  have HN := Hid.mk (dueF_range (K := fun i => (R i).1) hb)
  have H0 : Hid (dueF (fun i => (R i).1) 0 = -1) := Hid.mk rfl
  have HD : Hid (∀ k, dueS (R k).1 = if (R k).1.ep = 0 then -1 else (R k).1.born + 180000) := Hid.mk (fun k => rfl)
  simp only
  generalize dueF (fun i => (R i).1) = D at *
  go_enter Tryz.func26, Tryz.ntmps26
  go_wp2_with fail
  go_loopg [3, 8] (3 : Nat) (fun gm s3 s8 v => ∃ k : Nat, gm = 3 - k ∧ k ≤ 3 ∧ s8 = .int .i64 (k : Int) ∧ s3 = .int .i64 (D k) ∧ Below w.heap.size w v)
  case atStart => exact ⟨0, rfl, by omega, rfl, by rw [H0.out], Below.refl _ _⟩
  case round =>
    obtain ⟨k, hgm, hk, rfl, rfl, hB⟩ := hrel
    obtain ⟨d1, d2, d3⟩ := HN.out k hk
    by_cases hlt : k < 3
    · have h0 := h.kept hB
      go_wp2_with (first | (refine wl_value rfl (exec_ix3 rfl (by rfl) (by rfl) hlt) ?_) | (refine wl_value rfl (exec_ldslot rfl (by rfl) hlt h0) ?_))
      refine (due_run (R k) wr (hb k hlt).1 (by have := (hb k hlt).2; omega)).mono ?_
      rintro e u2 ⟨rfl, hB2⟩
      replace hB := hB.trans (hB2.mono hB.size)
      have hbk := hb k hlt
      have HLk := HL.out k
      have HDk := HD.out k
      clear hB2 h0
      by_cases he : (R k).1.ep = 0
      · rw [if_pos he] at HDk
        have HE : Hid (D (k + 1) = D k) := Hid.mk (by rw [HLk, if_neg (fun e => e.1 he)])
        clear HLk
        rw [HDk]
        generalize hDk : D k = dk at *
        by_cases hd : dk = -1
        · subst hd
          go_wp2_with fail
          go_roundg (3 - (k + 1))
          case rel => exact ⟨k + 1, rfl, by omega, by go_num, by rw [HE.out], hB⟩
          case measure => omega
        · go_wp2_with fail
          go_roundg (3 - (k + 1))
          case rel => exact ⟨k + 1, rfl, by omega, by go_num, by rw [HE.out], hB⟩
          case measure => omega
      · rw [if_neg he] at HDk
        rw [HDk]
        generalize hDk : D k = dk at *
        generalize (R k).1.born = bo at *
        by_cases hd : dk = -1
        · have HE : Hid (D (k + 1) = bo + 180000) := Hid.mk (by rw [HLk, if_pos ⟨he, .inl hd⟩])
          clear HLk
          subst hd
          go_wp2_with fail
          go_roundg (3 - (k + 1))
          case rel => exact ⟨k + 1, rfl, by omega, by go_num, by rw [HE.out], hB⟩
          case measure => omega
        · have hne : (bo + 180000 != -1) = true := bne_iff_ne.2 (by omega)
          have hde : (dk == -1) = false := beq_eq_false_iff_ne.2 hd
          by_cases hl : bo + 180000 < dk
          · have HE : Hid (D (k + 1) = bo + 180000) := Hid.mk (by rw [HLk, if_pos ⟨he, .inr hl⟩])
            clear HLk
            go_wp2_with fail
            go_roundg (3 - (k + 1))
            case rel => exact ⟨k + 1, rfl, by omega, by go_num, by rw [HE.out], hB⟩
            case measure => omega
          · have HE : Hid (D (k + 1) = dk) := Hid.mk (by rw [HLk, if_neg (fun e => e.2.elim hd hl)])
            clear HLk
            go_wp2_with fail
            go_roundg (3 - (k + 1))
            case rel => exact ⟨k + 1, rfl, by omega, by go_num, by rw [HE.out], hB⟩
            case measure => omega
    · obtain rfl : k = 3 := by omega
      go_wp2_with fail
      go_ret
      exact ⟨rfl, hB⟩
end Go.Proofs.YtbkbcfimpaolmaaGreat
/-
  Own text. Package session: Wants, Expire, Close.
-/
namespace Go.Proofs.YtbkbcfimpaolmaaGreat
open Go.RowKit Go.Proofs
set_option maxRecDepth 100000
set_option maxHeartbeats 8000000 in
theorem Wants_run {w : World} {b M : Nat} {σ : Ses} {S : Nat → Prop} (now : Int) (sent : Bool) (h : SesAt w b σ S) (ok : SesOk M σ) (hM : M ≤ 1000) (hnow : now ≤ 9223372036854775807) :
    Calls Tryz.prog 14 #[.pointer (some ⟨b, 0, none⟩), .int .i64 now, .bool sent] w fun e w' => e = .returned (.bool (wantsF σ now sent)) ∧ Goes SesAt w b S (tellS σ now) w' := by
  obtain ⟨R, U, h, hW, hK, rfl⟩ := h
  obtain ⟨t, c, K⟩ := σ
  simp only at h hK
  subst hK
  have hlt := h.lt
  have ht0 : 0 ≤ t := ok.t0
  have ht1 : t ≤ 9223372036854775807 := ok.t1
  have hm : max t now ≤ 9223372036854775807 := by omega
  show Calls _ _ _ _ fun e w' => e = .returned (.bool (wantsF ⟨t, c, fun i => (R i).1⟩ now sent)) ∧ Goes SesAt w b (WinS b 3 R U) ⟨max t now, c, fun i => (R i).1⟩ w'
  by_cases he : (R 1).1.ep = 0
  · have hs : wantsF ⟨t, c, fun i => (R i).1⟩ now sent = sent := by unfold wantsF; rw [if_pos he]
    rw [hs]
    go_enter Tryz.func14, Tryz.ntmps14
    go_wp2_with fail
    refine (tell_run now h).mono ?_
    rintro e u2 ⟨rfl, h2, o2⟩
    have hT2 : Touch (fun x => x = b) w u2 := touch_only o2
    clear o2 h
    go_wp2_with (first | (refine wl_value rfl (exec_ix3 (i := 1) rfl (by rfl) (by rfl) (by decide)) ?_) | (refine wl_take (i := 1) h2 (by decide) (by rfl) (by intros; rfl) (by intros; rfl) ?_; intro g u3 hg g3 h3 hB3; refine Hid.out ?_))
    refine Hid.mk ?_
    replace hT2 := touch_tr hT2 (touch_of_below hB3)
    clear h2 hB3 hg
    go_wp2_with (refine wl_value rfl (look_st rfl isSlot g3 (by rfl)) ?_)
    refine (empty_run (R 1) u3).mono ?_
    rintro e u4 ⟨rfl, hB4⟩
    have h4 := h3.kept hB4
    have g4 := SAt.kept g3 hB4
    replace hT2 := touch_tr hT2 (touch_of_below hB4)
    clear h3 hB4 g3
    have hg := Hid.mk (goes_tell rfl hW h4 hT2)
    go_wp2_with fail
    go_ret
    exact ⟨rfl, hg.out⟩
  have ko := ok.ok 1 (by decide) he
  have hb0 : 0 ≤ (R 1).1.born := ko.b0
  have hb1 : (R 1).1.born ≤ t := ko.b1
  have hs0 : 0 ≤ (R 1).1.sent := ko.s0
  have hs1 : (R 1).1.sent ≤ 1000 := by have := ko.s1; simp only at this; omega
  clear ko ok
  cases hf : (R 1).1.fst
  · have hs : wantsF ⟨t, c, fun i => (R i).1⟩ now sent = false := by unfold wantsF; rw [if_neg he, if_pos hf]
    rw [hs]
    go_enter Tryz.func14, Tryz.ntmps14
    go_wp2_with fail
    refine (tell_run now h).mono ?_
    rintro e u2 ⟨rfl, h2, o2⟩
    have hT2 : Touch (fun x => x = b) w u2 := touch_only o2
    clear o2 h
    go_wp2_with (first | (refine wl_value rfl (exec_ix3 (i := 1) rfl (by rfl) (by rfl) (by decide)) ?_) | (refine wl_take (i := 1) h2 (by decide) (by rfl) (by intros; rfl) (by intros; rfl) ?_; intro g u3 hg g3 h3 hB3; refine Hid.out ?_))
    refine Hid.mk ?_
    replace hT2 := touch_tr hT2 (touch_of_below hB3)
    clear h2 hB3 hg
    go_wp2_with (refine wl_value rfl (look_st rfl isSlot g3 (by rfl)) ?_)
    refine (empty_run (R 1) u3).mono ?_
    rintro e u4 ⟨rfl, hB4⟩
    have h4 := h3.kept hB4
    have g4 := SAt.kept g3 hB4
    replace hT2 := touch_tr hT2 (touch_of_below hB4)
    clear h3 hB4 g3
    have c4 := sl_fst g4
    rw [hf] at c4
    have hg := Hid.mk (goes_tell rfl hW h4 hT2)
    go_wp2_with fail
    go_ret
    exact ⟨rfl, hg.out⟩
  · cases sent
    · have hs : wantsF ⟨t, c, fun i => (R i).1⟩ now false = decide (165000 ≤ max t now - (R 1).1.born) := by unfold wantsF; rw [if_neg he, if_neg (by simp [hf]), if_neg (by simp)]
      rw [hs]
      go_enter Tryz.func14, Tryz.ntmps14
      go_wp2_with fail
      refine (tell_run now h).mono ?_
      rintro e u2 ⟨rfl, h2, o2⟩
      have hT2 : Touch (fun x => x = b) w u2 := touch_only o2
      clear o2 h
      go_wp2_with (first | (refine wl_value rfl (exec_ix3 (i := 1) rfl (by rfl) (by rfl) (by decide)) ?_) | (refine wl_take (i := 1) h2 (by decide) (by rfl) (by intros; rfl) (by intros; rfl) ?_; intro g u3 hg g3 h3 hB3; refine Hid.out ?_))
      refine Hid.mk ?_
      replace hT2 := touch_tr hT2 (touch_of_below hB3)
      clear h2 hB3 hg
      go_wp2_with (refine wl_value rfl (look_st rfl isSlot g3 (by rfl)) ?_)
      refine (empty_run (R 1) u3).mono ?_
      rintro e u4 ⟨rfl, hB4⟩
      have h4 := h3.kept hB4
      have g4 := SAt.kept g3 hB4
      replace hT2 := touch_tr hT2 (touch_of_below hB4)
      clear h3 hB4 g3
      have c4 := sl_fst g4
      rw [hf] at c4
      go_wp2_with (refine wl_value rfl (look_st rfl isSlot g4 (by rfl)) ?_)
      refine (age_run (R 1) h4 hb0 (by omega) hm).mono ?_
      rintro e u5 ⟨rfl, hB5⟩
      have c5 := sl_sent (SAt.kept g4 hB5)
      have hg := Hid.mk (goes_tell rfl hW (h4.kept hB5) (touch_tr hT2 (touch_of_below hB5)))
      clear c4
      go_wp2_with fail
      go_ret
      exact ⟨rfl, hg.out⟩
    · have hs : wantsF ⟨t, c, fun i => (R i).1⟩ now true = decide (120000 ≤ max t now - (R 1).1.born) := by unfold wantsF; rw [if_neg he, if_neg (by simp [hf]), if_pos rfl]
      rw [hs]
      by_cases hd : 120000 ≤ max t now - (R 1).1.born
      · rw [decide_eq_true hd]
        go_enter Tryz.func14, Tryz.ntmps14
        go_wp2_with fail
        refine (tell_run now h).mono ?_
        rintro e u2 ⟨rfl, h2, o2⟩
        have hT2 : Touch (fun x => x = b) w u2 := touch_only o2
        clear o2 h
        go_wp2_with (first | (refine wl_value rfl (exec_ix3 (i := 1) rfl (by rfl) (by rfl) (by decide)) ?_) | (refine wl_take (i := 1) h2 (by decide) (by rfl) (by intros; rfl) (by intros; rfl) ?_; intro g u3 hg g3 h3 hB3; refine Hid.out ?_))
        refine Hid.mk ?_
        replace hT2 := touch_tr hT2 (touch_of_below hB3)
        clear h2 hB3 hg
        go_wp2_with (refine wl_value rfl (look_st rfl isSlot g3 (by rfl)) ?_)
        refine (empty_run (R 1) u3).mono ?_
        rintro e u4 ⟨rfl, hB4⟩
        have h4 := h3.kept hB4
        have g4 := SAt.kept g3 hB4
        replace hT2 := touch_tr hT2 (touch_of_below hB4)
        clear h3 hB4 g3
        have c4 := sl_fst g4
        rw [hf] at c4
        go_wp2_with (refine wl_value rfl (look_st rfl isSlot g4 (by rfl)) ?_)
        refine (age_run (R 1) h4 hb0 (by omega) hm).mono ?_
        rintro e u5 ⟨rfl, hB5⟩
        have c5 := sl_sent (SAt.kept g4 hB5)
        have hg := Hid.mk (goes_tell rfl hW (h4.kept hB5) (touch_tr hT2 (touch_of_below hB5)))
        clear c4
        go_wp2_with fail
        go_ret
        exact ⟨rfl, hg.out⟩
      · rw [decide_eq_false hd]
        have hdd : decide (120000 ≤ max t now - (R 1).1.born) = false := decide_eq_false hd
        have hsd : decide (1152921504606846976 ≤ (R 1).1.sent) = false := decide_eq_false (by omega)
        go_enter Tryz.func14, Tryz.ntmps14
        go_wp2_with fail
        refine (tell_run now h).mono ?_
        rintro e u2 ⟨rfl, h2, o2⟩
        have hT2 : Touch (fun x => x = b) w u2 := touch_only o2
        clear o2 h
        go_wp2_with (first | (refine wl_value rfl (exec_ix3 (i := 1) rfl (by rfl) (by rfl) (by decide)) ?_) | (refine wl_take (i := 1) h2 (by decide) (by rfl) (by intros; rfl) (by intros; rfl) ?_; intro g u3 hg g3 h3 hB3; refine Hid.out ?_))
        refine Hid.mk ?_
        replace hT2 := touch_tr hT2 (touch_of_below hB3)
        clear h2 hB3 hg
        go_wp2_with (refine wl_value rfl (look_st rfl isSlot g3 (by rfl)) ?_)
        refine (empty_run (R 1) u3).mono ?_
        rintro e u4 ⟨rfl, hB4⟩
        have h4 := h3.kept hB4
        have g4 := SAt.kept g3 hB4
        replace hT2 := touch_tr hT2 (touch_of_below hB4)
        clear h3 hB4 g3
        have c4 := sl_fst g4
        rw [hf] at c4
        go_wp2_with (refine wl_value rfl (look_st rfl isSlot g4 (by rfl)) ?_)
        refine (age_run (R 1) h4 hb0 (by omega) hm).mono ?_
        rintro e u5 ⟨rfl, hB5⟩
        have c5 := sl_sent (SAt.kept g4 hB5)
        have hg := Hid.mk (goes_tell rfl hW (h4.kept hB5) (touch_tr hT2 (touch_of_below hB5)))
        clear c4
        go_wp2_with fail
        go_ret
        exact ⟨rfl, hg.out⟩
-- what is dropped
def dropR (p : Kp → Bool) (R : Nat → Kp × Option Nat) (m i : Nat) : Kp × Option Nat := if i < m ∧ goesF p (R i).1 = true then rz else R i
theorem dropR_self {p : Kp → Bool} {R : Nat → Kp × Option Nat} (k : Nat) : dropR p R k k = R k := by unfold dropR; rw [if_neg (by omega)]
theorem dropR_no {p : Kp → Bool} {R : Nat → Kp × Option Nat} {k : Nat} (h : goesF p (R k).1 = false) : dropR p R (k + 1) = dropR p R k := by
  funext i
  unfold dropR
  by_cases e : i = k
  · subst e; rw [if_neg (by rw [h]; simp), if_neg (by rw [h]; simp)]
  · have : (i < k + 1 ∧ goesF p (R i).1 = true) ↔ (i < k ∧ goesF p (R i).1 = true) := ⟨fun q => ⟨by omega, q.2⟩, fun q => ⟨by omega, q.2⟩⟩
    simp only [this]
theorem dropR_yes {p : Kp → Bool} {R : Nat → Kp × Option Nat} {k : Nat} (h : goesF p (R k).1 = true) : dropR p R (k + 1) = setG (dropR p R k) k rz := by
  funext i
  unfold setG
  by_cases e : i = k
  · subst e; rw [if_pos rfl]; unfold dropR; rw [if_pos ⟨by omega, h⟩]
  · rw [if_neg e]
    unfold dropR
    have : (i < k + 1 ∧ goesF p (R i).1 = true) ↔ (i < k ∧ goesF p (R i).1 = true) := ⟨fun q => ⟨by omega, q.2⟩, fun q => ⟨by omega, q.2⟩⟩
    simp only [this]
theorem dropL_len (p : Kp → Bool) (K : Nat → Kp) : ∀ n, (dropL p K n).length ≤ n
  | 0 => Nat.le_refl _
  | n + 1 => by
    have := dropL_len p K n
    unfold dropL
    rw [List.length_append]
    split <;> simp <;> omega
theorem infoU32s : (Tryz.prog.info? 28).map (fun i => (i.zero, i.size, i.bytes)) = some (some (.int .u32 0), 1, 4) := by kernel_rfl
/-- The cells of a list of numbers of 32 bits. -/
def u32X (l : List Int) : List Value := nums .u32 l.length (fun j => l.getD j 0)
theorem u32X_one (l : List Int) (x : Int) : nums .u32 (l.length + 1) (cat l.length (fun j => l.getD j 0) (fun _ => x)) = u32X (l ++ [x]) := by
  unfold u32X
  rw [List.length_append, List.length_singleton]
  refine nums_congr (fun j hj => ?_)
  unfold cat
  rw [List.getD_eq_getElem?_getD, List.getElem?_append]
  by_cases e : j < l.length
  · rw [if_pos e, if_pos e]
    exact List.getD_eq_getElem?_getD
  · obtain rfl : j = l.length := by omega
    rw [if_neg e, if_neg e]
    simp
theorem own_tou {w w' : World} {B b : Nat} {e : TypeId} {v : Value} {n : Nat} {xs : List Value} (h : w.ownsRow B e 1 v n xs) (o : Only b w w') (hb : b < B) : w'.ownsRow B e 1 v n xs := by
  obtain ⟨h1, h2⟩ := h
  refine ⟨h1, ?_⟩
  rcases h2 with h2 | ⟨g, cap, cur, rfl, hb1, hg, hr⟩
  · exact .inl h2
  · refine .inr ⟨g, cap, cur, rfl, hb1, ?_, hr⟩
    rw [o.block g (by omega)]
    exact hg
theorem goes_drop {w w' : World} {b : Nat} {R : Nat → Kp × Option Nat} {U : Nat → Nat → Prop} {p : Kp → Bool} {t' c : Int} (hW : Wins w b 3 R U) (h : SeAt w' b (dropR p R 3) t' c) (hT : Touch (fun x => x = b) w w') : Goes SesAt w b (WinS b 3 R U) ⟨t', c, dropK p (fun i => (R i).1) 3⟩ w' := by
  obtain ⟨h1, h2⟩ := hW.emptied (R' := dropR p R 3) (fun i _ => by unfold dropR; split; exact .inl rfl; exact .inr rfl)
  refine ⟨_, ⟨_, U, h, h1.tou hT, ?_, rfl⟩, hT.mono (fun _ _ e => .inl e), fun k hk => .inl (h2 k hk)⟩
  funext i
  unfold dropR dropK
  by_cases e : i < 3 ∧ goesF p (R i).1 = true
  · simp only [if_pos e]; rfl
  · simp only [if_neg e]
theorem close1_run (r : Kp × Option Nat) (w : World) : Calls Tryz.prog 42 #[.agg (SC 71 (slR r))] w fun e w' => e = .returned (.bool true) ∧ Below w.heap.size w w' := by
  go_enter Tryz.func42, Tryz.ntmps42
  go_wp2_with (refine wl_box (by rfl) ?_; intro g u1 hg g1 hB1; refine Hid.out ?_)
  refine Hid.mk ?_
  go_wp2_with fail
  go_ret
  exact ⟨rfl, hB1⟩
set_option maxHeartbeats 2000000 in
theorem expire1_run {w : World} {b q : Nat} {R : Nat → Kp × Option Nat} {t c : Int} (r : Kp × Option Nat) (h : SeAt w b R t c) (hq : w.cell? ⟨q, 0, none⟩ = some (.pointer (some ⟨b, 0, none⟩))) (h0 : 0 ≤ r.1.born) (h1 : r.1.born ≤ t) (h2 : t ≤ 9223372036854775807) : Calls Tryz.prog 41 #[.agg (SC 71 (slR r)), .pointer (some ⟨q, 0, none⟩)] w fun e w' => e = .returned (.bool (oldF t r.1)) ∧ Below w.heap.size w w' := by
  go_enter Tryz.func41, Tryz.ntmps41
  go_wp2_with (refine wl_box (by rfl) ?_; intro g u1 hg g1 hB1; refine Hid.out ?_)
  refine Hid.mk ?_
  have c1 : u1.cell? ⟨q, 0, none⟩ = some (.pointer (some ⟨b, 0, none⟩)) := by rw [hB1.cell (p := ⟨q, 0, none⟩) (World.block_lt_of_cell? _ _ hq)]; exact hq
  go_wp2_with (refine wl_value rfl (look_st rfl isSlot g1 (by rfl)) ?_)
  refine (old_run r (h.kept hB1) h0 h1 h2).mono ?_
  rintro e u2 ⟨rfl, hB2⟩
  go_wp2_with fail
  go_ret
  exact ⟨rfl, hB1.trans (hB2.mono hB1.size)⟩
set_option maxHeartbeats 8000000 in
theorem dropC_run {w : World} {b : Nat} {R : Nat → Kp × Option Nat} {t c : Int} (h : SeAt w b R t c) : Calls Tryz.prog 40 #[.pointer (some ⟨b, 0, none⟩), .func (.func 42) #[] #[]] w fun e w' => ∃ vo, e = .returned vo ∧ w'.ownsRow w.heap.size 28 1 vo (dropL (fun _ => true) (fun i => (R i).1) 3).length (u32X (dropL (fun _ => true) (fun i => (R i).1) 3)) ∧ SeAt w' b (dropR (fun _ => true) R 3) t c ∧ Touch (fun x => x = b) w w' := by
  have HL : Hid (∀ n, dropL (fun _ => true) (fun i => (R i).1) (n + 1) = dropL (fun _ => true) (fun i => (R i).1) n ++ (if goesF (fun _ => true) (R n).1 = true then [(R n).1.loc] else [])) := Hid.mk (fun n => rfl)
  have HN := Hid.mk (dropL_len (fun _ => true) (fun i => (R i).1))
  have H0 : Hid (dropL (fun _ => true) (fun i => (R i).1) 0 = []) := Hid.mk rfl
  have H1 : Hid (dropR (fun _ => true) R 0 = R) := Hid.mk (by funext i; unfold dropR; rw [if_neg (by omega)])
  have HSelf := Hid.mk (fun k => dropR_self (p := fun _ => true) (R := R) k)
  have HNo := Hid.mk (fun k => dropR_no (p := fun _ => true) (R := R) (k := k))
  have HYes := Hid.mk (fun k => dropR_yes (p := fun _ => true) (R := R) (k := k))
  have HGF : Hid (∀ k, goesF (fun _ => true) (R k).1 = (!decide ((R k).1.ep = 0) && (fun _ => true) (R k).1)) := Hid.mk (fun k => rfl)
  have hlt := h.lt
  generalize dropL (fun _ => true) (fun i => (R i).1) = L at *
  generalize dropR (fun _ => true) R = DR at *
  go_enter Tryz.func40, Tryz.ntmps40
  go_wp2_with fail
  go_loopg [5, 8] (3 : Nat) (fun gm s5 s8 v => ∃ k : Nat, gm = 3 - k ∧ k ≤ 3 ∧ s8 = .int .i64 (k : Int) ∧ Hid (v.ownsRow w.heap.size 28 1 s5 (L k).length (u32X (L k)) ∧ SeAt v b (DR k) t c ∧ Touch (fun x => x = b) w v))
  case atStart => exact ⟨0, rfl, by omega, rfl, Hid.mk ⟨by rw [H0.out]; exact World.ownsRow_nil _ _ _ 1, by rw [H1.out]; exact h, Touch.refl _ _⟩⟩
  case round =>
    obtain ⟨k, hgm, hk, rfl, HI⟩ := hrel
    by_cases hlt3 : k < 3
    · have h0 := HI.out.2.1
      have HO0 := Hid.mk HI.out.1
      have hT0 := HI.out.2.2
      clear HI
      go_wp2_with (first | (refine wl_value rfl (exec_ix3 rfl (by rfl) (by rfl) hlt3) ?_) | (refine wl_take h0 hlt3 (by rfl) (by intros; rfl) (by intros; rfl) ?_; intro g u1 hg g1 h1 hB1; refine Hid.out ?_))
      refine Hid.mk ?_
      rw [HSelf.out k] at g1 ⊢
      go_wp2_with (refine wl_value rfl (look_st rfl isSlot g1 (by rfl)) ?_)
      refine (empty_run (R k) u1).mono ?_
      rintro e u2 ⟨rfl, hB2⟩
      have g2 := SAt.kept g1 hB2
      have h2 := h1.kept hB2
      have HO2 := Hid.mk (own_kept (own_kept HO0.out hB1) hB2)
      have hT2 := touch_tr (touch_tr hT0 (touch_of_below hB1)) (touch_of_below hB2)
      have hgz : w.heap.size ≤ g := by have := hT0.size; omega
      clear g1 h1 hB1 hB2 h0 HO0 hT0 hg
      by_cases he : (R k).1.ep = 0
      · have hgo : goesF (fun _ => true) (R k).1 = false := by rw [HGF.out k, he]; rfl
        have HE : Hid (L (k + 1) = L k) := Hid.mk (by rw [HL.out k, hgo]; simp)
        have HF : Hid (DR (k + 1) = DR k) := Hid.mk (HNo.out k hgo)
        have HX := Hid.mk (And.intro HO2.out (And.intro h2 hT2))
        clear hgo h2 HO2 hT2 g2
        go_wp2_with fail
        go_roundg (3 - (k + 1))
        case rel => exact ⟨k + 1, rfl, by omega, by go_num, Hid.mk (by rw [HE.out, HF.out]; exact HX.out)⟩
        case measure => omega

      go_wp2_with (refine wl_value rfl (look_st rfl isSlot g2 (by rfl)) ?_)
      refine (close1_run (R k) u2).mono ?_
      rintro e u3 ⟨rfl, hB3⟩
      have g3 := SAt.kept g2 hB3
      have h3 := h2.kept hB3
      have HO3 := Hid.mk (own_kept HO2.out hB3)
      have hT3 := touch_tr hT2 (touch_of_below hB3)
      clear g2 h2 HO2 hT2 hB3
      have hgo : goesF (fun _ => true) (R k).1 = true := by rw [HGF.out k]; simp [he]
      have HE : Hid (L (k + 1) = L k ++ [(R k).1.loc]) := Hid.mk (by rw [HL.out k, if_pos hgo])
      have HF : Hid (DR (k + 1) = setG (DR k) k rz) := Hid.mk (HYes.out k hgo)
      have c3 := sl_loc g3
      have hlen := HN.out k
      clear hgo g3
      have hsz : w.heap.size ≤ u3.heap.size := hT3.size
      have hb2 := (Below.refl u3.heap.size u3).alloc (Nat.le_refl _) (.cells #[.int .u32 (R k).1.loc] 28)
      have hO4 := own_kept HO3.out hb2
      have h4 := h3.kept hb2
      have hT4 := touch_tr hT3 (touch_of_below hb2)
      have hsz4 := hT4.size
      clear HO3 h3 hT3 hb2
      go_wp2_with (at_builtin; refine ap_own rfl _ _ 61 28 .u32 4 Tryz.underlying61 infoU32s (by decide) (by rfl) (n := (L k).length) (m := 1) (by rfl) hO4 (by rfl) (r := fun _ => (R k).1.loc) (fun j hj => by obtain rfl : j = 0 := (by omega); exact cell_of_row _ _ 0 _ _ _ (heap_alloc_new u3 _)) (by omega) hsz4 ?_; intro va u5 hO5 hB5; refine Hid.out ?_)
      refine Hid.mk ?_
      rw [u32X_one] at hO5
      have h5 : SeAt u5 b (DR k) t c := h4.below hB5 hlt
      have hT5 : Touch (fun x => x = b) w u5 := ⟨hB5.os.trans hT4.os, hB5.tape.trans hT4.tape, hB5.output.trans hT4.output, Nat.le_trans hT4.size hB5.size, fun i hi hn => (hB5.block i hi).trans (hT4.block i hi hn)⟩
      clear hO4 h4 hT4 hB5 c3
      go_wp2_with (first | (refine wl_value rfl (exec_slZ rfl) ?_) | (refine wl_value rfl (exec_ix3 rfl (by rfl) (by rfl) hlt3) ?_) | (refine wl_act rfl (act_slot rfl (by rfl) (by rfl) hlt3 h5 ?_); intro u6 h6 o6; refine Hid.out ?_))
      refine Hid.mk ?_
      have HX : Hid (u6.ownsRow w.heap.size 28 1 va (L (k + 1)).length (u32X (L (k + 1))) ∧ SeAt u6 b (DR (k + 1)) t c ∧ Touch (fun x => x = b) w u6) := Hid.mk ⟨by rw [HE.out, List.length_append]; exact own_tou hO5 o6 hlt, by rw [HF.out]; exact h6, touch_tr hT5 (touch_only o6)⟩
      clear hO5 h5 hT5 h6 o6 HE HF
      go_wp2_with fail
      go_roundg (3 - (k + 1))
      case rel => exact ⟨k + 1, rfl, by omega, by go_num, HX⟩
      case measure => omega
    · obtain rfl : k = 3 := by omega
      go_wp2_with fail
      go_ret
      exact ⟨_, rfl, HI.out.1, HI.out.2.1, HI.out.2.2⟩
set_option maxHeartbeats 8000000 in
theorem dropE_run {w : World} {b q : Nat} {R : Nat → Kp × Option Nat} {t c : Int} (h : SeAt w b R t c) (hq : w.cell? ⟨q, 0, none⟩ = some (.pointer (some ⟨b, 0, none⟩))) (hqb : q ≠ b) (hbo : ∀ i, i < 3 → (R i).1.ep ≠ 0 → 0 ≤ (R i).1.born ∧ (R i).1.born ≤ t) (ht : t ≤ 9223372036854775807) : Calls Tryz.prog 40 #[.pointer (some ⟨b, 0, none⟩), .func (.func 41) #[] #[.pointer (some ⟨q, 0, none⟩)]] w fun e w' => ∃ vo, e = .returned vo ∧ w'.ownsRow w.heap.size 28 1 vo (dropL (oldF t) (fun i => (R i).1) 3).length (u32X (dropL (oldF t) (fun i => (R i).1) 3)) ∧ SeAt w' b (dropR (oldF t) R 3) t c ∧ Touch (fun x => x = b) w w' := by
  have HL : Hid (∀ n, dropL (oldF t) (fun i => (R i).1) (n + 1) = dropL (oldF t) (fun i => (R i).1) n ++ (if goesF (oldF t) (R n).1 = true then [(R n).1.loc] else [])) := Hid.mk (fun n => rfl)
  have HN := Hid.mk (dropL_len (oldF t) (fun i => (R i).1))
  have H0 : Hid (dropL (oldF t) (fun i => (R i).1) 0 = []) := Hid.mk rfl
  have H1 : Hid (dropR (oldF t) R 0 = R) := Hid.mk (by funext i; unfold dropR; rw [if_neg (by omega)])
  have HSelf := Hid.mk (fun k => dropR_self (p := oldF t) (R := R) k)
  have HNo := Hid.mk (fun k => dropR_no (p := oldF t) (R := R) (k := k))
  have HYes := Hid.mk (fun k => dropR_yes (p := oldF t) (R := R) (k := k))
  have HGF : Hid (∀ k, goesF (oldF t) (R k).1 = (!decide ((R k).1.ep = 0) && (oldF t) (R k).1)) := Hid.mk (fun k => rfl)
  have hlt := h.lt
  generalize dropL (oldF t) (fun i => (R i).1) = L at *
  generalize dropR (oldF t) R = DR at *
  go_enter Tryz.func40, Tryz.ntmps40
  go_wp2_with fail
  go_loopg [5, 8] (3 : Nat) (fun gm s5 s8 v => ∃ k : Nat, gm = 3 - k ∧ k ≤ 3 ∧ s8 = .int .i64 (k : Int) ∧ Hid (v.ownsRow w.heap.size 28 1 s5 (L k).length (u32X (L k)) ∧ SeAt v b (DR k) t c ∧ Touch (fun x => x = b) w v))
  case atStart => exact ⟨0, rfl, by omega, rfl, Hid.mk ⟨by rw [H0.out]; exact World.ownsRow_nil _ _ _ 1, by rw [H1.out]; exact h, Touch.refl _ _⟩⟩
  case round =>
    obtain ⟨k, hgm, hk, rfl, HI⟩ := hrel
    by_cases hlt3 : k < 3
    · have h0 := HI.out.2.1
      have HO0 := Hid.mk HI.out.1
      have hT0 := HI.out.2.2
      clear HI
      go_wp2_with (first | (refine wl_value rfl (exec_ix3 rfl (by rfl) (by rfl) hlt3) ?_) | (refine wl_take h0 hlt3 (by rfl) (by intros; rfl) (by intros; rfl) ?_; intro g u1 hg g1 h1 hB1; refine Hid.out ?_))
      refine Hid.mk ?_
      rw [HSelf.out k] at g1 ⊢
      go_wp2_with (refine wl_value rfl (look_st rfl isSlot g1 (by rfl)) ?_)
      refine (empty_run (R k) u1).mono ?_
      rintro e u2 ⟨rfl, hB2⟩
      have g2 := SAt.kept g1 hB2
      have h2 := h1.kept hB2
      have HO2 := Hid.mk (own_kept (own_kept HO0.out hB1) hB2)
      have hT2 := touch_tr (touch_tr hT0 (touch_of_below hB1)) (touch_of_below hB2)
      have hgz : w.heap.size ≤ g := by have := hT0.size; omega
      clear g1 h1 hB1 hB2 h0 HO0 hT0 hg
      by_cases he : (R k).1.ep = 0
      · have hgo : goesF (oldF t) (R k).1 = false := by rw [HGF.out k, he]; rfl
        have HE : Hid (L (k + 1) = L k) := Hid.mk (by rw [HL.out k, hgo]; simp)
        have HF : Hid (DR (k + 1) = DR k) := Hid.mk (HNo.out k hgo)
        have HX := Hid.mk (And.intro HO2.out (And.intro h2 hT2))
        clear hgo h2 HO2 hT2 g2
        go_wp2_with fail
        go_roundg (3 - (k + 1))
        case rel => exact ⟨k + 1, rfl, by omega, by go_num, Hid.mk (by rw [HE.out, HF.out]; exact HX.out)⟩
        case measure => omega
      have cq : u2.cell? ⟨q, 0, none⟩ = some (.pointer (some ⟨b, 0, none⟩)) := by rw [World.cell?_of_block (hT2.block q (World.block_lt_of_cell? _ _ hq) hqb)]; exact hq
      go_wp2_with (refine wl_value rfl (look_st rfl isSlot g2 (by rfl)) ?_)
      refine (expire1_run (R k) h2 cq (hbo k hlt3 he).1 (hbo k hlt3 he).2 ht).mono ?_
      rintro e u3 ⟨rfl, hB3⟩
      have g3 := SAt.kept g2 hB3
      have h3 := h2.kept hB3
      have HO3 := Hid.mk (own_kept HO2.out hB3)
      have hT3 := touch_tr hT2 (touch_of_below hB3)
      clear g2 h2 HO2 hT2 hB3
      clear cq
      cases hold : oldF t (R k).1
      · have hgo : goesF (oldF t) (R k).1 = false := by rw [HGF.out k, hold]; simp
        have HE : Hid (L (k + 1) = L k) := Hid.mk (by rw [HL.out k, hgo]; simp)
        have HF : Hid (DR (k + 1) = DR k) := Hid.mk (HNo.out k hgo)
        have HX := Hid.mk (And.intro HO3.out (And.intro h3 hT3))
        clear hgo h3 HO3 hT3 g3
        go_wp2_with fail
        go_roundg (3 - (k + 1))
        case rel => exact ⟨k + 1, rfl, by omega, by go_num, Hid.mk (by rw [HE.out, HF.out]; exact HX.out)⟩
        case measure => omega
      have hgo : goesF (oldF t) (R k).1 = true := by rw [HGF.out k]; simp [he, hold]
      have HE : Hid (L (k + 1) = L k ++ [(R k).1.loc]) := Hid.mk (by rw [HL.out k, if_pos hgo])
      have HF : Hid (DR (k + 1) = setG (DR k) k rz) := Hid.mk (HYes.out k hgo)
      have c3 := sl_loc g3
      have hlen := HN.out k
      clear hgo g3
      have hsz : w.heap.size ≤ u3.heap.size := hT3.size
      have hb2 := (Below.refl u3.heap.size u3).alloc (Nat.le_refl _) (.cells #[.int .u32 (R k).1.loc] 28)
      have hO4 := own_kept HO3.out hb2
      have h4 := h3.kept hb2
      have hT4 := touch_tr hT3 (touch_of_below hb2)
      have hsz4 := hT4.size
      clear HO3 h3 hT3 hb2
      go_wp2_with (at_builtin; refine ap_own rfl _ _ 61 28 .u32 4 Tryz.underlying61 infoU32s (by decide) (by rfl) (n := (L k).length) (m := 1) (by rfl) hO4 (by rfl) (r := fun _ => (R k).1.loc) (fun j hj => by obtain rfl : j = 0 := (by omega); exact cell_of_row _ _ 0 _ _ _ (heap_alloc_new u3 _)) (by omega) hsz4 ?_; intro va u5 hO5 hB5; refine Hid.out ?_)
      refine Hid.mk ?_
      rw [u32X_one] at hO5
      have h5 : SeAt u5 b (DR k) t c := h4.below hB5 hlt
      have hT5 : Touch (fun x => x = b) w u5 := ⟨hB5.os.trans hT4.os, hB5.tape.trans hT4.tape, hB5.output.trans hT4.output, Nat.le_trans hT4.size hB5.size, fun i hi hn => (hB5.block i hi).trans (hT4.block i hi hn)⟩
      clear hO4 h4 hT4 hB5 c3
      go_wp2_with (first | (refine wl_value rfl (exec_slZ rfl) ?_) | (refine wl_value rfl (exec_ix3 rfl (by rfl) (by rfl) hlt3) ?_) | (refine wl_act rfl (act_slot rfl (by rfl) (by rfl) hlt3 h5 ?_); intro u6 h6 o6; refine Hid.out ?_))
      refine Hid.mk ?_
      have HX : Hid (u6.ownsRow w.heap.size 28 1 va (L (k + 1)).length (u32X (L (k + 1))) ∧ SeAt u6 b (DR (k + 1)) t c ∧ Touch (fun x => x = b) w u6) := Hid.mk ⟨by rw [HE.out, List.length_append]; exact own_tou hO5 o6 hlt, by rw [HF.out]; exact h6, touch_tr hT5 (touch_only o6)⟩
      clear hO5 h5 hT5 h6 o6 HE HF
      go_wp2_with fail
      go_roundg (3 - (k + 1))
      case rel => exact ⟨k + 1, rfl, by omega, by go_num, HX⟩
      case measure => omega
    · obtain rfl : k = 3 := by omega
      go_wp2_with fail
      go_ret
      exact ⟨_, rfl, HI.out.1, HI.out.2.1, HI.out.2.2⟩
set_option maxHeartbeats 4000000 in
theorem Close_run {w : World} {b : Nat} {σ : Ses} {S : Nat → Prop} (h : SesAt w b σ S) :
    Calls Tryz.prog 19 #[.pointer (some ⟨b, 0, none⟩)] w fun e w' => ∃ vo, e = .returned vo ∧ w'.ownsRow w.heap.size 28 1 vo (dropL (fun _ => true) σ.K 3).length (u32X (dropL (fun _ => true) σ.K 3)) ∧ Goes SesAt w b S (closeS σ) w' := by
  obtain ⟨R, U, h, hW, hK, rfl⟩ := h
  obtain ⟨t, c, K⟩ := σ
  simp only at h hK
  subst hK
  go_enter Tryz.func19, Tryz.ntmps19
  go_wp2_with fail
  refine (dropC_run h).mono ?_
  rintro e u2 ⟨vo, rfl, hO, h2, hT⟩
  have hg := Hid.mk (And.intro hO (goes_drop hW h2 hT))
  go_wp2_with fail
  go_ret
  exact ⟨vo, rfl, hg.out.1, hg.out.2⟩
theorem wl_boxp {ops : Array Oper} {rest : List Oper} {d : Option Tmp} {x : Operand} {t : TypeId} {ps : String} {af : Array Edge} {a : Act} {w : World} {Q : Exit → Act → World → Prop} {p : Option Addr} (hx : a.eval x = .pointer p)
    (h : ∀ g w', w.heap.size ≤ g → w'.heap[g]? = some (.cells #[.pointer p] 24 (0, 0)) → Below w.heap.size w w' → wpList Tryz.prog ops Q rest (a.put d (.pointer (some ⟨g, 0, none⟩))) w') :
    wpList Tryz.prog ops Q ({ dst := d, op := .box 24 x, type := t, pos := ps, after := af, guard := none } :: rest) a w := by
  refine wl_act rfl ?_
  unfold Oper.wp execOp
  simp only [hx]
  simp [go_sem]
  exact h _ _ (Nat.le_refl _) (heap_alloc_new w _) ((Below.refl _ _).alloc (Nat.le_refl _) _)
set_option maxHeartbeats 4000000 in
theorem Expire_run {w : World} {b M : Nat} {σ : Ses} {S : Nat → Prop} (now : Int) (h : SesAt w b σ S) (ok : SesOk M σ) (hnow : now ≤ 9223372036854775807) :
    Calls Tryz.prog 17 #[.pointer (some ⟨b, 0, none⟩), .int .i64 now] w fun e w' => ∃ vo, e = .returned vo ∧ w'.ownsRow w.heap.size 28 1 vo (dropL (oldF (max σ.t now)) σ.K 3).length (u32X (dropL (oldF (max σ.t now)) σ.K 3)) ∧ Goes SesAt w b S (expireS σ now) w' := by
  obtain ⟨R, U, h, hW, hK, rfl⟩ := h
  obtain ⟨t, c, K⟩ := σ
  simp only at h hK
  subst hK
  have hlt := h.lt
  have ht0 : 0 ≤ t := ok.t0
  have ht1 : t ≤ 9223372036854775807 := ok.t1
  have hm : max t now ≤ 9223372036854775807 := by omega
  have HBO : Hid (∀ i, i < 3 → (R i).1.ep ≠ 0 → 0 ≤ (R i).1.born ∧ (R i).1.born ≤ max t now) := Hid.mk (fun i hi he => by have ko := ok.ok i hi he; have h1 : 0 ≤ (R i).1.born := ko.b0; have h2 : (R i).1.born ≤ t := ko.b1; exact ⟨h1, by omega⟩)
  clear ok
  go_enter Tryz.func17, Tryz.ntmps17
  go_wp2_with (refine wl_boxp (by rfl) ?_; intro q u1 hq g1 hB1; refine Hid.out ?_)
  refine Hid.mk ?_
  have c1 : u1.cell? ⟨q, 0, none⟩ = some (.pointer (some ⟨b, 0, none⟩)) := cell_of_row u1 q 0 _ _ _ g1
  go_wp2_with fail
  refine (tell_run now (h.kept hB1)).mono ?_
  rintro e u2 ⟨rfl, h2, o2⟩
  have c2 : u2.cell? ⟨q, 0, none⟩ = some (.pointer (some ⟨b, 0, none⟩)) := by rw [o2.cell q 0 (by omega)]; exact c1
  have hT2 : Touch (fun x => x = b) w u2 := touch_tr (touch_of_below hB1) (touch_only o2)
  clear c1 g1 h hB1 o2
  go_wp2_with fail
  refine (dropE_run h2 c2 (by omega) HBO.out hm).mono ?_
  rintro e u3 ⟨vo, rfl, hO, h3, hT⟩
  have hO' := own_mono hO hT2.size
  have hg := Hid.mk (And.intro hO' (goes_drop hW h3 (touch_tr hT2 hT)))
  clear hO hO' h3 hT c2 h2
  go_wp2_with fail
  go_ret
  exact ⟨vo, rfl, hg.out.1, hg.out.2⟩
end Go.Proofs.YtbkbcfimpaolmaaGreat
