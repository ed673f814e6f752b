/-
  Own text. The law SessionNil, walked.
-/
import Derived.Test.YtbkbcfimpaolmaaJ7
import Derived.Test.YtbkbcfimpaolmaaJ1
namespace Go.Proofs.Ytbkbcfimpaolmaa
open Go.RowKit Go.Proofs
set_option maxRecDepth 100000
theorem putN_run (w : World) (now : Int) (ks kr : Nat → Int) (l f : Int) (first : Bool) : Calls Try.prog 12 #[.pointer none, .int .i64 now, .agg (SC 66 (paiV ks kr l f)), .bool first] w fun e w' => e = .returned (.tuple #[.int .i64 0, .int .i64 1]) ∧ Below w.heap.size w w' := by
  have hB := Below.refl w.heap.size w
  go_enter Try.func12, Try.ntmps12
  go_wp2_with (refine wl_boxG isPair (by rfl) ?_; intro gp u1 hgp g1 hB; refine Hid.out ?_)
  refine Hid.mk ?_
  clear g1
  go_wp2_with fail
  exact bodyPost_ret (res_tt rfl (by rfl) (by rfl)) rfl ⟨rfl, hB⟩
theorem sealN_run (w : World) (now : Int) (text : ByteArray) : Calls Try.prog 14 #[.pointer none, .int .i64 now, .string text] w fun e w' => e = .returned (.tuple #[.int .u32 0, .int .u64 0, .string ByteArray.empty, .int .i64 1]) ∧ Below w.heap.size w w' := by
  have hB := Below.refl w.heap.size w
  go_enter Try.func14, Try.ntmps14
  go_wp2_with fail
  exact bodyPost_ret (res_4t rfl (by rfl) (by rfl) (by rfl) (by rfl)) rfl ⟨rfl, hB⟩
theorem openN_run (w : World) (now x c : Int) (box : ByteArray) : Calls Try.prog 15 #[.pointer none, .int .i64 now, .int .u32 x, .int .u64 c, .string box] w fun e w' => e = .returned (.tuple #[.string ByteArray.empty, .int .i64 0, .int .i64 1]) ∧ Below w.heap.size w w' := by
  have hB := Below.refl w.heap.size w
  go_enter Try.func15, Try.ntmps15
  go_wp2_with fail
  exact bodyPost_ret (res_ttt rfl (by rfl) (by rfl) (by rfl)) rfl ⟨rfl, hB⟩
theorem wantsN_run (w : World) (now : Int) (sent : Bool) : Calls Try.prog 20 #[.pointer none, .int .i64 now, .bool sent] w fun e w' => e = .returned (.bool sent) ∧ Below w.heap.size w w' := by
  have hB := Below.refl w.heap.size w
  go_enter Try.func20, Try.ntmps20
  go_wp2_with fail
  go_ret
  exact ⟨rfl, hB⟩
theorem expireN_run (w : World) (now : Int) : Calls Try.prog 16 #[.pointer none, .int .i64 now] w fun e w' => e = .returned (.slice none 0 0) ∧ Below w.heap.size w w' := by
  have hB := Below.refl w.heap.size w
  go_enter Try.func16, Try.ntmps16
  go_wp2_with (refine wl_boxp (by rfl) ?_; intro q u1 hq g1 hB; refine Hid.out ?_)
  refine Hid.mk ?_
  have c1 : u1.cell? ⟨q, 0, none⟩ = some (.pointer none) := cell_of_row u1 q 0 _ _ _ g1
  clear g1
  go_wp2_with fail
  go_ret
  exact ⟨rfl, hB⟩
theorem closeN_run (w : World) : Calls Try.prog 21 #[.pointer none] w fun e w' => e = .returned (.slice none 0 0) ∧ Below w.heap.size w w' := by
  have hB := Below.refl w.heap.size w
  go_enter Try.func21, Try.ntmps21
  go_wp2_with fail
  go_ret
  exact ⟨rfl, hB⟩
theorem slotsN_run (w : World) : Calls Try.prog 19 #[.pointer none] w fun e w' => e = .returned (.slice none 0 0) ∧ Below w.heap.size w w' := by
  have hB := Below.refl w.heap.size w
  go_enter Try.func19, Try.ntmps19
  go_wp2_with fail
  go_ret
  exact ⟨rfl, hB⟩
theorem dueN_run (w : World) : Calls Try.prog 22 #[.pointer none] w fun e w' => e = .returned (.int .i64 (-1)) ∧ Below w.heap.size w w' := by
  have hB := Below.refl w.heap.size w
  go_enter Try.func22, Try.ntmps22
  go_wp2_with fail
  go_ret
  exact ⟨rfl, hB⟩
theorem nil_slots (now : Int) : slotsL (putS ses0 now (pks 1) (pkr 1) (ploc 1) (pfar 1) false).K 3 = [2] := by
  have hA : atF ses0.K (ploc 1) = -1 := by decide +kernel
  rw [putS_yes hA]
  obtain ⟨p2, p1, p0⟩ := plG_f (ep := Kp.ep) (R := ses0.K) (r := kpNew (pks 1) (pkr 1) (ploc 1) (pfar 1) (ses0.c + 1) (max ses0.t now) false) (z := kp0)
  simp only [slotsL, p0, p1, p2]
  rfl
set_option maxHeartbeats 8000000 in
theorem nil_walk (now : Int) (sent : Bool) (w : World) : Calls Try.prog 5 #[.int .i64 now, .bool sent] w fun e w' => e = .returned (.bool true) ∧ Below w.heap.size w w' := by
  have HP1 := Hid.mk (fun u b S (h : SesAt u b ses0 S) => Put_run now (pks 1) (pkr 1) (ploc 1) (pfar 1) false h (by decide) (by decide))
  rw [sg_a] at HP1
  replace HP1 : Hid (∀ u b S, SesAt u b ses0 S → Calls Try.prog 12 #[.pointer (some ⟨b, 0, none⟩), .int .i64 now, .agg (SC 66 (paiV (pks 1) (pkr 1) (ploc 1) (pfar 1))), .bool false] u fun e w' => e = .returned (.tuple #[.int .i64 1, .int .i64 0]) ∧ Goes SesAt u b S (putS ses0 now (pks 1) (pkr 1) (ploc 1) (pfar 1) false) w') := HP1
  have HP4 := Hid.mk (fun u b S (h : SesAt u b (putS ses0 now (pks 1) (pkr 1) (ploc 1) (pfar 1) false) S) => Slots_run h)
  rw [nil_slots] at HP4
  go_enter Try.func5, Try.ntmps5
  go_wp2_with (first | (refine wl_value rfl (exec_ses0 rfl) ?_) | (refine wl_boxG isSes (by rfl) ?_; intro b u1 hb1 g1 hB1; refine Hid.out ?_))
  refine Hid.mk ?_
  have h1 := ses_new g1
  clear g1
  go_wp2_with fail
  refine (pair_run 1 u1).mono ?_
  rintro e u2 ⟨rfl, hB2⟩
  go_wp2_with fail
  refine (putN_run u2 now (pks 1) (pkr 1) (ploc 1) (pfar 1) true).mono ?_
  rintro e u3 ⟨rfl, hB3⟩
  go_wp2_with fail
  refine (sealN_run u3 now _).mono ?_
  rintro e u4 ⟨rfl, hB4⟩
  go_wp2_with fail
  refine (openN_run u4 now 1 1 _).mono ?_
  rintro e u5 ⟨rfl, hB5⟩
  go_wp2_with fail
  refine (pair_run 1 u5).mono ?_
  rintro e u6 ⟨rfl, hB6⟩
  go_wp2_with fail
  refine (HP1.out u6 b _ (((((h1.below hB2).below hB3).below hB4).below hB5).below hB6)).mono ?_
  rintro e u7 ⟨rfl, hG7⟩
  have z2 := Nat.le_trans hB1.size hB2.size
  have z3 := Nat.le_trans z2 hB3.size
  have z4 := Nat.le_trans z3 hB4.size
  have z5 := Nat.le_trans z4 hB5.size
  have z6 := Nat.le_trans z5 hB6.size
  obtain ⟨S7, h7, hS7, hB7, hz7⟩ := goes_below hG7 (B := w.heap.size) (fun k hk => by subst hk; exact hb1) (((((hB1.trans (hB2.mono hB1.size)).trans (hB3.mono z2)).trans (hB4.mono z3)).trans (hB5.mono z4)).trans (hB6.mono z5)) z6
  clear h1 hB1 hB2 hB3 hB4 hB5 hB6 hG7 HP1 z2 z3 z4 z5 z6
  go_wp2_with fail
  refine (awake_run u7).mono ?_
  rintro e u8 ⟨rfl, hB8⟩
  replace h7 := h7.below hB8
  replace hB7 := hB7.trans (hB8.mono hz7)
  replace hz7 := Nat.le_trans hz7 hB8.size
  clear hB8
  go_wp2_with fail
  refine (wantsN_run u8 now sent).mono ?_
  rintro e u9 ⟨rfl, hB8⟩
  replace h7 := h7.below hB8
  replace hB7 := hB7.trans (hB8.mono hz7)
  replace hz7 := Nat.le_trans hz7 hB8.size
  clear hB8
  go_wp2_with fail
  refine (expireN_run u9 now).mono ?_
  rintro e u10 ⟨rfl, hB8⟩
  replace h7 := h7.below hB8
  replace hB7 := hB7.trans (hB8.mono hz7)
  replace hz7 := Nat.le_trans hz7 hB8.size
  clear hB8
  go_wp2_with fail
  refine (closeN_run u10).mono ?_
  rintro e u11 ⟨rfl, hB8⟩
  replace h7 := h7.below hB8
  replace hB7 := hB7.trans (hB8.mono hz7)
  replace hz7 := Nat.le_trans hz7 hB8.size
  clear hB8
  go_wp2_with fail
  refine (slotsN_run u11).mono ?_
  rintro e u12 ⟨rfl, hB8⟩
  replace h7 := h7.below hB8
  replace hB7 := hB7.trans (hB8.mono hz7)
  replace hz7 := Nat.le_trans hz7 hB8.size
  clear hB8
  go_wp2_with fail
  refine (dueN_run u12).mono ?_
  rintro e u13 ⟨rfl, hB8⟩
  replace h7 := h7.below hB8
  replace hB7 := hB7.trans (hB8.mono hz7)
  replace hz7 := Nat.le_trans hz7 hB8.size
  clear hB8
  go_wp2_with fail
  refine (HP4.out u13 b _ h7).mono ?_
  rintro e u14 ⟨vo, rfl, hO, hB8⟩
  obtain ⟨p, cap, rfl, hp⟩ := own_told hO
  have hB := hB7.trans (hB8.mono hz7)
  clear hO hp h7 hB7 hB8 HP4
  go_wp2_with fail
  go_ret
  exact ⟨rfl, hB⟩
end Go.Proofs.Ytbkbcfimpaolmaa
/-
  Own text. A region that leaves its order open and in which operations change what others may meet: what holds of the world hangs on which operations are behind (L). No program is named here.
-/
namespace Go.Proofs.Ytbkbcfimpaolmaa
open Go
section
variable {P : Program} {ops : Array Oper} {Q : Exit → Act → World → Prop}
structure Mid4 (ops : Array Oper) (a0 : Act) (S : (Nat → Bool) → World → Prop) (φ : Nat → Value → Prop) (listed : Array Bool) (a : Act) (w : World) : Prop where
  lsize : listed.size = ops.size
  closed : ∀ (j : Nat) (oj : Oper), ops[j]? = some oj → listed.getD j false = true → ∀ e ∈ oj.after, Region.binds .any e = true → listed.getD e.on false = true
  size : a.tmps.size = a0.tmps.size
  defers : a.defers = a0.defers
  world : S (fun j => listed.getD j false) w
  frame : ∀ t : Nat, (∀ (i : Nat) (o : Oper), ops[i]? = some o → listed.getD i false = true → o.dst ≠ some t) → a.tmps[t]? = a0.tmps[t]?
  known : ∀ (i : Nat) (o : Oper) (d : Nat), ops[i]? = some o → o.dst = some d → listed.getD i false = true → φ i (a.tmps.getD d undef)
theorem wp_region_inv4 {id : Nat} {a0 : Act} {w0 : World} (S : (Nat → Bool) → World → Prop) (φ : Nat → Value → Prop) (hm : P.follows .mixedOrders = true) (hB : invB ops = true)
    (hS0 : S (fun _ => false) w0.drew)
    (step : ∀ (i : Nat) (o : Oper), ops[i]? = some o → ∀ (L : Nat → Bool) (a : Act) (w : World), S L w → L i = false → (∀ (k : Nat) (ok : Oper), ops[k]? = some ok → L k = true → ∀ e ∈ ok.after, Region.binds .any e = true → L e.on = true) → (∀ e ∈ o.after, Region.binds .any e = true → L e.on = true) → (∀ t : Nat, (∀ (j : Nat) (oj : Oper), ops[j]? = some oj → oj.dst = some t → predOf oj i = true) → a.tmps[t]? = a0.tmps[t]?) →
      (∀ (j : Nat) (oj : Oper) (d : Nat), ops[j]? = some oj → oj.dst = some d → predOf o j = true → φ j (a.tmps.getD d undef)) →
      wpOp P ops Q i (fun a' w' => ∃ v, a' = a.put o.dst v ∧ φ i v ∧ S (fun j => if j = i then true else L j) w') a w)
    (fin : ∀ (vs : Nat → Value) (L : Nat → Bool) (w : World), S L w → (∀ i, i < ops.size → L i = true) → (∀ (i : Nat) (o : Oper) (d : Nat), ops[i]? = some o → o.dst = some d → φ i (vs d)) → Q .normal (putAll a0 vs (dsts ops)) w)
    (hsz : ∀ d ∈ dsts ops, d < a0.tmps.size) : (Code.region id ops true).wp P Q a0 w0 := by
  simp only [invB, Bool.and_eq_true, decide_eq_true_eq] at hB
  obtain ⟨⟨hsome, hnd⟩, hord⟩ := hB
  refine wp_region_any hm (wpAny_inv (Mid4 ops a0 S φ) ?_ ?_ ops.size _ a0 _ ?_ ?_)
  · intro listed a w i mid hi
    obtain ⟨hun, oi, hoi, hall⟩ := mem_ready.1 hi
    have hils : i < listed.size := by
      rcases Nat.lt_or_ge i listed.size with h | h
      · exact h
      · simp [Array.getElem?_eq_none h] at hun
    have hunf : listed.getD i false = false := by simp [hils] at hun ⊢; exact hun
    have hst := step i oi hoi (fun j => listed.getD j false) a w mid.world hunf mid.closed hall
      (fun t ht => mid.frame t (fun j oj hj hl hd => by
        obtain ⟨e, he, hb⟩ := Array.any_eq_true'.1 (ht j oj hj hd)
        simp only [Bool.and_eq_true, beq_iff_eq] at hb
        have := mid.closed j oj hj hl e he hb.1
        rw [hb.2, hunf] at this
        cases this))
      (fun j oj d hj hd hp => by
        obtain ⟨e, he, hb⟩ := Array.any_eq_true'.1 hp
        simp only [Bool.and_eq_true, beq_iff_eq] at hb
        have := hall e he hb.1
        rw [hb.2] at this
        exact mid.known j oj d hj hd this)
    refine wpOp_mono (fun a' w' h' => ?_) hst
    obtain ⟨v, rfl, hv, hR⟩ := h'
    have hsi : oi.dst.isSome = true := List.all_eq_true.1 hsome oi (by simpa using Array.mem_of_getElem? hoi)
    obtain ⟨di, hdi⟩ := Option.isSome_iff_exists.1 hsi
    have hmem : di ∈ dsts ops := List.mem_filterMap.2 ⟨oi, by simpa using Array.mem_of_getElem? hoi, hdi⟩
    have hdlt : di < a.tmps.size := by rw [mid.size]; exact hsz di hmem
    have hself : (listed.setIfInBounds i true).getD i false = true := by simp [hils]
    rw [hdi]
    refine ⟨by simp [mid.lsize], fun j oj hj hl e he hb => ?_, by simpa [Act.put] using mid.size, mid.defers, ?_, fun t ht => ?_, fun j oj d hj hd hl => ?_⟩
    · rcases getD_set_false hl with rfl | hl
      · obtain rfl : oj = oi := Option.some.inj (hj.symm.trans hoi)
        have h1 := hall e he hb
        by_cases hie : j = e.on
        · rw [hie]; rw [hie] at hself; exact hself
        · rw [getD_set_ne false hie]; exact h1
      · have h1 := mid.closed j oj hj hl e he hb
        by_cases hie : i = e.on
        · rw [← hie]; exact hself
        · rw [getD_set_ne false hie]; exact h1
    · have e : (fun j => (listed.setIfInBounds i true).getD j false) = fun j => if j = i then true else listed.getD j false := by
        funext j
        by_cases hji : j = i
        · subst hji; rw [if_pos rfl]; exact hself
        · rw [if_neg hji, getD_set_ne false (Ne.symm hji)]
      rw [e]
      exact hR
    · have hne : di ≠ t := fun h => ht i oi hoi hself (by rw [hdi, h])
      rw [show (a.put (some di) v).tmps[t]? = a.tmps[t]? from by simp [Act.put, hne]]
      exact mid.frame t (fun j oj hj hl => ht j oj hj (by
        by_cases hij : i = j
        · subst hij; exact hself
        · rw [getD_set_ne false hij]; exact hl))
    · rcases getD_set_false hl with rfl | hl
      · obtain rfl : oj = oi := Option.some.inj (hj.symm.trans hoi)
        obtain rfl : d = di := Option.some.inj (hd.symm.trans hdi)
        rw [show (a.put (some d) v).tmps.getD d undef = v from by simp [Act.put, hdlt]]
        exact hv
      · have hne : di ≠ d := fun h => by
          subst h
          have := nodup_dst hnd hoi hj hdi hd
          subst this
          rw [hunf] at hl
          cases hl
        rw [show (a.put (some di) v).tmps.getD d undef = a.tmps.getD d undef from by simp [Act.put, hne]]
        exact mid.known j oj d hj hd hl
  · intro listed a w mid hr
    have hall : ∀ n i, i < n → i < ops.size → listed.getD i false = true := by
      intro n
      induction n with
      | zero => intro i h; cases h
      | succ n ih =>
        intro i hin hil
        by_cases hlt : i < n
        · exact ih i hlt hil
        · have hin' : i = n := by omega
          subst hin'
          cases hg : listed.getD i false with
          | true => rfl
          | false =>
            have ho : ops[i]? = some ops[i] := Array.getElem?_eq_getElem hil
            have h1 := List.all_eq_true.1 hord i (List.mem_range.2 hil)
            simp only [ho] at h1
            have hin2 : i ∈ Region.ready .any ops listed := mem_ready.2 ⟨by
              have : i < listed.size := by rw [mid.lsize]; exact hil
              simp [this] at hg ⊢; exact hg, _, ho, fun e he hb => by
              have h2 := Array.all_eq_true'.1 h1 e he
              simp only [hb, Bool.not_true, Bool.false_or, decide_eq_true_eq] at h2
              exact ih e.on h2 (by omega)⟩
            rw [hr] at hin2
            cases hin2
    have hq := fin (fun d => a.tmps.getD d undef) _ w mid.world (fun i hi => hall (i + 1) i (by omega) hi) (fun i o d ho hd => mid.known i o d ho hd (hall (i + 1) i (by omega) (Array.getElem?_eq_some_iff.1 ho).1))
    have ha : putAll a0 (fun d => a.tmps.getD d undef) (dsts ops) = a := by
      have h1 := putAll_defers (fun d => a.tmps.getD d undef) (dsts ops) a0
      have h2 : (putAll a0 (fun d => a.tmps.getD d undef) (dsts ops)).tmps = a.tmps := by
        apply Array.ext_getElem?
        intro t
        by_cases ht : t < a0.tmps.size
        · rw [putAll_get _ _ _ _ ht]
          by_cases hm2 : t ∈ dsts ops
          · rw [if_pos hm2]
            have : t < a.tmps.size := by rw [mid.size]; exact ht
            simp [this]
          · rw [if_neg hm2]
            exact (mid.frame t (fun i o hi _ hd => hm2 (List.mem_filterMap.2 ⟨o, by simpa using Array.mem_of_getElem? hi, hd⟩))).symm
        · rw [Array.getElem?_eq_none (by rw [putAll_size]; omega), Array.getElem?_eq_none (by rw [mid.size]; omega)]
      rw [← mid.defers] at h1
      generalize putAll a0 (fun d => a.tmps.getD d undef) (dsts ops) = b at h1 h2
      cases a; cases b
      simp only at h1 h2
      rw [h1, h2]
    rw [ha] at hq
    exact hq
  · unfold leftOf
    exact Nat.le_trans (List.length_filter_le _ _) (by simp)
  · exact ⟨by simp, fun j oj _ hl => (by rw [getD_replicate_f] at hl; cases hl), rfl, rfl, by simp only [getD_replicate_f]; exact hS0, fun _ _ => rfl, fun i o d _ _ hl => (by rw [getD_replicate_f] at hl; cases hl)⟩
/-- Of the operations that are listed what is known of their slots. -/
def Knows4 (φ : Nat → Value → Prop) (ds : List Nat) (a : Act) : List Nat → Prop
  | [] => True
  | j :: l => φ j (a.eval (.tmp (ds.getD j 0))) ∧ Knows4 φ ds a l
theorem knows4_of {φ : Nat → Value → Prop} {ds : List Nat} {a : Act} : ∀ (l : List Nat), (∀ j ∈ l, φ j (a.eval (.tmp (ds.getD j 0)))) → Knows4 φ ds a l
  | [], _ => trivial
  | x :: l, h => ⟨h x (by simp), knows4_of l (fun j hj => h j (by simp [hj]))⟩
/-- These are behind. -/
def Behind (L : Nat → Bool) : List Nat → Prop
  | [] => True
  | j :: l => L j = true ∧ Behind L l
theorem behind_of {L : Nat → Bool} : ∀ (l : List Nat), (∀ j ∈ l, L j = true) → Behind L l
  | [], _ => trivial
  | x :: l, h => ⟨h x (by simp), behind_of l (fun j hj => h j (by simp [hj]))⟩
/-- These are ahead. -/
def Ahead (L : Nat → Bool) : List Nat → Prop
  | [] => True
  | j :: l => L j = false ∧ Ahead L l
theorem ahead_of {L : Nat → Bool} : ∀ (l : List Nat), (∀ j ∈ l, L j = false) → Ahead L l
  | [], _ => trivial
  | x :: l, h => ⟨h x (by simp), ahead_of l (fun j hj => h j (by simp [hj]))⟩
/-- Operation k, whatever came before it (L: what is behind). -/
def StepOK4 (P : Program) (S : (Nat → Bool) → World → Prop) (φ : Nat → Value → Prop) (ds : List Nat) (base : List (Nat × Value)) (p q r : List Nat) (k : Nat) (o : Oper) : Prop :=
  ∀ (Q : Exit → Act → World → Prop) (L : Nat → Bool) (a : Act) (w : World), S L w → L k = false → Behind L q → Ahead L r → Holds a base → Knows4 φ ds a p →
    (match o.guard with | none => True | some (g, b) => a.eval (.tmp (ds.getD g 0)) = .bool b) ∧
    ∀ K : Act → World → Prop, (∀ v w', φ k v → S (fun j => if j = k then true else L j) w' → K (a.put o.dst v) w') → o.wp P a w K Q
def AllSteps4 (P : Program) (S : (Nat → Bool) → World → Prop) (φ : Nat → Value → Prop) (ds : List Nat) (base : List (Nat × Value)) : List (List Nat) → List (List Nat) → List (List Nat) → Nat → List Oper → Prop
  | _, _, _, _, [] => True
  | p, q, r, k, o :: l => StepOK4 P S φ ds base (p.headD []) (q.headD []) (r.headD []) k o ∧ AllSteps4 P S φ ds base p.tail q.tail r.tail (k + 1) l
theorem AllSteps4.at {S : (Nat → Bool) → World → Prop} {φ : Nat → Value → Prop} {ds : List Nat} {base : List (Nat × Value)} : ∀ (l : List Oper) (p q r : List (List Nat)) (k : Nat), AllSteps4 P S φ ds base p q r k l →
    ∀ (i : Nat) (o : Oper), l[i]? = some o → StepOK4 P S φ ds base (p.getD i []) (q.getD i []) (r.getD i []) (k + i) o
  | [], _, _, _, _, _, _, _, h => by simp at h
  | x :: l, p, q, r, k, h, i, o, ho => by
    cases i with
    | zero =>
      simp at ho; subst ho
      have := h.1
      cases p <;> cases q <;> cases r <;> simpa using this
    | succ i =>
      simp at ho
      have := AllSteps4.at l p.tail q.tail r.tail (k + 1) h.2 i o ho
      rw [show k + 1 + i = k + (i + 1) by omega] at this
      cases p <;> cases q <;> cases r <;> simpa using this
/-- q: of each operation some that must be behind it, by one step or more. -/
def ancB (ops : Array Oper) (q : List (List Nat)) : Bool :=
  (List.range ops.size).all fun k => match ops[k]? with
    | some o => (q.getD k []).all (fun j => o.after.any fun e => Region.binds .any e && decide (e.on < k) && (e.on == j || (q.getD e.on []).contains j))
    | none => true
/-- r: of each operation some that wait for it, by one step or more. -/
def descB (ops : Array Oper) (q r : List (List Nat)) : Bool :=
  (List.range ops.size).all fun k => (r.getD k []).all (fun j => decide (j < ops.size) && (q.getD j []).contains k)
theorem anc_behind {q : List (List Nat)} (hq : ancB ops q = true) {L : Nat → Bool} (hcl : ∀ (k : Nat) (ok : Oper), ops[k]? = some ok → L k = true → ∀ e ∈ ok.after, Region.binds .any e = true → L e.on = true) :
    ∀ (n k : Nat) (o : Oper), k < n → ops[k]? = some o → (∀ e ∈ o.after, Region.binds .any e = true → L e.on = true) → ∀ j ∈ q.getD k [], L j = true := by
  intro n
  induction n with
  | zero => intro k o hk; cases hk
  | succ n ih =>
    intro k o hk ho hall j hj
    have h1 := List.all_eq_true.1 hq k (List.mem_range.2 (Array.getElem?_eq_some_iff.1 ho).1)
    simp only [ho] at h1
    have h2 := List.all_eq_true.1 h1 j hj
    obtain ⟨e, he, hb⟩ := Array.any_eq_true'.1 h2
    simp only [Bool.and_eq_true, Bool.or_eq_true, beq_iff_eq, decide_eq_true_eq] at hb
    have h3 := hall e he hb.1.1
    rcases hb.2 with h4 | h4
    · rw [← h4]; exact h3
    · have hlt : e.on < ops.size := Nat.lt_trans hb.1.2 (Array.getElem?_eq_some_iff.1 ho).1
      have hoe : ops[e.on]? = some ops[e.on] := Array.getElem?_eq_getElem hlt
      exact ih e.on _ (by omega) hoe (hcl e.on _ hoe h3) j (by simpa using h4)
/-- THE LAW, operation by operation. -/
theorem wp_region_steps4 {id : Nat} {a0 : Act} {w0 : World} (S : (Nat → Bool) → World → Prop) (φ : Nat → Value → Prop) (ds : List Nat) (base : List (Nat × Value)) (p q r : List (List Nat))
    (hm : P.follows .mixedOrders = true) (hB : (invB ops && ancB ops q && descB ops q r && tabB ops ds (base.map (·.1)) p && ds.all (fun d => decide (d < a0.tmps.size))) = true)
    (hb0 : Holds a0 base) (hS0 : S (fun _ => false) w0.drew)
    (steps : AllSteps4 P S φ ds base p q r 0 ops.toList)
    (fin : ∀ (vs : Nat → Value) (L : Nat → Bool) (w : World), S L w → (∀ i, i < ops.size → L i = true) → (∀ j : Nat, j < ds.length → φ j (vs (ds.getD j 0))) → Q .normal (putAll a0 vs ds) w) : (Code.region id ops true).wp P Q a0 w0 := by
  simp only [Bool.and_eq_true] at hB
  obtain ⟨⟨⟨⟨hI, hA⟩, hD⟩, hT⟩, hsz⟩ := hB
  simp only [tabB, Bool.and_eq_true, beq_iff_eq] at hT
  obtain ⟨⟨hds, hbase⟩, htab⟩ := hT
  have hdst : ∀ (j : Nat) (oj : Oper), ops[j]? = some oj → oj.dst = some (ds.getD j 0) ∧ j < ds.length := fun j oj hj => by
    have h1 : (ops.toList.map (·.dst))[j]? = some oj.dst := by rw [List.getElem?_map]; simp [hj]
    rw [hds, List.getElem?_map] at h1
    cases hq : ds[j]? with
    | none => rw [hq] at h1; simp at h1
    | some d =>
      rw [hq] at h1
      have hl : j < ds.length := (List.getElem?_eq_some_iff.1 hq).1
      refine ⟨?_, hl⟩
      rw [List.getD_eq_getElem?_getD, hq]
      simpa using h1.symm
  have hdsts : dsts ops = ds := by
    unfold dsts
    have h1 : ops.toList.filterMap (·.dst) = (ops.toList.map (·.dst)).filterMap (fun x => x) := by rw [List.filterMap_map]; rfl
    rw [h1, hds, List.filterMap_map]
    exact List.filterMap_some
  refine wp_region_inv4 S φ hm hI hS0 (fun i o hi L a w hS hun hcl hall hfr hkn => ?_) (fun vs L w hS hL h => ?_) (fun d hd => by rw [hdsts] at hd; simpa using List.all_eq_true.1 hsz d hd)
  · have hil : i < ops.size := (Array.getElem?_eq_some_iff.1 hi).1
    have ht := List.all_eq_true.1 htab i (List.mem_range.2 hil)
    simp only [hi, Bool.and_eq_true] at ht
    have st := AllSteps4.at ops.toList p q r 0 steps i o (by simpa using hi)
    rw [Nat.zero_add] at st
    obtain ⟨hg, hk⟩ := st Q L a w hS hun (behind_of _ (anc_behind hA hcl (i + 1) i o (by omega) hi hall))
      (ahead_of _ (fun j hj => by
        have h1 := List.all_eq_true.1 (List.all_eq_true.1 hD i (List.mem_range.2 hil)) j hj
        simp only [Bool.and_eq_true, decide_eq_true_eq] at h1
        cases hLj : L j with
        | false => rfl
        | true =>
          have hoj : ops[j]? = some ops[j] := Array.getElem?_eq_getElem h1.1
          have h2 := anc_behind hA hcl (j + 1) j _ (by omega) hoj (hcl j _ hoj hLj) i (by simpa using h1.2)
          rw [hun] at h2
          cases h2))
      (holds_of base (fun t htm => eval_tmp_of (hfr t (fun j oj hj hd => by
        exfalso
        have h1 := List.all_eq_true.1 hbase t htm
        have h2 := (hdst j oj hj).1
        rw [hd] at h2
        have h3 : t = ds.getD j 0 := Option.some.inj h2
        have h4 : t ∈ ds := by
          rw [h3, List.getD_eq_getElem?_getD, List.getElem?_eq_getElem (hdst j oj hj).2]
          simp
        simp [h4] at h1))) hb0)
      (knows4_of _ (fun j hj => by
        have h1 := List.all_eq_true.1 ht.1 j hj
        simp only [Bool.and_eq_true, decide_eq_true_eq] at h1
        have hoj : ops[j]? = some ops[j] := Array.getElem?_eq_getElem h1.2
        have h2 := hkn j _ _ hoj (hdst j _ hoj).1 h1.1
        simpa [Act.eval] using h2))
    have hw : Region.wanted o (yielded ops a.tmps) = true := by
      unfold Region.wanted
      cases hgd : o.guard with
      | none => rfl
      | some x =>
        obtain ⟨g, b⟩ := x
        rw [hgd] at hg
        have h2 := ht.2
        rw [hgd] at h2
        simp only [decide_eq_true_eq] at h2
        have hog : ops[g]? = some ops[g] := Array.getElem?_eq_getElem h2
        have hd := (hdst g _ hog).1
        have h4 : a.tmps[ds.getD g 0]? = some (.bool b) := by
          simp only [Act.eval] at hg
          rw [Array.getD_eq_getD_getElem?] at hg
          cases hq : a.tmps[ds.getD g 0]? with
          | none => rw [hq] at hg; simp [undef] at hg
          | some v => rw [hq] at hg; simpa using hg
        have hy : yielded ops a.tmps g = some b := by
          unfold yielded
          rw [hog]
          simp only [Option.bind_some, hd, h4]
        simp [hy]
    unfold wpOp
    simp only [hi, hw, if_true]
    exact .inl (hk _ (fun v w' h1 h2 => ⟨v, rfl, h1, h2⟩))
  · rw [hdsts]
    refine fin vs L w hS hL (fun j hj => ?_)
    have hlen : ops.toList.length = ds.length := by have := congrArg List.length hds; simpa using this
    have hjl : j < ops.size := by rw [← hlen] at hj; simpa using hj
    have hoj : ops[j]? = some ops[j] := Array.getElem?_eq_getElem hjl
    exact h j _ _ hoj (hdst j _ hoj).1
end
end Go.Proofs.Ytbkbcfimpaolmaa
/-
  Own text. What the laws know of a session between its calls; a session of one keypair; boxes that open.
-/
namespace Go.Proofs.Ytbkbcfimpaolmaa
open Go.RowKit Go.Proofs
set_option maxRecDepth 100000
theorem under_under (key nonce : Nat → Int) (s : ByteArray) : underT key nonce (underT key nonce s) = s := by
  unfold underT
  rw [mkS_size]
  conv => rhs; rw [← mkS_txt s]
  refine mkS_congr (fun j hj => ?_)
  show xorw (txt (mkS s.size (strm key nonce 1 s)) j) (ksb key nonce 1 j) = txt s j
  rw [txt_mkS (strm_b key nonce 1 s j) hj]
  exact xorw_back8 (txt_b s j) (blk_b _ _ (Nat.mod_lt _ (by decide)))
theorem open_app (key nonce : Nat → Int) (u m beside : ByteArray) (hm : m.size = 16) : openT key nonce (u ++ m) beside = if m = markT key nonce u beside then (underT key nonce u, 0) else (ByteArray.empty, 13) := by
  have hs : (u ++ m).size = u.size + 16 := by rw [ByteArray.size_append, hm]
  have h1 : (u ++ m).size - 16 = u.size := by omega
  unfold openT
  rw [h1, app_left, app_right]
  by_cases e : m = markT key nonce u beside
  · rw [if_pos ⟨by omega, e⟩, if_pos e]
  · rw [if_neg (fun h => e h.2), if_neg e]
/-- What was sealed opens. -/
theorem open_box (key nonce : Nat → Int) (text beside : ByteArray) : openT key nonce (boxT key nonce text beside) beside = (text, 0) := by
  unfold boxT
  rw [open_app _ _ _ _ _ (markT_size _ _ _ _), if_pos rfl, under_under]
/-- What opens is the box of what comes out. -/
theorem box_open (key nonce : Nat → Int) (box beside : ByteArray) (h : (openT key nonce box beside).2 = 0) : boxT key nonce (openT key nonce box beside).1 beside = box := by
  by_cases h16 : 16 ≤ box.size
  · have e := app_cut box (box.size - 16) (by omega)
    have hm : (box.extract (box.size - 16) box.size).size = 16 := by rw [extract_size]; omega
    have ho := open_app key nonce (box.extract 0 (box.size - 16)) (box.extract (box.size - 16) box.size) beside hm
    rw [e] at ho
    rw [ho] at h ⊢
    by_cases hx : box.extract (box.size - 16) box.size = markT key nonce (box.extract 0 (box.size - 16)) beside
    · rw [if_pos hx]
      show boxT key nonce (underT key nonce (box.extract 0 (box.size - 16))) beside = box
      unfold boxT
      rw [under_under, ← hx]
      exact e
    · rw [if_neg hx] at h
      exact absurd h (by decide)
  · exfalso
    unfold openT at h
    rw [if_neg (fun h => h16 h.1)] at h
    exact absurd h (by decide)
/-- Between calls: the session lies above w0 and apart from the blocks N. -/
def SeSt (w0 : World) (sb : Nat) (N : Nat → Prop) (w : World) (σ : Ses) : Prop := ∃ S, SesAt w sb σ S ∧ (∀ k, S k → w0.heap.size ≤ k ∧ ¬ N k) ∧ Below w0.heap.size w0 w
def Kept (N : Nat → Prop) (w w' : World) : Prop := w.heap.size ≤ w'.heap.size ∧ ∀ k, k < w.heap.size → N k → w'.heap[k]? = w.heap[k]?
theorem Kept.trans {N : Nat → Prop} {u v w : World} (h : Kept N u v) (k : Kept N v w) : Kept N u w := ⟨Nat.le_trans h.1 k.1, fun i hi hn => (k.2 i (Nat.lt_of_lt_of_le hi h.1) hn).trans (h.2 i hi hn)⟩
theorem Kept.of {N : Nat → Prop} {w w' : World} (h : Below w.heap.size w w') : Kept N w w' := ⟨h.size, fun k hk _ => h.block k hk⟩
section
variable {w0 w w' : World} {sb : Nat} {N : Nat → Prop} {σ σ' : Ses}
theorem SeSt.size (h : SeSt w0 sb N w σ) : w0.heap.size ≤ w.heap.size := by obtain ⟨S, _, _, hB⟩ := h; exact hB.size
theorem SeSt.bel (h : SeSt w0 sb N w σ) : Below w0.heap.size w0 w := by obtain ⟨S, _, _, hB⟩ := h; exact hB
theorem SeSt.below (h : SeSt w0 sb N w σ) (hb : Below w.heap.size w w') : SeSt w0 sb N w' σ := by
  obtain ⟨S, h1, h2, hB⟩ := h
  exact ⟨S, h1.below hb, h2, hB.trans (hb.mono hB.size)⟩
theorem SeSt.goes {S : Nat → Prop} (h1 : ∀ k, S k → w0.heap.size ≤ k ∧ ¬ N k) (hN : ∀ k, N k → k < w.heap.size) (hB : Below w0.heap.size w0 w) (hG : Goes SesAt w sb S σ' w') : SeSt w0 sb N w' σ' ∧ Kept N w w' := by
  obtain ⟨S', a, hT, b⟩ := hG
  refine ⟨⟨S', a, fun k hk => ?_, hB.trans ⟨hT.os, hT.tape, hT.output, hT.size, fun k hk => hT.block k (Nat.lt_of_lt_of_le hk hB.size) (fun e => by have := (h1 k e).1; omega)⟩⟩, hT.size, fun k hk hn => hT.block k hk (fun e => (h1 k e).2 hn)⟩
  rcases b k hk with e | e
  · exact h1 k e
  · exact ⟨Nat.le_trans hB.size e, fun hn => by have := hN k hn; omega⟩
theorem SeSt.call {f : FuncId} {args : Array Value} {P : Ending → World → Prop} (h : SeSt w0 sb N w σ) (hN : ∀ k, N k → k < w.heap.size) (hC : ∀ S, SesAt w sb σ S → Calls Try.prog f args w fun e w' => P e w' ∧ Goes SesAt w sb S σ' w') : Calls Try.prog f args w fun e w' => P e w' ∧ SeSt w0 sb N w' σ' ∧ Kept N w w' := by
  obtain ⟨S, a, h1, hB⟩ := h
  exact (hC S a).mono (fun e w' ⟨p, g⟩ => ⟨p, SeSt.goes h1 hN hB g⟩)
theorem SeSt.reads {f : FuncId} {args : Array Value} {P : Ending → World → Prop} (h : SeSt w0 sb N w σ) (hC : ∀ S, SesAt w sb σ S → Calls Try.prog f args w fun e w' => P e w' ∧ Below w.heap.size w w') : Calls Try.prog f args w fun e w' => P e w' ∧ Below w.heap.size w w' := by
  obtain ⟨S, a, h1, hB⟩ := h
  exact hC S a
theorem SeSt.keep {g : Nat} (h : SeSt w0 sb N w σ) (hg : w.heap.size ≤ g) (hb : Below w.heap.size w w') : SeSt w0 sb (fun k => N k ∨ k = g) w' σ := by
  obtain ⟨S, a, h1, hB⟩ := h
  exact ⟨S, a.below hb, fun k hk => ⟨(h1 k hk).1, fun e => e.elim (h1 k hk).2 (fun e => by have := a.lt k hk; omega)⟩, hB.trans (hb.mono hB.size)⟩
theorem SeSt.new {b : Nat} (hB : Below w0.heap.size w0 w) (h : SesAt w' b ses0 (fun k => k = b)) (hb : w.heap.size ≤ b) (hb2 : Below w.heap.size w w') : SeSt w0 b (fun _ => False) w' ses0 :=
  ⟨_, h, fun k hk => ⟨by have := hB.size; omega, fun e => e⟩, hB.trans (hb2.mono hB.size)⟩
end
-- a drawn region in which one operation, n, changes what holds
def SL (A B : World → Prop) (n : Nat) (L : Nat → Bool) (w : World) : Prop := if L n = true then B w else A w
section
variable {A B : World → Prop} {n i : Nat} {L : Nat → Bool} {w w' : World}
theorem sl_a (h : SL A B n L w) (hl : L n = false) : A w := by unfold SL at h; rw [if_neg (by rw [hl]; simp)] at h; exact h
theorem sl_b (h : SL A B n L w) (hl : L n = true) : B w := by unfold SL at h; rw [if_pos hl] at h; exact h
theorem sl_next (hi : n ≠ i) (h : SL A B n L w) (hA : A w → A w') (hB : B w → B w') : SL A B n (fun j => if j = i then true else L j) w' := by
  unfold SL at h ⊢
  simp only [if_neg hi]
  split
  · rename_i e; rw [if_pos e] at h; exact hB h
  · rename_i e; rw [if_neg e] at h; exact hA h
theorem sl_same (hi : n ≠ i) (h : SL A B n L w) : SL A B n (fun j => if j = i then true else L j) w := sl_next hi h id id
theorem sl_ahead (hi : n ≠ i) (hl : L n = false) (h : A w') : SL A B n (fun j => if j = i then true else L j) w' := by
  unfold SL
  simp only [if_neg hi, hl]
  exact h
theorem sl_done (h : B w') : SL A B n (fun j => if j = n then true else L j) w' := by
  unfold SL
  simp only [if_true]
  exact h
theorem sl_start (h : A w) : SL A B n (fun _ => false) w := by
  unfold SL
  simp only [Bool.false_eq_true, if_false]
  exact h
end
theorem exec_addI {a : Act} {o : Oper} {w : World} {x y : Operand} (ho : o.op = .binOp .add 3 x y 3) {m n : Int} (hx : a.eval x = .int .i64 m) (hy : a.eval y = .int .i64 n) (h0 : 0 ≤ m + n) (h1 : m + n ≤ 9223372036854775807) : (execOp a.eval o).run Try.prog w = .ok (.value (.int .i64 (m + n))) w := by
  refine exec_bin2 ho hx hy rfl ?_
  have e : IntKind.i64.wrap (m + n) = m + n := by rw [IntKind.wrap_i64]; omega
  simp [go_sem, e]
-- a session of one keypair, which is current
structure One (σ : Ses) (k : Kp) : Prop where
  z : σ.K 0 = kp0
  o : σ.K 1 = k
  x : σ.K 2 = kp0
theorem at_ses0 (x : Int) : atF ses0.K x = -1 := by unfold atF hasL; simp [ses0, kp0]
theorem one_put {now : Int} {ks kr : Nat → Int} {loc far : Int} (h0 : 0 ≤ now) : One (putS ses0 now ks kr loc far true) (kpNew ks kr loc far 1 now true) ∧ (putS ses0 now ks kr loc far true).t = now := by
  rw [putS_yes (at_ses0 loc)]
  obtain ⟨p1, p2, p0⟩ := plG_t (ep := Kp.ep) (R := ses0.K) (r := kpNew ks kr loc far (ses0.c + 1) (max ses0.t now) true) (z := kp0)
  have hm : max ses0.t now = now := by show max 0 now = now; omega
  refine ⟨⟨?_, ?_, p2⟩, hm⟩
  · show placeG Kp.ep ses0.K (kpNew ks kr loc far (ses0.c + 1) (max ses0.t now) true) kp0 true 0 = kp0
    rw [p0]
    rfl
  · show placeG Kp.ep ses0.K (kpNew ks kr loc far (ses0.c + 1) (max ses0.t now) true) kp0 true 1 = kpNew ks kr loc far 1 now true
    rw [p1, hm]
    rfl
section
variable {σ : Ses} {k : Kp} {now : Int}
theorem one_at (h : One σ k) (he : k.ep ≠ 0) : atF σ.K k.loc = ((1 : Nat) : Int) := by
  unfold atF hasL
  rw [h.z, h.o]
  simp [kp0, he]
theorem one_sealOk (h : One σ k) : sealOk σ now = (!decide (k.ep = 0) && !oldF (max σ.t now) k) := by unfold sealOk; rw [h.o]
theorem one_seal {text : ByteArray} (h : One σ k) (he : k.ep ≠ 0) (ho : oldF (max σ.t now) k = false) : sealR σ now text = (k.far, k.sent, boxT k.ks (nonN k.sent) text ByteArray.empty, 0) ∧ One (sealS σ now) (kpSent k) ∧ (sealS σ now).t = max σ.t now := by
  have hs : sealOk σ now = true := by rw [one_sealOk h, ho]; simp [he]
  obtain ⟨e1, e2⟩ := seal_yes (text := text) hs
  rw [e1, e2, h.o]
  refine ⟨rfl, ⟨?_, ?_, ?_⟩, rfl⟩
  · show setG σ.K 1 (kpSent k) 0 = kp0; unfold setG; rw [if_neg (by omega)]; exact h.z
  · show setG σ.K 1 (kpSent k) 1 = kpSent k; unfold setG; rw [if_pos rfl]
  · show setG σ.K 1 (kpSent k) 2 = kp0; unfold setG; rw [if_neg (by omega)]; exact h.x
theorem one_seal_old {text : ByteArray} (h : One σ k) (ho : oldF (max σ.t now) k = true) : sealR σ now text = (0, 0, ByteArray.empty, 19) ∧ One (sealS σ now) k ∧ (sealS σ now).t = max σ.t now := by
  have hs : sealOk σ now = false := by rw [one_sealOk h, ho]; simp
  obtain ⟨e1, e2⟩ := seal_no (text := text) hs
  rw [e1, e2]
  exact ⟨rfl, ⟨h.z, h.o, h.x⟩, rfl⟩
theorem one_open {c : Int} {text : ByteArray} (h : One σ k) (he : k.ep ≠ 0) (ho : oldF (max σ.t now) k = false) (hc : c < 18446744073709543423) (hf : freshD L64 8192 k.n k.s c = true) (ht : topF (cat k.n k.s (fun _ => c)) (k.n + 1) < 8192) :
    (openS σ now k.loc c (boxT k.kr (nonN c) text ByteArray.empty)).1 = (text, k.ep, 0) ∧ One (openS σ now k.loc c (boxT k.kr (nonN c) text ByteArray.empty)).2 (kpTook k c) ∧ (openS σ now k.loc c (boxT k.kr (nonN c) text ByteArray.empty)).2.t = max σ.t now := by
  have hE : openE σ now 1 c = 0 := openE_ok (by rw [h.o]; exact ho) (by omega) (by rw [h.o]; exact hf)
  have hb := open_box k.kr (nonN c) text ByteArray.empty
  rw [openS_at (one_at h he), openAt_yes hE (by rw [h.o, hb]), h.o, hb]
  have s1 : setG σ.K 1 (kpTook k c) 1 = kpTook k c := by unfold setG; rw [if_pos rfl]
  have s0 : setG σ.K 1 (kpTook k c) 0 = kp0 := by unfold setG; rw [if_neg (by omega)]; exact h.z
  have s2 : setG σ.K 1 (kpTook k c) 2 = kp0 := by unfold setG; rw [if_neg (by omega)]; exact h.x
  have e : openedF (setG σ.K 1 (kpTook k c)) 1 = setG σ.K 1 (kpTook k c) := by
    unfold openedF
    simp only [show ¬ (1 = 2) by decide, if_false, s1]
    rw [if_neg (fun q => by have := q.2; simp only [kpTook] at this; omega)]
  rw [e]
  exact ⟨rfl, ⟨s0, s1, s2⟩, rfl⟩
theorem one_open_old {c : Int} {box : ByteArray} (h : One σ k) (he : k.ep ≠ 0) (ho : oldF (max σ.t now) k = true) : (openS σ now k.loc c box).1 = (ByteArray.empty, 0, 19) ∧ One (openS σ now k.loc c box).2 k ∧ (openS σ now k.loc c box).2.t = max σ.t now := by
  rw [openS_at (one_at h he), openAt_old (by rw [h.o]; exact ho)]
  exact ⟨rfl, ⟨h.z, h.o, h.x⟩, rfl⟩
theorem one_drop (h : One σ k) (p : Kp → Bool) : dropL p σ.K 3 = (if goesF p k = true then [k.loc] else []) ∧ dropK p σ.K 3 1 = (if goesF p k = true then kp0 else k) ∧ dropK p σ.K 3 0 = kp0 ∧ dropK p σ.K 3 2 = kp0 := by
  have hz : goesF p kp0 = false := by unfold goesF; simp [kp0]
  refine ⟨?_, ?_, ?_, ?_⟩
  · simp only [dropL, h.z, h.o, h.x, hz, Bool.false_eq_true, if_false, List.append_nil, List.nil_append]
  · unfold dropK; rw [h.o]; simp
  · unfold dropK; rw [h.z, hz]; simp
  · unfold dropK; rw [h.x, hz]; simp
theorem one_due (h : One σ k) : dueF σ.K 3 = if k.ep = 0 then -1 else k.born + 180000 := by
  simp only [dueF, h.z, h.o, h.x]
  by_cases e : k.ep = 0
  · simp [e, kp0]
  · simp [e, kp0]
end
end Go.Proofs.Ytbkbcfimpaolmaa
