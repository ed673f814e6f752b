/-
  Own text. Parts of texts, and numbers in them.
-/
import Derived.Test.YtojekoakgpkkdaaDoorJT2
import Derived.Test.YtojekoakgpkkdaaDoorJT1
import Derived.Tactics
namespace Go.Proofs.YtojekoakgpkkdaaDoor
open Go.RowKit Go.Proofs
set_option maxRecDepth 100000
theorem txt_ext {A B : ByteArray} (h : A.size = B.size) (h2 : ∀ j, j < A.size → txt A j = txt B j) : A = B := by
  rw [← mkS_txt A, ← mkS_txt B, ← h]
  exact mkS_congr h2
theorem txt_cutP (s : ByteArray) (a e j : Nat) (h : a + j < e) (he : e ≤ s.size) : txt (s.extract a e) j = txt s (a + j) := by
  have h1 : j < (s.extract a e).size := by rw [ByteArray.size_extract]; omega
  have h2 : a + j < s.size := by omega
  rw [← txt_get h1, ← txt_get h2]
  congr 2
  exact ByteArray.getElem_extract h1
theorem cutP_size (s : ByteArray) (a e : Nat) (he : e ≤ s.size) : (s.extract a e).size = e - a := by
  rw [ByteArray.size_extract]; omega
theorem cutP_join (s : ByteArray) {a m e : Nat} (h1 : a ≤ m) (h2 : m ≤ e) (h3 : e ≤ s.size) : s.extract a m ++ s.extract m e = s.extract a e := by
  have z1 := cutP_size s a m (by omega)
  have z2 := cutP_size s m e h3
  have z3 := cutP_size s a e h3
  refine txt_ext (by rw [ByteArray.size_append]; omega) (fun j hj => ?_)
  rw [ByteArray.size_append] at hj
  rw [txt_append, txt_cutP s a e j (by omega) h3]
  by_cases c : j < (s.extract a m).size
  · rw [if_pos c, txt_cutP s a m j (by omega) (by omega)]
  · rw [if_neg c, txt_cutP s m e _ (by omega) h3]
    congr 1
    omega
theorem cutP_cut (s : ByteArray) {a e b f : Nat} (he : e ≤ s.size) (hf : a + f ≤ e) : (s.extract a e).extract b f = s.extract (a + b) (a + f) := by
  have z1 := cutP_size s a e he
  have z2 := cutP_size (s.extract a e) b f (by omega)
  have z3 := cutP_size s (a + b) (a + f) (by omega)
  refine txt_ext (by omega) (fun j hj => ?_)
  rw [txt_cutP _ b f j (by omega) (by omega), txt_cutP s a e _ (by omega) he, txt_cutP s _ _ j (by omega) (by omega)]
  congr 1
  omega
theorem cutP_all (s : ByteArray) : s.extract 0 s.size = s := by
  refine txt_ext (by rw [cutP_size _ _ _ (Nat.le_refl _)]; omega) (fun j hj => ?_)
  rw [cutP_size _ _ _ (Nat.le_refl _)] at hj
  rw [txt_cutP s 0 s.size j (by omega) (Nat.le_refl _), Nat.zero_add]
theorem cutP_left (A B : ByteArray) {a e : Nat} (h : e ≤ A.size) : (A ++ B).extract a e = A.extract a e := by
  have z1 := cutP_size A a e h
  have z2 := cutP_size (A ++ B) a e (by rw [ByteArray.size_append]; omega)
  refine txt_ext (by omega) (fun j hj => ?_)
  rw [txt_cutP _ a e j (by omega) (by rw [ByteArray.size_append]; omega), txt_cutP A a e j (by omega) h, txt_append, if_pos (by omega)]
theorem cutP_right (A B : ByteArray) {n a e : Nat} (hn : A.size = n) (he : e ≤ B.size) : (A ++ B).extract (n + a) (n + e) = B.extract a e := by
  subst hn
  have z1 := cutP_size B a e he
  have z2 := cutP_size (A ++ B) (A.size + a) (A.size + e) (by rw [ByteArray.size_append]; omega)
  refine txt_ext (by omega) (fun j hj => ?_)
  rw [txt_cutP _ _ _ j (by omega) (by rw [ByteArray.size_append]; omega), txt_cutP B a e j (by omega) he, txt_append, if_neg (by omega)]
  congr 1
  omega
theorem txt_left (A B : ByteArray) {j : Nat} (h : j < A.size) : txt (A ++ B) j = txt A j := by rw [txt_append, if_pos h]
theorem txt_right (A B : ByteArray) {n j : Nat} (hn : A.size = n) : txt (A ++ B) (n + j) = txt B j := by
  subst hn
  rw [txt_append, if_neg (by omega), Nat.add_sub_cancel_left]
theorem getN_congr {f g : Nat → Int} {a b : Nat} : ∀ {z : Nat}, (∀ i, i < z → f (a + i) = g (b + i)) → getN f a z = getN g b z
  | 0, _ => rfl
  | z + 1, h => by
    unfold getN
    rw [getN_congr (fun i hi => h i (by omega)), h z (by omega)]
theorem getN_left (A B : ByteArray) {a z : Nat} (h : a + z ≤ A.size) : getN (txt (A ++ B)) a z = getN (txt A) a z := getN_congr (fun i hi => txt_left A B (by omega))
theorem getN_cut (s : ByteArray) {a e b z : Nat} (he : e ≤ s.size) (h : a + b + z ≤ e) : getN (txt (s.extract a e)) b z = getN (txt s) (a + b) z := getN_congr (fun i hi => by rw [txt_cutP s a e _ (by omega) he]; congr 1; omega)
theorem putT_size (N z : Nat) : (putT N z).size = z := mkS_size _ _
theorem empty_app (A : ByteArray) : ByteArray.empty ++ A = A := by
  refine txt_ext (by rw [ByteArray.size_append, ByteArray.size_empty]; omega) (fun j hj => ?_)
  rw [txt_append, if_neg (by rw [ByteArray.size_empty]; omega), ByteArray.size_empty]
  rfl
theorem app_empty (A : ByteArray) : A ++ ByteArray.empty = A := by
  refine txt_ext (by rw [ByteArray.size_append, ByteArray.size_empty]; omega) (fun j hj => ?_)
  rw [ByteArray.size_append, ByteArray.size_empty] at hj
  rw [txt_append, if_pos (by omega)]
theorem get_putP {N z : Nat} (hz : z ≤ 8) (hN : N < 256 ^ z) (B : ByteArray) : getN (txt (putT N z ++ B)) 0 z = N := by
  have h := get_put ByteArray.empty N z hz z (Nat.le_refl _)
  rw [empty_app, ByteArray.size_empty, Nat.sub_self, Nat.pow_zero, Nat.div_one, Nat.mod_eq_of_lt hN] at h
  rw [getN_left _ _ (by rw [putT_size]; omega), h]
theorem get_putA {N z : Nat} (hz : z ≤ 8) (hN : N < 256 ^ z) : getN (txt (putT N z)) 0 z = N := by
  have := get_putP hz hN ByteArray.empty
  rwa [app_empty] at this
theorem put_one {N : Nat} (h : N < 256) : txt (putT N 1) 0 = (N : Int) := by
  unfold putT
  rw [txt_mkS (putF_b N 1 0) (by decide)]
  unfold putF
  simp
  omega
theorem getN_high {f : Nat → Int} (hf : ∀ j, 0 ≤ f j ∧ f j < 256) (a : Nat) : ∀ z i, i ≤ z → getN f a z / 256 ^ (z - i) = getN f a i
  | 0, i, h => by
    obtain rfl : i = 0 := by omega
    simp [getN]
  | z + 1, i, h => by
    by_cases e : i = z + 1
    · subst e
      simp
    · have ih := getN_high hf a z i (by omega)
      have hb := hf (a + z)
      rw [← ih, show z + 1 - i = z - i + 1 by omega, Nat.pow_succ, Nat.mul_comm, ← Nat.div_div_eq_div_mul]
      congr 1
      show (getN f a z * 256 + (f (a + z)).toNat) / 256 = getN f a z
      omega
theorem put_getN (b : ByteArray) {a z : Nat} (h : a + z ≤ b.size) : putT (getN (txt b) a z) z = b.extract a (a + z) := by
  have z1 := cutP_size b a (a + z) h
  refine txt_ext (by rw [putT_size]; omega) (fun j hj => ?_)
  rw [putT_size] at hj
  rw [txt_cutP b a (a + z) j (by omega) h]
  unfold putT
  rw [txt_mkS (putF_b _ z j) hj]
  unfold putF
  have e1 := getN_high (fun j => txt_b b j) a z (j + 1) (by omega)
  rw [show z - 1 - j = z - (j + 1) by omega, e1]
  have hb := txt_b b (a + j)
  show (((getN (txt b) a j * 256 + (txt b (a + j)).toNat) % 256 : Nat) : Int) = _
  omega
theorem bytT_ok {v : Bool} {b : Nat → Int} (h : validF v b = true) : bytT v b = mkS (if v = true then 16 else 4) b := by unfold bytT; rw [if_pos h]
theorem bytT_len {v : Bool} {b : Nat → Int} (h : validF v b = true) : (bytT v b).size = if v = true then 16 else 4 := by rw [bytT_ok h, mkS_size]
theorem app_assoc (A B C : ByteArray) : A ++ B ++ C = A ++ (B ++ C) := by
  refine txt_ext (by simp only [ByteArray.size_append]; omega) (fun j hj => ?_)
  simp only [txt_append, ByteArray.size_append]
  by_cases c1 : j < A.size
  · rw [if_pos (by omega), if_pos c1, if_pos c1]
  · by_cases c2 : j < A.size + B.size
    · rw [if_pos c2, if_neg c1, if_neg c1, if_pos (by omega)]
    · rw [if_neg c2, if_neg c1, if_neg (by omega)]
      congr 1
      omega
theorem app_inj {A B C D : ByteArray} (h : A ++ B = C ++ D) (hs : A.size = C.size) : A = C ∧ B = D := by
  have e1 : (A ++ B).extract 0 A.size = (C ++ D).extract 0 A.size := by rw [h]
  rw [cutP_left A B (Nat.le_refl _), cutP_all, hs, cutP_left C D (Nat.le_refl _), cutP_all] at e1
  refine ⟨e1, ?_⟩
  have hz : B.size = D.size := by
    have := congrArg ByteArray.size h
    simp only [ByteArray.size_append] at this
    omega
  refine txt_ext hz (fun j _ => ?_)
  rw [← txt_right A B rfl, ← txt_right C D (n := A.size) hs.symm, h]
end Go.Proofs.YtojekoakgpkkdaaDoor

/-
  Own text. A region whose operations come in the text's order, operation by operation, with guards that nobody knows: what an operation yields is told whether it is wanted or not. No program is named here.
-/
namespace Go.Proofs.YtojekoakgpkkdaaDoor
open Go
section
variable {P : Program} {ops : Array Oper} {Q : Exit → Act → World → Prop}
/-- Operation k: it is wanted, and yields what is known of it; or it is not, and that is known of 'undef'. -/
def WantP (P : Program) (R : World → World → Prop) (φ : Nat → Value → World → Prop) (ds : List Nat) (k : Nat) (o : Oper) (Q : Exit → Act → World → Prop) (a : Act) (w : World) : Prop :=
  ((match o.guard with | none => True | some (g, b) => a.eval (.tmp (ds.getD g 0)) = .bool b) ∧
      ∀ K : Act → World → Prop, (∀ v w', φ k v w' → R w w' → K (a.put o.dst v) w') → o.wp P a w K Q) ∨
    ((match o.guard with | none => False | some (g, b) => a.eval (.tmp (ds.getD g 0)) = .bool (!b) ∨ a.eval (.tmp (ds.getD g 0)) = undef) ∧ φ k undef w)
/-- The slots that the region does not write; up to operation K also those that it writes later on. -/
def baseAt (base base0 : List (Nat × Value)) (K k : Nat) : List (Nat × Value) := match Nat.ble k K with | true => base ++ base0 | false => base
def StepP (P : Program) (S : World → Prop) (R : World → World → Prop) (φ : Nat → Value → World → Prop) (ds : List Nat) (base : List (Nat × Value)) (p : List Nat) (k : Nat) (o : Oper) : Prop :=
  ∀ (Q : Exit → Act → World → Prop) (a : Act) (w : World), S w → Holds a base → Knows φ ds a w p → WantP P R φ ds k o Q a w
def AllStepsP (P : Program) (S : World → Prop) (R : World → World → Prop) (φ : Nat → Value → World → Prop) (ds : List Nat) (base base0 : List (Nat × Value)) (K : Nat) : List (List Nat) → Nat → List Oper → Prop
  | _, _, [] => True
  | p, k, o :: l => StepP P S R φ ds (baseAt base base0 K k) (p.headD []) k o ∧ AllStepsP P S R φ ds base base0 K p.tail (k + 1) l
def tabP (ops : Array Oper) (n : Nat) (ds : List Nat) (base base0 : List Nat) (K : Nat) (p : List (List Nat)) : Bool :=
  (ops.toList.map (·.dst) == ds.map some) && decide ds.Nodup && base.all (fun t => !ds.contains t) && base0.all (fun t => !(ds.take K).contains t) && ds.all (fun d => decide (d < n)) &&
  (List.range ops.size).all (fun i => (p.getD i []).all (fun j => decide (j < i)) && (match ops[i]? with | some o => (match o.guard with | some (g, _) => decide (g < i) | none => true) | none => true))
theorem holds_app {a : Act} : ∀ {l m : List (Nat × Value)}, Holds a l → Holds a m → Holds a (l ++ m)
  | [], _, _, h => h
  | _ :: _, _, h1, h2 => ⟨h1.1, holds_app h1.2 h2⟩
theorem put_else {a : Act} {d t : Nat} {v : Value} (h : d ≠ t) : (a.put (some d) v).tmps[t]? = a.tmps[t]? := by simp [Act.put, h]
theorem put_same {a : Act} {d : Nat} {v : Value} (h : d < a.tmps.size) : (a.put (some d) v).tmps.getD d undef = v := by simp [Act.put, h]
theorem plain_go {a0 : Act} {S : World → Prop} {R : World → World → Prop} {φ : Nat → Value → World → Prop} {ds : List Nat} {base base0 : List (Nat × Value)} {K : Nat}
    (hds : ops.toList.map (·.dst) = ds.map some) (hnd : ds.Nodup) (hbase : ∀ t ∈ base.map (·.1), t ∉ ds) (hbase0 : ∀ t ∈ base0.map (·.1), t ∉ ds.take K) (hsz : ∀ d ∈ ds, d < a0.tmps.size)
    (hb0 : Holds a0 base) (hb00 : Holds a0 base0) (hSR : ∀ w w', S w → R w w' → S w') (hφ : ∀ i v w w', φ i v w → R w w' → φ i v w')
    (fin : ∀ (vs : Nat → Value) (w : World), S w → (∀ j : Nat, j < ds.length → φ j (vs (ds.getD j 0)) w) → Q .normal (putAll a0 vs ds) w) :
    ∀ (l : List Oper) (p : List (List Nat)) (k : Nat), ops.toList.drop k = l → k ≤ ops.size →
      (∀ i, k ≤ i → i < ops.size → (p.getD (i - k) []).all (fun j => decide (j < i)) = true ∧ (match ops[i]? with | some o => (match o.guard with | some (g, _) => decide (g < i) | none => true) | none => true) = true) →
      AllStepsP P S R φ ds base base0 K p k l → ∀ (a : Act) (w : World), a.tmps.size = a0.tmps.size → a.defers = a0.defers → S w →
      (∀ t : Nat, (∀ j, j < k → ds.getD j 0 ≠ t) → a.tmps[t]? = a0.tmps[t]?) → (∀ j, j < k → φ j (a.tmps.getD (ds.getD j 0) undef) w) → wpList P ops Q l a w
  | [], p, k, hl, hk, _, _, a, w, hs, hd, hS, hfr, hkn => by
    have hlen : ops.toList.length = ds.length := by have := congrArg List.length hds; simpa using this
    have hke : k = ops.size := by
      have := congrArg List.length hl
      simp at this
      omega
    have hkl : k = ds.length := by rw [← hlen, hke]; simp
    have hq := fin (fun d => a.tmps.getD d undef) w hS (fun j hj => hkn j (by omega))
    have ha : putAll a0 (fun d => a.tmps.getD d undef) ds = a := by
      have h1 := putAll_defers (fun d => a.tmps.getD d undef) ds a0
      have h2 : (putAll a0 (fun d => a.tmps.getD d undef) ds).tmps = a.tmps := by
        apply Array.ext_getElem?
        intro t
        by_cases ht : t < a0.tmps.size
        · rw [putAll_get _ _ _ _ ht]
          by_cases hm2 : t ∈ ds
          · rw [if_pos hm2]
            have : t < a.tmps.size := by rw [hs]; exact ht
            simp [this]
          · rw [if_neg hm2]
            exact (hfr t (fun j hj e => hm2 (by
              rw [← e, List.getD_eq_getElem?_getD, List.getElem?_eq_getElem (by omega)]
              simp))).symm
        · rw [Array.getElem?_eq_none (by rw [putAll_size]; omega), Array.getElem?_eq_none (by rw [hs]; omega)]
      rw [← hd] at h1
      generalize putAll a0 (fun d => a.tmps.getD d undef) ds = b at h1 h2
      cases a; cases b
      simp only at h1 h2
      rw [h1, h2]
    rw [ha] at hq
    exact hq
  | o :: l, p, k, hl, hk, htab, hst, a, w, hs, hd, hS, hfr, hkn => by
    have hlen : ops.toList.length = ds.length := by have := congrArg List.length hds; simpa using this
    have hkl : k < ops.size := by
      rcases Nat.lt_or_ge k ops.size with h | h
      · exact h
      · rw [List.drop_eq_nil_of_le (by simpa using h)] at hl
        cases hl
    have hkd : k < ds.length := by rw [← hlen]; simpa using hkl
    have ho : ops[k]? = some o := by
      have h1 : (ops.toList.drop k)[0]? = some o := by rw [hl]; rfl
      rw [List.getElem?_drop] at h1
      simpa using h1
    have hdst : ∀ (j : Nat) (oj : Oper), ops[j]? = some oj → oj.dst = some (ds.getD j 0) := fun j oj hj => by
      have h1 : (ops.toList.map (·.dst))[j]? = some oj.dst := by rw [List.getElem?_map]; simp [hj]
      rw [hds, List.getElem?_map] at h1
      cases hq : ds[j]? with
      | none => rw [hq] at h1; simp at h1
      | some d =>
        rw [hq] at h1
        rw [List.getD_eq_getElem?_getD, hq]
        simpa using h1.symm
    have hdk := hdst k o ho
    have hmem : ds.getD k 0 ∈ ds := by
      rw [List.getD_eq_getElem?_getD, List.getElem?_eq_getElem hkd]
      simp
    have hne : ∀ j, j < k → ds.getD j 0 ≠ ds.getD k 0 := fun j hj e => by
      have hj2 : j < ds.length := by omega
      rw [List.getD_eq_getElem?_getD, List.getD_eq_getElem?_getD, List.getElem?_eq_getElem hj2, List.getElem?_eq_getElem hkd] at e
      have := (List.getElem_inj hnd).1 (by simpa using e)
      omega
    have hl2 : ops.toList.drop (k + 1) = l := by
      have := congrArg List.tail hl
      simpa using this
    obtain ⟨hp, hg0⟩ := htab k (Nat.le_refl _) hkl
    rw [Nat.sub_self] at hp
    have hp' : ∀ j ∈ p.headD [], j < k := fun j hj => by
      have : p.getD 0 [] = p.headD [] := by cases p <;> rfl
      rw [this] at hp
      simpa using List.all_eq_true.1 hp j hj
    have htab' : ∀ i, k + 1 ≤ i → i < ops.size → (p.tail.getD (i - (k + 1)) []).all (fun j => decide (j < i)) = true ∧ (match ops[i]? with | some o => (match o.guard with | some (g, _) => decide (g < i) | none => true) | none => true) = true := fun i h1 h2 => by
      have h3 := htab i (by omega) h2
      refine ⟨?_, h3.2⟩
      have e : p.tail.getD (i - (k + 1)) [] = p.getD (i - k) [] := by
        cases p with
        | nil => rfl
        | cons x p => rw [show i - k = i - (k + 1) + 1 by omega]; rfl
      rw [e]
      exact h3.1
    have next : ∀ v w', S w' → (∀ j, j < k → φ j (a.tmps.getD (ds.getD j 0) undef) w') → φ k v w' → wpList P ops Q l (a.put o.dst v) w' := fun v w' hS' hkn' hv => by
      have hlt : ds.getD k 0 < a.tmps.size := by rw [hs]; exact hsz _ hmem
      refine plain_go hds hnd hbase hbase0 hsz hb0 hb00 hSR hφ fin l p.tail (k + 1) hl2 (by omega) htab' hst.2 (a.put o.dst v) w' ?_ ?_ hS' ?_ ?_
      · rw [hdk]; simpa [Act.put] using hs
      · rw [hdk]; exact hd
      · intro t ht
        have h1 : ds.getD k 0 ≠ t := ht k (by omega)
        rw [hdk, put_else h1]
        exact hfr t (fun j hj => ht j (by omega))
      · intro j hj
        by_cases e : j = k
        · subst e
          rw [hdk, put_same hlt]
          exact hv
        · have h1 := Ne.symm (hne j (by omega))
          rw [hdk, Array.getD_eq_getD_getElem?, put_else h1, ← Array.getD_eq_getD_getElem?]
          exact hkn' j (by omega)
    have hH : Holds a base := holds_of base (fun t ht => eval_tmp_of (hfr t (fun j hj e => hbase t ht (by
      rw [← e, List.getD_eq_getElem?_getD, List.getElem?_eq_getElem (by omega)]
      simp)))) hb0
    have hH' : Holds a (baseAt base base0 K k) := by
      unfold baseAt
      cases hk' : Nat.ble k K
      · exact hH
      · refine holds_app hH (holds_of base0 (fun t ht => eval_tmp_of (hfr t (fun j hj e => hbase0 t ht ?_))) hb00)
        have hjK : j < K := Nat.lt_of_lt_of_le hj (Nat.le_of_ble_eq_true hk')
        rw [← e, List.getD_eq_getElem?_getD, List.getElem?_eq_getElem (by omega)]
        exact List.mem_take_iff_getElem.2 ⟨j, by omega, rfl⟩
    have hK : Knows φ ds a w (p.headD []) := knows_of _ (fun j hj => by simpa [Act.eval] using hkn j (hp' j hj))
    have hyield : ∀ g, g < k → ∀ v, a.eval (.tmp (ds.getD g 0)) = v → yielded ops a.tmps g = (match v with | .bool b => some b | _ => none) := fun g hg v hv => by
      have hog : ops[g]? = some (ops[g]'(by omega)) := Array.getElem?_eq_getElem (by omega)
      have hd := hdst g _ hog
      have hgm : ds.getD g 0 < a.tmps.size := by
        rw [hs]
        apply hsz
        rw [List.getD_eq_getElem?_getD, List.getElem?_eq_getElem (by omega)]
        simp
      have h4 : a.tmps[ds.getD g 0]? = some v := by
        simp only [Act.eval] at hv
        rw [Array.getD_eq_getD_getElem?, Array.getElem?_eq_getElem hgm] at hv
        rw [Array.getElem?_eq_getElem hgm]
        simpa using hv
      unfold yielded
      rw [hog]
      simp only [Option.bind_some, hd, h4]
      cases v <;> rfl
    have hgk : ∀ g b, o.guard = some (g, b) → g < k := fun g b hgd => by
      rw [ho] at hg0
      simp only [hgd] at hg0
      simpa using hg0
    unfold wpList
    rcases hst.1 Q a w hS hH' hK with ⟨hg, hk2⟩ | ⟨hg, hu⟩
    · have hw : Region.wanted o (yielded ops a.tmps) = true := by
        unfold Region.wanted
        cases hgd : o.guard with
        | none => rfl
        | some x =>
          obtain ⟨g, b⟩ := x
          rw [hgd] at hg
          have := hyield g (hgk g b hgd) _ hg
          simp [this]
      rw [if_pos hw]
      exact .inl (hk2 _ (fun v w' h1 h2 => next v w' (hSR w w' hS h2) (fun j hj => hφ j _ w w' (hkn j hj) h2) h1))
    · have hw : Region.wanted o (yielded ops a.tmps) = false := by
        unfold Region.wanted
        cases hgd : o.guard with
        | none => rw [hgd] at hg; exact hg.elim
        | some x =>
          obtain ⟨g, b⟩ := x
          rw [hgd] at hg
          rcases hg with hg | hg
          · have := hyield g (hgk g b hgd) _ hg
            cases b <;> simp [this]
          · have := hyield g (hgk g b hgd) _ hg
            simp [this, undef]
      rw [if_neg (by rw [hw]; decide)]
      exact next undef w hS hkn hu
/-- THE LAW. -/
theorem wp_plain_steps {id : Nat} {a0 : Act} {w0 : World} (S : World → Prop) (R : World → World → Prop) (φ : Nat → Value → World → Prop) (ds : List Nat) (base base0 : List (Nat × Value)) (K : Nat) (p : List (List Nat))
    (hB : tabP ops a0.tmps.size ds (base.map (·.1)) (base0.map (·.1)) K p = true)
    (hb0 : Holds a0 base) (hb00 : Holds a0 base0) (hS0 : S w0) (hSR : ∀ w w', S w → R w w' → S w') (hφ : ∀ i v w w', φ i v w → R w w' → φ i v w')
    (steps : AllStepsP P S R φ ds base base0 K p 0 ops.toList)
    (fin : ∀ (vs : Nat → Value) (w : World), S w → (∀ j : Nat, j < ds.length → φ j (vs (ds.getD j 0)) w) → Q .normal (putAll a0 vs ds) w) : (Code.region id ops false).wp P Q a0 w0 := by
  simp only [tabP, Bool.and_eq_true, beq_iff_eq, decide_eq_true_eq] at hB
  obtain ⟨⟨⟨⟨⟨hds, hnd⟩, hbase⟩, hbase0⟩, hsz⟩, htab⟩ := hB
  refine wp_region_list (plain_go hds hnd (fun t ht => ?_) (fun t ht => ?_) (fun d hd => ?_) hb0 hb00 hSR hφ fin ops.toList p 0 (by simp) (by omega) (fun i _ hi => ?_) steps a0 w0 rfl rfl hS0 (fun _ _ => rfl) (fun j hj => by omega))
  · have := List.all_eq_true.1 hbase t ht
    simpa using this
  · have := List.all_eq_true.1 hbase0 t ht
    simpa using this
  · simpa using List.all_eq_true.1 hsz d hd
  · have := List.all_eq_true.1 htab i (List.mem_range.2 hi)
    rw [Nat.sub_zero]
    rw [Bool.and_eq_true] at this
    exact this
end
-- what is known of an operation that is wanted only if something holds
def gv (c : Bool) (v : Value) : Value := if c = true then v else undef
theorem gv_t {c : Bool} {v : Value} (h : c = true) : gv c v = v := by unfold gv; rw [if_pos h]
theorem gv_f {c : Bool} {v : Value} (h : c = false) : gv c v = undef := by unfold gv; rw [if_neg (by rw [h]; decide)]
theorem nt_t {c : Bool} (h : c = false) : (!c) = true := by rw [h]; rfl
theorem nt_f {c : Bool} (h : c = true) : (!c) = false := by rw [h]; rfl
theorem an_t {c d : Bool} (h : c = true) (k : d = true) : (c && d) = true := by rw [h, k]; rfl
section
variable {P : Program} {a : Act} {o : Oper} {w : World} {x y z : Operand}
theorem exec_pickAnd (ho : o.op = .pick x y z) {c p : Bool} (hx : a.eval x = .bool c) (hy : c = true → a.eval y = .bool p) (hz : a.eval z = .bool false) : (execOp a.eval o).run P w = .ok (.value (.bool (c && p))) w := by
  unfold execOp
  cases c
  · simp [ho, hx, asBool, Sem.run_pure, hz]
  · simp [ho, hx, asBool, Sem.run_pure, hy rfl]
theorem exec_pickOr (ho : o.op = .pick x y z) {c p : Bool} (hx : a.eval x = .bool c) (hy : a.eval y = .bool true) (hz : c = false → a.eval z = .bool p) : (execOp a.eval o).run P w = .ok (.value (.bool (c || p))) w := by
  unfold execOp
  cases c
  · simp [ho, hx, asBool, Sem.run_pure, hz rfl]
  · simp [ho, hx, asBool, Sem.run_pure, hy]
theorem exec_notB {t : TypeId} (ho : o.op = .unOp .not t x) {c : Bool} (hx : a.eval x = .bool c) : (execOp a.eval o).run P w = .ok (.value (.bool (!c))) w := by
  unfold execOp
  simp only [ho, hx]
  simp [Op.unary, go_sem]
end
section
variable {P : Program} {S : World → Prop} {R : World → World → Prop} {φ : Nat → Value → World → Prop} {a : Act} {o : Oper} {w : World} {Q : Exit → Act → World → Prop} {ds : List Nat} {k g : Nat}
theorem sg0 (hgd : o.guard = none) (h1 : ∀ K : Act → World → Prop, (∀ v w', φ k v w' → R w w' → K (a.put o.dst v) w') → o.wp P a w K Q) : WantP P R φ ds k o Q a w := by
  unfold WantP
  rw [hgd]
  exact .inl ⟨trivial, h1⟩
/-- A guard that is a known fact: wanted if c. -/
theorem sgT {c : Bool} (hgd : o.guard = some (g, true)) (hg : a.eval (.tmp (ds.getD g 0)) = .bool c) (h1 : c = true → ∀ K : Act → World → Prop, (∀ v w', φ k v w' → R w w' → K (a.put o.dst v) w') → o.wp P a w K Q) (h0 : c = false → φ k undef w) : WantP P R φ ds k o Q a w := by
  unfold WantP
  rw [hgd]
  cases c
  · exact .inr ⟨.inl hg, h0 rfl⟩
  · exact .inl ⟨hg, h1 rfl⟩
theorem sgF {c : Bool} (hgd : o.guard = some (g, false)) (hg : a.eval (.tmp (ds.getD g 0)) = .bool c) (h1 : c = false → ∀ K : Act → World → Prop, (∀ v w', φ k v w' → R w w' → K (a.put o.dst v) w') → o.wp P a w K Q) (h0 : c = true → φ k undef w) : WantP P R φ ds k o Q a w := by
  unfold WantP
  rw [hgd]
  cases c
  · exact .inl ⟨hg, h1 rfl⟩
  · exact .inr ⟨.inl hg, h0 rfl⟩
/-- The same where the guard itself is wanted only if d. -/
theorem sgTT {c d : Bool} (hgd : o.guard = some (g, true)) (hg : a.eval (.tmp (ds.getD g 0)) = gv d (.bool c)) (h1 : (d && c) = true → ∀ K : Act → World → Prop, (∀ v w', φ k v w' → R w w' → K (a.put o.dst v) w') → o.wp P a w K Q) (h0 : (d && c) = false → φ k undef w) : WantP P R φ ds k o Q a w := by
  unfold WantP
  rw [hgd]
  cases d
  · exact .inr ⟨.inr hg, h0 rfl⟩
  · cases c
    · exact .inr ⟨.inl hg, h0 rfl⟩
    · exact .inl ⟨hg, h1 rfl⟩
theorem sgTF {c d : Bool} (hgd : o.guard = some (g, false)) (hg : a.eval (.tmp (ds.getD g 0)) = gv d (.bool c)) (h1 : (d && !c) = true → ∀ K : Act → World → Prop, (∀ v w', φ k v w' → R w w' → K (a.put o.dst v) w') → o.wp P a w K Q) (h0 : (d && !c) = false → φ k undef w) : WantP P R φ ds k o Q a w := by
  unfold WantP
  rw [hgd]
  cases d
  · exact .inr ⟨.inr hg, h0 rfl⟩
  · cases c
    · exact .inl ⟨hg, h1 rfl⟩
    · exact .inr ⟨.inl hg, h0 rfl⟩
end
end Go.Proofs.YtojekoakgpkkdaaDoor

/-
  Own text. Packets and extension headers in memory, and laws of single operations over them.
-/
namespace Go.Proofs.YtojekoakgpkkdaaDoor
open Go.RowKit Go.Proofs
set_option maxRecDepth 100000
def pkT (P : Pk) (v : Value) : Nat → Value
  | 0 => .int .i64 P.proto
  | 1 => .int .i64 P.hop
  | 2 => .int .i64 P.cls
  | 3 => .int .i64 P.id
  | 4 => .int .i64 P.off
  | 5 => .bool P.more
  | 6 => .bool P.still
  | 7 => .string P.opts
  | 8 => .int .i64 P.flow
  | 9 => v
  | 10 => .bool P.cut
  | _ => .string P.pay
/-- The cells of a packet; v: the slice of its extension headers. -/
def pkV (P : Pk) (v : Value) (j : Nat) : Value := if j < 17 then adV P.sv P.sb j else if j < 34 then adV P.dv P.db (j - 17) else pkT P v (j - 34)
theorem pkV_one {P : Pk} {v : Value} (hv : v.oneCell' = true) (j : Nat) : (pkV P v j).oneCell' = true := by
  unfold pkV
  split
  · exact adV_one _ _ _
  · split
    · exact adV_one _ _ _
    · unfold pkT
      split <;> first | rfl | exact hv
def exV (x : Ex) (j : Nat) : Value := if j = 0 then .int .i64 x.kind else .string x.body
theorem exV_one (x : Ex) (j : Nat) : (exV x j).oneCell' = true := by unfold exV; split <;> rfl
theorem isPk : IsSt 39 46 := ⟨_, Tryd.underlying39, rfl, by kernel_rfl⟩
theorem isEx2 : IsSt 88 2 := ⟨_, Tryd.underlying88, rfl, by kernel_rfl⟩
theorem zeroPk (w : World) : (zeroValue 39).run Tryd.prog w = .ok (.agg (SC 46 (pkV zeroP (.slice none 0 0)))) w := by kernel_rfl
theorem zeroEx (w : World) : (zeroValue 88).run Tryd.prog w = .ok (.agg (SC 2 (exV ⟨0, ByteArray.empty⟩))) w := by kernel_rfl
theorem run_pk0 (w : World) : (Instr.build 39 #[]).run Tryd.prog w = .ok (.agg (SC 46 (pkV zeroP (.slice none 0 0)))) w := by kernel_rfl
/-- A slice of extension headers. -/
def ExAt (w : World) (v : Value) (l : List Ex) : Prop := ∃ a cap, v = .slice a l.length cap ∧ ∀ j x, l[j]? = some x → ∃ ad : Addr, a = some ad ∧ ad.block < w.heap.size ∧ w.cell? (ad.add (2 * j)) = some (.int .i64 x.kind) ∧ w.cell? (ad.add (2 * j + 1)) = some (.string x.body)
theorem ExAt.kept {w w' : World} {v : Value} {l : List Ex} (h : ExAt w v l) (hb : Below w.heap.size w w') : ExAt w' v l := by
  obtain ⟨a, cap, rfl, h⟩ := h
  refine ⟨a, cap, rfl, fun j x hj => ?_⟩
  obtain ⟨ad, ha, hl, h1, h2⟩ := h j x hj
  exact ⟨ad, ha, Nat.lt_of_lt_of_le hl hb.size, by rw [hb.cell (by rw [add_blk]; exact hl)]; exact h1, by rw [hb.cell (by rw [add_blk]; exact hl)]; exact h2⟩
theorem ExAt.nil (w : World) : ExAt w (.slice none 0 0) [] := ⟨none, 0, rfl, fun j x h => by simp at h⟩
section
variable {w : World} {g : Nat} {P : Pk} {v : Value}
theorem pk_sv (h : SAt w g 39 46 (pkV P v)) : w.cell? ⟨g, 0, none⟩ = some (.bool P.sv) := h.at 0 (by decide)
theorem pk_dv (h : SAt w g 39 46 (pkV P v)) : w.cell? ⟨g, 17, none⟩ = some (.bool P.dv) := h.at 17 (by decide)
theorem pk_proto (h : SAt w g 39 46 (pkV P v)) : w.cell? ⟨g, 34, none⟩ = some (.int .i64 P.proto) := h.at 34 (by decide)
theorem pk_hop (h : SAt w g 39 46 (pkV P v)) : w.cell? ⟨g, 35, none⟩ = some (.int .i64 P.hop) := h.at 35 (by decide)
theorem pk_cls (h : SAt w g 39 46 (pkV P v)) : w.cell? ⟨g, 36, none⟩ = some (.int .i64 P.cls) := h.at 36 (by decide)
theorem pk_id (h : SAt w g 39 46 (pkV P v)) : w.cell? ⟨g, 37, none⟩ = some (.int .i64 P.id) := h.at 37 (by decide)
theorem pk_off (h : SAt w g 39 46 (pkV P v)) : w.cell? ⟨g, 38, none⟩ = some (.int .i64 P.off) := h.at 38 (by decide)
theorem pk_more (h : SAt w g 39 46 (pkV P v)) : w.cell? ⟨g, 39, none⟩ = some (.bool P.more) := h.at 39 (by decide)
theorem pk_still (h : SAt w g 39 46 (pkV P v)) : w.cell? ⟨g, 40, none⟩ = some (.bool P.still) := h.at 40 (by decide)
theorem pk_opts (h : SAt w g 39 46 (pkV P v)) : w.cell? ⟨g, 41, none⟩ = some (.string P.opts) := h.at 41 (by decide)
theorem pk_flow (h : SAt w g 39 46 (pkV P v)) : w.cell? ⟨g, 42, none⟩ = some (.int .i64 P.flow) := h.at 42 (by decide)
theorem pk_exts (h : SAt w g 39 46 (pkV P v)) : w.cell? ⟨g, 43, none⟩ = some v := h.at 43 (by decide)
theorem pk_cut (h : SAt w g 39 46 (pkV P v)) : w.cell? ⟨g, 44, none⟩ = some (.bool P.cut) := h.at 44 (by decide)
theorem pk_pay (h : SAt w g 39 46 (pkV P v)) : w.cell? ⟨g, 45, none⟩ = some (.string P.pay) := h.at 45 (by decide)
theorem ex_kind {x : Ex} (h : SAt w g 88 2 (exV x)) : w.cell? ⟨g, 0, none⟩ = some (.int .i64 x.kind) := h.at 0 (by decide)
theorem ex_body {x : Ex} (h : SAt w g 88 2 (exV x)) : w.cell? ⟨g, 1, none⟩ = some (.string x.body) := h.at 1 (by decide)
theorem ldP {p : Addr} {n : Int} (h : w.cell? p = some (.int .i64 n)) : (Instr.loadAt 3 (.pointer (some p))).run Tryd.prog w = .ok (.int .i64 n) w := by simp [go_sem, h]
theorem ldPb {p : Addr} {b : Bool} (h : w.cell? p = some (.bool b)) : (Instr.loadAt 4 (.pointer (some p))).run Tryd.prog w = .ok (.bool b) w := by simp [go_sem, h]
theorem ldPs {p : Addr} {s : ByteArray} (h : w.cell? p = some (.string s)) : (Instr.loadAt 9 (.pointer (some p))).run Tryd.prog w = .ok (.string s) w := by simp [go_sem, h]
theorem ldPx {p : Addr} {x : Value} (h : w.cell? p = some x) : (Instr.loadAt 37 (.pointer (some p))).run Tryd.prog w = .ok x w := by simp [go_sem, h]
theorem ld_src (h : SAt w g 39 46 (pkV P v)) : (Instr.loadAt 24 (.pointer (some ⟨g, 0, none⟩))).run Tryd.prog w = .ok (.agg (SC 17 (adV P.sv P.sb))) w := by
  refine run_loadAt_addr w ⟨g, 0, none⟩ 24 ((List.range 17).map (adV P.sv P.sb)) _ (fun j x hj => ?_) Tryd.underlying24 rfl (by rw [List.length_map, List.length_range]; kernel_rfl)
  rw [List.getElem?_map] at hj
  have hl : j < 17 := by
    rcases Nat.lt_or_ge j 17 with h | h
    · exact h
    · rw [List.getElem?_eq_none (by simpa using h)] at hj; cases hj
  rw [List.getElem?_range hl] at hj
  rw [Addr.add_lit, Nat.zero_add, h.at j (by omega)]
  unfold pkV
  rw [if_pos hl]
  exact hj
theorem ld_dst (h : SAt w g 39 46 (pkV P v)) : (Instr.loadAt 24 (.pointer (some ⟨g, 17, none⟩))).run Tryd.prog w = .ok (.agg (SC 17 (adV P.dv P.db))) w := by
  refine run_loadAt_addr w ⟨g, 17, none⟩ 24 ((List.range 17).map (adV P.dv P.db)) _ (fun j x hj => ?_) Tryd.underlying24 rfl (by rw [List.length_map, List.length_range]; kernel_rfl)
  rw [List.getElem?_map] at hj
  have hl : j < 17 := by
    rcases Nat.lt_or_ge j 17 with h | h
    · exact h
    · rw [List.getElem?_eq_none (by simpa using h)] at hj; cases hj
  rw [List.getElem?_range hl] at hj
  rw [Addr.add_lit, h.at (17 + j) (by omega)]
  unfold pkV
  rw [if_neg (by omega), if_pos (by omega), Nat.add_sub_cancel_left]
  exact hj
end
section
variable {a : Act} {o : Oper} {w : World} {x y : Operand} {t : TypeId}
def pkO (k : Nat) : Nat := if k = 0 then 0 else if k = 1 then 17 else k + 32
theorem exec_fpk (k : Nat) (hk : k < 14) (ho : o.op = .fieldAddr 39 x k) {g : Nat} (hx : a.eval x = .pointer (some ⟨g, 0, none⟩)) : (execOp a.eval o).run Tryd.prog w = .ok (.value (.pointer (some ⟨g, pkO k, none⟩))) w := by
  have h : (Instr.fieldAt 39 (.pointer (some ⟨g, 0, none⟩)) k).run Tryd.prog w = .ok (.pointer (some ⟨g, pkO k, none⟩)) w := by
    match k, hk with
    | 0, _ => simp [go_sem, pkO]
    | 1, _ => simp [go_sem, pkO]
    | 2, _ => simp [go_sem, pkO]
    | 3, _ => simp [go_sem, pkO]
    | 4, _ => simp [go_sem, pkO]
    | 5, _ => simp [go_sem, pkO]
    | 6, _ => simp [go_sem, pkO]
    | 7, _ => simp [go_sem, pkO]
    | 8, _ => simp [go_sem, pkO]
    | 9, _ => simp [go_sem, pkO]
    | 10, _ => simp [go_sem, pkO]
    | 11, _ => simp [go_sem, pkO]
    | 12, _ => simp [go_sem, pkO]
    | 13, _ => simp [go_sem, pkO]
  unfold execOp
  simp only [ho, hx, Sem.run_bind, h, Result.andThen_ok, Sem.run_pure]
theorem exec_fex (k : Nat) (hk : k < 2) (ho : o.op = .fieldAddr 88 x k) {ad : Addr} (hx : a.eval x = .pointer (some ad)) : (execOp a.eval o).run Tryd.prog w = .ok (.value (.pointer (some (ad.add k)))) w := by
  have h : (Instr.fieldAt 88 (.pointer (some ad)) k).run Tryd.prog w = .ok (.pointer (some (ad.add k))) w := by
    match k, hk with
    | 0, _ => simp [go_sem]
    | 1, _ => simp [go_sem]
  unfold execOp
  simp only [ho, hx, Sem.run_bind, h, Result.andThen_ok, Sem.run_pure]
theorem exec_fexG (k : Nat) (hk : k < 2) (ho : o.op = .fieldAddr 88 x k) {g : Nat} (hx : a.eval x = .pointer (some ⟨g, 0, none⟩)) : (execOp a.eval o).run Tryd.prog w = .ok (.value (.pointer (some ⟨g, k, none⟩))) w := by
  have := exec_fex (w := w) k hk ho hx
  rwa [Addr.add_lit, Nat.zero_add] at this
theorem exec_fad0 (ho : o.op = .fieldAddr 24 x 0) {g f : Nat} (hx : a.eval x = .pointer (some ⟨g, f, none⟩)) : (execOp a.eval o).run Tryd.prog w = .ok (.value (.pointer (some ⟨g, f, none⟩))) w := by
  have h : (Instr.fieldAt 24 (.pointer (some ⟨g, f, none⟩)) 0).run Tryd.prog w = .ok (.pointer (some ⟨g, f, none⟩)) w := by simp [go_sem]
  unfold execOp
  simp only [ho, hx, Sem.run_bind, h, Result.andThen_ok, Sem.run_pure]
theorem exec_ixE (ho : o.op = .indexAddr 37 x y) {p : Addr} {n c i : Nat} (hx : a.eval x = .slice (some p) n c) (hy : a.eval y = .int .i64 (i : Int)) (hi : i < n) : (execOp a.eval o).run Tryd.prog w = .ok (.value (.pointer (some (p.add (2 * i))))) w := by
  unfold execOp
  simp only [ho, hx, hy, Sem.run_bind]
  rw [run_indexAt_slice w 37 _ n c .i64 (i : Int) Tryd.underlying37, if_pos ⟨by omega, by omega⟩]
  have e : (sizeOf (Tryd.prog.elem 37)).run Tryd.prog w = .ok 2 w := by kernel_rfl
  simp [e, Nat.mul_comm]
theorem exec_lenX (ho : o.op = .call { callee := .builtin .len, args := #[x], argTypes := #[37] }) {ad : Option Addr} {n c : Nat} (hx : a.eval x = .slice ad n c) : (execOp a.eval o).run Tryd.prog w = .ok (.value (.int .i64 (n : Int))) w := by
  have hr : (Builtin.len_ #[37] o.type #[.slice ad n c]).run Tryd.prog w = .ok (goInt n) w := by simp [go_sem]
  simp [execOp, ho, resolve, invoke, builtin, hx, hr, goInt]
theorem ldEx {p : Addr} {e : Ex} (h1 : w.cell? p = some (.int .i64 e.kind)) (h2 : w.cell? (p.add 1) = some (.string e.body)) : (Instr.loadAt 88 (.pointer (some p))).run Tryd.prog w = .ok (.agg (SC 2 (exV e))) w := by
  refine run_loadAt_addr w p 88 [.int .i64 e.kind, .string e.body] _ (fun j x hj => ?_) Tryd.underlying88 rfl (by kernel_rfl)
  match j, hj with
  | 0, hj =>
    simp at hj
    subst hj
    have e0 : p.add 0 = p := by cases p with | mk b o q => cases q <;> simp [Addr.add]
    rw [e0]
    exact h1
  | 1, hj => simp at hj; subst hj; exact h2
theorem exec_pk0 (ho : o.op = .build 39 #[]) : (execOp a.eval o).run Tryd.prog w = .ok (.value (.agg (SC 46 (pkV zeroP (.slice none 0 0))))) w := by
  unfold execOp
  simp only [ho, List.map_toArray, List.map_nil, Sem.run_bind, run_pk0, Result.andThen_ok, Sem.run_pure]
-- comparisons whose outcome nobody knows
theorem cmp_eq (ho : o.op = .binOp .eql 3 x y 3) {m n : Int} (hx : a.eval x = .int .i64 m) (hy : a.eval y = .int .i64 n) : (execOp a.eval o).run Tryd.prog w = .ok (.value (.bool (decide (m = n)))) w := exec_bin2 ho hx hy rfl (by simp [go_sem]; exact (Bool.beq_eq_decide_eq m n))
theorem cmp_ne (ho : o.op = .binOp .neq 3 x y 3) {m n : Int} (hx : a.eval x = .int .i64 m) (hy : a.eval y = .int .i64 n) : (execOp a.eval o).run Tryd.prog w = .ok (.value (.bool (!decide (m = n)))) w := exec_bin2 ho hx hy rfl (by simp [go_sem, bne, Bool.beq_eq_decide_eq])
theorem cmp_lt (ho : o.op = .binOp .lss 3 x y 3) {m n : Int} (hx : a.eval x = .int .i64 m) (hy : a.eval y = .int .i64 n) : (execOp a.eval o).run Tryd.prog w = .ok (.value (.bool (decide (m < n)))) w := exec_bin2 ho hx hy rfl (by simp [go_sem])
theorem cmp_le (ho : o.op = .binOp .leq 3 x y 3) {m n : Int} (hx : a.eval x = .int .i64 m) (hy : a.eval y = .int .i64 n) : (execOp a.eval o).run Tryd.prog w = .ok (.value (.bool (decide (m ≤ n)))) w := exec_bin2 ho hx hy rfl (by simp [go_sem])
theorem cmp_gt (ho : o.op = .binOp .gtr 3 x y 3) {m n : Int} (hx : a.eval x = .int .i64 m) (hy : a.eval y = .int .i64 n) : (execOp a.eval o).run Tryd.prog w = .ok (.value (.bool (decide (n < m)))) w := exec_bin2 ho hx hy rfl (by simp [go_sem])
theorem cmp_ge (ho : o.op = .binOp .geq 3 x y 3) {m n : Int} (hx : a.eval x = .int .i64 m) (hy : a.eval y = .int .i64 n) : (execOp a.eval o).run Tryd.prog w = .ok (.value (.bool (decide (n ≤ m)))) w := exec_bin2 ho hx hy rfl (by simp [go_sem])
theorem cmp_eqE (ho : o.op = .binOp .eql 31 x y 31) {m n : Int} (hx : a.eval x = .int .i64 m) (hy : a.eval y = .int .i64 n) : (execOp a.eval o).run Tryd.prog w = .ok (.value (.bool (decide (m = n)))) w := exec_bin2 ho hx hy rfl (by simp [go_sem]; exact (Bool.beq_eq_decide_eq m n))
theorem cmp_neE (ho : o.op = .binOp .neq 31 x y 31) {m n : Int} (hx : a.eval x = .int .i64 m) (hy : a.eval y = .int .i64 n) : (execOp a.eval o).run Tryd.prog w = .ok (.value (.bool (!decide (m = n)))) w := exec_bin2 ho hx hy rfl (by simp [go_sem, bne, Bool.beq_eq_decide_eq])
theorem cmp_ne8 (ho : o.op = .binOp .neq 5 x y 5) {m n : Int} (hx : a.eval x = .int .u8 m) (hy : a.eval y = .int .u8 n) : (execOp a.eval o).run Tryd.prog w = .ok (.value (.bool (!decide (m = n)))) w := exec_bin2 ho hx hy rfl (by simp [go_sem, bne, Bool.beq_eq_decide_eq])
theorem cmp_eqB (ho : o.op = .binOp .eql 4 x y 4) {m n : Bool} (hx : a.eval x = .bool m) (hy : a.eval y = .bool n) : (execOp a.eval o).run Tryd.prog w = .ok (.value (.bool (m == n))) w := exec_bin2 ho hx hy rfl (by simp [go_sem])
theorem cmp_neB (ho : o.op = .binOp .neq 4 x y 4) {m n : Bool} (hx : a.eval x = .bool m) (hy : a.eval y = .bool n) : (execOp a.eval o).run Tryd.prog w = .ok (.value (.bool (!(m == n)))) w := exec_bin2 ho hx hy rfl (by simp [go_sem])
theorem cmp_neS (ho : o.op = .binOp .neq 9 x y 9) {s t : ByteArray} (hx : a.eval x = .string s) (hy : a.eval y = .string t) : (execOp a.eval o).run Tryd.prog w = .ok (.value (.bool (!decide (s = t)))) w := by
  by_cases e : s = t
  · subst e
    exact exec_bin2 ho hx hy rfl (by simp [go_sem])
  · rw [decide_eq_false e]
    exact exec_neqST ho hx hy e
theorem rem_nn (ho : o.op = .binOp .rem 3 x y 3) {m n : Int} (hx : a.eval x = .int .i64 m) (hy : a.eval y = .int .i64 n) (h0 : 0 ≤ m) (hn : 0 < n) : (execOp a.eval o).run Tryd.prog w = .ok (.value (.int .i64 (m % n))) w := by
  obtain ⟨i, rfl⟩ := Int.eq_ofNat_of_zero_le h0
  obtain ⟨k, rfl⟩ := Int.eq_ofNat_of_zero_le (by omega : 0 ≤ n)
  have := exec_remW (w := w) (q := i % k) ho hx hy rfl (by omega)
  exact this
theorem exec_cvIU64 (ho : o.op = .convert 3 72 x) {m : Int} (hx : a.eval x = .int .i64 m) (h0 : 0 ≤ m) (h1 : m < 9223372036854775808) : (execOp a.eval o).run Tryd.prog w = .ok (.value (.int .u64 ((m.toNat : Nat) : Int))) w := by
  have e : IntKind.u64.wrap m = ((m.toNat : Nat) : Int) := by rw [IntKind.wrap_u64]; omega
  unfold execOp
  simp only [ho, hx]
  simp [go_sem, e]
end
end Go.Proofs.YtojekoakgpkkdaaDoor

/-
  Own text. Small functions of the program and of the document: numbers within bounds, kinds of headers.
-/
namespace Go.Proofs.YtojekoakgpkkdaaDoor
open Go.RowKit Go.Proofs
set_option maxRecDepth 100000
theorem isEx_d (k : Int) : isEx k = (decide (k = 0) || decide (k = 43) || decide (k = 60)) := rfl
theorem isHd_d (k : Int) : isHd k = (isEx k || decide (k = 44)) := rfl
theorem isHd_e (k : Int) : isHd k = (decide (k = 0) || decide (k = 43) || decide (k = 44) || decide (k = 60)) := by
  unfold isHd isEx
  by_cases h : k = 60
  · subst h; decide
  · by_cases h2 : k = 44
    · subst h2; decide
    · have e1 : (k == 60) = false := by simpa using h
      have e2 : (k == 44) = false := by simpa using h2
      rw [e1, e2, decide_eq_false h, decide_eq_false h2, Bool.or_false, Bool.or_false, Bool.or_false, Bool.or_false]
      rfl
theorem mayB_d (k : Int) (i : Nat) : mayB k i = (decide ((i : Int) < 4) && (!decide (k = 0) || decide ((i : Int) = 0))) := by
  unfold mayB
  have e1 : decide (i < 4) = decide ((i : Int) < 4) := by congr 1; exact propext ⟨fun h => by omega, fun h => by omega⟩
  have e2 : decide (i = 0) = decide ((i : Int) = 0) := by congr 1; exact propext ⟨fun h => by omega, fun h => by omega⟩
  rw [e1, e2]
  rfl
set_option maxHeartbeats 4000000 in
theorem upTo_run (n m : Int) (w : World) : Calls Tryd.prog 48 #[.int .i64 n, .int .i64 m] w fun e w' => e = .returned (.bool (upB n m)) ∧ Below w.heap.size w w' := by
  go_enter Tryd.func48, Tryd.ntmps48
  go_upto_region 1 with fail
  refine wp_plain_steps (Below w.heap.size w) (fun v v' => Below v.heap.size v v') (fun j vv _ => vv = ([.int .i64 n, .bool (decide (0 ≤ n)), .bool (decide (0 ≤ n)), gv (decide (0 ≤ n)) (.int .i64 n), gv (decide (0 ≤ n)) (.int .i64 m), gv (decide (0 ≤ n)) (.bool (decide (n ≤ m))), .bool ((decide (0 ≤ n)) && (decide (n ≤ m))), .bool ((decide (0 ≤ n)) && (decide (n ≤ m)))] : List Value).getD j undef)
      [5, 6, 7, 8, 9, 10, 11, 4]
      [(0, .int .i64 n), (1, .int .i64 m)] [] 0
      [[], [0], [1], [2], [2], [2, 3, 4], [2, 5], [6]]
      (by kernel_rfl) ⟨rfl, rfl, trivial⟩ trivial (Below.refl _ _) (fun v v' h hb => h.trans (hb.mono h.size)) (fun _ _ _ _ h _ => h)
      ⟨
      (fun QQ aa ww hS fr kn => sg0 rfl (fun K hK => wp_value (exec_move rfl fr.1) (hK _ _ rfl (Below.refl _ _)))),
      (fun QQ aa ww hS fr kn => sg0 rfl (fun K hK => wp_value (cmp_ge (m := n) (n := 0) rfl kn.1 rfl) (hK _ _ rfl (Below.refl _ _)))),
      (fun QQ aa ww hS fr kn => sg0 rfl (fun K hK => wp_value (exec_move rfl kn.1) (hK _ _ rfl (Below.refl _ _)))),
      (fun QQ aa ww hS fr kn => sgT rfl kn.1 (fun hc K hK => wp_value (exec_move rfl fr.1) (hK _ _ (gv_t hc).symm (Below.refl _ _))) (fun h0 => (gv_f h0).symm)),
      (fun QQ aa ww hS fr kn => sgT rfl kn.1 (fun hc K hK => wp_value (exec_move rfl fr.2.1) (hK _ _ (gv_t hc).symm (Below.refl _ _))) (fun h0 => (gv_f h0).symm)),
      (fun QQ aa ww hS fr kn => sgT rfl kn.1 (fun hc K hK => wp_value (cmp_le (m := n) (n := m) rfl (kn.2.1.trans (gv_t hc)) (kn.2.2.1.trans (gv_t hc))) (hK _ _ (gv_t hc).symm (Below.refl _ _))) (fun h0 => (gv_f h0).symm)),
      (fun QQ aa ww hS fr kn => sg0 rfl (fun K hK => wp_value (exec_pickAnd rfl kn.1 (fun hx => kn.2.1.trans (gv_t hx)) rfl) (hK _ _ rfl (Below.refl _ _)))),
      (fun QQ aa ww hS fr kn => sg0 rfl (fun K hK => wp_value (exec_assign rfl kn.1) (hK _ _ rfl (Below.refl _ _)))),
      trivial⟩ ?_
  intro vs u2 hB2 kn
  have e4 : vs 4 = .bool ((decide (0 ≤ n)) && (decide (n ≤ m))) := kn 7 (by decide)
  clear kn
  simp only [putAll, Act.put, List.setIfInBounds_toArray, List.set_cons_zero, List.set_cons_succ, e4]
  clear e4
  go_wp2_with fail
  go_ret
  exact ⟨rfl, hB2⟩
set_option maxHeartbeats 4000000 in
theorem within_run (n m : Int) (w : World) : Calls Tryd.prog 91 #[.int .i64 n, .int .i64 m] w fun e w' => e = .returned (.bool (upB n m)) ∧ Below w.heap.size w w' := by
  go_enter Tryd.func91, Tryd.ntmps91
  go_upto_region 1 with fail
  refine wp_plain_steps (Below w.heap.size w) (fun v v' => Below v.heap.size v v') (fun j vv _ => vv = ([.int .i64 n, .bool (decide (0 ≤ n)), .bool (decide (0 ≤ n)), gv (decide (0 ≤ n)) (.int .i64 n), gv (decide (0 ≤ n)) (.int .i64 m), gv (decide (0 ≤ n)) (.bool (decide (n ≤ m))), .bool ((decide (0 ≤ n)) && (decide (n ≤ m))), .bool ((decide (0 ≤ n)) && (decide (n ≤ m)))] : List Value).getD j undef)
      [5, 6, 7, 8, 9, 10, 11, 4]
      [(0, .int .i64 n), (1, .int .i64 m)] [] 0
      [[], [0], [1], [2], [2], [2, 3, 4], [2, 5], [6]]
      (by kernel_rfl) ⟨rfl, rfl, trivial⟩ trivial (Below.refl _ _) (fun v v' h hb => h.trans (hb.mono h.size)) (fun _ _ _ _ h _ => h)
      ⟨
      (fun QQ aa ww hS fr kn => sg0 rfl (fun K hK => wp_value (exec_move rfl fr.1) (hK _ _ rfl (Below.refl _ _)))),
      (fun QQ aa ww hS fr kn => sg0 rfl (fun K hK => wp_value (cmp_ge (m := n) (n := 0) rfl kn.1 rfl) (hK _ _ rfl (Below.refl _ _)))),
      (fun QQ aa ww hS fr kn => sg0 rfl (fun K hK => wp_value (exec_move rfl kn.1) (hK _ _ rfl (Below.refl _ _)))),
      (fun QQ aa ww hS fr kn => sgT rfl kn.1 (fun hc K hK => wp_value (exec_move rfl fr.1) (hK _ _ (gv_t hc).symm (Below.refl _ _))) (fun h0 => (gv_f h0).symm)),
      (fun QQ aa ww hS fr kn => sgT rfl kn.1 (fun hc K hK => wp_value (exec_move rfl fr.2.1) (hK _ _ (gv_t hc).symm (Below.refl _ _))) (fun h0 => (gv_f h0).symm)),
      (fun QQ aa ww hS fr kn => sgT rfl kn.1 (fun hc K hK => wp_value (cmp_le (m := n) (n := m) rfl (kn.2.1.trans (gv_t hc)) (kn.2.2.1.trans (gv_t hc))) (hK _ _ (gv_t hc).symm (Below.refl _ _))) (fun h0 => (gv_f h0).symm)),
      (fun QQ aa ww hS fr kn => sg0 rfl (fun K hK => wp_value (exec_pickAnd rfl kn.1 (fun hx => kn.2.1.trans (gv_t hx)) rfl) (hK _ _ rfl (Below.refl _ _)))),
      (fun QQ aa ww hS fr kn => sg0 rfl (fun K hK => wp_value (exec_assign rfl kn.1) (hK _ _ rfl (Below.refl _ _)))),
      trivial⟩ ?_
  intro vs u2 hB2 kn
  have e4 : vs 4 = .bool ((decide (0 ≤ n)) && (decide (n ≤ m))) := kn 7 (by decide)
  clear kn
  simp only [putAll, Act.put, List.setIfInBounds_toArray, List.set_cons_zero, List.set_cons_succ, e4]
  clear e4
  go_wp2_with fail
  go_ret
  exact ⟨rfl, hB2⟩
set_option maxHeartbeats 4000000 in
theorem isExt_run (k : Int) (w : World) : Calls Tryd.prog 94 #[.int .i64 k] w fun e w' => e = .returned (.bool (isEx k)) ∧ Below w.heap.size w w' := by
  go_enter Tryd.func94, Tryd.ntmps94
  go_upto_region 1 with fail
  refine wp_plain_steps (Below w.heap.size w) (fun v v' => Below v.heap.size v v') (fun j vv _ => vv = ([.int .i64 k, .bool (decide (k = 0)), .bool (decide (k = 0)), gv (!(decide (k = 0))) (.int .i64 k), gv (!(decide (k = 0))) (.bool (decide (k = 43))), .bool ((decide (k = 0)) || (decide (k = 43))), .bool ((decide (k = 0)) || (decide (k = 43))), gv (!((decide (k = 0)) || (decide (k = 43)))) (.int .i64 k), gv (!((decide (k = 0)) || (decide (k = 43)))) (.bool (decide (k = 60))), .bool (((decide (k = 0)) || (decide (k = 43))) || (decide (k = 60))), .bool (((decide (k = 0)) || (decide (k = 43))) || (decide (k = 60)))] : List Value).getD j undef)
      [3, 4, 5, 6, 7, 8, 9, 10, 11, 12, 2]
      [(0, .int .i64 k)] [] 0
      [[], [0], [1], [2], [2, 3], [2, 4], [5], [6], [6, 7], [6, 8], [9]]
      (by kernel_rfl) ⟨rfl, trivial⟩ trivial (Below.refl _ _) (fun v v' h hb => h.trans (hb.mono h.size)) (fun _ _ _ _ h _ => h)
      ⟨
      (fun QQ aa ww hS fr kn => sg0 rfl (fun K hK => wp_value (exec_move rfl fr.1) (hK _ _ rfl (Below.refl _ _)))),
      (fun QQ aa ww hS fr kn => sg0 rfl (fun K hK => wp_value (cmp_eq (m := k) (n := 0) rfl kn.1 rfl) (hK _ _ rfl (Below.refl _ _)))),
      (fun QQ aa ww hS fr kn => sg0 rfl (fun K hK => wp_value (exec_move rfl kn.1) (hK _ _ rfl (Below.refl _ _)))),
      (fun QQ aa ww hS fr kn => sgF rfl kn.1 (fun hng K hK => have hc := nt_t hng; wp_value (exec_move rfl fr.1) (hK _ _ (gv_t hc).symm (Below.refl _ _))) (fun h0 => (gv_f (nt_f h0)).symm)),
      (fun QQ aa ww hS fr kn => sgF rfl kn.1 (fun hng K hK => have hc := nt_t hng; wp_value (cmp_eq (m := k) (n := 43) rfl (kn.2.1.trans (gv_t hc)) rfl) (hK _ _ (gv_t hc).symm (Below.refl _ _))) (fun h0 => (gv_f (nt_f h0)).symm)),
      (fun QQ aa ww hS fr kn => sg0 rfl (fun K hK => wp_value (exec_pickOr rfl kn.1 rfl (fun hx => kn.2.1.trans (gv_t (nt_t hx)))) (hK _ _ rfl (Below.refl _ _)))),
      (fun QQ aa ww hS fr kn => sg0 rfl (fun K hK => wp_value (exec_move rfl kn.1) (hK _ _ rfl (Below.refl _ _)))),
      (fun QQ aa ww hS fr kn => sgF rfl kn.1 (fun hng K hK => have hc := nt_t hng; wp_value (exec_move rfl fr.1) (hK _ _ (gv_t hc).symm (Below.refl _ _))) (fun h0 => (gv_f (nt_f h0)).symm)),
      (fun QQ aa ww hS fr kn => sgF rfl kn.1 (fun hng K hK => have hc := nt_t hng; wp_value (cmp_eq (m := k) (n := 60) rfl (kn.2.1.trans (gv_t hc)) rfl) (hK _ _ (gv_t hc).symm (Below.refl _ _))) (fun h0 => (gv_f (nt_f h0)).symm)),
      (fun QQ aa ww hS fr kn => sg0 rfl (fun K hK => wp_value (exec_pickOr rfl kn.1 rfl (fun hx => kn.2.1.trans (gv_t (nt_t hx)))) (hK _ _ rfl (Below.refl _ _)))),
      (fun QQ aa ww hS fr kn => sg0 rfl (fun K hK => wp_value (exec_assign rfl kn.1) (hK _ _ rfl (Below.refl _ _)))),
      trivial⟩ ?_
  intro vs u2 hB2 kn
  have e2 : vs 2 = .bool (((decide (k = 0)) || (decide (k = 43))) || (decide (k = 60))) := kn 10 (by decide)
  clear kn
  simp only [putAll, Act.put, List.setIfInBounds_toArray, List.set_cons_zero, List.set_cons_succ, e2]
  clear e2
  go_wp2_with fail
  go_ret
  exact ⟨by rw [isEx_d]; rfl, hB2⟩
theorem en_upTo (args : Array Value) (w : World) : (callFunc 48 args).run Tryd.prog w = .ok (.enter 48 args) w := by kernel_rfl
theorem en_within (args : Array Value) (w : World) : (callFunc 91 args).run Tryd.prog w = .ok (.enter 91 args) w := by kernel_rfl
theorem en_isExt (args : Array Value) (w : World) : (callFunc 94 args).run Tryd.prog w = .ok (.enter 94 args) w := by kernel_rfl
set_option maxHeartbeats 4000000 in
theorem isHeader_run (k : Int) (w : World) : Calls Tryd.prog 76 #[.int .i64 k] w fun e w' => e = .returned (.bool (isHd k)) ∧ Below w.heap.size w w' := by
  go_enter Tryd.func76, Tryd.ntmps76
  go_upto_region 1 with fail
  refine wp_plain_steps (Below w.heap.size w) (fun v v' => Below v.heap.size v v') (fun j vv _ => vv = ([.int .i64 k, .bool (isEx k), .bool (isEx k), gv (!(isEx k)) (.int .i64 k), gv (!(isEx k)) (.bool (decide (k = 44))), .bool ((isEx k) || (decide (k = 44))), .bool ((isEx k) || (decide (k = 44)))] : List Value).getD j undef)
      [3, 4, 5, 6, 7, 8, 2]
      [(0, .int .i64 k)] [] 0
      [[], [0], [1], [2], [2, 3], [2, 4], [5]]
      (by kernel_rfl) ⟨rfl, trivial⟩ trivial (Below.refl _ _) (fun v v' h hb => h.trans (hb.mono h.size)) (fun _ _ _ _ h _ => h)
      ⟨
      (fun QQ aa ww hS fr kn => sg0 rfl (fun K hK => wp_value (exec_move rfl fr.1) (hK _ _ rfl (Below.refl _ _)))),
      (fun QQ aa ww hS fr kn => sg0 rfl (fun K hK => stepc en_isExt rfl (args1 kn.1) (isExt_run k ww) (fun w' hb => hK _ _ rfl hb))),
      (fun QQ aa ww hS fr kn => sg0 rfl (fun K hK => wp_value (exec_move rfl kn.1) (hK _ _ rfl (Below.refl _ _)))),
      (fun QQ aa ww hS fr kn => sgF rfl kn.1 (fun hng K hK => have hc := nt_t hng; wp_value (exec_move rfl fr.1) (hK _ _ (gv_t hc).symm (Below.refl _ _))) (fun h0 => (gv_f (nt_f h0)).symm)),
      (fun QQ aa ww hS fr kn => sgF rfl kn.1 (fun hng K hK => have hc := nt_t hng; wp_value (cmp_eq (m := k) (n := 44) rfl (kn.2.1.trans (gv_t hc)) rfl) (hK _ _ (gv_t hc).symm (Below.refl _ _))) (fun h0 => (gv_f (nt_f h0)).symm)),
      (fun QQ aa ww hS fr kn => sg0 rfl (fun K hK => wp_value (exec_pickOr rfl kn.1 rfl (fun hx => kn.2.1.trans (gv_t (nt_t hx)))) (hK _ _ rfl (Below.refl _ _)))),
      (fun QQ aa ww hS fr kn => sg0 rfl (fun K hK => wp_value (exec_assign rfl kn.1) (hK _ _ rfl (Below.refl _ _)))),
      trivial⟩ ?_
  intro vs u2 hB2 kn
  have e2 : vs 2 = .bool ((isEx k) || (decide (k = 44))) := kn 6 (by decide)
  clear kn
  simp only [putAll, Act.put, List.setIfInBounds_toArray, List.set_cons_zero, List.set_cons_succ, e2]
  clear e2
  go_wp2_with fail
  go_ret
  exact ⟨by rw [isHd_d]; rfl, hB2⟩
set_option maxHeartbeats 4000000 in
theorem rIsExt_run (k : Int) (w : World) : Calls Tryd.prog 93 #[.int .i64 k] w fun e w' => e = .returned (.bool (isHd k)) ∧ Below w.heap.size w w' := by
  go_enter Tryd.func93, Tryd.ntmps93
  go_upto_region 1 with fail
  refine wp_plain_steps (Below w.heap.size w) (fun v v' => Below v.heap.size v v') (fun j vv _ => vv = ([.int .i64 k, .bool (decide (k = 0)), .bool (decide (k = 0)), gv (!(decide (k = 0))) (.int .i64 k), gv (!(decide (k = 0))) (.bool (decide (k = 43))), .bool ((decide (k = 0)) || (decide (k = 43))), .bool ((decide (k = 0)) || (decide (k = 43))), gv (!((decide (k = 0)) || (decide (k = 43)))) (.int .i64 k), gv (!((decide (k = 0)) || (decide (k = 43)))) (.bool (decide (k = 44))), .bool (((decide (k = 0)) || (decide (k = 43))) || (decide (k = 44))), .bool (((decide (k = 0)) || (decide (k = 43))) || (decide (k = 44))), gv (!(((decide (k = 0)) || (decide (k = 43))) || (decide (k = 44)))) (.int .i64 k), gv (!(((decide (k = 0)) || (decide (k = 43))) || (decide (k = 44)))) (.bool (decide (k = 60))), .bool ((((decide (k = 0)) || (decide (k = 43))) || (decide (k = 44))) || (decide (k = 60))), .bool ((((decide (k = 0)) || (decide (k = 43))) || (decide (k = 44))) || (decide (k = 60)))] : List Value).getD j undef)
      [3, 4, 5, 6, 7, 8, 9, 10, 11, 12, 13, 14, 15, 16, 2]
      [(0, .int .i64 k)] [] 0
      [[], [0], [1], [2], [2, 3], [2, 4], [5], [6], [6, 7], [6, 8], [9], [10], [10, 11], [10, 12], [13]]
      (by kernel_rfl) ⟨rfl, trivial⟩ trivial (Below.refl _ _) (fun v v' h hb => h.trans (hb.mono h.size)) (fun _ _ _ _ h _ => h)
      ⟨
      (fun QQ aa ww hS fr kn => sg0 rfl (fun K hK => wp_value (exec_move rfl fr.1) (hK _ _ rfl (Below.refl _ _)))),
      (fun QQ aa ww hS fr kn => sg0 rfl (fun K hK => wp_value (cmp_eq (m := k) (n := 0) rfl kn.1 rfl) (hK _ _ rfl (Below.refl _ _)))),
      (fun QQ aa ww hS fr kn => sg0 rfl (fun K hK => wp_value (exec_move rfl kn.1) (hK _ _ rfl (Below.refl _ _)))),
      (fun QQ aa ww hS fr kn => sgF rfl kn.1 (fun hng K hK => have hc := nt_t hng; wp_value (exec_move rfl fr.1) (hK _ _ (gv_t hc).symm (Below.refl _ _))) (fun h0 => (gv_f (nt_f h0)).symm)),
      (fun QQ aa ww hS fr kn => sgF rfl kn.1 (fun hng K hK => have hc := nt_t hng; wp_value (cmp_eq (m := k) (n := 43) rfl (kn.2.1.trans (gv_t hc)) rfl) (hK _ _ (gv_t hc).symm (Below.refl _ _))) (fun h0 => (gv_f (nt_f h0)).symm)),
      (fun QQ aa ww hS fr kn => sg0 rfl (fun K hK => wp_value (exec_pickOr rfl kn.1 rfl (fun hx => kn.2.1.trans (gv_t (nt_t hx)))) (hK _ _ rfl (Below.refl _ _)))),
      (fun QQ aa ww hS fr kn => sg0 rfl (fun K hK => wp_value (exec_move rfl kn.1) (hK _ _ rfl (Below.refl _ _)))),
      (fun QQ aa ww hS fr kn => sgF rfl kn.1 (fun hng K hK => have hc := nt_t hng; wp_value (exec_move rfl fr.1) (hK _ _ (gv_t hc).symm (Below.refl _ _))) (fun h0 => (gv_f (nt_f h0)).symm)),
      (fun QQ aa ww hS fr kn => sgF rfl kn.1 (fun hng K hK => have hc := nt_t hng; wp_value (cmp_eq (m := k) (n := 44) rfl (kn.2.1.trans (gv_t hc)) rfl) (hK _ _ (gv_t hc).symm (Below.refl _ _))) (fun h0 => (gv_f (nt_f h0)).symm)),
      (fun QQ aa ww hS fr kn => sg0 rfl (fun K hK => wp_value (exec_pickOr rfl kn.1 rfl (fun hx => kn.2.1.trans (gv_t (nt_t hx)))) (hK _ _ rfl (Below.refl _ _)))),
      (fun QQ aa ww hS fr kn => sg0 rfl (fun K hK => wp_value (exec_move rfl kn.1) (hK _ _ rfl (Below.refl _ _)))),
      (fun QQ aa ww hS fr kn => sgF rfl kn.1 (fun hng K hK => have hc := nt_t hng; wp_value (exec_move rfl fr.1) (hK _ _ (gv_t hc).symm (Below.refl _ _))) (fun h0 => (gv_f (nt_f h0)).symm)),
      (fun QQ aa ww hS fr kn => sgF rfl kn.1 (fun hng K hK => have hc := nt_t hng; wp_value (cmp_eq (m := k) (n := 60) rfl (kn.2.1.trans (gv_t hc)) rfl) (hK _ _ (gv_t hc).symm (Below.refl _ _))) (fun h0 => (gv_f (nt_f h0)).symm)),
      (fun QQ aa ww hS fr kn => sg0 rfl (fun K hK => wp_value (exec_pickOr rfl kn.1 rfl (fun hx => kn.2.1.trans (gv_t (nt_t hx)))) (hK _ _ rfl (Below.refl _ _)))),
      (fun QQ aa ww hS fr kn => sg0 rfl (fun K hK => wp_value (exec_assign rfl kn.1) (hK _ _ rfl (Below.refl _ _)))),
      trivial⟩ ?_
  intro vs u2 hB2 kn
  have e2 : vs 2 = .bool ((((decide (k = 0)) || (decide (k = 43))) || (decide (k = 44))) || (decide (k = 60))) := kn 14 (by decide)
  clear kn
  simp only [putAll, Act.put, List.setIfInBounds_toArray, List.set_cons_zero, List.set_cons_succ, e2]
  clear e2
  go_wp2_with fail
  go_ret
  exact ⟨by rw [isHd_e]; rfl, hB2⟩
set_option maxHeartbeats 4000000 in
theorem mayStand_run (k : Int) (i : Nat) (w : World) : Calls Tryd.prog 95 #[.int .i64 k, .int .i64 (i : Int)] w fun e w' => e = .returned (.bool (mayB k i)) ∧ Below w.heap.size w w' := by
  go_enter Tryd.func95, Tryd.ntmps95
  go_upto_region 1 with fail
  refine wp_plain_steps (Below w.heap.size w) (fun v v' => Below v.heap.size v v') (fun j vv _ => vv = ([.int .i64 (i : Int), .bool (decide ((i : Int) < 4)), .bool (decide ((i : Int) < 4)), gv (decide ((i : Int) < 4)) (.int .i64 k), gv (decide ((i : Int) < 4)) (.bool (!decide (k = 0))), gv (decide ((i : Int) < 4)) (.bool (!decide (k = 0))), gv ((decide ((i : Int) < 4)) && (!(!decide (k = 0)))) (.int .i64 (i : Int)), gv ((decide ((i : Int) < 4)) && (!(!decide (k = 0)))) (.bool (decide ((i : Int) = 0))), gv (decide ((i : Int) < 4)) (.bool ((!decide (k = 0)) || (decide ((i : Int) = 0)))), .bool ((decide ((i : Int) < 4)) && ((!decide (k = 0)) || (decide ((i : Int) = 0)))), .bool ((decide ((i : Int) < 4)) && ((!decide (k = 0)) || (decide ((i : Int) = 0))))] : List Value).getD j undef)
      [5, 6, 7, 8, 9, 10, 11, 12, 13, 14, 4]
      [(0, .int .i64 k), (1, .int .i64 (i : Int))] [] 0
      [[], [0], [1], [2], [2, 3], [2, 4], [5], [5, 6], [2, 5, 7], [2, 8], [9]]
      (by kernel_rfl) ⟨rfl, rfl, trivial⟩ trivial (Below.refl _ _) (fun v v' h hb => h.trans (hb.mono h.size)) (fun _ _ _ _ h _ => h)
      ⟨
      (fun QQ aa ww hS fr kn => sg0 rfl (fun K hK => wp_value (exec_move rfl fr.2.1) (hK _ _ rfl (Below.refl _ _)))),
      (fun QQ aa ww hS fr kn => sg0 rfl (fun K hK => wp_value (cmp_lt (m := (i : Int)) (n := 4) rfl kn.1 rfl) (hK _ _ rfl (Below.refl _ _)))),
      (fun QQ aa ww hS fr kn => sg0 rfl (fun K hK => wp_value (exec_move rfl kn.1) (hK _ _ rfl (Below.refl _ _)))),
      (fun QQ aa ww hS fr kn => sgT rfl kn.1 (fun hc K hK => wp_value (exec_move rfl fr.1) (hK _ _ (gv_t hc).symm (Below.refl _ _))) (fun h0 => (gv_f h0).symm)),
      (fun QQ aa ww hS fr kn => sgT rfl kn.1 (fun hc K hK => wp_value (cmp_ne (m := k) (n := 0) rfl (kn.2.1.trans (gv_t hc)) rfl) (hK _ _ (gv_t hc).symm (Below.refl _ _))) (fun h0 => (gv_f h0).symm)),
      (fun QQ aa ww hS fr kn => sgT rfl kn.1 (fun hc K hK => wp_value (exec_move rfl (kn.2.1.trans (gv_t hc))) (hK _ _ (gv_t hc).symm (Below.refl _ _))) (fun h0 => (gv_f h0).symm)),
      (fun QQ aa ww hS fr kn => sgTF rfl kn.1 (fun hc K hK => wp_value (exec_move rfl fr.2.1) (hK _ _ (gv_t hc).symm (Below.refl _ _))) (fun h0 => (gv_f h0).symm)),
      (fun QQ aa ww hS fr kn => sgTF rfl kn.1 (fun hc K hK => wp_value (cmp_eq (m := (i : Int)) (n := 0) rfl (kn.2.1.trans (gv_t hc)) rfl) (hK _ _ (gv_t hc).symm (Below.refl _ _))) (fun h0 => (gv_f h0).symm)),
      (fun QQ aa ww hS fr kn => sgT rfl kn.1 (fun hc K hK => wp_value (exec_pickOr rfl (kn.2.1.trans (gv_t hc)) rfl (fun hx => kn.2.2.1.trans (gv_t (an_t hc (nt_t hx))))) (hK _ _ (gv_t hc).symm (Below.refl _ _))) (fun h0 => (gv_f h0).symm)),
      (fun QQ aa ww hS fr kn => sg0 rfl (fun K hK => wp_value (exec_pickAnd rfl kn.1 (fun hx => kn.2.1.trans (gv_t hx)) rfl) (hK _ _ rfl (Below.refl _ _)))),
      (fun QQ aa ww hS fr kn => sg0 rfl (fun K hK => wp_value (exec_assign rfl kn.1) (hK _ _ rfl (Below.refl _ _)))),
      trivial⟩ ?_
  intro vs u2 hB2 kn
  have e4 : vs 4 = .bool ((decide ((i : Int) < 4)) && ((!decide (k = 0)) || (decide ((i : Int) = 0)))) := kn 10 (by decide)
  clear kn
  simp only [putAll, Act.put, List.setIfInBounds_toArray, List.set_cons_zero, List.set_cons_succ, e4]
  clear e4
  go_wp2_with fail
  go_ret
  exact ⟨by rw [mayB_d]; rfl, hB2⟩
theorem en_isHeader (args : Array Value) (w : World) : (callFunc 76 args).run Tryd.prog w = .ok (.enter 76 args) w := by kernel_rfl
theorem en_mayStand (args : Array Value) (w : World) : (callFunc 95 args).run Tryd.prog w = .ok (.enter 95 args) w := by kernel_rfl
end Go.Proofs.YtojekoakgpkkdaaDoor

/-
  Own text. Extension headers are compared; slices.Equal of them.
-/
namespace Go.Proofs.YtojekoakgpkkdaaDoor
open Go.RowKit Go.Proofs
set_option maxRecDepth 100000
section
variable {a : Act} {o : Oper} {w : World} {x y : Operand} {t : TypeId}
end
theorem ExAt.sl {w w' : World} {a : Option Addr} {n c : Nat} {l : List Ex} (h : ExAt w (.slice a n c) l) (hB : Below w.heap.size w w') {j : Nat} {x : Ex} (hj : l[j]? = some x) : ∃ ad, a = some ad ∧ w'.cell? (ad.add (2 * j)) = some (.int .i64 x.kind) ∧ w'.cell? ((ad.add (2 * j)).add 1) = some (.string x.body) := by
  obtain ⟨a', cap, e, hc⟩ := h.kept hB
  obtain ⟨ad, e2, _, h1, h2⟩ := hc j x hj
  injection e with e
  exact ⟨ad, e.trans e2, h1, by rw [Addr.add_add]; exact h2⟩
end Go.Proofs.YtojekoakgpkkdaaDoor

/-
  Own text. slices.Equal of extension headers; Same of the program and of the document.
-/
namespace Go.Proofs.YtojekoakgpkkdaaDoor
open Go.RowKit Go.Proofs
set_option maxRecDepth 100000
theorem list_at {l : List Ex} {i : Nat} (h : i < l.length) : ∃ x, l[i]? = some x := ⟨_, List.getElem?_eq_getElem h⟩
end Go.Proofs.YtojekoakgpkkdaaDoor

/-
  Own text. What was built is read again as the packet that it was.
-/
namespace Go.Proofs.YtojekoakgpkkdaaDoor
open Go.RowKit Go.Proofs
set_option maxRecDepth 100000
/-- The numbers of a packet that may be. -/
structure PkOk (P : Pk) : Prop where
  sb : Byts 16 P.sb
  db : Byts 16 P.db
theorem bN_lt (b : Bool) (n : Nat) : bN b n ≤ n := by unfold bN; split <;> omega
theorem exB_size {P : Pk} : ∀ {l : List Ex} {i : Nat}, exsOk l i = true → (exB P l).size = exLen l + (if P.cut = true then 8 else 0)
  | [], _, _ => by
    unfold exB exLen cuB
    split
    · simp only [ByteArray.size_append, putT_size]
    · rw [ByteArray.size_empty]
  | x :: l, i, h => by
    unfold exsOk at h
    rw [Bool.and_eq_true] at h
    have := exB_size (P := P) h.2
    unfold exB exLen
    simp only [ByteArray.size_append, putT_size, this]
    omega
theorem exsOk_kind {P : Pk} (hp : isHd P.proto = false) : ∀ {l : List Ex} {i : Nat}, exsOk l i = true → (0 ≤ P.proto ∧ P.proto ≤ 255) → 0 ≤ nextK P l ∧ nextK P l ≤ 255 ∧ (l = [] → isHd (nextK P l) = P.cut)
  | [], _, _, hb => by
    unfold nextK tailK
    cases hc : P.cut
    · simp [hp, hb]
    · simp; decide
  | x :: l, i, h, _ => by
    unfold exsOk at h
    rw [Bool.and_eq_true, exOk_iff] at h
    have e : nextK P (x :: l) = x.kind := rfl
    rw [e]
    exact ⟨by omega, by omega, fun h => by cases h⟩
theorem exsOk_len : ∀ {l : List Ex} {i : Nat}, exsOk l i = true → l = [] ∨ i + l.length ≤ 4
  | [], _, _ => .inl rfl
  | x :: l, i, h => by
    unfold exsOk at h
    rw [Bool.and_eq_true, exOk_iff] at h
    rcases exsOk_len h.2 with e | e
    · subst e
      right
      simp
      omega
    · right
      simp
      omega
theorem a4_size (P : Pk) : (a4 P).size = 10 := by unfold a4; simp only [ByteArray.size_append, putT_size]
theorem b4_size {P : Pk} (h : rgtP P = true) (h4 : P.sv = false) : (b4 P).size = 8 + P.opts.size := by
  obtain ⟨h1, h2, h3, _⟩ := rgtP_iff.1 h
  have hd : P.dv = false := by rw [← h3]; exact h4
  have z1 := bytT_len h1
  have z2 := bytT_len h2
  rw [if_neg (by rw [h4]; decide)] at z1
  rw [if_neg (by rw [hd]; decide)] at z2
  unfold b4
  simp only [ByteArray.size_append, z1, z2]
theorem four_size {P : Pk} (h : rgtP P = true) (h4 : P.sv = false) : (fourB P).size = headP P + P.pay.size := by
  unfold fourB headP
  rw [if_neg (by rw [h4]; decide)]
  simp only [ByteArray.size_append, a4_size, b4_size h h4, putT_size]
  omega
end Go.Proofs.YtojekoakgpkkdaaDoor

/-
  Own text. Which packets may be: Right of the program and of the document.
-/
namespace Go.Proofs.YtojekoakgpkkdaaDoor
open Go.RowKit Go.Proofs
set_option maxRecDepth 100000
theorem exsOk_step {l : List Ex} {x : Ex} {i j : Nat} (hx : l[i]? = some x) : exsOk (l.drop i) j = (exOk x j && exsOk (l.drop (i + 1)) (j + 1)) := by
  have h1 := (List.getElem?_eq_some_iff.1 hx)
  rw [List.drop_eq_getElem_cons h1.1, h1.2]
  rfl
theorem exOk_code (x : Ex) (i : Nat) : ((!isEx x.kind || !mayB x.kind i) || !decide ((((2 + x.body.size) % 8 : Nat) : Int) = 0) || decide ((2046 : Int) < (x.body.size : Int))) = !exOk x i := by
  unfold exOk
  have e1 : decide ((((2 + x.body.size) % 8 : Nat) : Int) = 0) = decide (x.body.size % 8 = 6) := by congr 1; exact propext ⟨fun h => by omega, fun h => by omega⟩
  have e2 : decide ((2046 : Int) < (x.body.size : Int)) = !decide (x.body.size ≤ 2046) := by
    by_cases h : x.body.size ≤ 2046
    · rw [decide_eq_true h, decide_eq_false (by omega)]; rfl
    · rw [decide_eq_false h, decide_eq_true (by omega)]; rfl
  rw [e1, e2]
  cases isEx x.kind <;> cases mayB x.kind i <;> cases decide (x.body.size % 8 = 6) <;> cases decide (x.body.size ≤ 2046) <;> rfl
theorem wl_allocEx {ops : Array Oper} {rest : List Oper} {o : Oper} {a : Act} {w : World} {Q : Exit → Act → World → Prop} (ho : o.op = .alloc 88) (hgd : Region.wanted o (yielded ops a.tmps) = true)
    (h : ∀ g w', w.heap.size ≤ g → SAt w' g 88 2 (exV ⟨0, ByteArray.empty⟩) → Below w.heap.size w w' → wpList Tryd.prog ops Q rest (a.put o.dst (.pointer (some ⟨g, 0, none⟩))) w') : wpList Tryd.prog ops Q (o :: rest) a w := wl_alO ho hgd zeroEx h
set_option maxHeartbeats 8000000 in
theorem rightExts_run (v : Value) (l : List Ex) (w : World) (h1 : ExAt w v l) (hn : l.length < 4611686018427387904) (hb : ∀ x ∈ l, x.body.size ≤ 140737488355328) : Calls Tryd.prog 75 #[v] w fun e w' => e = .returned (.bool (exsOk l 0)) ∧ Below w.heap.size w w' := by
  obtain ⟨a1, c1, rfl, _⟩ := id h1
  have HR : Hid (exsOk l 0 = exsOk (l.drop 0) 0) := Hid.mk (by rw [List.drop_zero])
  have HE : Hid (∀ j, exsOk (l.drop l.length) j = true) := Hid.mk (fun j => by rw [List.drop_length]; rfl)
  have HB := Hid.mk hb
  clear hb
  generalize exsOk l 0 = r at *
  obtain ⟨n, hnn⟩ : ∃ n, l.length = n := ⟨_, rfl⟩
  have HN := Hid.mk hnn
  rw [hnn] at h1 hn HE ⊢
  clear hnn
  go_enter Tryd.func75, Tryd.ntmps75
  go_wp2_with fail
  go_loopg [8] n (fun gm s8 z => ∃ i : Nat, Hid (gm + i = n) ∧ s8 = .int .i64 (i : Int) ∧ Hid (r = exsOk (l.drop i) i) ∧ Below w.heap.size w z)
  case atStart => exact ⟨0, Hid.mk rfl, rfl, HR, Below.refl _ _⟩
  case round =>
    obtain ⟨i, HI, rfl, HRi, hBz⟩ := hrel
    by_cases hil : i < n
    · have hili : (i : Int) < (n : Int) := by omega
      obtain ⟨x, hx⟩ := list_at (l := l) (i := i) (by rw [HN.out]; exact hil)
      have HS := Hid.mk (exsOk_step (j := i) hx)
      have HZ : Hid (2 + x.body.size < 9223372036854775808) := Hid.mk (by have := HB.out x (List.mem_of_getElem? hx); omega)
      obtain ⟨p1, rfl, k1, k1b⟩ := h1.sl hBz hx
      have H1 := Hid.mk hil
      have hld := ldEx (e := x) k1 k1b
      go_wp2_with (first | (refine wl_value rfl (exec_ixE (i := i) rfl (by rfl) (by rfl) H1.out) ?_) | (refine wl_value rfl (exec_ld rfl (by rfl) hld) ?_) | (refine wl_allocEx rfl rfl ?_; intro g4 y1 hg4 q4 hC1; refine Hid.out ?_))
      refine Hid.mk ?_
      have hg4w : w.heap.size ≤ g4 := by have := hBz.size; omega
      go_wp2_with (refine st_stO rfl rfl isEx2 (exV_one _) q4 (by rfl) (by rfl) ?_; intro y2 r4 o4; refine Hid.out ?_)
      refine Hid.mk ?_
      have hBy : Below w.heap.size w y2 := (hBz.trans (hC1.mono hBz.size)).trans (o4.below hg4w)
      go_upto_region 4 with fail
      refine wp_plain_steps (Below y2.heap.size y2) (fun v v' => Below v.heap.size v v') (fun j vv _ => vv = ([.pointer (some ⟨g4, 1, none⟩), .string x.body, .int .i64 (x.body.size : Int), .int .i64 ((2 + x.body.size : Nat) : Int), .int .i64 (((2 + x.body.size) % 8 : Nat) : Int), .bool (decide ((((2 + x.body.size) % 8 : Nat) : Int) = 0)), .bool (decide ((((2 + x.body.size) % 8 : Nat) : Int) = 0))] : List Value).getD j undef)
          [13, 14, 15, 16, 17, 18, 5]
          [(4, .pointer (some ⟨g4, 0, none⟩))] [] 0
          [[], [0], [1], [2], [3], [4], [5]]
          (by kernel_rfl) ⟨rfl, trivial⟩ trivial (Below.refl _ _) (fun v v' h hb => h.trans (hb.mono h.size)) (fun _ _ _ _ h _ => h)
          ⟨
          (fun QQ aa ww hS fr kn => sg0 rfl (fun K hK => wp_value (exec_fexG 1 (by decide) rfl fr.1) (hK _ _ rfl (Below.refl _ _)))),
          (fun QQ aa ww hS fr kn => sg0 rfl (fun K hK => wp_value (exec_ld rfl kn.1 (ldPs (ex_body (SAt.kept r4 hS)))) (hK _ _ rfl (Below.refl _ _)))),
          (fun QQ aa ww hS fr kn => sg0 rfl (fun K hK => wp_value (exec_lenS rfl kn.1) (hK _ _ rfl (Below.refl _ _)))),
          (fun QQ aa ww hS fr kn => sg0 rfl (fun K hK => wp_value (exec_addW (i := 2) (m := x.body.size) rfl rfl kn.1 rfl HZ.out) (hK _ _ rfl (Below.refl _ _)))),
          (fun QQ aa ww hS fr kn => sg0 rfl (fun K hK => wp_value (exec_remW (i := 2 + x.body.size) (m := 8) rfl kn.1 rfl rfl (by decide)) (hK _ _ rfl (Below.refl _ _)))),
          (fun QQ aa ww hS fr kn => sg0 rfl (fun K hK => wp_value (cmp_eq (m := (((2 + x.body.size) % 8 : Nat) : Int)) (n := 0) rfl kn.1 rfl) (hK _ _ rfl (Below.refl _ _)))),
          (fun QQ aa ww hS fr kn => sg0 rfl (fun K hK => wp_value (exec_assign rfl kn.1) (hK _ _ rfl (Below.refl _ _)))),
          trivial⟩ ?_
      intro vs y3 hB3 kn
      have e5 : vs 5 = .bool (decide ((((2 + x.body.size) % 8 : Nat) : Int) = 0)) := kn 6 (by decide)
      clear kn
      simp only [putAll, Act.put, List.setIfInBounds_toArray, List.set_cons_zero, List.set_cons_succ, e5]
      clear e5
      have r5 := SAt.kept r4 hB3
      have hBx := hBy.trans (hB3.mono hBy.size)
      go_upto_region 5 with fail
      refine wp_plain_steps (Below y3.heap.size y3) (fun v v' => Below v.heap.size v v') (fun j vv _ => vv = ([.pointer (some ⟨g4, 0, none⟩), .int .i64 x.kind, .bool (isEx x.kind), .bool (!(isEx x.kind)), .bool (!(isEx x.kind)), gv (!(!(isEx x.kind))) (.pointer (some ⟨g4, 0, none⟩)), gv (!(!(isEx x.kind))) (.int .i64 x.kind), gv (!(!(isEx x.kind))) (.int .i64 (i : Int)), gv (!(!(isEx x.kind))) (.bool (mayB x.kind i)), gv (!(!(isEx x.kind))) (.bool (!(mayB x.kind i))), .bool ((!(isEx x.kind)) || (!(mayB x.kind i))), .bool ((!(isEx x.kind)) || (!(mayB x.kind i))), gv (!((!(isEx x.kind)) || (!(mayB x.kind i)))) (.bool (decide ((((2 + x.body.size) % 8 : Nat) : Int) = 0))), gv (!((!(isEx x.kind)) || (!(mayB x.kind i)))) (.bool (!(decide ((((2 + x.body.size) % 8 : Nat) : Int) = 0)))), .bool (((!(isEx x.kind)) || (!(mayB x.kind i))) || (!(decide ((((2 + x.body.size) % 8 : Nat) : Int) = 0)))), .bool (((!(isEx x.kind)) || (!(mayB x.kind i))) || (!(decide ((((2 + x.body.size) % 8 : Nat) : Int) = 0)))), gv (!(((!(isEx x.kind)) || (!(mayB x.kind i))) || (!(decide ((((2 + x.body.size) % 8 : Nat) : Int) = 0))))) (.pointer (some ⟨g4, 1, none⟩)), gv (!(((!(isEx x.kind)) || (!(mayB x.kind i))) || (!(decide ((((2 + x.body.size) % 8 : Nat) : Int) = 0))))) (.string x.body), gv (!(((!(isEx x.kind)) || (!(mayB x.kind i))) || (!(decide ((((2 + x.body.size) % 8 : Nat) : Int) = 0))))) (.int .i64 (x.body.size : Int)), gv (!(((!(isEx x.kind)) || (!(mayB x.kind i))) || (!(decide ((((2 + x.body.size) % 8 : Nat) : Int) = 0))))) (.bool (decide (2046 < (x.body.size : Int)))), .bool ((((!(isEx x.kind)) || (!(mayB x.kind i))) || (!(decide ((((2 + x.body.size) % 8 : Nat) : Int) = 0)))) || (decide (2046 < (x.body.size : Int))))] : List Value).getD j undef)
          [19, 20, 21, 22, 23, 24, 25, 26, 27, 28, 29, 30, 31, 32, 33, 34, 35, 36, 37, 38, 39]
          [(4, .pointer (some ⟨g4, 0, none⟩)), (3, .int .i64 (i : Int)), (5, .bool (decide ((((2 + x.body.size) % 8 : Nat) : Int) = 0)))] [] 0
          [[], [0], [1], [2], [3], [4], [4, 5], [4], [4, 6, 7], [4, 8], [4, 9], [10], [11], [11, 12], [11, 13], [14], [15], [15, 16], [15, 17], [15, 18], [15, 19]]
          (by kernel_rfl) ⟨rfl, rfl, rfl, trivial⟩ trivial (Below.refl _ _) (fun v v' h hb => h.trans (hb.mono h.size)) (fun _ _ _ _ h _ => h)
          ⟨
          (fun QQ aa ww hS fr kn => sg0 rfl (fun K hK => wp_value (exec_fexG 0 (by decide) rfl fr.1) (hK _ _ rfl (Below.refl _ _)))),
          (fun QQ aa ww hS fr kn => sg0 rfl (fun K hK => wp_value (exec_ld rfl kn.1 (ldP (ex_kind (SAt.kept r5 hS)))) (hK _ _ rfl (Below.refl _ _)))),
          (fun QQ aa ww hS fr kn => sg0 rfl (fun K hK => stepc en_isExt rfl (args1 kn.1) (isExt_run x.kind ww) (fun w' hb => hK _ _ rfl hb))),
          (fun QQ aa ww hS fr kn => sg0 rfl (fun K hK => wp_value (exec_notB rfl kn.1) (hK _ _ rfl (Below.refl _ _)))),
          (fun QQ aa ww hS fr kn => sg0 rfl (fun K hK => wp_value (exec_move rfl kn.1) (hK _ _ rfl (Below.refl _ _)))),
          (fun QQ aa ww hS fr kn => sgF rfl kn.1 (fun hng K hK => have hc := nt_t hng; wp_value (exec_fexG 0 (by decide) rfl fr.1) (hK _ _ (gv_t hc).symm (Below.refl _ _))) (fun h0 => (gv_f (nt_f h0)).symm)),
          (fun QQ aa ww hS fr kn => sgF rfl kn.1 (fun hng K hK => have hc := nt_t hng; wp_value (exec_ld rfl (kn.2.1.trans (gv_t hc)) (ldP (ex_kind (SAt.kept r5 hS)))) (hK _ _ (gv_t hc).symm (Below.refl _ _))) (fun h0 => (gv_f (nt_f h0)).symm)),
          (fun QQ aa ww hS fr kn => sgF rfl kn.1 (fun hng K hK => have hc := nt_t hng; wp_value (exec_move rfl fr.2.1) (hK _ _ (gv_t hc).symm (Below.refl _ _))) (fun h0 => (gv_f (nt_f h0)).symm)),
          (fun QQ aa ww hS fr kn => sgF rfl kn.1 (fun hng K hK => have hc := nt_t hng; stepc en_mayStand rfl (args2 (kn.2.1.trans (gv_t hc)) (kn.2.2.1.trans (gv_t hc))) (mayStand_run x.kind i ww) (fun w' hb => hK _ _ (gv_t hc).symm hb)) (fun h0 => (gv_f (nt_f h0)).symm)),
          (fun QQ aa ww hS fr kn => sgF rfl kn.1 (fun hng K hK => have hc := nt_t hng; wp_value (exec_notB rfl (kn.2.1.trans (gv_t hc))) (hK _ _ (gv_t hc).symm (Below.refl _ _))) (fun h0 => (gv_f (nt_f h0)).symm)),
          (fun QQ aa ww hS fr kn => sg0 rfl (fun K hK => wp_value (exec_pickOr rfl kn.1 rfl (fun hx => kn.2.1.trans (gv_t (nt_t hx)))) (hK _ _ rfl (Below.refl _ _)))),
          (fun QQ aa ww hS fr kn => sg0 rfl (fun K hK => wp_value (exec_move rfl kn.1) (hK _ _ rfl (Below.refl _ _)))),
          (fun QQ aa ww hS fr kn => sgF rfl kn.1 (fun hng K hK => have hc := nt_t hng; wp_value (exec_move rfl fr.2.2.1) (hK _ _ (gv_t hc).symm (Below.refl _ _))) (fun h0 => (gv_f (nt_f h0)).symm)),
          (fun QQ aa ww hS fr kn => sgF rfl kn.1 (fun hng K hK => have hc := nt_t hng; wp_value (exec_notB rfl (kn.2.1.trans (gv_t hc))) (hK _ _ (gv_t hc).symm (Below.refl _ _))) (fun h0 => (gv_f (nt_f h0)).symm)),
          (fun QQ aa ww hS fr kn => sg0 rfl (fun K hK => wp_value (exec_pickOr rfl kn.1 rfl (fun hx => kn.2.1.trans (gv_t (nt_t hx)))) (hK _ _ rfl (Below.refl _ _)))),
          (fun QQ aa ww hS fr kn => sg0 rfl (fun K hK => wp_value (exec_move rfl kn.1) (hK _ _ rfl (Below.refl _ _)))),
          (fun QQ aa ww hS fr kn => sgF rfl kn.1 (fun hng K hK => have hc := nt_t hng; wp_value (exec_fexG 1 (by decide) rfl fr.1) (hK _ _ (gv_t hc).symm (Below.refl _ _))) (fun h0 => (gv_f (nt_f h0)).symm)),
          (fun QQ aa ww hS fr kn => sgF rfl kn.1 (fun hng K hK => have hc := nt_t hng; wp_value (exec_ld rfl (kn.2.1.trans (gv_t hc)) (ldPs (ex_body (SAt.kept r5 hS)))) (hK _ _ (gv_t hc).symm (Below.refl _ _))) (fun h0 => (gv_f (nt_f h0)).symm)),
          (fun QQ aa ww hS fr kn => sgF rfl kn.1 (fun hng K hK => have hc := nt_t hng; wp_value (exec_lenS rfl (kn.2.1.trans (gv_t hc))) (hK _ _ (gv_t hc).symm (Below.refl _ _))) (fun h0 => (gv_f (nt_f h0)).symm)),
          (fun QQ aa ww hS fr kn => sgF rfl kn.1 (fun hng K hK => have hc := nt_t hng; wp_value (cmp_gt (m := (x.body.size : Int)) (n := 2046) rfl (kn.2.1.trans (gv_t hc)) rfl) (hK _ _ (gv_t hc).symm (Below.refl _ _))) (fun h0 => (gv_f (nt_f h0)).symm)),
          (fun QQ aa ww hS fr kn => sg0 rfl (fun K hK => wp_value (exec_pickOr rfl kn.1 rfl (fun hx => kn.2.1.trans (gv_t (nt_t hx)))) (hK _ _ rfl (Below.refl _ _)))),
          trivial⟩ ?_
      intro vs y4 hB4 kn
      have e39 : vs 39 = .bool ((((!(isEx x.kind)) || (!(mayB x.kind i))) || (!(decide ((((2 + x.body.size) % 8 : Nat) : Int) = 0)))) || (decide (2046 < (x.body.size : Int)))) := kn 20 (by decide)
      clear kn
      simp only [putAll, Act.put, List.setIfInBounds_toArray, List.set_cons_zero, List.set_cons_succ, e39]
      clear e39
      have hBw := hBx.trans (hB4.mono hBx.size)
      have HX := exOk_code x i
      rw [HX]
      cases hq : exOk x i
      · have hr : r = false := by rw [HRi.out, HS.out, hq]; rfl
        clear HX
        go_wp2_with fail
        go_ret
        exact ⟨by rw [hr]; rfl, hBw⟩
      · have HR2 : Hid (r = exsOk (l.drop (i + 1)) (i + 1)) := Hid.mk (by rw [HRi.out, HS.out, hq]; rfl)
        clear HX
        go_wp2_with fail
        go_roundg (n - (i + 1))
        case rel => exact ⟨i + 1, Hid.mk (by omega), by go_num, HR2, hBw⟩
        case measure => have := HI.out; omega
    · have hi2 : i = n := by have := HI.out; omega
      subst hi2
      have hr : r = true := by rw [HRi.out]; exact HE.out _
      go_wp2_with fail
      go_ret
      exact ⟨by rw [hr]; rfl, hBz⟩
theorem en_rightExts (args : Array Value) (w : World) : (callFunc 75 args).run Tryd.prog w = .ok (.enter 75 args) w := by kernel_rfl
theorem en_Valid (args : Array Value) (w : World) : (callFunc 47 args).run Tryd.prog w = .ok (.enter 47 args) w := by kernel_rfl
theorem off_nn {n m : Int} (h : (!(!upB n m)) = true) : 0 ≤ n := by
  rw [Bool.not_not] at h
  exact (upB_iff.1 h).1
theorem off_np {n m : Int} (h : upB n m = true) : 0 ≤ n := (upB_iff.1 h).1
theorem dec_nat {a b : Nat} : decide ((a : Int) = (b : Int)) = decide (a = b) := by congr 1; exact propext ⟨fun h => by omega, fun h => by omega⟩
theorem dec_le {a b : Nat} : decide ((a : Int) ≤ (b : Int)) = decide (a ≤ b) := by congr 1; exact propext ⟨fun h => by omega, fun h => by omega⟩
theorem len_nil (l : List Ex) : decide ((l.length : Int) = 0) = l.isEmpty := by
  cases l with
  | nil => rfl
  | cons x l => rw [decide_eq_false (by simp; omega)]; rfl
theorem txt_nil (s : ByteArray) : decide (s = ByteArray.empty) = decide (s.size = 0) := by
  congr 1
  exact propext ⟨fun h => by rw [h]; rfl, fun h => txt_ext (by rw [h]; rfl) (fun j hj => by omega)⟩
theorem rgt4_code (P : Pk) : (upB P.id 65535 && decide (((P.opts.size % 4 : Nat) : Int) = 0) && decide ((P.opts.size : Int) ≤ 40) && decide (P.flow = 0) && decide ((P.exts.length : Int) = 0) && !P.cut) = rgt4 P := by
  unfold rgt4
  have e1 : decide (((P.opts.size % 4 : Nat) : Int) = 0) = decide (P.opts.size % 4 = 0) := dec_nat (b := 0)
  have e2 : decide ((P.opts.size : Int) ≤ 40) = decide (P.opts.size ≤ 40) := dec_le (b := 40)
  rw [e1, e2, len_nil]
  rfl
set_option maxHeartbeats 8000000 in
theorem right4_run (P : Pk) (v : Value) (w : World) (h1 : ExAt w v P.exts) (_hn : P.exts.length < 4611686018427387904) (_hb : ∀ x ∈ P.exts, x.body.size ≤ 140737488355328) : Calls Tryd.prog 50 #[.agg (SC 46 (pkV P v))] w fun e w' => e = .returned (.bool (rgt4 P)) ∧ Below w.heap.size w w' := by
  obtain ⟨a1, c1, rfl, _⟩ := id h1
  go_enter Tryd.func50, Tryd.ntmps50
  go_wp2_with (refine wl_boxO rfl rfl isPk (by rfl) ?_; intro g1 u2 hg1 q1 hB2; refine Hid.out ?_)
  refine Hid.mk ?_
  go_upto_region 1 with fail
  refine wp_plain_steps (Below u2.heap.size u2) (fun v v' => Below v.heap.size v v') (fun j vv _ => vv = ((.pointer (some ⟨g1, 37, none⟩) :: .int .i64 P.id :: .bool (upB P.id 65535) :: .bool (upB P.id 65535) :: gv (upB P.id 65535) (.pointer (some ⟨g1, 41, none⟩)) :: gv (upB P.id 65535) (.string P.opts) :: gv (upB P.id 65535) (.int .i64 (P.opts.size : Int)) :: gv (upB P.id 65535) (.int .i64 ((P.opts.size % 4 : Nat) : Int)) :: gv (upB P.id 65535) (.bool (decide (((P.opts.size % 4 : Nat) : Int) = 0))) :: .bool ((upB P.id 65535) && (decide (((P.opts.size % 4 : Nat) : Int) = 0))) :: .bool ((upB P.id 65535) && (decide (((P.opts.size % 4 : Nat) : Int) = 0))) :: gv ((upB P.id 65535) && (decide (((P.opts.size % 4 : Nat) : Int) = 0))) (.pointer (some ⟨g1, 41, none⟩)) :: gv ((upB P.id 65535) && (decide (((P.opts.size % 4 : Nat) : Int) = 0))) (.string P.opts) :: gv ((upB P.id 65535) && (decide (((P.opts.size % 4 : Nat) : Int) = 0))) (.int .i64 (P.opts.size : Int)) :: gv ((upB P.id 65535) && (decide (((P.opts.size % 4 : Nat) : Int) = 0))) (.bool (decide ((P.opts.size : Int) ≤ 40))) :: .bool (((upB P.id 65535) && (decide (((P.opts.size % 4 : Nat) : Int) = 0))) && (decide ((P.opts.size : Int) ≤ 40))) :: .bool (((upB P.id 65535) && (decide (((P.opts.size % 4 : Nat) : Int) = 0))) && (decide ((P.opts.size : Int) ≤ 40))) :: gv (((upB P.id 65535) && (decide (((P.opts.size % 4 : Nat) : Int) = 0))) && (decide ((P.opts.size : Int) ≤ 40))) (.pointer (some ⟨g1, 42, none⟩)) :: gv (((upB P.id 65535) && (decide (((P.opts.size % 4 : Nat) : Int) = 0))) && (decide ((P.opts.size : Int) ≤ 40))) (.int .i64 P.flow) :: gv (((upB P.id 65535) && (decide (((P.opts.size % 4 : Nat) : Int) = 0))) && (decide ((P.opts.size : Int) ≤ 40))) (.bool (decide (P.flow = 0))) :: .bool ((((upB P.id 65535) && (decide (((P.opts.size % 4 : Nat) : Int) = 0))) && (decide ((P.opts.size : Int) ≤ 40))) && (decide (P.flow = 0))) :: .bool ((((upB P.id 65535) && (decide (((P.opts.size % 4 : Nat) : Int) = 0))) && (decide ((P.opts.size : Int) ≤ 40))) && (decide (P.flow = 0))) :: gv ((((upB P.id 65535) && (decide (((P.opts.size % 4 : Nat) : Int) = 0))) && (decide ((P.opts.size : Int) ≤ 40))) && (decide (P.flow = 0))) (.pointer (some ⟨g1, 43, none⟩)) :: gv ((((upB P.id 65535) && (decide (((P.opts.size % 4 : Nat) : Int) = 0))) && (decide ((P.opts.size : Int) ≤ 40))) && (decide (P.flow = 0))) (.slice a1 P.exts.length c1) :: gv ((((upB P.id 65535) && (decide (((P.opts.size % 4 : Nat) : Int) = 0))) && (decide ((P.opts.size : Int) ≤ 40))) && (decide (P.flow = 0))) (.int .i64 (P.exts.length : Int)) :: gv ((((upB P.id 65535) && (decide (((P.opts.size % 4 : Nat) : Int) = 0))) && (decide ((P.opts.size : Int) ≤ 40))) && (decide (P.flow = 0))) (.bool (decide ((P.exts.length : Int) = 0))) :: .bool (((((upB P.id 65535) && (decide (((P.opts.size % 4 : Nat) : Int) = 0))) && (decide ((P.opts.size : Int) ≤ 40))) && (decide (P.flow = 0))) && (decide ((P.exts.length : Int) = 0))) :: .bool (((((upB P.id 65535) && (decide (((P.opts.size % 4 : Nat) : Int) = 0))) && (decide ((P.opts.size : Int) ≤ 40))) && (decide (P.flow = 0))) && (decide ((P.exts.length : Int) = 0))) :: gv (((((upB P.id 65535) && (decide (((P.opts.size % 4 : Nat) : Int) = 0))) && (decide ((P.opts.size : Int) ≤ 40))) && (decide (P.flow = 0))) && (decide ((P.exts.length : Int) = 0))) (.pointer (some ⟨g1, 44, none⟩)) :: gv (((((upB P.id 65535) && (decide (((P.opts.size % 4 : Nat) : Int) = 0))) && (decide ((P.opts.size : Int) ≤ 40))) && (decide (P.flow = 0))) && (decide ((P.exts.length : Int) = 0))) (.bool P.cut) :: gv (((((upB P.id 65535) && (decide (((P.opts.size % 4 : Nat) : Int) = 0))) && (decide ((P.opts.size : Int) ≤ 40))) && (decide (P.flow = 0))) && (decide ((P.exts.length : Int) = 0))) (.bool (!P.cut)) :: .bool ((((((upB P.id 65535) && (decide (((P.opts.size % 4 : Nat) : Int) = 0))) && (decide ((P.opts.size : Int) ≤ 40))) && (decide (P.flow = 0))) && (decide ((P.exts.length : Int) = 0))) && (!P.cut)) :: .bool ((((((upB P.id 65535) && (decide (((P.opts.size % 4 : Nat) : Int) = 0))) && (decide ((P.opts.size : Int) ≤ 40))) && (decide (P.flow = 0))) && (decide ((P.exts.length : Int) = 0))) && (!P.cut)) :: []) : List Value).getD j undef)
      (3 :: 4 :: 5 :: 6 :: 7 :: 8 :: 9 :: 10 :: 11 :: 12 :: 13 :: 14 :: 15 :: 16 :: 17 :: 18 :: 19 :: 20 :: 21 :: 22 :: 23 :: 24 :: 25 :: 26 :: 27 :: 28 :: 29 :: 30 :: 31 :: 32 :: 33 :: 34 :: 2 :: [])
      [(1, .pointer (some ⟨g1, 0, none⟩))] [] 0
      ([] :: [0] :: [1] :: [2] :: [3] :: [3, 4] :: [3, 5] :: [3, 6] :: [3, 7] :: [3, 8] :: [9] :: [10] :: [10, 11] :: [10, 12] :: [10, 13] :: [10, 14] :: [15] :: [16] :: [16, 17] :: [16, 18] :: [16, 19] :: [20] :: [21] :: [21, 22] :: [21, 23] :: [21, 24] :: [21, 25] :: [26] :: [27] :: [27, 28] :: [27, 29] :: [27, 30] :: [31] :: [])
      (by kernel_rfl) ⟨rfl, trivial⟩ trivial (Below.refl _ _) (fun v v' h hb => h.trans (hb.mono h.size)) (fun _ _ _ _ h _ => h)
      ⟨
      (fun QQ aa ww hS fr kn => sg0 rfl (fun K hK => wp_value (exec_fpk 5 (by decide) rfl fr.1) (hK _ _ rfl (Below.refl _ _)))),
      (fun QQ aa ww hS fr kn => sg0 rfl (fun K hK => wp_value (exec_ld rfl kn.1 (ldP (pk_id (SAt.kept q1 hS)))) (hK _ _ rfl (Below.refl _ _)))),
      (fun QQ aa ww hS fr kn => sg0 rfl (fun K hK => stepc en_upTo rfl (args2 kn.1 rfl) (upTo_run P.id 65535 ww) (fun w' hb => hK _ _ rfl hb))),
      (fun QQ aa ww hS fr kn => sg0 rfl (fun K hK => wp_value (exec_move rfl kn.1) (hK _ _ rfl (Below.refl _ _)))),
      (fun QQ aa ww hS fr kn => sgT rfl kn.1 (fun hc K hK => wp_value (exec_fpk 9 (by decide) rfl fr.1) (hK _ _ (gv_t hc).symm (Below.refl _ _))) (fun h0 => (gv_f h0).symm)),
      (fun QQ aa ww hS fr kn => sgT rfl kn.1 (fun hc K hK => wp_value (exec_ld rfl (kn.2.1.trans (gv_t hc)) (ldPs (pk_opts (SAt.kept q1 hS)))) (hK _ _ (gv_t hc).symm (Below.refl _ _))) (fun h0 => (gv_f h0).symm)),
      (fun QQ aa ww hS fr kn => sgT rfl kn.1 (fun hc K hK => wp_value (exec_lenS rfl (kn.2.1.trans (gv_t hc))) (hK _ _ (gv_t hc).symm (Below.refl _ _))) (fun h0 => (gv_f h0).symm)),
      (fun QQ aa ww hS fr kn => sgT rfl kn.1 (fun hc K hK => wp_value (exec_remW (i := P.opts.size) (m := 4) rfl (kn.2.1.trans (gv_t hc)) rfl rfl (by decide)) (hK _ _ (gv_t hc).symm (Below.refl _ _))) (fun h0 => (gv_f h0).symm)),
      (fun QQ aa ww hS fr kn => sgT rfl kn.1 (fun hc K hK => wp_value (cmp_eq (m := ((P.opts.size % 4 : Nat) : Int)) (n := 0) rfl (kn.2.1.trans (gv_t hc)) rfl) (hK _ _ (gv_t hc).symm (Below.refl _ _))) (fun h0 => (gv_f h0).symm)),
      (fun QQ aa ww hS fr kn => sg0 rfl (fun K hK => wp_value (exec_pickAnd rfl kn.1 (fun hx => kn.2.1.trans (gv_t hx)) rfl) (hK _ _ rfl (Below.refl _ _)))),
      (fun QQ aa ww hS fr kn => sg0 rfl (fun K hK => wp_value (exec_move rfl kn.1) (hK _ _ rfl (Below.refl _ _)))),
      (fun QQ aa ww hS fr kn => sgT rfl kn.1 (fun hc K hK => wp_value (exec_fpk 9 (by decide) rfl fr.1) (hK _ _ (gv_t hc).symm (Below.refl _ _))) (fun h0 => (gv_f h0).symm)),
      (fun QQ aa ww hS fr kn => sgT rfl kn.1 (fun hc K hK => wp_value (exec_ld rfl (kn.2.1.trans (gv_t hc)) (ldPs (pk_opts (SAt.kept q1 hS)))) (hK _ _ (gv_t hc).symm (Below.refl _ _))) (fun h0 => (gv_f h0).symm)),
      (fun QQ aa ww hS fr kn => sgT rfl kn.1 (fun hc K hK => wp_value (exec_lenS rfl (kn.2.1.trans (gv_t hc))) (hK _ _ (gv_t hc).symm (Below.refl _ _))) (fun h0 => (gv_f h0).symm)),
      (fun QQ aa ww hS fr kn => sgT rfl kn.1 (fun hc K hK => wp_value (cmp_le (m := (P.opts.size : Int)) (n := 40) rfl (kn.2.1.trans (gv_t hc)) rfl) (hK _ _ (gv_t hc).symm (Below.refl _ _))) (fun h0 => (gv_f h0).symm)),
      (fun QQ aa ww hS fr kn => sg0 rfl (fun K hK => wp_value (exec_pickAnd rfl kn.1 (fun hx => kn.2.1.trans (gv_t hx)) rfl) (hK _ _ rfl (Below.refl _ _)))),
      (fun QQ aa ww hS fr kn => sg0 rfl (fun K hK => wp_value (exec_move rfl kn.1) (hK _ _ rfl (Below.refl _ _)))),
      (fun QQ aa ww hS fr kn => sgT rfl kn.1 (fun hc K hK => wp_value (exec_fpk 10 (by decide) rfl fr.1) (hK _ _ (gv_t hc).symm (Below.refl _ _))) (fun h0 => (gv_f h0).symm)),
      (fun QQ aa ww hS fr kn => sgT rfl kn.1 (fun hc K hK => wp_value (exec_ld rfl (kn.2.1.trans (gv_t hc)) (ldP (pk_flow (SAt.kept q1 hS)))) (hK _ _ (gv_t hc).symm (Below.refl _ _))) (fun h0 => (gv_f h0).symm)),
      (fun QQ aa ww hS fr kn => sgT rfl kn.1 (fun hc K hK => wp_value (cmp_eq (m := P.flow) (n := 0) rfl (kn.2.1.trans (gv_t hc)) rfl) (hK _ _ (gv_t hc).symm (Below.refl _ _))) (fun h0 => (gv_f h0).symm)),
      (fun QQ aa ww hS fr kn => sg0 rfl (fun K hK => wp_value (exec_pickAnd rfl kn.1 (fun hx => kn.2.1.trans (gv_t hx)) rfl) (hK _ _ rfl (Below.refl _ _)))),
      (fun QQ aa ww hS fr kn => sg0 rfl (fun K hK => wp_value (exec_move rfl kn.1) (hK _ _ rfl (Below.refl _ _)))),
      (fun QQ aa ww hS fr kn => sgT rfl kn.1 (fun hc K hK => wp_value (exec_fpk 11 (by decide) rfl fr.1) (hK _ _ (gv_t hc).symm (Below.refl _ _))) (fun h0 => (gv_f h0).symm)),
      (fun QQ aa ww hS fr kn => sgT rfl kn.1 (fun hc K hK => wp_value (exec_ld rfl (kn.2.1.trans (gv_t hc)) (ldPx (pk_exts (SAt.kept q1 hS)))) (hK _ _ (gv_t hc).symm (Below.refl _ _))) (fun h0 => (gv_f h0).symm)),
      (fun QQ aa ww hS fr kn => sgT rfl kn.1 (fun hc K hK => wp_value (exec_lenX rfl (kn.2.1.trans (gv_t hc))) (hK _ _ (gv_t hc).symm (Below.refl _ _))) (fun h0 => (gv_f h0).symm)),
      (fun QQ aa ww hS fr kn => sgT rfl kn.1 (fun hc K hK => wp_value (cmp_eq (m := (P.exts.length : Int)) (n := 0) rfl (kn.2.1.trans (gv_t hc)) rfl) (hK _ _ (gv_t hc).symm (Below.refl _ _))) (fun h0 => (gv_f h0).symm)),
      (fun QQ aa ww hS fr kn => sg0 rfl (fun K hK => wp_value (exec_pickAnd rfl kn.1 (fun hx => kn.2.1.trans (gv_t hx)) rfl) (hK _ _ rfl (Below.refl _ _)))),
      (fun QQ aa ww hS fr kn => sg0 rfl (fun K hK => wp_value (exec_move rfl kn.1) (hK _ _ rfl (Below.refl _ _)))),
      (fun QQ aa ww hS fr kn => sgT rfl kn.1 (fun hc K hK => wp_value (exec_fpk 12 (by decide) rfl fr.1) (hK _ _ (gv_t hc).symm (Below.refl _ _))) (fun h0 => (gv_f h0).symm)),
      (fun QQ aa ww hS fr kn => sgT rfl kn.1 (fun hc K hK => wp_value (exec_ld rfl (kn.2.1.trans (gv_t hc)) (ldPb (pk_cut (SAt.kept q1 hS)))) (hK _ _ (gv_t hc).symm (Below.refl _ _))) (fun h0 => (gv_f h0).symm)),
      (fun QQ aa ww hS fr kn => sgT rfl kn.1 (fun hc K hK => wp_value (exec_notB rfl (kn.2.1.trans (gv_t hc))) (hK _ _ (gv_t hc).symm (Below.refl _ _))) (fun h0 => (gv_f h0).symm)),
      (fun QQ aa ww hS fr kn => sg0 rfl (fun K hK => wp_value (exec_pickAnd rfl kn.1 (fun hx => kn.2.1.trans (gv_t hx)) rfl) (hK _ _ rfl (Below.refl _ _)))),
      (fun QQ aa ww hS fr kn => sg0 rfl (fun K hK => wp_value (exec_assign rfl kn.1) (hK _ _ rfl (Below.refl _ _)))),
      trivial⟩ ?_
  intro vs u3 hB3 kn
  have e2 : vs 2 = .bool ((((((upB P.id 65535) && (decide (((P.opts.size % 4 : Nat) : Int) = 0))) && (decide ((P.opts.size : Int) ≤ 40))) && (decide (P.flow = 0))) && (decide ((P.exts.length : Int) = 0))) && (!P.cut)) := kn 32 (by decide)
  clear kn
  simp only [putAll, Act.put, List.setIfInBounds_toArray, List.set_cons_zero, List.set_cons_succ, e2]
  clear e2
  go_wp2_with fail
  go_ret
  exact ⟨by rw [← rgt4_code]; rfl, hB2.trans (hB3.mono hB2.size)⟩
theorem rgt6_code (P : Pk) : rgt6 P = (!(((((!(upB P.flow 1048575)) || (!decide (P.opts = ByteArray.empty))) || P.still) || (!(exsOk P.exts 0))) || (isHd P.proto)) && (if P.cut = true then upB P.id 4294967295 else (((decide (P.id = 0)) && (decide (P.off = 0))) && (!P.more)))) := by
  unfold rgt6
  rw [txt_nil]
  have e0 : upB 0 4294967295 = true := by decide
  cases P.cut
  · by_cases hi : P.id = 0
    · rw [hi, e0]
      cases upB P.flow 1048575 <;> cases decide (P.opts.size = 0) <;> cases P.still <;> cases exsOk P.exts 0 <;> cases isHd P.proto <;> rfl
    · have e1 : (P.id == 0) = false := by simpa using hi
      rw [e1, decide_eq_false hi]
      cases upB P.flow 1048575 <;> cases decide (P.opts.size = 0) <;> cases P.still <;> cases exsOk P.exts 0 <;> cases isHd P.proto <;> cases upB P.id 4294967295 <;> rfl
  · cases upB P.flow 1048575 <;> cases decide (P.opts.size = 0) <;> cases P.still <;> cases exsOk P.exts 0 <;> cases isHd P.proto <;> cases upB P.id 4294967295 <;> rfl
set_option maxHeartbeats 8000000 in
theorem right6_run (P : Pk) (v : Value) (w : World) (h1 : ExAt w v P.exts) (hn : P.exts.length < 4611686018427387904) (hb : ∀ x ∈ P.exts, x.body.size ≤ 140737488355328) : Calls Tryd.prog 49 #[.agg (SC 46 (pkV P v))] w fun e w' => e = .returned (.bool (rgt6 P)) ∧ Below w.heap.size w w' := by
  have HC := Hid.mk (rgt6_code P)
  generalize rgt6 P = r at *
  go_enter Tryd.func49, Tryd.ntmps49
  go_wp2_with (refine wl_boxO rfl rfl isPk (by rfl) ?_; intro g1 u2 hg1 q1 hB2; refine Hid.out ?_)
  refine Hid.mk ?_
  have hx1 := h1.kept hB2
  go_upto_region 1 with fail
  refine wp_plain_steps (Below u2.heap.size u2) (fun v v' => Below v.heap.size v v') (fun j vv _ => vv = ([.pointer (some ⟨g1, 42, none⟩), .int .i64 P.flow, .bool (upB P.flow 1048575), .bool (!(upB P.flow 1048575)), .bool (!(upB P.flow 1048575)), gv (!(!(upB P.flow 1048575))) (.pointer (some ⟨g1, 41, none⟩)), gv (!(!(upB P.flow 1048575))) (.string P.opts), gv (!(!(upB P.flow 1048575))) (.bool (!decide (P.opts = ByteArray.empty))), .bool ((!(upB P.flow 1048575)) || (!decide (P.opts = ByteArray.empty))), .bool ((!(upB P.flow 1048575)) || (!decide (P.opts = ByteArray.empty))), gv (!((!(upB P.flow 1048575)) || (!decide (P.opts = ByteArray.empty)))) (.pointer (some ⟨g1, 40, none⟩)), gv (!((!(upB P.flow 1048575)) || (!decide (P.opts = ByteArray.empty)))) (.bool P.still), .bool (((!(upB P.flow 1048575)) || (!decide (P.opts = ByteArray.empty))) || P.still), .bool (((!(upB P.flow 1048575)) || (!decide (P.opts = ByteArray.empty))) || P.still), gv (!(((!(upB P.flow 1048575)) || (!decide (P.opts = ByteArray.empty))) || P.still)) (.pointer (some ⟨g1, 43, none⟩)), gv (!(((!(upB P.flow 1048575)) || (!decide (P.opts = ByteArray.empty))) || P.still)) (v), gv (!(((!(upB P.flow 1048575)) || (!decide (P.opts = ByteArray.empty))) || P.still)) (.bool (exsOk P.exts 0)), gv (!(((!(upB P.flow 1048575)) || (!decide (P.opts = ByteArray.empty))) || P.still)) (.bool (!(exsOk P.exts 0))), .bool ((((!(upB P.flow 1048575)) || (!decide (P.opts = ByteArray.empty))) || P.still) || (!(exsOk P.exts 0))), .bool ((((!(upB P.flow 1048575)) || (!decide (P.opts = ByteArray.empty))) || P.still) || (!(exsOk P.exts 0))), gv (!((((!(upB P.flow 1048575)) || (!decide (P.opts = ByteArray.empty))) || P.still) || (!(exsOk P.exts 0)))) (.pointer (some ⟨g1, 34, none⟩)), gv (!((((!(upB P.flow 1048575)) || (!decide (P.opts = ByteArray.empty))) || P.still) || (!(exsOk P.exts 0)))) (.int .i64 P.proto), gv (!((((!(upB P.flow 1048575)) || (!decide (P.opts = ByteArray.empty))) || P.still) || (!(exsOk P.exts 0)))) (.bool (isHd P.proto)), .bool (((((!(upB P.flow 1048575)) || (!decide (P.opts = ByteArray.empty))) || P.still) || (!(exsOk P.exts 0))) || (isHd P.proto))] : List Value).getD j undef)
      [3, 4, 5, 6, 7, 8, 9, 10, 11, 12, 13, 14, 15, 16, 17, 18, 19, 20, 21, 22, 23, 24, 25, 26]
      [(1, .pointer (some ⟨g1, 0, none⟩))] [] 0
      [[], [0], [1], [2], [3], [4], [4, 5], [4, 6], [4, 7], [8], [9], [9, 10], [9, 11], [12], [13], [13, 14], [13, 15], [13, 16], [13, 17], [18], [19], [19, 20], [19, 21], [19, 22]]
      (by kernel_rfl) ⟨rfl, trivial⟩ trivial (Below.refl _ _) (fun v v' h hb => h.trans (hb.mono h.size)) (fun _ _ _ _ h _ => h)
      ⟨
      (fun QQ aa ww hS fr kn => sg0 rfl (fun K hK => wp_value (exec_fpk 10 (by decide) rfl fr.1) (hK _ _ rfl (Below.refl _ _)))),
      (fun QQ aa ww hS fr kn => sg0 rfl (fun K hK => wp_value (exec_ld rfl kn.1 (ldP (pk_flow (SAt.kept q1 hS)))) (hK _ _ rfl (Below.refl _ _)))),
      (fun QQ aa ww hS fr kn => sg0 rfl (fun K hK => stepc en_upTo rfl (args2 kn.1 rfl) (upTo_run P.flow 1048575 ww) (fun w' hb => hK _ _ rfl hb))),
      (fun QQ aa ww hS fr kn => sg0 rfl (fun K hK => wp_value (exec_notB rfl kn.1) (hK _ _ rfl (Below.refl _ _)))),
      (fun QQ aa ww hS fr kn => sg0 rfl (fun K hK => wp_value (exec_move rfl kn.1) (hK _ _ rfl (Below.refl _ _)))),
      (fun QQ aa ww hS fr kn => sgF rfl kn.1 (fun hng K hK => have hc := nt_t hng; wp_value (exec_fpk 9 (by decide) rfl fr.1) (hK _ _ (gv_t hc).symm (Below.refl _ _))) (fun h0 => (gv_f (nt_f h0)).symm)),
      (fun QQ aa ww hS fr kn => sgF rfl kn.1 (fun hng K hK => have hc := nt_t hng; wp_value (exec_ld rfl (kn.2.1.trans (gv_t hc)) (ldPs (pk_opts (SAt.kept q1 hS)))) (hK _ _ (gv_t hc).symm (Below.refl _ _))) (fun h0 => (gv_f (nt_f h0)).symm)),
      (fun QQ aa ww hS fr kn => sgF rfl kn.1 (fun hng K hK => have hc := nt_t hng; wp_value (cmp_neS (s := P.opts) (t := ByteArray.empty) rfl (kn.2.1.trans (gv_t hc)) rfl) (hK _ _ (gv_t hc).symm (Below.refl _ _))) (fun h0 => (gv_f (nt_f h0)).symm)),
      (fun QQ aa ww hS fr kn => sg0 rfl (fun K hK => wp_value (exec_pickOr rfl kn.1 rfl (fun hx => kn.2.1.trans (gv_t (nt_t hx)))) (hK _ _ rfl (Below.refl _ _)))),
      (fun QQ aa ww hS fr kn => sg0 rfl (fun K hK => wp_value (exec_move rfl kn.1) (hK _ _ rfl (Below.refl _ _)))),
      (fun QQ aa ww hS fr kn => sgF rfl kn.1 (fun hng K hK => have hc := nt_t hng; wp_value (exec_fpk 8 (by decide) rfl fr.1) (hK _ _ (gv_t hc).symm (Below.refl _ _))) (fun h0 => (gv_f (nt_f h0)).symm)),
      (fun QQ aa ww hS fr kn => sgF rfl kn.1 (fun hng K hK => have hc := nt_t hng; wp_value (exec_ld rfl (kn.2.1.trans (gv_t hc)) (ldPb (pk_still (SAt.kept q1 hS)))) (hK _ _ (gv_t hc).symm (Below.refl _ _))) (fun h0 => (gv_f (nt_f h0)).symm)),
      (fun QQ aa ww hS fr kn => sg0 rfl (fun K hK => wp_value (exec_pickOr rfl kn.1 rfl (fun hx => kn.2.1.trans (gv_t (nt_t hx)))) (hK _ _ rfl (Below.refl _ _)))),
      (fun QQ aa ww hS fr kn => sg0 rfl (fun K hK => wp_value (exec_move rfl kn.1) (hK _ _ rfl (Below.refl _ _)))),
      (fun QQ aa ww hS fr kn => sgF rfl kn.1 (fun hng K hK => have hc := nt_t hng; wp_value (exec_fpk 11 (by decide) rfl fr.1) (hK _ _ (gv_t hc).symm (Below.refl _ _))) (fun h0 => (gv_f (nt_f h0)).symm)),
      (fun QQ aa ww hS fr kn => sgF rfl kn.1 (fun hng K hK => have hc := nt_t hng; wp_value (exec_ld rfl (kn.2.1.trans (gv_t hc)) (ldPx (pk_exts (SAt.kept q1 hS)))) (hK _ _ (gv_t hc).symm (Below.refl _ _))) (fun h0 => (gv_f (nt_f h0)).symm)),
      (fun QQ aa ww hS fr kn => sgF rfl kn.1 (fun hng K hK => have hc := nt_t hng; stepc en_rightExts rfl (args1 (kn.2.1.trans (gv_t hc))) (rightExts_run _ P.exts ww (hx1.kept hS) hn hb) (fun w' hb => hK _ _ (gv_t hc).symm hb)) (fun h0 => (gv_f (nt_f h0)).symm)),
      (fun QQ aa ww hS fr kn => sgF rfl kn.1 (fun hng K hK => have hc := nt_t hng; wp_value (exec_notB rfl (kn.2.1.trans (gv_t hc))) (hK _ _ (gv_t hc).symm (Below.refl _ _))) (fun h0 => (gv_f (nt_f h0)).symm)),
      (fun QQ aa ww hS fr kn => sg0 rfl (fun K hK => wp_value (exec_pickOr rfl kn.1 rfl (fun hx => kn.2.1.trans (gv_t (nt_t hx)))) (hK _ _ rfl (Below.refl _ _)))),
      (fun QQ aa ww hS fr kn => sg0 rfl (fun K hK => wp_value (exec_move rfl kn.1) (hK _ _ rfl (Below.refl _ _)))),
      (fun QQ aa ww hS fr kn => sgF rfl kn.1 (fun hng K hK => have hc := nt_t hng; wp_value (exec_fpk 2 (by decide) rfl fr.1) (hK _ _ (gv_t hc).symm (Below.refl _ _))) (fun h0 => (gv_f (nt_f h0)).symm)),
      (fun QQ aa ww hS fr kn => sgF rfl kn.1 (fun hng K hK => have hc := nt_t hng; wp_value (exec_ld rfl (kn.2.1.trans (gv_t hc)) (ldP (pk_proto (SAt.kept q1 hS)))) (hK _ _ (gv_t hc).symm (Below.refl _ _))) (fun h0 => (gv_f (nt_f h0)).symm)),
      (fun QQ aa ww hS fr kn => sgF rfl kn.1 (fun hng K hK => have hc := nt_t hng; stepc en_isHeader rfl (args1 (kn.2.1.trans (gv_t hc))) (isHeader_run P.proto ww) (fun w' hb => hK _ _ (gv_t hc).symm hb)) (fun h0 => (gv_f (nt_f h0)).symm)),
      (fun QQ aa ww hS fr kn => sg0 rfl (fun K hK => wp_value (exec_pickOr rfl kn.1 rfl (fun hx => kn.2.1.trans (gv_t (nt_t hx)))) (hK _ _ rfl (Below.refl _ _)))),
      trivial⟩ ?_
  intro vs u3 hB3 kn
  have e26 : vs 26 = .bool (((((!(upB P.flow 1048575)) || (!decide (P.opts = ByteArray.empty))) || P.still) || (!(exsOk P.exts 0))) || (isHd P.proto)) := kn 23 (by decide)
  clear kn
  simp only [putAll, Act.put, List.setIfInBounds_toArray, List.set_cons_zero, List.set_cons_succ, e26]
  clear e26
  have hBy := hB2.trans (hB3.mono hB2.size)
  have r1 := SAt.kept q1 hB3
  have HC := Hid.mk HC.out
  obtain ⟨c, hc⟩ : ∃ c, (((((!(upB P.flow 1048575)) || (!decide (P.opts = ByteArray.empty))) || P.still) || (!(exsOk P.exts 0))) || (isHd P.proto)) = c := ⟨_, rfl⟩
  rw [hc] at HC ⊢
  clear hc
  cases c
  · have s1 := pk_cut r1
    have s2 := pk_id r1
    cases hcut : P.cut
    · have hr : r = (((decide (P.id = 0)) && (decide (P.off = 0))) && (!P.more)) := by rw [HC.out, hcut]; rfl
      rw [hcut] at s1
      go_upto_region 4 with (first | (refine wl_value rfl (exec_fpk 12 (by decide) rfl (by rfl)) ?_) | (refine wl_value rfl (exec_ld rfl (by rfl) (ldPb s1)) ?_))
      refine wp_plain_steps (Below u3.heap.size u3) (fun v v' => Below v.heap.size v v') (fun j vv _ => vv = ([.pointer (some ⟨g1, 37, none⟩), .int .i64 P.id, .bool (decide (P.id = 0)), .bool (decide (P.id = 0)), gv (decide (P.id = 0)) (.pointer (some ⟨g1, 38, none⟩)), gv (decide (P.id = 0)) (.int .i64 P.off), gv (decide (P.id = 0)) (.bool (decide (P.off = 0))), .bool ((decide (P.id = 0)) && (decide (P.off = 0))), .bool ((decide (P.id = 0)) && (decide (P.off = 0))), gv ((decide (P.id = 0)) && (decide (P.off = 0))) (.pointer (some ⟨g1, 39, none⟩)), gv ((decide (P.id = 0)) && (decide (P.off = 0))) (.bool P.more), gv ((decide (P.id = 0)) && (decide (P.off = 0))) (.bool (!P.more)), .bool (((decide (P.id = 0)) && (decide (P.off = 0))) && (!P.more)), .bool (((decide (P.id = 0)) && (decide (P.off = 0))) && (!P.more))] : List Value).getD j undef)
          [30, 31, 32, 33, 34, 35, 36, 37, 38, 39, 40, 41, 42, 2]
          [(1, .pointer (some ⟨g1, 0, none⟩))] [] 0
          [[], [0], [1], [2], [3], [3, 4], [3, 5], [3, 6], [7], [8], [8, 9], [8, 10], [8, 11], [12]]
          (by kernel_rfl) ⟨rfl, trivial⟩ trivial (Below.refl _ _) (fun v v' h hb => h.trans (hb.mono h.size)) (fun _ _ _ _ h _ => h)
          ⟨
          (fun QQ aa ww hS fr kn => sg0 rfl (fun K hK => wp_value (exec_fpk 5 (by decide) rfl fr.1) (hK _ _ rfl (Below.refl _ _)))),
          (fun QQ aa ww hS fr kn => sg0 rfl (fun K hK => wp_value (exec_ld rfl kn.1 (ldP (pk_id (SAt.kept r1 hS)))) (hK _ _ rfl (Below.refl _ _)))),
          (fun QQ aa ww hS fr kn => sg0 rfl (fun K hK => wp_value (cmp_eq (m := P.id) (n := 0) rfl kn.1 rfl) (hK _ _ rfl (Below.refl _ _)))),
          (fun QQ aa ww hS fr kn => sg0 rfl (fun K hK => wp_value (exec_move rfl kn.1) (hK _ _ rfl (Below.refl _ _)))),
          (fun QQ aa ww hS fr kn => sgT rfl kn.1 (fun hc K hK => wp_value (exec_fpk 6 (by decide) rfl fr.1) (hK _ _ (gv_t hc).symm (Below.refl _ _))) (fun h0 => (gv_f h0).symm)),
          (fun QQ aa ww hS fr kn => sgT rfl kn.1 (fun hc K hK => wp_value (exec_ld rfl (kn.2.1.trans (gv_t hc)) (ldP (pk_off (SAt.kept r1 hS)))) (hK _ _ (gv_t hc).symm (Below.refl _ _))) (fun h0 => (gv_f h0).symm)),
          (fun QQ aa ww hS fr kn => sgT rfl kn.1 (fun hc K hK => wp_value (cmp_eq (m := P.off) (n := 0) rfl (kn.2.1.trans (gv_t hc)) rfl) (hK _ _ (gv_t hc).symm (Below.refl _ _))) (fun h0 => (gv_f h0).symm)),
          (fun QQ aa ww hS fr kn => sg0 rfl (fun K hK => wp_value (exec_pickAnd rfl kn.1 (fun hx => kn.2.1.trans (gv_t hx)) rfl) (hK _ _ rfl (Below.refl _ _)))),
          (fun QQ aa ww hS fr kn => sg0 rfl (fun K hK => wp_value (exec_move rfl kn.1) (hK _ _ rfl (Below.refl _ _)))),
          (fun QQ aa ww hS fr kn => sgT rfl kn.1 (fun hc K hK => wp_value (exec_fpk 7 (by decide) rfl fr.1) (hK _ _ (gv_t hc).symm (Below.refl _ _))) (fun h0 => (gv_f h0).symm)),
          (fun QQ aa ww hS fr kn => sgT rfl kn.1 (fun hc K hK => wp_value (exec_ld rfl (kn.2.1.trans (gv_t hc)) (ldPb (pk_more (SAt.kept r1 hS)))) (hK _ _ (gv_t hc).symm (Below.refl _ _))) (fun h0 => (gv_f h0).symm)),
          (fun QQ aa ww hS fr kn => sgT rfl kn.1 (fun hc K hK => wp_value (exec_notB rfl (kn.2.1.trans (gv_t hc))) (hK _ _ (gv_t hc).symm (Below.refl _ _))) (fun h0 => (gv_f h0).symm)),
          (fun QQ aa ww hS fr kn => sg0 rfl (fun K hK => wp_value (exec_pickAnd rfl kn.1 (fun hx => kn.2.1.trans (gv_t hx)) rfl) (hK _ _ rfl (Below.refl _ _)))),
          (fun QQ aa ww hS fr kn => sg0 rfl (fun K hK => wp_value (exec_assign rfl kn.1) (hK _ _ rfl (Below.refl _ _)))),
          trivial⟩ ?_
      intro vs u4 hB4 kn
      have e2 : vs 2 = .bool (((decide (P.id = 0)) && (decide (P.off = 0))) && (!P.more)) := kn 13 (by decide)
      clear kn
      simp only [putAll, Act.put, List.setIfInBounds_toArray, List.set_cons_zero, List.set_cons_succ, e2]
      clear e2
      go_wp2_with fail
      go_ret
      exact ⟨by rw [hr]; rfl, hBy.trans (hB4.mono hBy.size)⟩
    · have hr : r = upB P.id 4294967295 := by rw [HC.out, hcut]; rfl
      rw [hcut] at s1
      go_wp2_with (first | (refine wl_value rfl (exec_fpk 12 (by decide) rfl (by rfl)) ?_) | (refine wl_value rfl (exec_fpk 5 (by decide) rfl (by rfl)) ?_) | (refine wl_value rfl (exec_ld rfl (by rfl) (ldPb s1)) ?_) | (refine wl_value rfl (exec_ld rfl (by rfl) (ldP s2)) ?_) | (go_at_call 48; refine (upTo_run P.id 4294967295 _).mono ?_; rintro e u4 ⟨rfl, hB4⟩; refine Hid.out ?_))
      refine Hid.mk ?_
      go_wp2_with fail
      go_ret
      exact ⟨by rw [hr]; rfl, hBy.trans (hB4.mono hBy.size)⟩
  · have hr : r = false := by rw [HC.out]; rfl
    go_wp2_with fail
    go_ret
    exact ⟨by rw [hr]; rfl, hBy⟩
theorem rgtP_code (P : Pk) : rgtP P = (!(((!(validF P.sv P.sb)) || (!(validF P.dv P.db))) || (!(P.sv == P.dv))) && (!(((!(upB P.proto 255)) || (!(upB P.hop 255))) || (!(upB P.cls 255))) && (!((!(upB P.off 65528)) || (!decide (P.off % 8 = 0))) && (if P.sv = true then rgt6 P else rgt4 P)))) := by
  unfold rgtP
  have e : (P.off % 8 == 0) = decide (P.off % 8 = 0) := rfl
  rw [e]
  generalize (if P.sv = true then rgt6 P else rgt4 P) = z
  generalize (P.sv == P.dv) = y
  cases validF P.sv P.sb <;> cases validF P.dv P.db <;> cases y <;> cases upB P.proto 255 <;> cases upB P.hop 255 <;> cases upB P.cls 255 <;> cases upB P.off 65528 <;> cases decide (P.off % 8 = 0) <;> rfl
set_option maxHeartbeats 8000000 in
theorem Right_run (P : Pk) (v : Value) (w : World) (h1 : ExAt w v P.exts) (hn : P.exts.length < 4611686018427387904) (hb : ∀ x ∈ P.exts, x.body.size ≤ 140737488355328) : Calls Tryd.prog 16 #[.agg (SC 46 (pkV P v))] w fun e w' => e = .returned (.bool (rgtP P)) ∧ Below w.heap.size w w' := by
  have HC := Hid.mk (rgtP_code P)
  have H6 := Hid.mk (fun ww h => right6_run P v ww h hn hb)
  have H4 := Hid.mk (fun ww h => right4_run P v ww h hn hb)
  generalize rgtP P = r at *
  go_enter Tryd.func16, Tryd.ntmps16
  go_wp2_with (refine wl_boxO rfl rfl isPk (by rfl) ?_; intro g1 u2 hg1 q1 hB2; refine Hid.out ?_)
  refine Hid.mk ?_
  have hx1 := h1.kept hB2
  go_upto_region 1 with fail
  refine wp_plain_steps (Below u2.heap.size u2) (fun v v' => Below v.heap.size v v') (fun j vv _ => vv = ([.pointer (some ⟨g1, 0, none⟩), .agg (SC 17 (adV P.sv P.sb)), .bool (validF P.sv P.sb), .bool (!(validF P.sv P.sb)), .bool (!(validF P.sv P.sb)), gv (!(!(validF P.sv P.sb))) (.pointer (some ⟨g1, 17, none⟩)), gv (!(!(validF P.sv P.sb))) (.agg (SC 17 (adV P.dv P.db))), gv (!(!(validF P.sv P.sb))) (.bool (validF P.dv P.db)), gv (!(!(validF P.sv P.sb))) (.bool (!(validF P.dv P.db))), .bool ((!(validF P.sv P.sb)) || (!(validF P.dv P.db))), .bool ((!(validF P.sv P.sb)) || (!(validF P.dv P.db))), gv (!((!(validF P.sv P.sb)) || (!(validF P.dv P.db)))) (.pointer (some ⟨g1, 0, none⟩)), gv (!((!(validF P.sv P.sb)) || (!(validF P.dv P.db)))) (.pointer (some ⟨g1, 0, none⟩)), gv (!((!(validF P.sv P.sb)) || (!(validF P.dv P.db)))) (.bool P.sv), gv (!((!(validF P.sv P.sb)) || (!(validF P.dv P.db)))) (.pointer (some ⟨g1, 17, none⟩)), gv (!((!(validF P.sv P.sb)) || (!(validF P.dv P.db)))) (.pointer (some ⟨g1, 17, none⟩)), gv (!((!(validF P.sv P.sb)) || (!(validF P.dv P.db)))) (.bool P.dv), gv (!((!(validF P.sv P.sb)) || (!(validF P.dv P.db)))) (.bool (!(P.sv == P.dv))), .bool (((!(validF P.sv P.sb)) || (!(validF P.dv P.db))) || (!(P.sv == P.dv)))] : List Value).getD j undef)
      [3, 4, 5, 6, 7, 8, 9, 10, 11, 12, 13, 14, 15, 16, 17, 18, 19, 20, 21]
      [(1, .pointer (some ⟨g1, 0, none⟩))] [] 0
      [[], [0], [1], [2], [3], [4], [4, 5], [4, 6], [4, 7], [4, 8], [9], [10], [10, 11], [10, 12], [10], [10, 14], [10, 15], [10, 13, 16], [10, 17]]
      (by kernel_rfl) ⟨rfl, trivial⟩ trivial (Below.refl _ _) (fun v v' h hb => h.trans (hb.mono h.size)) (fun _ _ _ _ h _ => h)
      ⟨
      (fun QQ aa ww hS fr kn => sg0 rfl (fun K hK => wp_value (exec_fpk 0 (by decide) rfl fr.1) (hK _ _ rfl (Below.refl _ _)))),
      (fun QQ aa ww hS fr kn => sg0 rfl (fun K hK => wp_value (exec_ld rfl kn.1 (ld_src (SAt.kept q1 hS))) (hK _ _ rfl (Below.refl _ _)))),
      (fun QQ aa ww hS fr kn => sg0 rfl (fun K hK => stepc en_Valid rfl (args1 kn.1) (Valid_run P.sv P.sb ww) (fun w' hb => hK _ _ rfl hb))),
      (fun QQ aa ww hS fr kn => sg0 rfl (fun K hK => wp_value (exec_notB rfl kn.1) (hK _ _ rfl (Below.refl _ _)))),
      (fun QQ aa ww hS fr kn => sg0 rfl (fun K hK => wp_value (exec_move rfl kn.1) (hK _ _ rfl (Below.refl _ _)))),
      (fun QQ aa ww hS fr kn => sgF rfl kn.1 (fun hng K hK => have hc := nt_t hng; wp_value (exec_fpk 1 (by decide) rfl fr.1) (hK _ _ (gv_t hc).symm (Below.refl _ _))) (fun h0 => (gv_f (nt_f h0)).symm)),
      (fun QQ aa ww hS fr kn => sgF rfl kn.1 (fun hng K hK => have hc := nt_t hng; wp_value (exec_ld rfl (kn.2.1.trans (gv_t hc)) (ld_dst (SAt.kept q1 hS))) (hK _ _ (gv_t hc).symm (Below.refl _ _))) (fun h0 => (gv_f (nt_f h0)).symm)),
      (fun QQ aa ww hS fr kn => sgF rfl kn.1 (fun hng K hK => have hc := nt_t hng; stepc en_Valid rfl (args1 (kn.2.1.trans (gv_t hc))) (Valid_run P.dv P.db ww) (fun w' hb => hK _ _ (gv_t hc).symm hb)) (fun h0 => (gv_f (nt_f h0)).symm)),
      (fun QQ aa ww hS fr kn => sgF rfl kn.1 (fun hng K hK => have hc := nt_t hng; wp_value (exec_notB rfl (kn.2.1.trans (gv_t hc))) (hK _ _ (gv_t hc).symm (Below.refl _ _))) (fun h0 => (gv_f (nt_f h0)).symm)),
      (fun QQ aa ww hS fr kn => sg0 rfl (fun K hK => wp_value (exec_pickOr rfl kn.1 rfl (fun hx => kn.2.1.trans (gv_t (nt_t hx)))) (hK _ _ rfl (Below.refl _ _)))),
      (fun QQ aa ww hS fr kn => sg0 rfl (fun K hK => wp_value (exec_move rfl kn.1) (hK _ _ rfl (Below.refl _ _)))),
      (fun QQ aa ww hS fr kn => sgF rfl kn.1 (fun hng K hK => have hc := nt_t hng; wp_value (exec_fpk 0 (by decide) rfl fr.1) (hK _ _ (gv_t hc).symm (Below.refl _ _))) (fun h0 => (gv_f (nt_f h0)).symm)),
      (fun QQ aa ww hS fr kn => sgF rfl kn.1 (fun hng K hK => have hc := nt_t hng; wp_value (exec_fad0 rfl (kn.2.1.trans (gv_t hc))) (hK _ _ (gv_t hc).symm (Below.refl _ _))) (fun h0 => (gv_f (nt_f h0)).symm)),
      (fun QQ aa ww hS fr kn => sgF rfl kn.1 (fun hng K hK => have hc := nt_t hng; wp_value (exec_ld rfl (kn.2.1.trans (gv_t hc)) (ldPb (pk_sv (SAt.kept q1 hS)))) (hK _ _ (gv_t hc).symm (Below.refl _ _))) (fun h0 => (gv_f (nt_f h0)).symm)),
      (fun QQ aa ww hS fr kn => sgF rfl kn.1 (fun hng K hK => have hc := nt_t hng; wp_value (exec_fpk 1 (by decide) rfl fr.1) (hK _ _ (gv_t hc).symm (Below.refl _ _))) (fun h0 => (gv_f (nt_f h0)).symm)),
      (fun QQ aa ww hS fr kn => sgF rfl kn.1 (fun hng K hK => have hc := nt_t hng; wp_value (exec_fad0 rfl (kn.2.1.trans (gv_t hc))) (hK _ _ (gv_t hc).symm (Below.refl _ _))) (fun h0 => (gv_f (nt_f h0)).symm)),
      (fun QQ aa ww hS fr kn => sgF rfl kn.1 (fun hng K hK => have hc := nt_t hng; wp_value (exec_ld rfl (kn.2.1.trans (gv_t hc)) (ldPb (pk_dv (SAt.kept q1 hS)))) (hK _ _ (gv_t hc).symm (Below.refl _ _))) (fun h0 => (gv_f (nt_f h0)).symm)),
      (fun QQ aa ww hS fr kn => sgF rfl kn.1 (fun hng K hK => have hc := nt_t hng; wp_value (cmp_neB rfl (kn.2.1.trans (gv_t hc)) (kn.2.2.1.trans (gv_t hc))) (hK _ _ (gv_t hc).symm (Below.refl _ _))) (fun h0 => (gv_f (nt_f h0)).symm)),
      (fun QQ aa ww hS fr kn => sg0 rfl (fun K hK => wp_value (exec_pickOr rfl kn.1 rfl (fun hx => kn.2.1.trans (gv_t (nt_t hx)))) (hK _ _ rfl (Below.refl _ _)))),
      trivial⟩ ?_
  intro vs u3 hB3 kn
  have e21 : vs 21 = .bool (((!(validF P.sv P.sb)) || (!(validF P.dv P.db))) || (!(P.sv == P.dv))) := kn 18 (by decide)
  clear kn
  simp only [putAll, Act.put, List.setIfInBounds_toArray, List.set_cons_zero, List.set_cons_succ, e21]
  clear e21
  have hBy := hB2.trans (hB3.mono hB2.size)
  have r1 := SAt.kept q1 hB3
  obtain ⟨c, hc⟩ : ∃ c, (((!(validF P.sv P.sb)) || (!(validF P.dv P.db))) || (!(P.sv == P.dv))) = c := ⟨_, rfl⟩
  rw [hc] at HC ⊢
  clear hc
  cases c
  · go_upto_region 3 with fail
    refine wp_plain_steps (Below u3.heap.size u3) (fun v v' => Below v.heap.size v v') (fun j vv _ => vv = ([.pointer (some ⟨g1, 34, none⟩), .int .i64 P.proto, .bool (upB P.proto 255), .bool (!(upB P.proto 255)), .bool (!(upB P.proto 255)), gv (!(!(upB P.proto 255))) (.pointer (some ⟨g1, 35, none⟩)), gv (!(!(upB P.proto 255))) (.int .i64 P.hop), gv (!(!(upB P.proto 255))) (.bool (upB P.hop 255)), gv (!(!(upB P.proto 255))) (.bool (!(upB P.hop 255))), .bool ((!(upB P.proto 255)) || (!(upB P.hop 255))), .bool ((!(upB P.proto 255)) || (!(upB P.hop 255))), gv (!((!(upB P.proto 255)) || (!(upB P.hop 255)))) (.pointer (some ⟨g1, 36, none⟩)), gv (!((!(upB P.proto 255)) || (!(upB P.hop 255)))) (.int .i64 P.cls), gv (!((!(upB P.proto 255)) || (!(upB P.hop 255)))) (.bool (upB P.cls 255)), gv (!((!(upB P.proto 255)) || (!(upB P.hop 255)))) (.bool (!(upB P.cls 255))), .bool (((!(upB P.proto 255)) || (!(upB P.hop 255))) || (!(upB P.cls 255)))] : List Value).getD j undef)
        [22, 23, 24, 25, 26, 27, 28, 29, 30, 31, 32, 33, 34, 35, 36, 37]
        [(1, .pointer (some ⟨g1, 0, none⟩))] [] 0
        [[], [0], [1], [2], [3], [4], [4, 5], [4, 6], [4, 7], [4, 8], [9], [10], [10, 11], [10, 12], [10, 13], [10, 14]]
        (by kernel_rfl) ⟨rfl, trivial⟩ trivial (Below.refl _ _) (fun v v' h hb => h.trans (hb.mono h.size)) (fun _ _ _ _ h _ => h)
        ⟨
        (fun QQ aa ww hS fr kn => sg0 rfl (fun K hK => wp_value (exec_fpk 2 (by decide) rfl fr.1) (hK _ _ rfl (Below.refl _ _)))),
        (fun QQ aa ww hS fr kn => sg0 rfl (fun K hK => wp_value (exec_ld rfl kn.1 (ldP (pk_proto (SAt.kept r1 hS)))) (hK _ _ rfl (Below.refl _ _)))),
        (fun QQ aa ww hS fr kn => sg0 rfl (fun K hK => stepc en_upTo rfl (args2 kn.1 rfl) (upTo_run P.proto 255 ww) (fun w' hb => hK _ _ rfl hb))),
        (fun QQ aa ww hS fr kn => sg0 rfl (fun K hK => wp_value (exec_notB rfl kn.1) (hK _ _ rfl (Below.refl _ _)))),
        (fun QQ aa ww hS fr kn => sg0 rfl (fun K hK => wp_value (exec_move rfl kn.1) (hK _ _ rfl (Below.refl _ _)))),
        (fun QQ aa ww hS fr kn => sgF rfl kn.1 (fun hng K hK => have hc := nt_t hng; wp_value (exec_fpk 3 (by decide) rfl fr.1) (hK _ _ (gv_t hc).symm (Below.refl _ _))) (fun h0 => (gv_f (nt_f h0)).symm)),
        (fun QQ aa ww hS fr kn => sgF rfl kn.1 (fun hng K hK => have hc := nt_t hng; wp_value (exec_ld rfl (kn.2.1.trans (gv_t hc)) (ldP (pk_hop (SAt.kept r1 hS)))) (hK _ _ (gv_t hc).symm (Below.refl _ _))) (fun h0 => (gv_f (nt_f h0)).symm)),
        (fun QQ aa ww hS fr kn => sgF rfl kn.1 (fun hng K hK => have hc := nt_t hng; stepc en_upTo rfl (args2 (kn.2.1.trans (gv_t hc)) rfl) (upTo_run P.hop 255 ww) (fun w' hb => hK _ _ (gv_t hc).symm hb)) (fun h0 => (gv_f (nt_f h0)).symm)),
        (fun QQ aa ww hS fr kn => sgF rfl kn.1 (fun hng K hK => have hc := nt_t hng; wp_value (exec_notB rfl (kn.2.1.trans (gv_t hc))) (hK _ _ (gv_t hc).symm (Below.refl _ _))) (fun h0 => (gv_f (nt_f h0)).symm)),
        (fun QQ aa ww hS fr kn => sg0 rfl (fun K hK => wp_value (exec_pickOr rfl kn.1 rfl (fun hx => kn.2.1.trans (gv_t (nt_t hx)))) (hK _ _ rfl (Below.refl _ _)))),
        (fun QQ aa ww hS fr kn => sg0 rfl (fun K hK => wp_value (exec_move rfl kn.1) (hK _ _ rfl (Below.refl _ _)))),
        (fun QQ aa ww hS fr kn => sgF rfl kn.1 (fun hng K hK => have hc := nt_t hng; wp_value (exec_fpk 4 (by decide) rfl fr.1) (hK _ _ (gv_t hc).symm (Below.refl _ _))) (fun h0 => (gv_f (nt_f h0)).symm)),
        (fun QQ aa ww hS fr kn => sgF rfl kn.1 (fun hng K hK => have hc := nt_t hng; wp_value (exec_ld rfl (kn.2.1.trans (gv_t hc)) (ldP (pk_cls (SAt.kept r1 hS)))) (hK _ _ (gv_t hc).symm (Below.refl _ _))) (fun h0 => (gv_f (nt_f h0)).symm)),
        (fun QQ aa ww hS fr kn => sgF rfl kn.1 (fun hng K hK => have hc := nt_t hng; stepc en_upTo rfl (args2 (kn.2.1.trans (gv_t hc)) rfl) (upTo_run P.cls 255 ww) (fun w' hb => hK _ _ (gv_t hc).symm hb)) (fun h0 => (gv_f (nt_f h0)).symm)),
        (fun QQ aa ww hS fr kn => sgF rfl kn.1 (fun hng K hK => have hc := nt_t hng; wp_value (exec_notB rfl (kn.2.1.trans (gv_t hc))) (hK _ _ (gv_t hc).symm (Below.refl _ _))) (fun h0 => (gv_f (nt_f h0)).symm)),
        (fun QQ aa ww hS fr kn => sg0 rfl (fun K hK => wp_value (exec_pickOr rfl kn.1 rfl (fun hx => kn.2.1.trans (gv_t (nt_t hx)))) (hK _ _ rfl (Below.refl _ _)))),
        trivial⟩ ?_
    intro vs u4 hB4 kn
    have e37 : vs 37 = .bool (((!(upB P.proto 255)) || (!(upB P.hop 255))) || (!(upB P.cls 255))) := kn 15 (by decide)
    clear kn
    simp only [putAll, Act.put, List.setIfInBounds_toArray, List.set_cons_zero, List.set_cons_succ, e37]
    clear e37
    have hBx := hBy.trans (hB4.mono hBy.size)
    have r2 := SAt.kept r1 hB4
    obtain ⟨c, hc⟩ : ∃ c, (((!(upB P.proto 255)) || (!(upB P.hop 255))) || (!(upB P.cls 255))) = c := ⟨_, rfl⟩
    rw [hc] at HC ⊢
    clear hc
    cases c
    · go_upto_region 5 with fail
      refine wp_plain_steps (Below u4.heap.size u4) (fun v v' => Below v.heap.size v v') (fun j vv _ => vv = ([.pointer (some ⟨g1, 38, none⟩), .int .i64 P.off, .bool (upB P.off 65528), .bool (!(upB P.off 65528)), .bool (!(upB P.off 65528)), gv (!(!(upB P.off 65528))) (.pointer (some ⟨g1, 38, none⟩)), gv (!(!(upB P.off 65528))) (.int .i64 P.off), gv (!(!(upB P.off 65528))) (.int .i64 (P.off % 8)), gv (!(!(upB P.off 65528))) (.bool (!decide (P.off % 8 = 0))), .bool ((!(upB P.off 65528)) || (!decide (P.off % 8 = 0)))] : List Value).getD j undef)
          [38, 39, 40, 41, 42, 43, 44, 45, 46, 47]
          [(1, .pointer (some ⟨g1, 0, none⟩))] [] 0
          [[], [0], [1], [2], [3], [4], [4, 5], [4, 6], [4, 7], [4, 8]]
          (by kernel_rfl) ⟨rfl, trivial⟩ trivial (Below.refl _ _) (fun v v' h hb => h.trans (hb.mono h.size)) (fun _ _ _ _ h _ => h)
          ⟨
          (fun QQ aa ww hS fr kn => sg0 rfl (fun K hK => wp_value (exec_fpk 6 (by decide) rfl fr.1) (hK _ _ rfl (Below.refl _ _)))),
          (fun QQ aa ww hS fr kn => sg0 rfl (fun K hK => wp_value (exec_ld rfl kn.1 (ldP (pk_off (SAt.kept r2 hS)))) (hK _ _ rfl (Below.refl _ _)))),
          (fun QQ aa ww hS fr kn => sg0 rfl (fun K hK => stepc en_upTo rfl (args2 kn.1 rfl) (upTo_run P.off 65528 ww) (fun w' hb => hK _ _ rfl hb))),
          (fun QQ aa ww hS fr kn => sg0 rfl (fun K hK => wp_value (exec_notB rfl kn.1) (hK _ _ rfl (Below.refl _ _)))),
          (fun QQ aa ww hS fr kn => sg0 rfl (fun K hK => wp_value (exec_move rfl kn.1) (hK _ _ rfl (Below.refl _ _)))),
          (fun QQ aa ww hS fr kn => sgF rfl kn.1 (fun hng K hK => have hc := nt_t hng; wp_value (exec_fpk 6 (by decide) rfl fr.1) (hK _ _ (gv_t hc).symm (Below.refl _ _))) (fun h0 => (gv_f (nt_f h0)).symm)),
          (fun QQ aa ww hS fr kn => sgF rfl kn.1 (fun hng K hK => have hc := nt_t hng; wp_value (exec_ld rfl (kn.2.1.trans (gv_t hc)) (ldP (pk_off (SAt.kept r2 hS)))) (hK _ _ (gv_t hc).symm (Below.refl _ _))) (fun h0 => (gv_f (nt_f h0)).symm)),
          (fun QQ aa ww hS fr kn => sgF rfl kn.1 (fun hng K hK => have hc := nt_t hng; wp_value (rem_nn rfl (kn.2.1.trans (gv_t hc)) rfl (off_nn hc) (by decide)) (hK _ _ (gv_t hc).symm (Below.refl _ _))) (fun h0 => (gv_f (nt_f h0)).symm)),
          (fun QQ aa ww hS fr kn => sgF rfl kn.1 (fun hng K hK => have hc := nt_t hng; wp_value (cmp_ne (m := P.off % 8) (n := 0) rfl (kn.2.1.trans (gv_t hc)) rfl) (hK _ _ (gv_t hc).symm (Below.refl _ _))) (fun h0 => (gv_f (nt_f h0)).symm)),
          (fun QQ aa ww hS fr kn => sg0 rfl (fun K hK => wp_value (exec_pickOr rfl kn.1 rfl (fun hx => kn.2.1.trans (gv_t (nt_t hx)))) (hK _ _ rfl (Below.refl _ _)))),
          trivial⟩ ?_
      intro vs u5 hB5 kn
      have e47 : vs 47 = .bool ((!(upB P.off 65528)) || (!decide (P.off % 8 = 0))) := kn 9 (by decide)
      clear kn
      simp only [putAll, Act.put, List.setIfInBounds_toArray, List.set_cons_zero, List.set_cons_succ, e47]
      clear e47
      have hBw := hBx.trans (hB5.mono hBx.size)
      have r3 := SAt.kept r2 hB5
      have hx3 := ((hx1.kept hB3).kept hB4).kept hB5
      obtain ⟨c, hc⟩ : ∃ c, ((!(upB P.off 65528)) || (!decide (P.off % 8 = 0))) = c := ⟨_, rfl⟩
      rw [hc] at HC ⊢
      clear hc
      have s0 := pk_sv r3
      cases c
      · cases hsv : P.sv
        · have hr : r = rgt4 P := by rw [HC.out, hsv]; rfl
          rw [hsv] at s0
          go_wp2_with (first | (refine wl_value rfl (exec_fpk 0 (by decide) rfl (by rfl)) ?_) | (refine wl_value rfl (exec_fad0 rfl (by rfl)) ?_) | (refine wl_value rfl (exec_ld rfl (by rfl) (ldPb s0)) ?_) | (refine wl_value rfl (look_st rfl isPk r3 (by rfl)) ?_) | (go_at_call 50; refine (H4.out _ hx3).mono ?_; rintro e u6 ⟨rfl, hB6⟩; refine Hid.out ?_))
          refine Hid.mk ?_
          go_wp2_with fail
          go_ret
          exact ⟨by rw [hr]; rfl, hBw.trans (hB6.mono hBw.size)⟩
        · have hr : r = rgt6 P := by rw [HC.out, hsv]; rfl
          rw [hsv] at s0
          go_wp2_with (first | (refine wl_value rfl (exec_fpk 0 (by decide) rfl (by rfl)) ?_) | (refine wl_value rfl (exec_fad0 rfl (by rfl)) ?_) | (refine wl_value rfl (exec_ld rfl (by rfl) (ldPb s0)) ?_) | (refine wl_value rfl (look_st rfl isPk r3 (by rfl)) ?_) | (go_at_call 49; refine (H6.out _ hx3).mono ?_; rintro e u6 ⟨rfl, hB6⟩; refine Hid.out ?_))
          refine Hid.mk ?_
          go_wp2_with fail
          go_ret
          exact ⟨by rw [hr]; rfl, hBw.trans (hB6.mono hBw.size)⟩
      · have hr : r = false := by rw [HC.out]; rfl
        go_wp2_with fail
        go_ret
        exact ⟨by rw [hr]; rfl, hBw⟩
    · have hr : r = false := by rw [HC.out]; rfl
      go_wp2_with fail
      go_ret
      exact ⟨by rw [hr]; rfl, hBx⟩
  · have hr : r = false := by rw [HC.out]; rfl
    go_wp2_with fail
    go_ret
    exact ⟨by rw [hr]; rfl, hBy⟩
end Go.Proofs.YtojekoakgpkkdaaDoor

