/-
  Own text. Sessions as plain data: what all calls keep.
-/
import Derived.Test.YtbkbcfimpaolmaaGreatJ7
namespace Go.Proofs.YtbkbcfimpaolmaaGreat
open Go.RowKit Go.Proofs
set_option maxRecDepth 100000
theorem KpOk.mono {M M' : Nat} {σ σ' : Ses} {k : Kp} (h : KpOk M σ k) (hM : M ≤ M') (hc : σ.c ≤ σ'.c) (ht : σ.t ≤ σ'.t) : KpOk M' σ' k :=
  ⟨h.ep0, Int.le_trans h.ep1 hc, h.b0, Int.le_trans h.b1 ht, h.s0, by have := h.s1; omega, h.ks, h.kr, h.l0, h.l1, h.f0, h.f1, Nat.le_trans h.n1 hM, h.nums⟩
theorem SesOk.mono {M M' : Nat} {σ : Ses} (h : SesOk M σ) (hM : M ≤ M') : SesOk M' σ :=
  ⟨h.t0, h.t1, h.c0, by have := h.c1; omega, h.emp, fun i hi he => (h.ok i hi he).mono hM (Int.le_refl _) (Int.le_refl _), h.one⟩
theorem SesOk.tell {M : Nat} {σ : Ses} (h : SesOk M σ) {now : Int} (hn : now ≤ 9223372036854775807) : SesOk M ⟨max σ.t now, σ.c, σ.K⟩ := by
  have h0 := h.t0; have h1 := h.t1
  exact ⟨by show 0 ≤ max σ.t now; omega, by show max σ.t now ≤ _; omega, h.c0, h.c1, h.emp, fun i hi he => (h.ok i hi he).mono (Nat.le_refl _) (Int.le_refl _) (by show σ.t ≤ max σ.t now; omega), h.one⟩
theorem ok_of {M n : Nat} {σ' : Ses} {K4 : Nat → Kp} (src : Nat → Nat) (t0 : 0 ≤ σ'.t) (t1 : σ'.t ≤ 9223372036854775807) (c0 : 0 ≤ σ'.c) (c1 : σ'.c ≤ M) (emp : ∀ i, i < 3 → (σ'.K i).ep = 0 → σ'.K i = kp0) (ok : ∀ i, i < 3 → (σ'.K i).ep ≠ 0 → KpOk M σ' (σ'.K i))
    (hs : ∀ i, i < 3 → (σ'.K i).ep ≠ 0 → src i < n ∧ (K4 (src i)).ep ≠ 0 ∧ (σ'.K i).loc = (K4 (src i)).loc) (inj : ∀ i j, i < 3 → j < 3 → i ≠ j → (σ'.K i).ep ≠ 0 → (σ'.K j).ep ≠ 0 → src i ≠ src j)
    (one4 : ∀ i j, i < n → j < n → (K4 i).ep ≠ 0 → (K4 j).ep ≠ 0 → (K4 i).loc = (K4 j).loc → i = j) : SesOk M σ' := by
  refine ⟨t0, t1, c0, c1, emp, ok, fun i j hi hj hie hje hl => ?_⟩
  by_cases e : i = j
  · exact e
  · obtain ⟨a1, a2, a3⟩ := hs i hi hie
    obtain ⟨b1, b2, b3⟩ := hs j hj hje
    exact absurd (one4 _ _ a1 b1 a2 b2 (a3 ▸ b3 ▸ hl)) (inj i j hi hj e hie hje)
section
variable {α : Type} {ep : α → Int} {R : Nat → α} {r z : α}
theorem plG_t : placeG ep R r z true 1 = r ∧ placeG ep R r z true 2 = z ∧ placeG ep R r z true 0 = (if ep (R 2) ≠ 0 then R 2 else if ep (R 1) ≠ 0 then R 1 else R 0) := by
  refine ⟨by simp [placeG, setG], by simp [placeG, setG], ?_⟩
  simp only [placeG, if_true, setG, show ¬ (0 = 2) by omega, show ¬ (0 = 1) by omega, if_false]
  unfold keepG
  simp only [true_and, show ¬ (2 = 0) by omega, false_and, if_false]
theorem plG_f : placeG ep R r z false 2 = r ∧ placeG ep R r z false 1 = R 1 ∧ placeG ep R r z false 0 = R 0 := by
  refine ⟨by simp [placeG, setG], by simp [placeG, setG], by simp [placeG, setG]⟩
theorem mvG : movedG ep R z 1 = R 2 ∧ movedG ep R z 2 = z ∧ movedG ep R z 0 = (if ep (R 1) ≠ 0 then R 1 else R 0) := by
  refine ⟨by simp [movedG, setG], by simp [movedG, setG], ?_⟩
  simp only [movedG, setG, show ¬ (0 = 2) by omega, show ¬ (0 = 1) by omega, if_false]
  unfold keepG
  simp only [true_and]
end
theorem three {i : Nat} (h : i < 3) : i = 0 ∨ i = 1 ∨ i = 2 := by omega
theorem at_none {K : Nat → Kp} {x : Int} (h : atF K x = -1) : ∀ i, i < 3 → (K i).ep ≠ 0 → (K i).loc ≠ x := by
  have hl : ∀ i, hasL K x i = false → (K i).ep ≠ 0 → (K i).loc ≠ x := fun i h he e => by
    unfold hasL at h
    simp [he, e] at h
  have h0 : hasL K x 0 = false := by
    cases hh : hasL K x 0
    · rfl
    · unfold atF at h; rw [if_pos hh] at h; omega
  have h1 : hasL K x 1 = false := by
    cases hh : hasL K x 1
    · rfl
    · unfold atF at h; rw [if_neg (by rw [h0]; simp), if_pos hh] at h; omega
  have h2 : hasL K x 2 = false := by
    cases hh : hasL K x 2
    · rfl
    · unfold atF at h; rw [if_neg (by rw [h0]; simp), if_neg (by rw [h1]; simp), if_pos hh] at h; omega
  intro i hi
  rcases three hi with rfl | rfl | rfl
  · exact hl 0 h0
  · exact hl 1 h1
  · exact hl 2 h2
/-- Where a keypair was: what comes to each slot. -/
theorem place_src {K : Nat → Kp} {k : Kp} (f : Bool) : ∃ src : Nat → Nat, (∀ i, i < 3 → (placeG Kp.ep K k kp0 f i).ep ≠ 0 → src i < 4 ∧ placeG Kp.ep K k kp0 f i = setG K 3 k (src i)) ∧ (∀ i j, i < 3 → j < 3 → i ≠ j → (placeG Kp.ep K k kp0 f i).ep ≠ 0 → (placeG Kp.ep K k kp0 f j).ep ≠ 0 → src i ≠ src j) ∧ (∀ i, i < 3 → (placeG Kp.ep K k kp0 f i).ep = 0 → placeG Kp.ep K k kp0 f i = kp0 ∨ ∃ j, j < 4 ∧ placeG Kp.ep K k kp0 f i = setG K 3 k j) := by
  have e3 : setG K 3 k 3 = k := by unfold setG; rw [if_pos rfl]
  have ei : ∀ i, i < 3 → setG K 3 k i = K i := fun i hi => by unfold setG; rw [if_neg (by omega)]
  cases f
  · obtain ⟨p2, p1, p0⟩ := plG_f (ep := Kp.ep) (R := K) (r := k) (z := kp0)
    refine ⟨fun i => if i = 2 then 3 else i, fun i hi _ => ?_, fun i j hi hj hij _ _ => ?_, fun i hi _ => ?_⟩
    · rcases three hi with rfl | rfl | rfl
      · exact ⟨by decide, by rw [p0]; exact (ei 0 (by omega)).symm⟩
      · exact ⟨by decide, by rw [p1]; exact (ei 1 (by omega)).symm⟩
      · exact ⟨by decide, by rw [p2]; exact e3.symm⟩
    · show (if i = 2 then 3 else i) ≠ (if j = 2 then 3 else j)
      split <;> split <;> omega
    · rcases three hi with rfl | rfl | rfl
      · exact .inr ⟨0, by omega, by rw [p0]; exact (ei 0 (by omega)).symm⟩
      · exact .inr ⟨1, by omega, by rw [p1]; exact (ei 1 (by omega)).symm⟩
      · exact .inr ⟨3, by omega, by rw [p2]; exact e3.symm⟩
  · obtain ⟨p1, p2, p0⟩ := plG_t (ep := Kp.ep) (R := K) (r := k) (z := kp0)
    have q0 : placeG Kp.ep K k kp0 true 0 = setG K 3 k (if (K 2).ep ≠ 0 then 2 else if (K 1).ep ≠ 0 then 1 else 0) := by
      rw [p0]
      split
      · exact (ei 2 (by omega)).symm
      · split
        · exact (ei 1 (by omega)).symm
        · exact (ei 0 (by omega)).symm
    have ql : (if (K 2).ep ≠ 0 then 2 else if (K 1).ep ≠ 0 then 1 else 0) < 3 := by split; omega; split <;> omega
    refine ⟨fun i => if i = 1 then 3 else if (K 2).ep ≠ 0 then 2 else if (K 1).ep ≠ 0 then 1 else 0, fun i hi he => ?_, fun i j hi hj hij he hf => ?_, fun i hi _ => ?_⟩
    · rcases three hi with rfl | rfl | rfl
      · exact ⟨by show (if (K 2).ep ≠ 0 then 2 else if (K 1).ep ≠ 0 then 1 else 0) < 4; omega, q0⟩
      · exact ⟨by show 3 < 4; omega, by rw [p1]; exact e3.symm⟩
      · rw [p2] at he; exact absurd rfl he
    · have hi2 : i ≠ 2 := fun e => by subst e; rw [p2] at he; exact he rfl
      have hj2 : j ≠ 2 := fun e => by subst e; rw [p2] at hf; exact hf rfl
      show (if i = 1 then 3 else if (K 2).ep ≠ 0 then 2 else if (K 1).ep ≠ 0 then 1 else 0) ≠ (if j = 1 then 3 else if (K 2).ep ≠ 0 then 2 else if (K 1).ep ≠ 0 then 1 else 0)
      by_cases hi1 : i = 1
      · rw [if_pos hi1, if_neg (show ¬ j = 1 by omega)]; omega
      · rw [if_neg hi1, if_pos (show j = 1 by omega)]; omega
    · rcases three hi with rfl | rfl | rfl
      · exact .inr ⟨_, by omega, q0⟩
      · exact .inr ⟨3, by omega, by rw [p1]; exact e3.symm⟩
      · exact .inl p2
theorem SesOk.put {M : Nat} {σ : Ses} (h : SesOk M σ) {now : Int} (hn : now ≤ 9223372036854775807) {ks kr : Nat → Int} {loc far : Int} (first : Bool) (hks : Byts 32 ks) (hkr : Byts 32 kr) (hl0 : 0 ≤ loc) (hl1 : loc < 4294967296) (hf0 : 0 ≤ far) (hf1 : far < 4294967296) : SesOk (M + 1) (putS σ now ks kr loc far first) := by
  have h0 := h.t0; have h1 := h.t1; have h2 := h.c0; have h3 := h.c1
  by_cases hA : atF σ.K loc = -1
  · rw [putS_yes hA]
    have hno := at_none hA
    obtain ⟨src, s1, s2, s3⟩ := place_src (K := σ.K) (k := kpNew ks kr loc far (σ.c + 1) (max σ.t now) first) first
    have e3 : setG σ.K 3 (kpNew ks kr loc far (σ.c + 1) (max σ.t now) first) 3 = kpNew ks kr loc far (σ.c + 1) (max σ.t now) first := by unfold setG; rw [if_pos rfl]
    have ei : ∀ i, i < 3 → setG σ.K 3 (kpNew ks kr loc far (σ.c + 1) (max σ.t now) first) i = σ.K i := fun i hi => by unfold setG; rw [if_neg (by omega)]
    have ok4 : ∀ i, i < 4 → (setG σ.K 3 (kpNew ks kr loc far (σ.c + 1) (max σ.t now) first) i).ep ≠ 0 → KpOk (M + 1) ⟨max σ.t now, σ.c + 1, placeG Kp.ep σ.K (kpNew ks kr loc far (σ.c + 1) (max σ.t now) first) kp0 first⟩ (setG σ.K 3 (kpNew ks kr loc far (σ.c + 1) (max σ.t now) first) i) := fun i hi he => by
      by_cases e : i < 3
      · rw [ei i e] at he ⊢
        exact (h.ok i e he).mono (by omega) (by show σ.c ≤ σ.c + 1; omega) (by show σ.t ≤ max σ.t now; omega)
      · obtain rfl : i = 3 := by omega
        rw [e3]
        exact ⟨by show 1 ≤ σ.c + 1; omega, Int.le_refl _, by show 0 ≤ max σ.t now; omega, Int.le_refl _, Int.le_refl _, by show (0 : Int) ≤ _; omega, hks, hkr, hl0, hl1, hf0, hf1, Nat.zero_le _, Nums.nil _ _⟩
    have em4 : ∀ i, i < 4 → (setG σ.K 3 (kpNew ks kr loc far (σ.c + 1) (max σ.t now) first) i).ep = 0 → setG σ.K 3 (kpNew ks kr loc far (σ.c + 1) (max σ.t now) first) i = kp0 := fun i hi he => by
      by_cases e : i < 3
      · rw [ei i e] at he ⊢; exact h.emp i e he
      · obtain rfl : i = 3 := by omega
        rw [e3] at he
        have : σ.c + 1 = 0 := he
        omega
    refine ok_of (n := 4) (K4 := setG σ.K 3 (kpNew ks kr loc far (σ.c + 1) (max σ.t now) first)) src (by show 0 ≤ max σ.t now; omega) (by show max σ.t now ≤ _; omega) (by show 0 ≤ σ.c + 1; omega) (by show σ.c + 1 ≤ _; omega) (fun i hi he => ?_) (fun i hi he => ?_) (fun i hi he => ?_) s2 (fun i j hi hj hie hje hl => ?_)
    · rcases s3 i hi he with e | ⟨j, hj, e⟩
      · exact e
      · show placeG Kp.ep σ.K _ kp0 first i = kp0
        rw [e]
        exact em4 j hj (e ▸ he)
    · obtain ⟨a1, a2⟩ := s1 i hi he
      show KpOk _ _ (placeG Kp.ep σ.K _ kp0 first i)
      rw [a2]
      exact ok4 _ a1 (a2 ▸ he)
    · obtain ⟨a1, a2⟩ := s1 i hi he
      exact ⟨a1, a2 ▸ he, congrArg Kp.loc a2⟩
    · by_cases e : i < 3
      · rw [ei i e] at hie hl
        by_cases e' : j < 3
        · rw [ei j e'] at hje hl; exact h.one i j e e' hie hje hl
        · obtain rfl : j = 3 := by omega
          rw [e3] at hl
          exact absurd hl (hno i e hie)
      · obtain rfl : i = 3 := by omega
        by_cases e' : j < 3
        · rw [ei j e'] at hje hl
          rw [e3] at hl
          exact absurd hl.symm (hno j e' hje)
        · omega
  · rw [putS_no hA]
    exact (h.tell hn).mono (by omega)
/-- Slots are emptied, or one keypair changes what it counts. -/
theorem SesOk.sub {M M' : Nat} {σ σ' : Ses} (h : SesOk M σ) (src : Nat → Nat) (t0 : 0 ≤ σ'.t) (t1 : σ'.t ≤ 9223372036854775807) (_ht : σ.t ≤ σ'.t) (c0 : σ.c ≤ σ'.c) (c1 : σ'.c ≤ M') (emp : ∀ i, i < 3 → (σ'.K i).ep = 0 → σ'.K i = kp0)
    (hs : ∀ i, i < 3 → (σ'.K i).ep ≠ 0 → src i < 3 ∧ (σ.K (src i)).ep ≠ 0 ∧ (σ'.K i).loc = (σ.K (src i)).loc ∧ KpOk M' σ' (σ'.K i)) (inj : ∀ i j, i < 3 → j < 3 → i ≠ j → (σ'.K i).ep ≠ 0 → (σ'.K j).ep ≠ 0 → src i ≠ src j) : SesOk M' σ' := by
  have := h.c0
  exact ok_of (n := 3) (K4 := σ.K) src t0 t1 (by omega) c1 emp (fun i hi he => (hs i hi he).2.2.2) (fun i hi he => ⟨(hs i hi he).1, (hs i hi he).2.1, (hs i hi he).2.2.1⟩) inj (fun i j hi hj a b c => h.one i j hi hj a b c)
theorem SesOk.drop {M : Nat} {σ : Ses} (h : SesOk M σ) (p : Kp → Bool) {now : Int} (hn : now ≤ 9223372036854775807) : SesOk M ⟨max σ.t now, σ.c, dropK p σ.K 3⟩ := by
  have h0 := h.t0; have h1 := h.t1
  have key : ∀ i, i < 3 → dropK p σ.K 3 i = kp0 ∨ dropK p σ.K 3 i = σ.K i := fun i _ => by unfold dropK; split; exact .inl rfl; exact .inr rfl
  refine h.sub (fun i => i) (by show 0 ≤ max σ.t now; omega) (by show max σ.t now ≤ _; omega) (by show σ.t ≤ max σ.t now; omega) (Int.le_refl _) h.c1 (fun i hi he => ?_) (fun i hi he => ?_) (fun i j _ _ hij _ _ => hij)
  · rcases key i hi with e | e
    · exact e
    · show dropK p σ.K 3 i = kp0
      rw [e]
      exact h.emp i hi (e ▸ he)
  · rcases key i hi with e | e
    · exact absurd (congrArg Kp.ep e) he
    · show _ ∧ _ ∧ (dropK p σ.K 3 i).loc = _ ∧ KpOk _ _ (dropK p σ.K 3 i)
      have he' : (σ.K i).ep ≠ 0 := e ▸ he
      rw [e]
      exact ⟨hi, he', rfl, (h.ok i hi he').mono (Nat.le_refl _) (Int.le_refl _) (by show σ.t ≤ max σ.t now; omega)⟩
theorem SesOk.seal {M : Nat} {σ : Ses} (h : SesOk M σ) {now : Int} (hn : now ≤ 9223372036854775807) : SesOk (M + 1) (sealS σ now) := by
  have h0 := h.t0; have h1 := h.t1; have h3 := h.c1
  unfold sealS
  by_cases e : sealOk σ now = true
  · rw [if_pos e]
    have he1 : (σ.K 1).ep ≠ 0 := by unfold sealOk at e; simp at e; exact e.1
    have s1 : setG σ.K 1 (kpSent (σ.K 1)) 1 = kpSent (σ.K 1) := by unfold setG; rw [if_pos rfl]
    have sj : ∀ j, j ≠ 1 → setG σ.K 1 (kpSent (σ.K 1)) j = σ.K j := fun j hj => by unfold setG; rw [if_neg hj]
    refine h.sub (fun i => i) (by show 0 ≤ max σ.t now; omega) (by show max σ.t now ≤ _; omega) (by show σ.t ≤ max σ.t now; omega) (Int.le_refl _) (by show σ.c ≤ _; omega) (fun i hi he => ?_) (fun i hi he => ?_) (fun i j _ _ hij _ _ => hij)
    · by_cases e1 : i = 1
      · subst e1; simp only [s1] at he; exact absurd he he1
      · simp only [sj i e1] at he ⊢; exact h.emp i hi he
    · by_cases e1 : i = 1
      · subst e1
        simp only [s1]
        have k := h.ok 1 (by decide) he1
        have := k.s0; have := k.s1
        exact ⟨hi, he1, rfl, k.ep0, k.ep1, k.b0, by have := k.b1; show (σ.K 1).born ≤ max σ.t now; omega, by show 0 ≤ (σ.K 1).sent + 1; omega, by show (σ.K 1).sent + 1 ≤ _; omega, k.ks, k.kr, k.l0, k.l1, k.f0, k.f1, by have := k.n1; show (σ.K 1).n ≤ _; omega, k.nums⟩
      · simp only [sj i e1] at he ⊢
        exact ⟨hi, he, by trivial, (h.ok i hi he).mono (by omega) (Int.le_refl _) (by show σ.t ≤ max σ.t now; omega)⟩
  · rw [if_neg e]
    exact (h.tell hn).mono (by omega)
theorem SesOk.took {M : Nat} {σ : Ses} (h : SesOk M σ) {now c : Int} {i : Nat} (hi : i < 3) (he : (σ.K i).ep ≠ 0) (hn : now ≤ 9223372036854775807) (hc : U64 c) (hf : freshD L64 8192 (σ.K i).n (σ.K i).s c = true) : SesOk (M + 1) ⟨max σ.t now, σ.c, setG σ.K i (kpTook (σ.K i) c)⟩ := by
  have h0 := h.t0; have h1 := h.t1; have h3 := h.c1
  have s1 : setG σ.K i (kpTook (σ.K i) c) i = kpTook (σ.K i) c := by unfold setG; rw [if_pos rfl]
  have sj : ∀ j, j ≠ i → setG σ.K i (kpTook (σ.K i) c) j = σ.K j := fun j hj => by unfold setG; rw [if_neg hj]
  refine h.sub (fun i => i) (by show 0 ≤ max σ.t now; omega) (by show max σ.t now ≤ _; omega) (by show σ.t ≤ max σ.t now; omega) (Int.le_refl _) (by show σ.c ≤ _; omega) (fun j hj hz => ?_) (fun j hj hz => ?_) (fun a b _ _ hij _ _ => hij)
  · by_cases e1 : j = i
    · subst e1; simp only [s1] at hz; exact absurd hz he
    · simp only [sj j e1] at hz ⊢; exact h.emp j hj hz
  · by_cases e1 : j = i
    · subst e1
      simp only [s1]
      have k := h.ok j hj he
      have hs1 := k.s1
      refine ⟨hj, he, rfl, k.ep0, k.ep1, k.b0, by have := k.b1; show (σ.K j).born ≤ max σ.t now; omega, k.s0, by show (σ.K j).sent ≤ _; omega, k.ks, k.kr, k.l0, k.l1, k.f0, k.f1, by have := k.n1; show (σ.K j).n + 1 ≤ _; omega, ?_⟩
      exact k.nums.take hc.1 (by have := hc.2; unfold L64; omega) hf
    · simp only [sj j e1] at hz ⊢
      exact ⟨hj, hz, by trivial, (h.ok j hj hz).mono (by omega) (Int.le_refl _) (by show σ.t ≤ max σ.t now; omega)⟩
theorem SesOk.moved {M : Nat} {σ : Ses} (h : SesOk M σ) : SesOk M ⟨σ.t, σ.c, movedG Kp.ep σ.K kp0⟩ := by
  obtain ⟨p1, p2, p0⟩ := mvG (ep := Kp.ep) (R := σ.K) (z := kp0)
  refine h.sub (fun i => if i = 1 then 2 else if (σ.K 1).ep ≠ 0 then 1 else 0) h.t0 h.t1 (Int.le_refl _) (Int.le_refl _) h.c1 (fun i hi he => ?_) (fun i hi he => ?_) (fun i j hi hj hij he hf => ?_)
  · rcases three hi with rfl | rfl | rfl
    · simp only [p0] at he ⊢
      by_cases h1 : (σ.K 1).ep ≠ 0
      · rw [if_pos h1] at he; exact absurd he h1
      · rw [if_neg h1] at he ⊢; exact h.emp 0 (by omega) he
    · simp only [p1] at he ⊢; exact h.emp 2 (by omega) he
    · exact p2
  · rcases three hi with rfl | rfl | rfl
    · simp only [p0, show ¬ (0 = 1) by omega, if_false] at he ⊢
      by_cases h1 : (σ.K 1).ep ≠ 0
      · simp only [if_pos h1] at he ⊢; exact ⟨by omega, he, by trivial, (h.ok 1 (by omega) he).mono (Nat.le_refl _) (Int.le_refl _) (Int.le_refl _)⟩
      · simp only [if_neg h1] at he ⊢; exact ⟨by omega, he, by trivial, (h.ok 0 (by omega) he).mono (Nat.le_refl _) (Int.le_refl _) (Int.le_refl _)⟩
    · simp only [p1, if_true] at he ⊢; exact ⟨by omega, he, by trivial, (h.ok 2 (by omega) he).mono (Nat.le_refl _) (Int.le_refl _) (Int.le_refl _)⟩
    · simp only [p2] at he; exact absurd rfl he
  · have hi2 : i ≠ 2 := fun e => by subst e; simp only [p2] at he; exact he rfl
    have hj2 : j ≠ 2 := fun e => by subst e; simp only [p2] at hf; exact hf rfl
    show (if i = 1 then 2 else if (σ.K 1).ep ≠ 0 then 1 else 0) ≠ (if j = 1 then 2 else if (σ.K 1).ep ≠ 0 then 1 else 0)
    by_cases hi1 : i = 1
    · rw [if_pos hi1, if_neg (show ¬ j = 1 by omega)]; split <;> omega
    · rw [if_neg hi1, if_pos (show j = 1 by omega)]; split <;> omega
theorem SesOk.empty0 {M : Nat} {σ : Ses} (h : SesOk M σ) : SesOk M ⟨σ.t, σ.c, setG σ.K 0 kp0⟩ := by
  have s0 : setG σ.K 0 kp0 0 = kp0 := by unfold setG; rw [if_pos rfl]
  have sj : ∀ j, j ≠ 0 → setG σ.K 0 kp0 j = σ.K j := fun j hj => by unfold setG; rw [if_neg hj]
  refine h.sub (fun i => i) h.t0 h.t1 (Int.le_refl _) (Int.le_refl _) h.c1 (fun i hi he => ?_) (fun i hi he => ?_) (fun i j _ _ hij _ _ => hij)
  · by_cases e : i = 0
    · subst e; exact s0
    · simp only [sj i e] at he ⊢; exact h.emp i hi he
  · by_cases e : i = 0
    · subst e; simp only [s0] at he; exact absurd rfl he
    · simp only [sj i e] at he ⊢; exact ⟨hi, he, by trivial, (h.ok i hi he).mono (Nat.le_refl _) (Int.le_refl _) (Int.le_refl _)⟩
theorem SesOk.opened {M : Nat} {t c : Int} {K : Nat → Kp} (h : SesOk M ⟨t, c, K⟩) (i : Nat) : SesOk M ⟨t, c, openedF K i⟩ := by
  unfold openedF
  by_cases e : i = 2
  · simp only [if_pos e]
    split
    · exact h.moved.empty0
    · exact h.moved
  · simp only [if_neg e]
    split
    · exact h.empty0
    · exact h
theorem SesOk.open {M : Nat} {σ : Ses} (h : SesOk M σ) {now x c : Int} {box : ByteArray} (hn : now ≤ 9223372036854775807) (hc : U64 c) : SesOk (M + 1) (openS σ now x c box).2 := by
  have hT : SesOk (M + 1) ⟨max σ.t now, σ.c, σ.K⟩ := (h.tell hn).mono (by omega)
  rcases at_cases σ.K x with hA | ⟨i, hi, hA, he, _⟩
  · rw [openS_no hA]; exact hT
  · rw [openS_at hA]
    unfold openAt
    by_cases h1 : openE σ now i c ≠ 0
    · rw [if_pos h1]; exact hT
    · rw [if_neg h1]
      by_cases h2 : (openT (σ.K i).kr (nonN c) box ByteArray.empty).2 ≠ 0
      · rw [if_pos h2]; exact hT
      · rw [if_neg h2]
        have hE : openE σ now i c = 0 := by simpa using h1
        have hf : freshD L64 8192 (σ.K i).n (σ.K i).s c = true := by
          cases hh : freshD L64 8192 (σ.K i).n (σ.K i).s c
          · unfold openE at hE
            split at hE
            · omega
            · rw [if_pos (.inr hh)] at hE; omega
          · rfl
        exact (h.took hi he hn hc hf).opened i
theorem ok0 : SesOk 0 ses0 := ⟨Int.le_refl _, by show (0 : Int) ≤ _; omega, Int.le_refl _, Int.le_refl _, fun _ _ _ => rfl, fun _ _ he => absurd rfl he, fun _ _ _ _ he => absurd rfl he⟩
end Go.Proofs.YtbkbcfimpaolmaaGreat
/-
  Own text. The statements' pair.
-/
namespace Go.Proofs.YtbkbcfimpaolmaaGreat
open Go.RowKit Go.Proofs
set_option maxRecDepth 100000
def pks (n : Int) (j : Nat) : Int := if j = 0 then n % 256 else if j = 1 then 1 else 0
def pkr (n : Int) (j : Nat) : Int := if j = 0 then n % 256 else 0
theorem pks_b (n : Int) : Byts 32 (pks n) := fun i _ => by unfold pks; split; omega; split <;> omega
theorem pkr_b (n : Int) : Byts 32 (pkr n) := fun i _ => by unfold pkr; split <;> omega
def ploc (n : Int) : Int := n % 4294967296
def pfar (n : Int) : Int := (n + 1000) % 4294967296
theorem paiV_one (S R : Nat → Int) (l f : Int) (i : Nat) : (paiV S R l f i).oneCell' = true := by unfold paiV; (repeat' split) <;> rfl
theorem zeroPairV (w : World) : (zeroValue 30).run Tryz.prog w = .ok (.agg (SC 66 (paiV (fun _ => 0) (fun _ => 0) 0 0))) w := by kernel_rfl
theorem run_pai2 (l f : Int) (w : World) : (Instr.build 30 #[(2, .int .u32 l), (3, .int .u32 f)]).run Tryz.prog w = .ok (.agg (SC 66 (paiV (fun _ => 0) (fun _ => 0) l f))) w := by kernel_rfl
theorem exec_pai2 {a : Act} {o : Oper} {w : World} {x y : Operand} (ho : o.op = .build 30 #[(2, x), (3, y)]) {l f : Int} (hx : a.eval x = .int .u32 l) (hy : a.eval y = .int .u32 f) : (execOp a.eval o).run Tryz.prog w = .ok (.value (.agg (SC 66 (paiV (fun _ => 0) (fun _ => 0) l f)))) w := by
  have h := run_pai2 l f w
  unfold execOp
  simp only [ho, List.map_toArray, List.map_cons, List.map_nil, hx, hy, Sem.run_bind, h, Result.andThen_ok, Sem.run_pure]
theorem w64_mod (n : Int) : wrap64 (n + 1000) % 4294967296 = (n + 1000) % 4294967296 := by unfold wrap64; omega
/-- A byte of a struct is written. -/
theorem act_c8 {o : Oper} {a : Act} {w : World} {K : Act → World → Prop} {Q : Exit → Act → World → Prop} {x y : Operand} (ho : o.op = .store 5 x y) {g i n : Nat} {ty : TypeId} {V : Nat → Value} {v z : Int} (hx : a.eval x = .pointer (some ⟨g, i, none⟩)) (hy : a.eval y = .int .u8 v)
    (hg : SAt w g ty n V) (hi : i < n) (hz : V i = .int .u8 z) (h : ∀ w', SAt w' g ty n (fun x => if x = i then .int .u8 v else V x) → Only g w w' → K (a.put o.dst undef) w') : o.wp Tryz.prog a w K Q := by
  have hc := hg.at i hi
  rw [hz] at hc
  have hf : w.frozen? ⟨g, i, none⟩ = false := frozen_of_row w g i _ _ hg
  have h' := h _ (SAt.set hg i (.int .u8 v) hi) ((Only.refl g w).setCell i (.int .u8 v))
  unfold Oper.wp execOp
  simp only [ho, hx, hy]
  simp [go_sem, hc, hf]
  exact h'
set_option maxHeartbeats 4000000 in
theorem pair_run (n : Int) (w : World) : Calls Tryz.prog 9 #[.int .i64 n] w fun e w' => e = .returned (.agg (SC 66 (paiV (pks n) (pkr n) (ploc n) (pfar n)))) ∧ Below w.heap.size w w' := by
  have hw := w64_mod n
  go_enter Tryz.func9, Tryz.ntmps9
  go_wp2_with (refine wl_al zeroPairV ?_; intro g u1 hg g1 hB1; refine Hid.out ?_)
  refine Hid.mk ?_
  go_wp2_with (first | (refine wl_value rfl (exec_pai2 rfl (by rfl) (by rfl)) ?_) | (refine wl_al zeroPairV ?_; intro q u2 hq q2 hB2; refine Hid.out ?_))
  refine Hid.mk ?_
  go_wp2_with (refine st_st isPair (paiV_one _ _ _ _) q2 (by rfl) (by rfl) ?_; intro u3 q3 o3; refine Hid.out ?_)
  refine Hid.mk ?_
  have gl := SAt.lt g1
  have g3 := (SAt.kept g1 hB2).only o3 (by omega)
  have hB3 := (hB1.trans (hB2.mono hB1.size)).trans (o3.below (by have := hB1.size; omega))
  have hqw : w.heap.size ≤ q := by have := hB1.size; omega
  have hgq : g ≠ q := by omega
  clear q2 g1 hB1 hB2 o3 hq
  go_wp2_with (refine wl_act rfl (act_c8 rfl (by rfl) (by rfl) q3 (by decide) (z := 0) rfl ?_); intro u4 q4 o4; refine Hid.out ?_)
  refine Hid.mk ?_
  go_wp2_with (refine wl_act rfl (act_c8 rfl (by rfl) (by rfl) q4 (by decide) (z := 0) rfl ?_); intro u5 q5 o5; refine Hid.out ?_)
  refine Hid.mk ?_
  go_wp2_with (refine wl_act rfl (act_c8 rfl (by rfl) (by rfl) q5 (by decide) (z := 0) rfl ?_); intro u6 q6 o6; refine Hid.out ?_)
  refine Hid.mk ?_
  have o := (o4.trans o5).trans o6
  have g6 := g3.only o hgq
  have hB6 := hB3.trans (o.below hqw)
  have q7 : SAt u6 q 30 66 (paiV (pks n) (pkr n) (ploc n) (pfar n)) := SAt.congr q6 (fun i hi => by
    show (if i = 32 then _ else if i = 1 then _ else if i = 0 then _ else paiV _ _ _ _ i) = _
    unfold paiV pks pkr
    by_cases h0 : i = 0
    · subst h0; rfl
    by_cases h1 : i = 1
    · subst h1; rfl
    by_cases h2 : i = 32
    · subst h2; rfl
    rw [if_neg h2, if_neg h1, if_neg h0, if_neg h0, if_neg h1]
    by_cases h3 : i < 32
    · rw [if_pos h3, if_pos h3]
    · rw [if_neg h3, if_neg h3, if_neg (show ¬ i - 32 = 0 by omega)]
      rfl)
  clear q3 q4 q5 q6 o4 o5 o6 o g3 hB3
  go_wp2_with (first | (refine wl_value rfl (look_st rfl isPair q7 (by rfl)) ?_) | (refine st_st isPair (paiV_one _ _ _ _) g6 (by rfl) (by rfl) ?_; intro u8 g8 o8; refine Hid.out ?_))
  refine Hid.mk ?_
  have hB8 := hB6.trans (o8.below hg)
  clear q7 g6 o8 hB6
  go_wp2_with fail
  exact bodyPost_ret (res_st rfl isPair g8 (by rfl)) rfl ⟨rfl, hB8⟩
theorem run_pai4 (S R : Nat → Int) (l f : Int) (w : World) : (Instr.build 30 #[(0, .agg (WA .u8 32 S)), (1, .agg (WA .u8 32 R)), (2, .int .u32 l), (3, .int .u32 f)]).run Tryz.prog w = .ok (.agg (SC 66 (paiV S R l f))) w := by kernel_rfl
theorem exec_pai4 {a : Act} {o : Oper} {w : World} {x y z u : Operand} (ho : o.op = .build 30 #[(0, x), (1, y), (2, z), (3, u)]) {S R : Nat → Int} {l f : Int} (hx : a.eval x = .agg (WA .u8 32 S)) (hy : a.eval y = .agg (WA .u8 32 R)) (hz : a.eval z = .int .u32 l) (hu : a.eval u = .int .u32 f) : (execOp a.eval o).run Tryz.prog w = .ok (.value (.agg (SC 66 (paiV S R l f)))) w := by
  have h := run_pai4 S R l f w
  unfold execOp
  simp only [ho, List.map_toArray, List.map_cons, List.map_nil, hx, hy, hz, hu, Sem.run_bind, h, Result.andThen_ok, Sem.run_pure]
end Go.Proofs.YtbkbcfimpaolmaaGreat
/-
  Own text. The statements' awake.
-/
namespace Go.Proofs.YtbkbcfimpaolmaaGreat
open Go.RowKit Go.Proofs
set_option maxRecDepth 100000
theorem goes_below {Sess : World → Nat → Ses → (Nat → Prop) → Prop} {w0 w w' : World} {b B : Nat} {S : Nat → Prop} {σ : Ses} (h : Goes Sess w b S σ w') (hS : ∀ k, S k → B ≤ k) (hB : Below B w0 w) (hz : B ≤ w.heap.size) : ∃ S', Sess w' b σ S' ∧ (∀ k, S' k → B ≤ k) ∧ Below B w0 w' ∧ B ≤ w'.heap.size := by
  obtain ⟨S', h1, hT, h2⟩ := h
  refine ⟨S', h1, fun k hk => (h2 k hk).elim (hS k) (fun e => Nat.le_trans hz e), hB.trans ⟨hT.os, hT.tape, hT.output, hT.size, fun k hk => hT.block k (Nat.lt_of_lt_of_le hk hz) (fun e => by have := hS k e; omega)⟩, Nat.le_trans hz hT.size⟩
/-- The rows of what is told. -/
theorem own_told {w : World} {B n : Nat} {v : Value} {xs : List Value} (h : w.ownsRow B 52 8 v n xs) : ∃ p cap, v = .slice p n cap ∧ (0 < n → ∃ g, p = some ⟨g, 0, none⟩ ∧ ∀ i, i < n * 8 → w.cell? ⟨g, i, none⟩ = xs[i]?) := by
  obtain ⟨h1, h2⟩ := h
  rcases h2 with ⟨rfl, rfl⟩ | ⟨g, cap, cur, rfl, _, hg, hn, _, hs, ht⟩
  · exact ⟨none, 0, rfl, fun h => by omega⟩
  · refine ⟨_, cap, rfl, fun _ => ⟨g, rfl, fun i hi => ?_⟩⟩
    rw [cell_of_row w g i _ _ _ hg, ← ht, List.getElem?_take, if_pos hi, Array.getElem?_toList]
theorem own_u32 {w : World} {B n : Nat} {v : Value} {l : List Int} (h : w.ownsRow B 28 1 v n (u32X l)) : n = l.length ∧ ∃ p cap, v = .slice p n cap ∧ (0 < n → ∃ g, p = some ⟨g, 0, none⟩ ∧ ∀ i, i < n → w.cell? ⟨g, i, none⟩ = some (.int .u32 (l.getD i 0))) := by
  have hl : n = l.length := by have := h.1; unfold u32X at this; rw [nums_len] at this; omega
  refine ⟨hl, ?_⟩
  obtain ⟨h1, h2⟩ := h
  rcases h2 with ⟨rfl, rfl⟩ | ⟨g, cap, cur, rfl, _, hg, hn, _, hs, ht⟩
  · exact ⟨none, 0, rfl, fun h => by omega⟩
  · refine ⟨_, cap, rfl, fun _ => ⟨g, rfl, fun i hi => ?_⟩⟩
    have e : (u32X l)[i]? = some (.int .u32 (l.getD i 0)) := by
      unfold u32X
      rw [← hl]
      simp [nums, hi]
    rw [cell_of_row w g i _ _ _ hg, ← e, ← ht, List.getElem?_take, if_pos (by omega), Array.getElem?_toList]
def sg1 : Ses := putS ses0 0 (pks 1) (pkr 1) (ploc 1) (pfar 1) true
def sg2 : Ses := putS sg1 1 (pks 2) (pkr 2) (ploc 2) (pfar 2) false
def sg3 : Ses := sealS sg2 2
theorem sg_a : putR ses0 (ploc 1) = (1, 0) := by decide +kernel
theorem sg_b : putR sg1 (ploc 2) = (2, 0) := by decide +kernel
theorem sg_ok1 : SesOk 1 sg1 := ok0.put (by omega) true (pks_b 1) (pkr_b 1) (by decide) (by decide) (by decide) (by decide)
theorem sg_ok2 : SesOk 2 sg2 := sg_ok1.put (by omega) false (pks_b 2) (pkr_b 2) (by decide) (by decide) (by decide) (by decide)
theorem sg_ok3 : SesOk 3 sg3 := sg_ok2.seal (by omega)
theorem sg_s : sealOk sg2 2 = true := by decide +kernel
theorem sg_far : (sg2.K 1).far = 1001 := by decide +kernel
theorem sg_sent : (sg2.K 1).sent = 0 := by decide +kernel
theorem sg_c : ∃ X : ByteArray, sealR sg2 2 ⟨#[104, 105]⟩ = (1001, 0, X, 0) ∧ X.size = 18 := by
  refine ⟨boxT (sg2.K 1).ks (nonN (sg2.K 1).sent) ⟨#[104, 105]⟩ ByteArray.empty, ?_, by rw [boxT_size]; rfl⟩
  unfold sealR
  rw [if_pos sg_s, sg_far, sg_sent]
theorem sg_d : slotsL sg3.K 3 = [1, 2] := by decide +kernel
set_option maxHeartbeats 4000000 in
theorem awake_run (w : World) : Calls Tryz.prog 4 #[] w fun e w' => e = .returned (.bool true) ∧ Below w.heap.size w w' := by
  obtain ⟨X, hX, hXs⟩ := sg_c
  have HP1 := Hid.mk (fun u b S (h : SesAt u b ses0 S) => Put_run 0 (pks 1) (pkr 1) (ploc 1) (pfar 1) true h (by decide) (by decide))
  have HP2 := Hid.mk (fun u b S (h : SesAt u b sg1 S) => Put_run 1 (pks 2) (pkr 2) (ploc 2) (pfar 2) false h sg_ok1.c0 (by have := sg_ok1.c1; omega))
  have HP3 := Hid.mk (fun u b S (h : SesAt u b sg2 S) => Seal_run9 2 ⟨#[104, 105]⟩ h sg_ok2 (by omega) (by omega) (by show 2 ≤ _; omega))
  have HP4 := Hid.mk (fun u b S (h : SesAt u b sg3 S) => Slots_run h)
  rw [sg_a] at HP1
  rw [sg_b] at HP2
  rw [hX] at HP3
  rw [sg_d] at HP4
  replace HP1 : Hid (∀ u b S, SesAt u b ses0 S → Calls Tryz.prog 8 #[.pointer (some ⟨b, 0, none⟩), .int .i64 0, .agg (SC 66 (paiV (pks 1) (pkr 1) (ploc 1) (pfar 1))), .bool true] u fun e w' => e = .returned (.tuple #[.int .i64 1, .int .i64 0]) ∧ Goes SesAt u b S sg1 w') := HP1
  replace HP2 : Hid (∀ u b S, SesAt u b sg1 S → Calls Tryz.prog 8 #[.pointer (some ⟨b, 0, none⟩), .int .i64 1, .agg (SC 66 (paiV (pks 2) (pkr 2) (ploc 2) (pfar 2))), .bool false] u fun e w' => e = .returned (.tuple #[.int .i64 2, .int .i64 0]) ∧ Goes SesAt u b S sg2 w') := HP2
  replace HP3 : Hid (∀ u b S, SesAt u b sg2 S → Calls Tryz.prog 10 #[.pointer (some ⟨b, 0, none⟩), .int .i64 2, .string ⟨#[104, 105]⟩] u fun e w' => e = .returned (.tuple #[.int .u32 1001, .int .u64 0, .string X, .int .i64 0]) ∧ Goes SesAt u b S sg3 w') := HP3
  replace HP4 : Hid (∀ u b S, SesAt u b sg3 S → Calls Tryz.prog 11 #[.pointer (some ⟨b, 0, none⟩)] u fun e w' => ∃ vo, e = .returned vo ∧ w'.ownsRow u.heap.size 52 8 vo 2 (toldX sg3.K [1, 2]) ∧ Below u.heap.size u w') := HP4
  clear hX
  go_enter Tryz.func4, Tryz.ntmps4
  go_wp2_with fail
  refine (New_run9 w).mono ?_
  rintro e u1 ⟨b, rfl, h1, hb1, hB1⟩
  go_wp2_with fail
  refine (pair_run 1 u1).mono ?_
  rintro e u2 ⟨rfl, hB2⟩
  go_wp2_with fail
  refine (HP1.out u2 b _ (h1.below hB2)).mono ?_
  rintro e u3 ⟨rfl, hG3⟩
  obtain ⟨S3, h3, hS3, hB3, hz3⟩ := goes_below hG3 (B := w.heap.size) (fun k hk => by subst hk; exact hb1) (hB1.trans (hB2.mono hB1.size)) (Nat.le_trans hB1.size hB2.size)
  clear h1 hB1 hB2 hG3 HP1
  go_wp2_with fail
  refine (pair_run 2 u3).mono ?_
  rintro e u4 ⟨rfl, hB4⟩
  go_wp2_with fail
  refine (HP2.out u4 b _ (h3.below hB4)).mono ?_
  rintro e u5 ⟨rfl, hG5⟩
  obtain ⟨S5, h5, hS5, hB5, hz5⟩ := goes_below hG5 hS3 (hB3.trans (hB4.mono hz3)) (Nat.le_trans hz3 hB4.size)
  clear h3 hB3 hB4 hG5 HP2 hS3 hz3
  go_wp2_with fail
  refine (HP3.out u5 b _ h5).mono ?_
  rintro e u6 ⟨rfl, hG6⟩
  obtain ⟨S6, h6, hS6, hB6, hz6⟩ := goes_below hG6 hS5 hB5 hz5
  clear h5 hB5 hG6 HP3 hS5 hz5
  go_wp2_with fail
  refine (HP4.out u6 b _ h6).mono ?_
  rintro e u7 ⟨vo, rfl, hO, hB7⟩
  obtain ⟨p, cap, rfl, hp⟩ := own_told hO
  obtain ⟨g, rfl, hc⟩ := hp (by omega)
  have c0 : u7.cell? ⟨g, 0, none⟩ = some (.int .i64 1) := hc 0 (by omega)
  have c8 : u7.cell? ⟨g, 8, none⟩ = some (.int .i64 2) := hc 8 (by omega)
  have hB := hB6.trans (hB7.mono hz6)
  clear hO hc hp h6 hB6 hB7 HP4 hS6 hz6
  go_wp2_with (refine wl_value rfl (exec_lenS rfl (by rfl)) ?_)
  go_ret
  exact ⟨rfl, hB⟩
end Go.Proofs.YtbkbcfimpaolmaaGreat
/-
  Own text. The document's session in memory.
-/
namespace Go.Proofs.YtbkbcfimpaolmaaGreat
open Go.RowKit Go.Proofs
set_option maxRecDepth 100000
/-- A slot's cells: whether it is there, a keypair, and where its window is. -/
def dlR (r : Kp × Option Nat) (j : Nat) : Value := if j < 1 then .bool (!decide (r.1.ep = 0)) else slR r (j - 1)
def sdV (R : Nat → Kp × Option Nat) (t c : Int) (x : Nat) : Value := if x < 1 then .int .i64 t else if x < 2 then .int .i64 c else dlR (R ((x - 2) / 72)) ((x - 2) % 72)
/-- Block b is a session of the document. -/
def SdAt (w : World) (b : Nat) (R : Nat → Kp × Option Nat) (t c : Int) : Prop := SAt w b 37 218 (sdV R t c)
theorem dlR_one (r : Kp × Option Nat) (i : Nat) : (dlR r i).oneCell' = true := by
  unfold dlR
  split
  · rfl
  · exact slR_one _ _
theorem isDSlot : IsSt 34 72 := ⟨_, Tryz.underlying34, rfl, by kernel_rfl⟩
theorem isDSes : IsSt 37 218 := ⟨_, Tryz.underlying37, rfl, by kernel_rfl⟩
theorem sdV_slot {R : Nat → Kp × Option Nat} {t c : Int} {i j : Nat} (hj : j < 72) : sdV R t c (2 + 72 * i + j) = dlR (R i) j := by
  unfold sdV
  rw [if_neg (by omega), if_neg (by omega), show (2 + 72 * i + j - 2) / 72 = i by omega, show (2 + 72 * i + j - 2) % 72 = j by omega]
section
variable {w w' : World} {b : Nat} {R : Nat → Kp × Option Nat} {t c : Int} {r : Kp × Option Nat}
theorem SdAt.lt (h : SdAt w b R t c) : b < w.heap.size := SAt.lt h
theorem SdAt.kept (h : SdAt w b R t c) (hb : Below w.heap.size w w') : SdAt w' b R t c := SAt.kept h hb
theorem SdAt.below {B : Nat} (h : SdAt w b R t c) (hb : Below B w w') (hB : b < B) : SdAt w' b R t c := SAt.block h (hb.block b hB)
theorem SdAt.only {g : Nat} (h : SdAt w b R t c) (ho : Only g w w') (hB : b ≠ g) : SdAt w' b R t c := SAt.only h ho hB
theorem SdAt.time (h : SdAt w b R t c) : w.cell? ⟨b, 0, none⟩ = some (.int .i64 t) := SAt.at h 0 (by omega)
theorem SdAt.count (h : SdAt w b R t c) : w.cell? ⟨b, 1, none⟩ = some (.int .i64 c) := SAt.at h 1 (by omega)
theorem SdAt.cell (h : SdAt w b R t c) (i j : Nat) (hi : i < 3) (hj : j < 72) : w.cell? ⟨b, 2 + 72 * i + j, none⟩ = some (dlR (R i) j) := by rw [SAt.at h _ (by omega), sdV_slot hj]
theorem SdAt.slot (h : SdAt w b R t c) (i : Nat) (hi : i < 3) : w.rangeAt b (2 + 72 * i) (SC 72 (dlR (R i))).toList := fun j v hj => by
  have hl : j < 72 := by
    have := (List.getElem?_eq_some_iff.1 hj).1
    rwa [Array.length_toList, SC_size] at this
  rw [h.cell i j hi hl, ← SC_get 72 _ j hl, ← Array.getElem?_toList, hj]
theorem SdAt.congr {R' : Nat → Kp × Option Nat} {t' c' : Int} (h : SdAt w b R t c) (e : ∀ i, i < 3 → dlR (R i) = dlR (R' i)) (et : t = t') (ec : c = c') : SdAt w b R' t' c' := by
  subst et ec
  refine SAt.congr h (fun x hx => ?_)
  unfold sdV
  by_cases h1 : x < 2
  · by_cases h0 : x < 1
    · rw [if_pos h0, if_pos h0]
    · rw [if_neg h0, if_neg h0, if_pos h1, if_pos h1]
  · have h0 : ¬ x < 1 := by omega
    rw [if_neg h0, if_neg h1, if_neg h0, if_neg h1, e ((x - 2) / 72) (by omega)]
/-- A slot is written. -/
theorem SdAt.put (h : SdAt w b R t c) (i : Nat) (hi : i < 3) (r : Kp × Option Nat) : SdAt (w.setCells b (2 + 72 * i) (SC 72 (dlR r)).toList) b (setG R i r) t c ∧ Only b w (w.setCells b (2 + 72 * i) (SC 72 (dlR r)).toList) := by
  obtain ⟨h1, h2⟩ := SAt.mid h (dlR r) (2 + 72 * i) 72 (by omega)
  refine ⟨SAt.congr h1 (fun x hx => ?_), h2⟩
  show (if 2 + 72 * i ≤ x ∧ x < 2 + 72 * i + 72 then dlR r (x - (2 + 72 * i)) else sdV R t c x) = sdV (setG R i r) t c x
  unfold sdV setG
  by_cases hc : 2 + 72 * i ≤ x ∧ x < 2 + 72 * i + 72
  · rw [if_pos hc, if_neg (by omega), if_neg (by omega), if_pos (by omega), show x - (2 + 72 * i) = (x - 2) % 72 by omega]
  · rw [if_neg hc]
    by_cases h0 : x < 1
    · rw [if_pos h0, if_pos h0]
    · rw [if_neg h0, if_neg h0]
      by_cases h1 : x < 2
      · rw [if_pos h1, if_pos h1]
      · rw [if_neg h1, if_neg h1, if_neg (by omega)]
theorem SdAt.tell (h : SdAt w b R t c) (t' : Int) : SdAt (w.setCell ⟨b, 0, none⟩ (.int .i64 t')) b R t' c := by
  refine SAt.congr (SAt.set h 0 _ (by omega)) (fun x hx => ?_)
  show (if x = 0 then Value.int .i64 t' else sdV R t c x) = sdV R t' c x
  unfold sdV
  by_cases e : x = 0
  · subst e; rfl
  · have h0 : ¬ x < 1 := by omega
    rw [if_neg e, if_neg h0, if_neg h0]
theorem SdAt.counts (h : SdAt w b R t c) (c' : Int) : SdAt (w.setCell ⟨b, 1, none⟩ (.int .i64 c')) b R t c' := by
  refine SAt.congr (SAt.set h 1 _ (by omega)) (fun x hx => ?_)
  show (if x = 1 then Value.int .i64 c' else sdV R t c x) = sdV R t c' x
  unfold sdV
  by_cases e : x = 1
  · subst e; rfl
  · rw [if_neg e]
    by_cases h0 : x < 1
    · rw [if_pos h0, if_pos h0]
    · rw [if_neg h0, if_neg h0, if_neg (by omega), if_neg (by omega)]
end
section
variable {w : World} {g o : Nat} {r : Kp × Option Nat} {ty : TypeId}
theorem dl_there (h : SAt w g ty 72 (dlR r)) : w.cell? ⟨g, 0, none⟩ = some (.bool (!decide (r.1.ep = 0))) := SAt.at h 0 (by omega)
theorem dl_ks (h : SAt w g ty 72 (dlR r)) : w.rangeAt g 1 (nums .u8 32 r.1.ks) := SAt.range h (by omega) (fun j hj => by unfold dlR slR slC; rw [if_neg (by omega), Nat.add_sub_cancel_left, if_pos hj])
theorem dl_kr (h : SAt w g ty 72 (dlR r)) : w.rangeAt g 33 (nums .u8 32 r.1.kr) := SAt.range h (by omega) (fun j hj => by unfold dlR slR slC; rw [if_neg (by omega), show 33 + j - 1 = 32 + j by omega, if_neg (by omega), if_pos (by omega), Nat.add_sub_cancel_left])
theorem dl_loc (h : SAt w g ty 72 (dlR r)) : w.cell? ⟨g, 65, none⟩ = some (.int .u32 r.1.loc) := SAt.at h 65 (by omega)
theorem dl_far (h : SAt w g ty 72 (dlR r)) : w.cell? ⟨g, 66, none⟩ = some (.int .u32 r.1.far) := SAt.at h 66 (by omega)
theorem dl_ep (h : SAt w g ty 72 (dlR r)) : w.cell? ⟨g, 67, none⟩ = some (.int .i64 r.1.ep) := SAt.at h 67 (by omega)
theorem dl_fst (h : SAt w g ty 72 (dlR r)) : w.cell? ⟨g, 68, none⟩ = some (.bool r.1.fst) := SAt.at h 68 (by omega)
theorem dl_born (h : SAt w g ty 72 (dlR r)) : w.cell? ⟨g, 69, none⟩ = some (.int .i64 r.1.born) := SAt.at h 69 (by omega)
theorem dl_sent (h : SAt w g ty 72 (dlR r)) : w.cell? ⟨g, 70, none⟩ = some (.int .u64 r.1.sent) := SAt.at h 70 (by omega)
theorem dl_win (h : SAt w g ty 72 (dlR r)) : w.cell? ⟨g, 71, none⟩ = some (ptV r.2) := SAt.at h 71 (by omega)
end
theorem run_fds (b k : Nat) (w : World) : k < 3 → (Instr.fieldAt 37 (.pointer (some ⟨b, 0, none⟩)) k).run Tryz.prog w = .ok (.pointer (some ⟨b, [0, 1, 2].getD k 0, none⟩)) w := by
  intro hk
  match k, hk with
  | 0, _ => simp [go_sem]
  | 1, _ => simp [go_sem]
  | 2, _ => simp [go_sem]
theorem exec_fds {a : Act} {o : Oper} {w : World} {x : Operand} {k : Nat} (ho : o.op = .fieldAddr 37 x k) {b : Nat} (hx : a.eval x = .pointer (some ⟨b, 0, none⟩)) (hk : k < 3) : (execOp a.eval o).run Tryz.prog w = .ok (.value (.pointer (some ⟨b, [0, 1, 2].getD k 0, none⟩))) w := by
  have h := run_fds b k w hk
  unfold execOp
  simp only [ho, hx, Sem.run_bind, h, Result.andThen_ok, Sem.run_pure]
theorem run_fdl (b o k : Nat) (w : World) : k < 7 → (Instr.fieldAt 34 (.pointer (some ⟨b, o, none⟩)) k).run Tryz.prog w = .ok (.pointer (some ⟨b, o + [0, 1, 67, 68, 69, 70, 71].getD k 0, none⟩)) w := by
  intro hk
  match k, hk with
  | 0, _ => simp [go_sem]
  | 1, _ => simp [go_sem]
  | 2, _ => simp [go_sem]
  | 3, _ => simp [go_sem]
  | 4, _ => simp [go_sem]
  | 5, _ => simp [go_sem]
  | 6, _ => simp [go_sem]
theorem exec_fdl {a : Act} {o : Oper} {w : World} {x : Operand} {k : Nat} (ho : o.op = .fieldAddr 34 x k) {b f : Nat} (hx : a.eval x = .pointer (some ⟨b, f, none⟩)) (hk : k < 7) : (execOp a.eval o).run Tryz.prog w = .ok (.value (.pointer (some ⟨b, f + [0, 1, 67, 68, 69, 70, 71].getD k 0, none⟩))) w := by
  have h := run_fdl b f k w hk
  unfold execOp
  simp only [ho, hx, Sem.run_bind, h, Result.andThen_ok, Sem.run_pure]
theorem sizeDSlot (w : World) : (sizeOf (Tryz.prog.elem 35)).run Tryz.prog w = .ok 72 w := by kernel_rfl
theorem lenD3 : Tryz.prog.arrayLen 35 = 3 := by kernel_rfl
theorem undD3 : Tryz.prog.underlying 35 = some (.array (Tryz.prog.arrayLen 35) (Tryz.prog.elem 35)) := Tryz.underlying35
theorem exec_ixD {a : Act} {o : Oper} {w : World} {x y : Operand} (ho : o.op = .indexAddr 35 x y) {b i : Nat} (hx : a.eval x = .pointer (some ⟨b, 2, none⟩)) (hy : a.eval y = .int .i64 (i : Int)) (hi : i < 3) : (execOp a.eval o).run Tryz.prog w = .ok (.value (.pointer (some ⟨b, 2 + 72 * i, none⟩))) w := by
  unfold execOp
  simp only [ho, hx, hy, Sem.run_bind]
  rw [run_indexAt_array w 35 _ .i64 (i : Int) undD3, if_pos ⟨by omega, by rw [lenD3]; omega⟩, sizeDSlot]
  simp only [Result.andThen_ok, Addr.add_lit, Int.toNat_natCast, Nat.mul_comm i 72, Sem.run_pure]
theorem exec_ldD {a : Act} {o : Oper} {w : World} {x : Operand} (ho : o.op = .load 34 x) {b i : Nat} {R : Nat → Kp × Option Nat} {t c : Int} (hx : a.eval x = .pointer (some ⟨b, 2 + 72 * i, none⟩)) (hi : i < 3) (hg : SdAt w b R t c) : (execOp a.eval o).run Tryz.prog w = .ok (.value (.agg (SC 72 (dlR (R i))))) w := by
  have h := run_loadAt_mid (P := Tryz.prog) w b (2 + 72 * i) 34 (SC 72 (dlR (R i))).toList _ (hg.slot i hi) Tryz.underlying34 rfl (by rw [Array.length_toList, SC_size]; kernel_rfl)
  exact exec_ld ho hx h
theorem act_slotD {o : Oper} {a : Act} {w : World} {K : Act → World → Prop} {Q : Exit → Act → World → Prop} {x y : Operand} (ho : o.op = .store 34 x y) {b i : Nat} {R : Nat → Kp × Option Nat} {r : Kp × Option Nat} {t c : Int}
    (hx : a.eval x = .pointer (some ⟨b, 2 + 72 * i, none⟩)) (hy : a.eval y = .agg (SC 72 (dlR r))) (hi : i < 3) (hg : SdAt w b R t c) (h : ∀ w2, SdAt w2 b (setG R i r) t c → Only b w w2 → K (a.put o.dst undef) w2) : o.wp Tryz.prog a w K Q := by
  obtain ⟨h1, h2⟩ := hg.put i hi r
  exact wp_store_mid 34 x y ho b (2 + 72 * i) (SC 72 (dlR r)) hx hy (by rw [SC_size]; exact SAt.there hg (2 + 72 * i) 72 (by omega)) (by rw [SC_size]; kernel_rfl) (SC_one (dlR_one r)) (h _ h1 h2)
theorem run_dlZ (w : World) : (Instr.build 34 #[]).run Tryz.prog w = .ok (.agg (SC 72 (dlR rz))) w := by kernel_rfl
theorem exec_dlZ {a : Act} {o : Oper} {w : World} (ho : o.op = .build 34 #[]) : (execOp a.eval o).run Tryz.prog w = .ok (.value (.agg (SC 72 (dlR rz)))) w := by
  have h := run_dlZ w
  unfold execOp
  simp only [ho, List.map_toArray, List.map_nil, Sem.run_bind, h, Result.andThen_ok, Sem.run_pure]
theorem zeroDSlotV (w : World) : (zeroValue 34).run Tryz.prog w = .ok (.agg (SC 72 (dlR rz))) w := by kernel_rfl
/-- x := s.S[i]. -/
theorem wl_takeD {ops : Array Oper} {rest : List Oper} {d1 d2 : Option Tmp} {x y1 y2 : Operand} {t1 t2 t3 : TypeId} {p1 p2 p3 : String} {f1 f2 f3 : Array Edge} {a : Act} {w : World} {Q : Exit → Act → World → Prop} {b i : Nat} {R : Nat → Kp × Option Nat} {t c : Int}
    (hg : SdAt w b R t c) (hi : i < 3) (hx : a.eval x = .pointer (some ⟨b, 2 + 72 * i, none⟩)) (e1 : ∀ u v, ((a.put d1 u).put d2 v).eval y1 = v) (e2 : ∀ u v, ((a.put d1 u).put d2 v).eval y2 = u)
    (h : ∀ g w', w.heap.size ≤ g → SAt w' g 34 72 (dlR (R i)) → SdAt w' b R t c → Below w.heap.size w w' → wpList Tryz.prog ops Q rest (((a.put d1 (.agg (SC 72 (dlR (R i))))).put d2 (.pointer (some ⟨g, 0, none⟩))).put none undef) w') :
    wpList Tryz.prog ops Q ({ dst := d1, op := .load 34 x, type := t1, pos := p1, after := f1, guard := none } :: { dst := d2, op := .alloc 34, type := t2, pos := p2, after := f2, guard := none } :: { dst := none, op := .store 34 y1 y2, type := t3, pos := p3, after := f3, guard := none } :: rest) a w := by
  refine wl_value rfl (exec_ldD rfl hx hi hg) ?_
  refine wl_act rfl (act_alloc zeroDSlotV rfl (fun w' hb hz => ?_))
  refine st_st isDSlot (dlR_one _) hz (e1 _ _) (e2 _ _) (fun w2 h2 ho => ?_)
  have hlt := hg.lt
  exact h _ w2 (Nat.le_refl _) h2 ((hg.kept hb).only ho (by omega)) (hb.trans (ho.below (Nat.le_refl _)))
-- the document's windows
/-- A window of the document of size sz: it lies in the blocks S. -/
def WinR (w : World) (b : Nat) (sz : Int) (n : Nat) (s : Nat → Int) (S : Nat → Prop) : Prop := ∃ B v, WinD w B b sz L64 v n s ∧ b < B ∧ B ≤ w.heap.size ∧ S = (fun k => k = b ∨ v.ownBlock = some k)
theorem own_ltD {w : World} {B : Nat} {e : TypeId} {x : Value} {q : Nat} {xs : List Value} (h : w.ownsRow B e 1 x q xs) : ∀ k, x.ownBlock = some k → B ≤ k ∧ k < w.heap.size := fun k hk => by
  rcases h.2 with ⟨rfl, _⟩ | ⟨g, cap, cur, rfl, hb, hg, _⟩
  · cases hk
  · simp [Value.ownBlock] at hk
    have := heap_lt hg
    omega
theorem own_blockD {w w' : World} {B : Nat} {e : TypeId} {x : Value} {q : Nat} {xs : List Value} (h : w.ownsRow B e 1 x q xs) (hk : ∀ k, x.ownBlock = some k → w'.heap[k]? = w.heap[k]?) : w'.ownsRow B e 1 x q xs := by
  refine ⟨h.1, ?_⟩
  rcases h.2 with hn | ⟨g, cap, cur, rfl, hb, hg, rest⟩
  · exact .inl hn
  · exact .inr ⟨g, cap, cur, rfl, hb, (hk g rfl).trans hg, rest⟩
section
variable {w w' : World} {b n : Nat} {sz : Int} {s : Nat → Int} {S : Nat → Prop}
theorem lt_winR (h : WinR w b sz n s S) : ∀ k, S k → k < w.heap.size := by
  obtain ⟨B, v, h1, h2, h3, rfl⟩ := h
  rintro k (rfl | hk)
  · exact h1.lt
  · exact (own_ltD h1.row k hk).2
theorem kept_winR (h : WinR w b sz n s S) (hz : w.heap.size ≤ w'.heap.size) (hb : ∀ k, S k → w'.heap[k]? = w.heap[k]?) : WinR w' b sz n s S := by
  obtain ⟨B, v, h1, h2, h3, rfl⟩ := h
  exact ⟨B, v, ⟨(hb b (.inl rfl)).trans h1.blk, own_blockD h1.row (fun k hk => hb k (.inr hk))⟩, h2, Nat.le_trans h3 hz, rfl⟩
theorem winR_self (h : WinR w b sz n s S) : S b := by
  obtain ⟨B, v, h1, h2, h3, rfl⟩ := h
  exact .inl rfl
theorem winR_below (h : WinR w b sz n s S) (hb : Below w.heap.size w w') : WinR w' b sz n s S := kept_winR h hb.size (fun k hk => hb.block k (lt_winR h k hk))
theorem nums_u (hN : Nums L64 n s) : ∀ i, i < n → U64 (s i) := fun i hi => by have := hN.1 i hi; unfold L64 at this; unfold U64; omega
theorem freshR (c : Int) (h : WinR w b 8192 n s S) (hN : Nums L64 n s) (hn : n < 10000) (hc : U64 c) : Calls Tryz.prog 48 #[.pointer (some ⟨b, 0, none⟩), .int .u64 c] w fun e w' => e = .returned (.bool (freshD L64 8192 n s c)) ∧ Below w.heap.size w w' := by
  obtain ⟨B, v, h1, h2, h3, rfl⟩ := h
  exact rFresh_run c (by omega) ⟨by omega, by omega⟩ (nums_u hN) hc h1
theorem takeR (c : Int) (h : WinR w b 8192 n s S) (hN : Nums L64 n s) (hn : n < 10000) (hc : U64 c) (hf : freshD L64 8192 n s c = true) : Calls Tryz.prog 50 #[.pointer (some ⟨b, 0, none⟩), .int .u64 c] w fun e w' => e = .returned (.bool true) ∧ ∃ S', WinR w' b 8192 (n + 1) (cat n s (fun _ => c)) S' ∧ Touch S w w' ∧ ∀ k, S' k → S k ∨ w.heap.size ≤ k := by
  obtain ⟨B, v, h1, h2, h3, rfl⟩ := h
  refine (rTake_yes c (by omega) ⟨by omega, by omega⟩ (nums_u hN) hc h1 h2 h3 hf).mono ?_
  rintro e w' ⟨rfl, v', q1, q2, q3⟩
  refine ⟨rfl, _, ⟨B, v', q1, h2, Nat.le_trans h3 q2.size, rfl⟩, q2, fun k hk => ?_⟩
  rcases hk with rfl | hk
  · exact .inl (.inl rfl)
  · exact (q3 k hk).imp .inr id
theorem topR (h : WinR w b sz n s S) (hN : Nums L64 n s) (hn : n < 10000) : Calls Tryz.prog 51 #[.pointer (some ⟨b, 0, none⟩)] w fun e w' => e = .returned (.int .u64 (topF s n)) ∧ Below w.heap.size w w' := by
  obtain ⟨B, v, h1, h2, h3, rfl⟩ := h
  refine (rTop_run (by omega) hN.1 h1).mono ?_
  rintro e w' ⟨rfl, rfl⟩
  exact ⟨rfl, Below.refl _ _⟩
end
end Go.Proofs.YtbkbcfimpaolmaaGreat
/-
  Own text. The document's session with the windows of its slots.
-/
namespace Go.Proofs.YtbkbcfimpaolmaaGreat
open Go.RowKit Go.Proofs
set_option maxRecDepth 100000
/-- A new window of the document, at B or above. -/
def NewR (B : Nat) (g : Nat) (w : World) : Prop := ∃ S, WinR w g 8192 0 (fun _ => 0) S ∧ ∀ k, S k → B ≤ k
structure WinsD (w : World) (b n : Nat) (R : Nat → Kp × Option Nat) (U : Nat → Nat → Prop) : Prop where
  no : ∀ i, i < n → (R i).1.ep = 0 → R i = rz
  yes : ∀ i, i < n → (R i).1.ep ≠ 0 → ∃ g, (R i).2 = some g ∧ WinR w g 8192 (R i).1.n (R i).1.s (U g) ∧ ¬ U g b
  ap : ∀ i j g g', i < n → j < n → i ≠ j → (R i).1.ep ≠ 0 → (R j).1.ep ≠ 0 → (R i).2 = some g → (R j).2 = some g' → ∀ k, U g k → ¬ U g' k
def WinSD (b n : Nat) (R : Nat → Kp × Option Nat) (U : Nat → Nat → Prop) (k : Nat) : Prop := k = b ∨ ∃ i g, i < n ∧ (R i).1.ep ≠ 0 ∧ (R i).2 = some g ∧ U g k
/-- A session of the program in memory: it lies in the blocks S. -/
def SesD (w : World) (b : Nat) (σ : Ses) (S : Nat → Prop) : Prop := ∃ R U, SdAt w b R σ.t σ.c ∧ WinsD w b 3 R U ∧ (fun i => (R i).1) = σ.K ∧ S = WinSD b 3 R U
section
variable {w w' : World} {b n : Nat} {R : Nat → Kp × Option Nat} {U : Nat → Nat → Prop}
theorem WinsD.lt (h : WinsD w b n R U) (hb : b < w.heap.size) : ∀ k, WinSD b n R U k → k < w.heap.size := by
  rintro k (rfl | ⟨i, g, hi, he, hg, hk⟩)
  · exact hb
  · obtain ⟨g', e, hW, _⟩ := h.yes i hi he
    rw [hg] at e
    obtain rfl := Option.some.inj e
    exact lt_winR hW k hk
theorem WinsD.same (h : WinsD w b n R U) (hz : w.heap.size ≤ w'.heap.size) (hb : ∀ k, WinSD b n R U k → k ≠ b → w'.heap[k]? = w.heap[k]?) : WinsD w' b n R U := by
  refine ⟨h.no, fun i hi he => ?_, h.ap⟩
  obtain ⟨g, hg, hW, hn⟩ := h.yes i hi he
  exact ⟨g, hg, kept_winR hW hz (fun k hk => hb k (.inr ⟨i, g, hi, he, hg, hk⟩) (fun e => hn (e ▸ hk))), hn⟩
theorem WinsD.below (h : WinsD w b n R U) (hb : Below w.heap.size w w') : WinsD w' b n R U := by
  refine ⟨h.no, fun i hi he => ?_, h.ap⟩
  obtain ⟨g, hg, hW, hn⟩ := h.yes i hi he
  exact ⟨g, hg, winR_below hW hb, hn⟩
theorem WinsD.tou (h : WinsD w b n R U) (ht : Touch (fun x => x = b) w w') : WinsD w' b n R U := by
  refine ⟨h.no, fun i hi he => ?_, h.ap⟩
  obtain ⟨g, hg, hW, hn⟩ := h.yes i hi he
  exact ⟨g, hg, kept_winR hW ht.size (fun k hk => ht.block k (lt_winR hW k hk) (fun e => hn (e ▸ hk))), hn⟩
/-- Slots change their places (src: where each was). -/
theorem WinsD.move {m : Nat} {R' : Nat → Kp × Option Nat} (h : WinsD w b n R U) (src : Nat → Nat) (hz : ∀ i, i < m → (R' i).1.ep = 0 → R' i = rz)
    (hs : ∀ i, i < m → (R' i).1.ep ≠ 0 → src i < n ∧ (R' i).1.ep = (R (src i)).1.ep ∧ (R' i).1.n = (R (src i)).1.n ∧ (R' i).1.s = (R (src i)).1.s ∧ (R' i).2 = (R (src i)).2)
    (hi : ∀ i j, i < m → j < m → i ≠ j → (R' i).1.ep ≠ 0 → (R' j).1.ep ≠ 0 → src i ≠ src j) : WinsD w b m R' U ∧ ∀ k, WinSD b m R' U k → WinSD b n R U k := by
  refine ⟨⟨hz, fun i him he => ?_, fun i j g g' him hjm hij he hf hg hg' => ?_⟩, ?_⟩
  · obtain ⟨h1, h2, h3, h4, h5⟩ := hs i him he
    rw [h3, h4, h5]
    exact h.yes _ h1 (h2 ▸ he)
  · obtain ⟨h1, h2, _, _, h5⟩ := hs i him he
    obtain ⟨k1, k2, _, _, k5⟩ := hs j hjm hf
    exact h.ap (src i) (src j) g g' h1 k1 (hi i j him hjm hij he hf) (h2 ▸ he) (k2 ▸ hf) (h5 ▸ hg) (k5 ▸ hg')
  · rintro k (rfl | ⟨i, g, him, he, hg, hk⟩)
    · exact .inl rfl
    · obtain ⟨h1, h2, _, _, h5⟩ := hs i him he
      exact .inr ⟨src i, g, h1, h2 ▸ he, h5 ▸ hg, hk⟩
/-- A new window. -/
theorem WinsD.push {g : Nat} {k0 : Kp} (h : WinsD w b 3 R U) (hb : b < w.heap.size) (hn : NewR w.heap.size g w') (hB : Below w.heap.size w w') (hk0 : k0.ep ≠ 0) (h0 : k0.n = 0) (hs : k0.s = fun _ => 0) :
    ∃ U', WinsD w' b 4 (setG R 3 (k0, some g)) U' ∧ ∀ k, WinSD b 4 (setG R 3 (k0, some g)) U' k → WinSD b 3 R U k ∨ w.heap.size ≤ k := by
  obtain ⟨S, hW, hS⟩ := hn
  have hgl : w.heap.size ≤ g := hS g (winR_self hW)
  have hne : ∀ i g', i < 3 → (R i).1.ep ≠ 0 → (R i).2 = some g' → g' ≠ g := fun i g' hi he hg => by
    obtain ⟨g2, e, hW2, _⟩ := h.yes i hi he
    rw [hg] at e
    obtain rfl := Option.some.inj e
    have := lt_winR hW2 _ (winR_self hW2)
    omega
  have hlt : ∀ i g' k, i < 3 → (R i).1.ep ≠ 0 → (R i).2 = some g' → U g' k → k < w.heap.size := fun i g' k hi he hg hk => h.lt hb k (.inr ⟨i, g', hi, he, hg, hk⟩)
  have e3 : setG R 3 (k0, some g) 3 = (k0, some g) := by unfold setG; rw [if_pos rfl]
  have ei : ∀ i, i < 3 → setG R 3 (k0, some g) i = R i := fun i hi => by unfold setG; rw [if_neg (by omega)]
  refine ⟨fun x => if x = g then S else U x, ⟨fun i hi he => ?_, fun i hi he => ?_, fun i j g1 g2 hi hj hij he hf hg1 hg2 k hk => ?_⟩, ?_⟩
  · by_cases h3 : i < 3
    · rw [ei i h3] at he ⊢; exact h.no i h3 he
    · obtain rfl : i = 3 := by omega
      rw [e3] at he
      exact absurd he hk0
  · by_cases h3 : i < 3
    · rw [ei i h3] at he ⊢
      obtain ⟨g', hg', hW', hn'⟩ := h.yes i h3 he
      refine ⟨g', hg', ?_, ?_⟩
      · simp only [if_neg (hne i g' h3 he hg')]
        exact winR_below hW' hB
      · simp only [if_neg (hne i g' h3 he hg')]
        exact hn'
    · obtain rfl : i = 3 := by omega
      rw [e3]
      refine ⟨g, rfl, ?_, ?_⟩
      · simp only [if_pos, h0, hs]
        exact hW
      · simp only [if_pos]
        exact fun hh => by have := hS b hh; omega
  · by_cases h3 : i < 3
    · rw [ei i h3] at he hg1
      have n1 := hne i g1 h3 he hg1
      simp only [if_neg n1] at hk
      by_cases h4 : j < 3
      · rw [ei j h4] at hf hg2
        have n2 := hne j g2 h4 hf hg2
        simp only [if_neg n2]
        exact h.ap i j g1 g2 h3 h4 hij he hf hg1 hg2 k hk
      · obtain rfl : j = 3 := by omega
        rw [e3] at hg2
        obtain rfl := Option.some.inj hg2
        simp only [if_pos]
        exact fun hh => by have := hS k hh; have := hlt i g1 k h3 he hg1 hk; omega
    · obtain rfl : i = 3 := by omega
      rw [e3] at hg1
      obtain rfl := Option.some.inj hg1
      simp only [if_pos] at hk
      have h4 : j < 3 := by omega
      rw [ei j h4] at hf hg2
      have n2 := hne j g2 h4 hf hg2
      simp only [if_neg n2]
      exact fun hh => by have := hS k hk; have := hlt j g2 k h4 hf hg2 hh; omega
  · rintro k (rfl | ⟨i, g1, hi, he, hg, hk⟩)
    · exact .inl (.inl rfl)
    · by_cases h3 : i < 3
      · rw [ei i h3] at he hg
        simp only [if_neg (hne i g1 h3 he hg)] at hk
        exact .inl (.inr ⟨i, g1, h3, he, hg, hk⟩)
      · obtain rfl : i = 3 := by omega
        rw [e3] at hg
        obtain rfl := Option.some.inj hg
        simp only [if_pos] at hk
        exact .inr (hS k hk)
/-- A counter came, in the window of slot i. -/
theorem WinsD.took {i g : Nat} {c : Int} {S' : Nat → Prop} (h : WinsD w b 3 R U) (hb : b < w.heap.size) (hi : i < 3) (he : (R i).1.ep ≠ 0) (hg : (R i).2 = some g) (hW : WinR w' g 8192 ((R i).1.n + 1) (cat (R i).1.n (R i).1.s (fun _ => c)) S') (hT : Touch (U g) w w') (hS : ∀ k, S' k → U g k ∨ w.heap.size ≤ k) :
    ∃ U', WinsD w' b 3 (setG R i (kpTook (R i).1 c, some g)) U' ∧ (∀ k, WinSD b 3 (setG R i (kpTook (R i).1 c, some g)) U' k → WinSD b 3 R U k ∨ w.heap.size ≤ k) := by
  have ee : setG R i (kpTook (R i).1 c, some g) i = (kpTook (R i).1 c, some g) := by unfold setG; rw [if_pos rfl]
  have ej : ∀ j, j ≠ i → setG R i (kpTook (R i).1 c, some g) j = R j := fun j hj => by unfold setG; rw [if_neg hj]
  obtain ⟨g0, e0, hW0, hn0⟩ := h.yes i hi he
  rw [hg] at e0
  obtain rfl := Option.some.inj e0
  have hself : U g g := winR_self hW0
  have hne : ∀ j g', j < 3 → j ≠ i → (R j).1.ep ≠ 0 → (R j).2 = some g' → g' ≠ g := fun j g' hj hji hje hjg e => by
    subst e
    exact h.ap i j _ _ hi hj (Ne.symm hji) he hje hg hjg _ hself hself
  have hlt : ∀ j g' k, j < 3 → (R j).1.ep ≠ 0 → (R j).2 = some g' → U g' k → k < w.heap.size := fun j g' k hj he hg hk => h.lt hb k (.inr ⟨j, g', hj, he, hg, hk⟩)
  refine ⟨fun x => if x = g then S' else U x, ⟨fun j hj hje => ?_, fun j hj hje => ?_, fun j l g1 g2 hj hl hjl hje hle hg1 hg2 k hk => ?_⟩, ?_⟩
  · by_cases hji : j = i
    · subst hji; rw [ee] at hje; exact absurd hje he
    · rw [ej j hji] at hje ⊢; exact h.no j hj hje
  · by_cases hji : j = i
    · subst hji
      rw [ee]
      refine ⟨g, rfl, ?_, ?_⟩
      · simp only [if_pos]; exact hW
      · simp only [if_pos]; exact fun hh => (hS b hh).elim hn0 (fun h => by omega)
    · rw [ej j hji] at hje ⊢
      obtain ⟨g', hg', hW', hn'⟩ := h.yes j hj hje
      refine ⟨g', hg', ?_, ?_⟩
      · simp only [if_neg (hne j g' hj hji hje hg')]
        exact kept_winR hW' hT.size (fun k hk => hT.block k (lt_winR hW' k hk) (fun hh => h.ap i j g g' hi hj (Ne.symm hji) he hje hg hg' k hh hk))
      · simp only [if_neg (hne j g' hj hji hje hg')]
        exact hn'
  · by_cases hji : j = i
    · subst hji
      rw [ee] at hg1
      obtain rfl := Option.some.inj hg1
      simp only [if_pos] at hk
      have hli : l ≠ j := Ne.symm hjl
      rw [ej l hli] at hle hg2
      simp only [if_neg (hne l g2 hl hli hle hg2)]
      exact fun hh => (hS k hk).elim (fun hu => h.ap j l g g2 hj hl hjl he hle hg hg2 k hu hh) (fun hz => by have := hlt l g2 k hl hle hg2 hh; omega)
    · rw [ej j hji] at hje hg1
      simp only [if_neg (hne j g1 hj hji hje hg1)] at hk
      by_cases hli : l = i
      · subst hli
        rw [ee] at hg2
        obtain rfl := Option.some.inj hg2
        simp only [if_pos]
        exact fun hh => (hS k hh).elim (fun hu => h.ap l j g g1 hl hj (Ne.symm hji) he hje hg hg1 k hu hk) (fun hz => by have := hlt j g1 k hj hje hg1 hk; omega)
      · rw [ej l hli] at hle hg2
        simp only [if_neg (hne l g2 hl hli hle hg2)]
        exact h.ap j l g1 g2 hj hl hjl hje hle hg1 hg2 k hk
  · rintro k (rfl | ⟨j, g1, hj, hje, hg1, hk⟩)
    · exact .inl (.inl rfl)
    · by_cases hji : j = i
      · subst hji
        rw [ee] at hg1
        obtain rfl := Option.some.inj hg1
        simp only [if_pos] at hk
        exact (hS k hk).imp (fun hu => .inr ⟨j, g, hj, he, hg, hu⟩) id
      · rw [ej j hji] at hje hg1
        simp only [if_neg (hne j g1 hj hji hje hg1)] at hk
        exact .inl (.inr ⟨j, g1, hj, hje, hg1, hk⟩)
end
end Go.Proofs.YtbkbcfimpaolmaaGreat
/-
  Own text. The document's session: goes, old.
-/
namespace Go.Proofs.YtbkbcfimpaolmaaGreat
open Go.RowKit Go.Proofs
set_option maxRecDepth 100000
set_option maxHeartbeats 1000000 in
theorem goes_run {w : World} {b : Nat} {R : Nat → Kp × Option Nat} {t c : Int} (now : Int) (h : SdAt w b R t c) : Calls Tryz.prog 37 #[.pointer (some ⟨b, 0, none⟩), .int .i64 now] w fun e w' => e = .returned (.tuple #[]) ∧ SdAt w' b R (max t now) c ∧ Only b w w' := by
  have c1 := h.time
  have f1 : w.frozen? ⟨b, 0, none⟩ = false := frozen_of_row w b 0 _ _ h
  by_cases hn : t < now
  · have HT : Hid (SdAt (w.setCell ⟨b, 0, none⟩ (.int .i64 now)) b R (max t now) c ∧ Only b w (w.setCell ⟨b, 0, none⟩ (.int .i64 now))) := Hid.mk ⟨by rw [show max t now = now by omega]; exact h.tell now, (Only.refl b w).setCell 0 (.int .i64 now)⟩
    clear h
    go_enter Tryz.func37, Tryz.ntmps37
    go_wp2_with fail
    exact bodyPost_end (results_none rfl _ _ _) rfl ⟨rfl, HT.out.1, HT.out.2⟩
  · have HT : Hid (SdAt w b R (max t now) c) := Hid.mk (by rw [show max t now = t by omega]; exact h)
    have hd : decide (t < now) = false := decide_eq_false hn
    clear h
    go_enter Tryz.func37, Tryz.ntmps37
    go_wp2_with fail
    exact bodyPost_end (results_none rfl _ _ _) rfl ⟨rfl, HT.out, Only.refl _ _⟩
set_option maxHeartbeats 2000000 in
theorem rold_run {w : World} {b : Nat} {R : Nat → Kp × Option Nat} {t c : Int} (i : Nat) (hi : i < 3) (h : SdAt w b R t c) (h0 : 0 ≤ (R i).1.born) (h1 : (R i).1.born ≤ t) (h2 : t ≤ 9223372036854775807) : Calls Tryz.prog 38 #[.pointer (some ⟨b, 0, none⟩), .int .i64 (i : Int)] w fun e w' => e = .returned (.bool (oldF t (R i).1)) ∧ ∃ n, w' = w.drewN n := by
  have c1 := h.time
  have c2 : w.cell? ⟨b, 2 + i * 72 + 69, none⟩ = some (.int .i64 (R i).1.born) := by have := h.cell i 69 hi (by omega); rw [show 2 + i * 72 + 69 = 2 + 72 * i + 69 by omega]; exact this
  have hi0 : (0 : Int) ≤ (i : Int) := by omega
  have hi3 : (i : Int) < 3 := by omega
  have hw : IntKind.i64.wrap (t - (R i).1.born) = t - (R i).1.born := by rw [IntKind.wrap_i64]; omega
  go_enter Tryz.func38, Tryz.ntmps38
  go_wp2_with fail
  go_quiet (fail)
  go_wp2_with fail
  go_ret
  exact ⟨rfl, _, rfl⟩
end Go.Proofs.YtbkbcfimpaolmaaGreat
/-
  Own text. The document's session: Close, Expire.
-/
namespace Go.Proofs.YtbkbcfimpaolmaaGreat
open Go.RowKit Go.Proofs
set_option maxRecDepth 100000
set_option maxHeartbeats 8000000 in
theorem rcloseR {w : World} {b : Nat} {R : Nat → Kp × Option Nat} {t c : Int} (h : SdAt w b R t c) : Calls Tryz.prog 20 #[.pointer (some ⟨b, 0, none⟩)] w fun e w' => ∃ vo, e = .returned vo ∧ w'.ownsRow w.heap.size 28 1 vo (dropL (fun _ => true) (fun i => (R i).1) 3).length (u32X (dropL (fun _ => true) (fun i => (R i).1) 3)) ∧ SdAt w' b (dropR (fun _ => true) R 3) (t) c ∧ Touch (fun x => x = b) w w' := by
  have HL : Hid (∀ n, dropL (fun _ => true) (fun i => (R i).1) (n + 1) = dropL (fun _ => true) (fun i => (R i).1) n ++ (if goesF (fun _ => true) (R n).1 = true then [(R n).1.loc] else [])) := Hid.mk (fun n => rfl)
  have HN := Hid.mk (dropL_len (fun _ => true) (fun i => (R i).1))
  have H0 : Hid (dropL (fun _ => true) (fun i => (R i).1) 0 = []) := Hid.mk rfl
  have H1 : Hid (dropR (fun _ => true) R 0 = R) := Hid.mk (by funext i; unfold dropR; rw [if_neg (by omega)])
  have HSelf := Hid.mk (fun k => dropR_self (p := fun _ => true) (R := R) k)
  have HNo := Hid.mk (fun k => dropR_no (p := fun _ => true) (R := R) (k := k))
  have HYes := Hid.mk (fun k => dropR_yes (p := fun _ => true) (R := R) (k := k))
  have HGF : Hid (∀ k, goesF (fun _ => true) (R k).1 = (!decide ((R k).1.ep = 0) && (fun _ => true) (R k).1)) := Hid.mk (fun k => rfl)
  have hlt := h.lt
  generalize dropL (fun _ => true) (fun i => (R i).1) = L at *
  generalize dropR (fun _ => true) R = DR at *
  go_enter Tryz.func20, Tryz.ntmps20
  have hT0 : Touch (fun x => x = b) w w := Touch.refl _ _
  go_wp2_with fail
  go_loopg [3, 4] (3 : Nat) (fun gm s5 s8 v => ∃ k : Nat, gm = 3 - k ∧ k ≤ 3 ∧ s8 = .int .i64 (k : Int) ∧ Hid (v.ownsRow w.heap.size 28 1 s5 (L k).length (u32X (L k)) ∧ SdAt v b (DR k) (t) c ∧ Touch (fun x => x = b) w v))
  case atStart => exact ⟨0, rfl, by omega, rfl, Hid.mk ⟨by rw [H0.out]; exact World.ownsRow_nil _ _ _ 1, by rw [H1.out]; exact h, hT0⟩⟩
  case round =>
    obtain ⟨k, hgm, hk, rfl, HI⟩ := hrel
    clear h hT0
    by_cases hlt3 : k < 3
    · have h2 := HI.out.2.1
      have HO2 := Hid.mk HI.out.1
      have hT2 := HI.out.2.2
      clear HI
      have hk0 : (0 : Int) ≤ (k : Int) := by omega
      have hk3 : (k : Int) < 3 := by omega
      have ct : wr.cell? ⟨b, 2 + k * 72, none⟩ = some (.bool (!decide ((R k).1.ep = 0))) := by have := h2.cell k 0 hlt3 (by omega); rw [HSelf.out k, show 2 + 72 * k + 0 = 2 + k * 72 by omega] at this; exact this
      by_cases he : (R k).1.ep = 0
      · have hgo : goesF (fun _ => true) (R k).1 = false := by rw [HGF.out k, he]; rfl
        have HE : Hid (L (k + 1) = L k) := Hid.mk (by rw [HL.out k, hgo]; simp)
        have HF : Hid (DR (k + 1) = DR k) := Hid.mk (HNo.out k hgo)
        have HX := Hid.mk (And.intro HO2.out (And.intro h2 hT2))
        rw [show (!decide ((R k).1.ep = 0)) = false by rw [he]; rfl] at ct
        clear hgo h2 HO2 hT2 he
        go_wp2_with fail
        go_roundg (3 - (k + 1))
        case rel => exact ⟨k + 1, rfl, by omega, by go_num, Hid.mk (by rw [HE.out, HF.out]; exact HX.out)⟩
        case measure => omega
      rw [show (!decide ((R k).1.ep = 0)) = true by simp [he]] at ct
      have HO3 := Hid.mk HO2.out
      have h3 := h2
      have hT3 := hT2
      obtain ⟨u3, hu3⟩ : ∃ u3, u3 = wr := ⟨_, rfl⟩
      rw [← hu3] at h3 HO3 hT3 ct
      rw [← hu3]
      clear h2 HO2 hT2 hu3
      have hgo : goesF (fun _ => true) (R k).1 = true := by rw [HGF.out k]; simp [he]
      have HE : Hid (L (k + 1) = L k ++ [(R k).1.loc]) := Hid.mk (by rw [HL.out k, if_pos hgo])
      have HF : Hid (DR (k + 1) = setG (DR k) k rz) := Hid.mk (HYes.out k hgo)
      have c3 : u3.cell? ⟨b, 2 + k * 72 + 1 + 64, none⟩ = some (.int .u32 (R k).1.loc) := by have := h3.cell k 65 hlt3 (by omega); rw [HSelf.out k, show 2 + 72 * k + 65 = 2 + k * 72 + 1 + 64 by omega] at this; exact this
      have hlen := HN.out k
      clear hgo he
      have hsz : w.heap.size ≤ u3.heap.size := hT3.size
      have hb2 := (Below.refl u3.heap.size u3).alloc (Nat.le_refl _) (.cells #[.int .u32 (R k).1.loc] 28)
      have hO4 := own_kept HO3.out hb2
      have h4 := h3.kept hb2
      have hT4 := touch_tr hT3 (touch_of_below hb2)
      have hsz4 := hT4.size
      clear HO3 h3 hT3 hb2
      go_wp2_with (at_builtin; refine ap_own rfl _ _ 61 28 .u32 4 Tryz.underlying61 infoU32s (by decide) (by rfl) (n := (L k).length) (m := 1) (by rfl) hO4 (by rfl) (r := fun _ => (R k).1.loc) (fun j hj => by obtain rfl : j = 0 := (by omega); exact cell_of_row _ _ 0 _ _ _ (heap_alloc_new u3 _)) (by omega) hsz4 ?_; intro va u5 hO5 hB5; refine Hid.out ?_)
      refine Hid.mk ?_
      rw [u32X_one] at hO5
      have h5 : SdAt u5 b (DR k) (t) c := h4.below hB5 hlt
      have hT5 : Touch (fun x => x = b) w u5 := ⟨hB5.os.trans hT4.os, hB5.tape.trans hT4.tape, hB5.output.trans hT4.output, Nat.le_trans hT4.size hB5.size, fun i hi hn => (hB5.block i hi).trans (hT4.block i hi hn)⟩
      clear hO4 h4 hT4 hB5 c3
      go_wp2_with (first | (refine wl_value rfl (exec_dlZ rfl) ?_) | (refine wl_value rfl (exec_ixD rfl (by rfl) (by rfl) hlt3) ?_) | (refine wl_act rfl (act_slotD rfl (by rfl) (by rfl) hlt3 h5 ?_); intro u6 h6 o6; refine Hid.out ?_))
      refine Hid.mk ?_
      have HX : Hid (u6.ownsRow w.heap.size 28 1 va (L (k + 1)).length (u32X (L (k + 1))) ∧ SdAt u6 b (DR (k + 1)) (t) c ∧ Touch (fun x => x = b) w u6) := Hid.mk ⟨by rw [HE.out, List.length_append]; exact own_tou hO5 o6 hlt, by rw [HF.out]; exact h6, touch_tr hT5 (touch_only o6)⟩
      clear hO5 h5 hT5 h6 o6 HE HF
      go_wp2_with fail
      go_roundg (3 - (k + 1))
      case rel => exact ⟨k + 1, rfl, by omega, by go_num, HX⟩
      case measure => omega
    · obtain rfl : k = 3 := by omega
      go_wp2_with fail
      go_ret
      exact ⟨_, rfl, HI.out.1, HI.out.2.1, HI.out.2.2⟩
set_option maxHeartbeats 8000000 in
theorem rexpireR {w : World} {b : Nat} {R : Nat → Kp × Option Nat} {t c : Int} (now : Int) (h : SdAt w b R t c) (HBO : Hid (∀ i, i < 3 → (R i).1.ep ≠ 0 → 0 ≤ (R i).1.born ∧ (R i).1.born ≤ max t now)) (hm : max t now ≤ 9223372036854775807) : Calls Tryz.prog 18 #[.pointer (some ⟨b, 0, none⟩), .int .i64 now] w fun e w' => ∃ vo, e = .returned vo ∧ w'.ownsRow w.heap.size 28 1 vo (dropL (oldF (max t now)) (fun i => (R i).1) 3).length (u32X (dropL (oldF (max t now)) (fun i => (R i).1) 3)) ∧ SdAt w' b (dropR (oldF (max t now)) R 3) (max t now) c ∧ Touch (fun x => x = b) w w' := by
  have HL : Hid (∀ n, dropL (oldF (max t now)) (fun i => (R i).1) (n + 1) = dropL (oldF (max t now)) (fun i => (R i).1) n ++ (if goesF (oldF (max t now)) (R n).1 = true then [(R n).1.loc] else [])) := Hid.mk (fun n => rfl)
  have HN := Hid.mk (dropL_len (oldF (max t now)) (fun i => (R i).1))
  have H0 : Hid (dropL (oldF (max t now)) (fun i => (R i).1) 0 = []) := Hid.mk rfl
  have H1 : Hid (dropR (oldF (max t now)) R 0 = R) := Hid.mk (by funext i; unfold dropR; rw [if_neg (by omega)])
  have HSelf := Hid.mk (fun k => dropR_self (p := oldF (max t now)) (R := R) k)
  have HNo := Hid.mk (fun k => dropR_no (p := oldF (max t now)) (R := R) (k := k))
  have HYes := Hid.mk (fun k => dropR_yes (p := oldF (max t now)) (R := R) (k := k))
  have HGF : Hid (∀ k, goesF (oldF (max t now)) (R k).1 = (!decide ((R k).1.ep = 0) && (oldF (max t now)) (R k).1)) := Hid.mk (fun k => rfl)
  have hlt := h.lt
  generalize dropL (oldF (max t now)) (fun i => (R i).1) = L at *
  generalize dropR (oldF (max t now)) R = DR at *
  go_enter Tryz.func18, Tryz.ntmps18
  go_wp2_with fail
  refine (goes_run now h).mono ?_
  rintro e w1 ⟨rfl, h1, o1⟩
  have hT0 : Touch (fun x => x = b) w w1 := touch_only o1
  clear h o1
  have h := h1
  clear h1
  go_wp2_with fail
  go_loopg [5, 6] (3 : Nat) (fun gm s5 s8 v => ∃ k : Nat, gm = 3 - k ∧ k ≤ 3 ∧ s8 = .int .i64 (k : Int) ∧ Hid (v.ownsRow w.heap.size 28 1 s5 (L k).length (u32X (L k)) ∧ SdAt v b (DR k) (max t now) c ∧ Touch (fun x => x = b) w v))
  case atStart => exact ⟨0, rfl, by omega, rfl, Hid.mk ⟨by rw [H0.out]; exact World.ownsRow_nil _ _ _ 1, by rw [H1.out]; exact h, hT0⟩⟩
  case round =>
    obtain ⟨k, hgm, hk, rfl, HI⟩ := hrel
    clear h hT0
    by_cases hlt3 : k < 3
    · have h2 := HI.out.2.1
      have HO2 := Hid.mk HI.out.1
      have hT2 := HI.out.2.2
      clear HI
      have hk0 : (0 : Int) ≤ (k : Int) := by omega
      have hk3 : (k : Int) < 3 := by omega
      have ct : wr.cell? ⟨b, 2 + k * 72, none⟩ = some (.bool (!decide ((R k).1.ep = 0))) := by have := h2.cell k 0 hlt3 (by omega); rw [HSelf.out k, show 2 + 72 * k + 0 = 2 + k * 72 by omega] at this; exact this
      by_cases he : (R k).1.ep = 0
      · have hgo : goesF (oldF (max t now)) (R k).1 = false := by rw [HGF.out k, he]; rfl
        have HE : Hid (L (k + 1) = L k) := Hid.mk (by rw [HL.out k, hgo]; simp)
        have HF : Hid (DR (k + 1) = DR k) := Hid.mk (HNo.out k hgo)
        have HX := Hid.mk (And.intro HO2.out (And.intro h2 hT2))
        rw [show (!decide ((R k).1.ep = 0)) = false by rw [he]; rfl] at ct
        clear hgo h2 HO2 hT2 he
        go_wp2_with fail
        go_roundg (3 - (k + 1))
        case rel => exact ⟨k + 1, rfl, by omega, by go_num, Hid.mk (by rw [HE.out, HF.out]; exact HX.out)⟩
        case measure => omega
      rw [show (!decide ((R k).1.ep = 0)) = true by simp [he]] at ct
      have hbk := HBO.out k hlt3 he
      have HR0 := Hid.mk (rold_run k hlt3 h2 (by rw [HSelf.out k]; exact hbk.1) (by rw [HSelf.out k]; exact hbk.2) hm)
      rw [HSelf.out k] at HR0
      go_wp2_with fail
      refine HR0.out.mono ?_
      rintro e u3 ⟨rfl, nq, hu3⟩
      have hB3 : Below wr.heap.size wr u3 := by rw [hu3]; exact below_drewN (Below.refl _ _) nq
      clear hu3
      have HO3 := Hid.mk (own_kept HO2.out hB3)
      have h3 := h2.kept hB3
      have hT3 := touch_tr hT2 (touch_of_below hB3)
      clear h2 HO2 hT2 hB3 ct HR0
      cases hold : oldF (max t now) (R k).1
      · have hgo : goesF (oldF (max t now)) (R k).1 = false := by rw [HGF.out k, hold]; simp
        have HE : Hid (L (k + 1) = L k) := Hid.mk (by rw [HL.out k, hgo]; simp)
        have HF : Hid (DR (k + 1) = DR k) := Hid.mk (HNo.out k hgo)
        have HX := Hid.mk (And.intro HO3.out (And.intro h3 hT3))
        clear hgo h3 HO3 hT3
        go_wp2_with fail
        go_roundg (3 - (k + 1))
        case rel => exact ⟨k + 1, rfl, by omega, by go_num, Hid.mk (by rw [HE.out, HF.out]; exact HX.out)⟩
        case measure => omega
      have hgo : goesF (oldF (max t now)) (R k).1 = true := by rw [HGF.out k]; simp [he, hold]
      have HE : Hid (L (k + 1) = L k ++ [(R k).1.loc]) := Hid.mk (by rw [HL.out k, if_pos hgo])
      have HF : Hid (DR (k + 1) = setG (DR k) k rz) := Hid.mk (HYes.out k hgo)
      have c3 : u3.cell? ⟨b, 2 + k * 72 + 1 + 64, none⟩ = some (.int .u32 (R k).1.loc) := by have := h3.cell k 65 hlt3 (by omega); rw [HSelf.out k, show 2 + 72 * k + 65 = 2 + k * 72 + 1 + 64 by omega] at this; exact this
      have hlen := HN.out k
      clear hgo he
      have hsz : w.heap.size ≤ u3.heap.size := hT3.size
      have hb2 := (Below.refl u3.heap.size u3).alloc (Nat.le_refl _) (.cells #[.int .u32 (R k).1.loc] 28)
      have hO4 := own_kept HO3.out hb2
      have h4 := h3.kept hb2
      have hT4 := touch_tr hT3 (touch_of_below hb2)
      have hsz4 := hT4.size
      clear HO3 h3 hT3 hb2
      go_wp2_with (at_builtin; refine ap_own rfl _ _ 61 28 .u32 4 Tryz.underlying61 infoU32s (by decide) (by rfl) (n := (L k).length) (m := 1) (by rfl) hO4 (by rfl) (r := fun _ => (R k).1.loc) (fun j hj => by obtain rfl : j = 0 := (by omega); exact cell_of_row _ _ 0 _ _ _ (heap_alloc_new u3 _)) (by omega) hsz4 ?_; intro va u5 hO5 hB5; refine Hid.out ?_)
      refine Hid.mk ?_
      rw [u32X_one] at hO5
      have h5 : SdAt u5 b (DR k) (max t now) c := h4.below hB5 hlt
      have hT5 : Touch (fun x => x = b) w u5 := ⟨hB5.os.trans hT4.os, hB5.tape.trans hT4.tape, hB5.output.trans hT4.output, Nat.le_trans hT4.size hB5.size, fun i hi hn => (hB5.block i hi).trans (hT4.block i hi hn)⟩
      clear hO4 h4 hT4 hB5 c3
      go_wp2_with (first | (refine wl_value rfl (exec_dlZ rfl) ?_) | (refine wl_value rfl (exec_ixD rfl (by rfl) (by rfl) hlt3) ?_) | (refine wl_act rfl (act_slotD rfl (by rfl) (by rfl) hlt3 h5 ?_); intro u6 h6 o6; refine Hid.out ?_))
      refine Hid.mk ?_
      have HX : Hid (u6.ownsRow w.heap.size 28 1 va (L (k + 1)).length (u32X (L (k + 1))) ∧ SdAt u6 b (DR (k + 1)) (max t now) c ∧ Touch (fun x => x = b) w u6) := Hid.mk ⟨by rw [HE.out, List.length_append]; exact own_tou hO5 o6 hlt, by rw [HF.out]; exact h6, touch_tr hT5 (touch_only o6)⟩
      clear hO5 h5 hT5 h6 o6 HE HF
      go_wp2_with fail
      go_roundg (3 - (k + 1))
      case rel => exact ⟨k + 1, rfl, by omega, by go_num, HX⟩
      case measure => omega
    · obtain rfl : k = 3 := by omega
      go_wp2_with fail
      go_ret
      exact ⟨_, rfl, HI.out.1, HI.out.2.1, HI.out.2.2⟩
end Go.Proofs.YtbkbcfimpaolmaaGreat
/-
  Own text. The document's session: what becomes of it, and of its windows.
-/
namespace Go.Proofs.YtbkbcfimpaolmaaGreat
open Go.RowKit Go.Proofs
set_option maxRecDepth 100000
theorem WinsD.place {w : World} {b : Nat} {R : Nat → Kp × Option Nat} {U : Nat → Nat → Prop} {r : Kp × Option Nat} (h : WinsD w b 4 (setG R 3 r) U) (f : Bool) : WinsD w b 3 (placeG rep R r rz f) U ∧ ∀ k, WinSD b 3 (placeG rep R r rz f) U k → WinSD b 4 (setG R 3 r) U k := by
  have e3 : setG R 3 r 3 = r := by unfold setG; rw [if_pos rfl]
  have ei : ∀ i, i < 3 → setG R 3 r i = R i := fun i hi => by unfold setG; rw [if_neg (by omega)]
  have s4 : ∀ i, i < 4 → (setG R 3 r i).1.ep = 0 → setG R 3 r i = rz := h.no
  have three : ∀ i, i < 3 → i = 0 ∨ i = 1 ∨ i = 2 := fun i hi => by omega
  have n0 := s4 0 (by omega); have n1 := s4 1 (by omega); have n2 := s4 2 (by omega); have n3 := s4 3 (by omega)
  rw [ei 0 (by omega)] at n0; rw [ei 1 (by omega)] at n1; rw [ei 2 (by omega)] at n2; rw [e3] at n3
  cases f
  · obtain ⟨p2, p1, p0⟩ := place_eqF (R := R) (r := r)
    refine h.move (fun i => if i = 2 then 3 else i) (fun i hi he => ?_) (fun i hi he => ?_) (fun i j hi hj hij _ _ => ?_)
    · rcases three i hi with rfl | rfl | rfl
      · rw [p0] at he ⊢; exact n0 he
      · rw [p1] at he ⊢; exact n1 he
      · rw [p2] at he ⊢; exact n3 he
    · rcases three i hi with rfl | rfl | rfl
      · simp only [p0, show ¬ (0 = 2) by omega, if_false, ei 0 (by omega)]; exact ⟨by omega, by trivial, by trivial, by trivial, by trivial⟩
      · simp only [p1, show ¬ (1 = 2) by omega, if_false, ei 1 (by omega)]; exact ⟨by omega, by trivial, by trivial, by trivial, by trivial⟩
      · simp only [p2, if_true, e3]; exact ⟨by omega, by trivial, by trivial, by trivial, by trivial⟩
    · show (if i = 2 then 3 else i) ≠ (if j = 2 then 3 else j)
      split <;> split <;> omega
  · obtain ⟨p1, p2, p0⟩ := place_eq (R := R) (r := r)
    refine h.move (fun i => if i = 1 then 3 else if (R 2).1.ep ≠ 0 then 2 else if (R 1).1.ep ≠ 0 then 1 else 0) (fun i hi he => ?_) (fun i hi he => ?_) (fun i j hi hj hij he hf => ?_)
    · rcases three i hi with rfl | rfl | rfl
      · rw [p0] at he ⊢
        by_cases h2 : (R 2).1.ep ≠ 0
        · rw [if_pos h2] at he; exact absurd he h2
        · rw [if_neg h2] at he ⊢
          by_cases h1 : (R 1).1.ep ≠ 0
          · rw [if_pos h1] at he; exact absurd he h1
          · rw [if_neg h1] at he ⊢; exact n0 he
      · rw [p1] at he ⊢; exact n3 he
      · rw [p2]
    · rcases three i hi with rfl | rfl | rfl
      · simp only [p0, show ¬ (0 = 1) by omega, if_false]
        by_cases h2 : (R 2).1.ep ≠ 0
        · simp only [if_pos h2, ei 2 (by omega)]; exact ⟨by omega, by trivial, by trivial, by trivial, by trivial⟩
        · simp only [if_neg h2]
          by_cases h1 : (R 1).1.ep ≠ 0
          · simp only [if_pos h1, ei 1 (by omega)]; exact ⟨by omega, by trivial, by trivial, by trivial, by trivial⟩
          · simp only [if_neg h1, ei 0 (by omega)]; exact ⟨by omega, by trivial, by trivial, by trivial, by trivial⟩
      · simp only [p1, if_true, e3]; exact ⟨by omega, by trivial, by trivial, by trivial, by trivial⟩
      · rw [p2] at he; exact absurd rfl he
    · have hi2 : i ≠ 2 := fun e => by subst e; rw [p2] at he; exact he rfl
      have hj2 : j ≠ 2 := fun e => by subst e; rw [p2] at hf; exact hf rfl
      show (if i = 1 then 3 else if (R 2).1.ep ≠ 0 then 2 else if (R 1).1.ep ≠ 0 then 1 else 0) ≠ (if j = 1 then 3 else if (R 2).1.ep ≠ 0 then 2 else if (R 1).1.ep ≠ 0 then 1 else 0)
      by_cases hi1 : i = 1
      · rw [if_pos hi1, if_neg (show ¬ j = 1 by omega)]; split; omega; split <;> omega
      · rw [if_neg hi1, if_pos (show j = 1 by omega)]; split; omega; split <;> omega
theorem goes_tellD {w w' : World} {b : Nat} {R : Nat → Kp × Option Nat} {U : Nat → Nat → Prop} {c t' : Int} {K : Nat → Kp} (hK : (fun i => (R i).1) = K) (hW : WinsD w b 3 R U) (h : SdAt w' b R t' c) (hT : Touch (fun x => x = b) w w') : Goes SesD w b (WinSD b 3 R U) ⟨t', c, K⟩ w' :=
  ⟨_, ⟨R, U, h, hW.tou hT, hK, rfl⟩, hT.mono (fun _ _ e => .inl e), fun _ hk => .inl hk⟩
theorem WinsD.emptied {w : World} {b n : Nat} {R R' : Nat → Kp × Option Nat} {U : Nat → Nat → Prop} (h : WinsD w b n R U) (hR : ∀ i, i < n → R' i = rz ∨ R' i = R i) : WinsD w b n R' U ∧ ∀ k, WinSD b n R' U k → WinSD b n R U k := by
  refine h.move (fun i => i) (fun i hi he => ?_) (fun i hi he => ?_) (fun i j _ _ hij _ _ => hij)
  · rcases hR i hi with e | e
    · exact e
    · rw [e] at he ⊢; exact h.no i hi he
  · rcases hR i hi with e | e
    · rw [e] at he; exact absurd rfl he
    · rw [e]; exact ⟨hi, rfl, rfl, rfl, rfl⟩
theorem WinsD.moved {w : World} {b : Nat} {R : Nat → Kp × Option Nat} {U : Nat → Nat → Prop} (h : WinsD w b 3 R U) : WinsD w b 3 (movedG rep R rz) U ∧ ∀ k, WinSD b 3 (movedG rep R rz) U k → WinSD b 3 R U k := by
  obtain ⟨p1, p2, p0⟩ := moved_eq (R := R)
  have three : ∀ i, i < 3 → i = 0 ∨ i = 1 ∨ i = 2 := fun i hi => by omega
  refine h.move (fun i => if i = 1 then 2 else if (R 1).1.ep ≠ 0 then 1 else 0) (fun i hi he => ?_) (fun i hi he => ?_) (fun i j hi hj hij he hf => ?_)
  · rcases three i hi with rfl | rfl | rfl
    · rw [p0] at he ⊢
      by_cases h1 : (R 1).1.ep ≠ 0
      · rw [if_pos h1] at he; exact absurd he h1
      · rw [if_neg h1] at he ⊢; exact h.no 0 (by omega) he
    · rw [p1] at he ⊢; exact h.no 2 (by omega) he
    · rw [p2]
  · rcases three i hi with rfl | rfl | rfl
    · simp only [p0, show ¬ (0 = 1) by omega, if_false]
      by_cases h1 : (R 1).1.ep ≠ 0
      · simp only [if_pos h1]; exact ⟨by omega, by trivial, by trivial, by trivial, by trivial⟩
      · simp only [if_neg h1]; exact ⟨by omega, by trivial, by trivial, by trivial, by trivial⟩
    · simp only [p1, if_true]; exact ⟨by omega, by trivial, by trivial, by trivial, by trivial⟩
    · rw [p2] at he; exact absurd rfl he
  · have hi2 : i ≠ 2 := fun e => by subst e; rw [p2] at he; exact he rfl
    have hj2 : j ≠ 2 := fun e => by subst e; rw [p2] at hf; exact hf rfl
    show (if i = 1 then 2 else if (R 1).1.ep ≠ 0 then 1 else 0) ≠ (if j = 1 then 2 else if (R 1).1.ep ≠ 0 then 1 else 0)
    by_cases hi1 : i = 1
    · rw [if_pos hi1, if_neg (show ¬ j = 1 by omega)]; split <;> omega
    · rw [if_neg hi1, if_pos (show j = 1 by omega)]; split <;> omega
theorem WinsD.opened {w : World} {b : Nat} {R : Nat → Kp × Option Nat} {U : Nat → Nat → Prop} (h : WinsD w b 3 R U) (i : Nat) : WinsD w b 3 (openedR R i) U ∧ ∀ k, WinSD b 3 (openedR R i) U k → WinSD b 3 R U k := by
  have key : ∀ R2 : Nat → Kp × Option Nat, WinsD w b 3 R2 U → WinsD w b 3 (setG R2 0 rz) U ∧ ∀ k, WinSD b 3 (setG R2 0 rz) U k → WinSD b 3 R2 U k := fun R2 h2 =>
    h2.emptied (fun i _ => by unfold setG; by_cases e : i = 0; exact .inl (if_pos e); exact .inr (if_neg e))
  unfold openedR
  by_cases e : i = 2
  · simp only [if_pos e]
    obtain ⟨h1, h2⟩ := h.moved
    split
    · obtain ⟨h3, h4⟩ := key _ h1
      exact ⟨h3, fun k hk => h2 k (h4 k hk)⟩
    · exact ⟨h1, h2⟩
  · simp only [if_neg e]
    split
    · exact key _ h
    · exact ⟨h, fun k hk => hk⟩
theorem goes_sentD {w w' : World} {b : Nat} {R : Nat → Kp × Option Nat} {U : Nat → Nat → Prop} {c t' : Int} (hW : WinsD w b 3 R U) (he : (R 1).1.ep ≠ 0) (h : SdAt w' b (setG R 1 (kpSent (R 1).1, (R 1).2)) t' c) (hT : Touch (fun x => x = b) w w') : Goes SesD w b (WinSD b 3 R U) ⟨t', c, setG (fun i => (R i).1) 1 (kpSent (R 1).1)⟩ w' := by
  have e1 : setG R 1 (kpSent (R 1).1, (R 1).2) 1 = (kpSent (R 1).1, (R 1).2) := by unfold setG; rw [if_pos rfl]
  have ej : ∀ j, j ≠ 1 → setG R 1 (kpSent (R 1).1, (R 1).2) j = R j := fun j hj => by unfold setG; rw [if_neg hj]
  obtain ⟨h1, h2⟩ := hW.move (m := 3) (R' := setG R 1 (kpSent (R 1).1, (R 1).2)) (fun i => i) (fun i hi hz => by
      by_cases e : i = 1
      · subst e; rw [e1] at hz; exact absurd hz he
      · rw [ej i e] at hz ⊢; exact hW.no i hi hz)
    (fun i hi _ => by
      by_cases e : i = 1
      · subst e; rw [e1]; exact ⟨hi, rfl, rfl, rfl, rfl⟩
      · rw [ej i e]; exact ⟨hi, rfl, rfl, rfl, rfl⟩) (fun i j _ _ hij _ _ => hij)
  exact ⟨_, ⟨_, U, h, h1.tou hT, funext (fun j => setG_map Prod.fst R 1 _ j), rfl⟩, hT.mono (fun _ _ e => .inl e), fun k hk => .inl (h2 k hk)⟩
theorem goes_dropD {w w' : World} {b : Nat} {R : Nat → Kp × Option Nat} {U : Nat → Nat → Prop} {p : Kp → Bool} {t' c : Int} (hW : WinsD w b 3 R U) (h : SdAt w' b (dropR p R 3) t' c) (hT : Touch (fun x => x = b) w w') : Goes SesD w b (WinSD b 3 R U) ⟨t', c, dropK p (fun i => (R i).1) 3⟩ w' := by
  obtain ⟨h1, h2⟩ := hW.emptied (R' := dropR p R 3) (fun i _ => by unfold dropR; split; exact .inl rfl; exact .inr rfl)
  refine ⟨_, ⟨_, U, h, h1.tou hT, ?_, rfl⟩, hT.mono (fun _ _ e => .inl e), fun k hk => .inl (h2 k hk)⟩
  funext i
  unfold dropR dropK
  by_cases e : i < 3 ∧ goesF p (R i).1 = true
  · simp only [if_pos e]; rfl
  · simp only [if_neg e]
theorem SesD.lt {w : World} {b : Nat} {σ : Ses} {S : Nat → Prop} (h : SesD w b σ S) : ∀ k, S k → k < w.heap.size := by
  obtain ⟨R, U, h1, h2, _, rfl⟩ := h
  exact h2.lt h1.lt
theorem SesD.self {w : World} {b : Nat} {σ : Ses} {S : Nat → Prop} (h : SesD w b σ S) : S b := by
  obtain ⟨R, U, h1, h2, _, rfl⟩ := h
  exact .inl rfl
theorem SesD.same {w w' : World} {b : Nat} {σ : Ses} {S : Nat → Prop} (h : SesD w b σ S) (hz : w.heap.size ≤ w'.heap.size) (hb : ∀ k, S k → w'.heap[k]? = w.heap[k]?) : SesD w' b σ S := by
  obtain ⟨R, U, h1, h2, h3, rfl⟩ := h
  exact ⟨R, U, SAt.block h1 (hb b (.inl rfl)), h2.same hz (fun k hk _ => hb k hk), h3, rfl⟩
theorem SesD.below {w w' : World} {b : Nat} {σ : Ses} {S : Nat → Prop} (h : SesD w b σ S) (hb : Below w.heap.size w w') : SesD w' b σ S := h.same hb.size (fun k hk => hb.block k (h.lt k hk))
theorem run_sd0 (w : World) : (Instr.build 37 #[]).run Tryz.prog w = .ok (.agg (SC 218 (sdV (fun _ => rz) 0 0))) w := by kernel_rfl
theorem exec_sd0 {a : Act} {o : Oper} {w : World} (ho : o.op = .build 37 #[]) : (execOp a.eval o).run Tryz.prog w = .ok (.value (.agg (SC 218 (sdV (fun _ => rz) 0 0)))) w := by
  have h := run_sd0 w
  unfold execOp
  simp only [ho, List.map_toArray, List.map_nil, Sem.run_bind, h, Result.andThen_ok, Sem.run_pure]
theorem sesD_new {w : World} {b : Nat} (h : SAt w b 37 218 (sdV (fun _ => rz) 0 0)) : SesD w b ses0 (fun k => k = b) := by
  refine ⟨fun _ => rz, fun _ _ => False, h, ⟨fun _ _ _ => rfl, fun _ _ he => absurd rfl he, fun _ _ _ _ _ _ _ he => absurd rfl he⟩, rfl, ?_⟩
  funext k
  refine propext ⟨fun e => .inl e, fun e => ?_⟩
  rcases e with e | ⟨_, _, _, he, _⟩
  · exact e
  · exact absurd rfl he
theorem SdAt.sent {w : World} {b : Nat} {R : Nat → Kp × Option Nat} {t c : Int} (h : SdAt w b R t c) : SdAt (w.setCell ⟨b, 144, none⟩ (.int .u64 ((R 1).1.sent + 1))) b (setG R 1 (kpSent (R 1).1, (R 1).2)) t c := by
  refine SAt.congr (SAt.set h 144 _ (by omega)) (fun x hx => ?_)
  show (if x = 144 then Value.int .u64 ((R 1).1.sent + 1) else sdV R t c x) = sdV (setG R 1 (kpSent (R 1).1, (R 1).2)) t c x
  unfold sdV
  by_cases e : x = 144
  · subst e; rfl
  · rw [if_neg e]
    by_cases h0 : x < 1
    · rw [if_pos h0, if_pos h0]
    · rw [if_neg h0, if_neg h0]
      by_cases h1 : x < 2
      · rw [if_pos h1, if_pos h1]
      · rw [if_neg h1, if_neg h1]
        unfold setG
        by_cases h2 : (x - 2) / 72 = 1
        · rw [if_pos h2, h2]
          unfold dlR slR slC
          simp only [kpSent]
          have : (x - 2) % 72 ≠ 70 := by omega
          (repeat' split) <;> first | rfl | omega
        · rw [if_neg h2]
-- laws for an operation by its text: where another one stands, they fail at once
theorem wl_alO {ops : Array Oper} {rest : List Oper} {o : Oper} {ty : TypeId} {a : Act} {w : World} {Q : Exit → Act → World → Prop} {n : Nat} {V : Nat → Value} (ho : o.op = .alloc ty) (hgd : Region.wanted o (yielded ops a.tmps) = true) (hz : ∀ w, (zeroValue ty).run Tryz.prog w = .ok (.agg (SC n V)) w)
    (h : ∀ g w', w.heap.size ≤ g → SAt w' g ty n V → Below w.heap.size w w' → wpList Tryz.prog ops Q rest (a.put o.dst (.pointer (some ⟨g, 0, none⟩))) w') : wpList Tryz.prog ops Q (o :: rest) a w :=
  wl_act hgd (act_alloc hz ho (fun w' hb hg => h _ w' (Nat.le_refl _) hg hb))
theorem st_stO {ops : Array Oper} {rest : List Oper} {o : Oper} {x y : Operand} {ty : TypeId} {a : Act} {w : World} {Q : Exit → Act → World → Prop} {g n : Nat} {V V' : Nat → Value} (ho : o.op = .store ty x y) (hw : Region.wanted o (yielded ops a.tmps) = true)
    (hA : IsSt ty n) (h1 : ∀ i, (V i).oneCell' = true) (hg : SAt w g ty n V') (hx : a.eval x = .pointer (some ⟨g, 0, none⟩)) (hy : a.eval y = .agg (SC n V))
    (h : ∀ w2, SAt w2 g ty n V → Only g w w2 → wpList Tryz.prog ops Q rest (a.put o.dst undef) w2) : wpList Tryz.prog ops Q (o :: rest) a w :=
  wl_act hw (act_st7 ho hA h1 hx hy hg h)
end Go.Proofs.YtbkbcfimpaolmaaGreat
/-
  Own text. The document's session: Wants, Due.
-/
namespace Go.Proofs.YtbkbcfimpaolmaaGreat
open Go.RowKit Go.Proofs
set_option maxRecDepth 100000
set_option maxHeartbeats 8000000 in
theorem rWants_run {w : World} {b M : Nat} {σ : Ses} {S : Nat → Prop} (now : Int) (sent : Bool) (h : SesD w b σ S) (ok : SesOk M σ) (hM : M ≤ 1000) (hnow : now ≤ 9223372036854775807) :
    Calls Tryz.prog 15 #[.pointer (some ⟨b, 0, none⟩), .int .i64 now, .bool sent] w fun e w' => e = .returned (.bool (wantsF σ now sent)) ∧ Goes SesD w b S (tellS σ now) w' := by
  obtain ⟨R, U, h, hW, hK, rfl⟩ := h
  obtain ⟨t, c, K⟩ := σ
  simp only at h hK
  subst hK
  have hlt := h.lt
  have ht0 : 0 ≤ t := ok.t0
  have ht1 : t ≤ 9223372036854775807 := ok.t1
  have hm : max t now ≤ 9223372036854775807 := by omega
  show Calls _ _ _ _ fun e w' => e = .returned (.bool (wantsF ⟨t, c, fun i => (R i).1⟩ now sent)) ∧ Goes SesD w b (WinSD b 3 R U) ⟨max t now, c, fun i => (R i).1⟩ w'
  by_cases he : (R 1).1.ep = 0
  · have hs : wantsF ⟨t, c, fun i => (R i).1⟩ now sent = sent := by unfold wantsF; rw [if_pos he]
    rw [hs]
    go_enter Tryz.func15, Tryz.ntmps15
    go_wp2_with fail
    refine (goes_run now h).mono ?_
    rintro e u2 ⟨rfl, h2, o2⟩
    have hT2 : Touch (fun x => x = b) w u2 := touch_only o2
    clear o2 h
    go_wp2_with (first | (refine wl_value rfl (exec_ixD (i := 1) rfl (by rfl) (by rfl) (by decide)) ?_) | (refine wl_value rfl (exec_ldD (i := 1) rfl (by rfl) (by decide) h2) ?_) | (refine wl_alO rfl rfl zeroDSlotV ?_; intro g u3 hg g3 hB3; refine Hid.out ?_))
    refine Hid.mk ?_
    have h3 := h2.kept hB3
    have hl3 := h2.lt
    go_wp2_with (refine st_stO rfl rfl isDSlot (dlR_one _) g3 (by rfl) (by rfl) ?_; intro u4 g4 o4; refine Hid.out ?_)
    refine Hid.mk ?_
    have h4 := h3.only o4 (by omega)
    have hB4 := hB3.trans (o4.below hg)
    clear g3 h3 o4 hB3
    have hT4 : Touch (fun x => x = b) w u4 := touch_tr hT2 (touch_of_below hB4)
    clear h2 hT2 hB4 hg hl3
    have ct := dl_there g4
    rw [show (!decide ((R 1).1.ep = 0)) = false by rw [he]; rfl] at ct
    have HG := Hid.mk (goes_tellD rfl hW h4 hT4)
    clear hT4 h4
    go_wp2_with fail
    go_ret
    exact ⟨rfl, HG.out⟩
  have ko := ok.ok 1 (by decide) he
  have hb0 : 0 ≤ (R 1).1.born := ko.b0
  have hb1 : (R 1).1.born ≤ t := ko.b1
  have hs0 : 0 ≤ (R 1).1.sent := ko.s0
  have hs1 : (R 1).1.sent ≤ 1000 := by have := ko.s1; simp only at this; omega
  have hw : IntKind.i64.wrap (max t now - (R 1).1.born) = max t now - (R 1).1.born := by rw [IntKind.wrap_i64]; omega
  clear ko ok
  cases hf : (R 1).1.fst
  · have hs : wantsF ⟨t, c, fun i => (R i).1⟩ now sent = false := by unfold wantsF; rw [if_neg he, if_pos hf]
    rw [hs]
    cases sent
    · go_enter Tryz.func15, Tryz.ntmps15
      go_wp2_with fail
      refine (goes_run now h).mono ?_
      rintro e u2 ⟨rfl, h2, o2⟩
      have hT2 : Touch (fun x => x = b) w u2 := touch_only o2
      clear o2 h
      go_wp2_with (first | (refine wl_value rfl (exec_ixD (i := 1) rfl (by rfl) (by rfl) (by decide)) ?_) | (refine wl_value rfl (exec_ldD (i := 1) rfl (by rfl) (by decide) h2) ?_) | (refine wl_alO rfl rfl zeroDSlotV ?_; intro g u3 hg g3 hB3; refine Hid.out ?_))
      refine Hid.mk ?_
      have h3 := h2.kept hB3
      have hl3 := h2.lt
      go_wp2_with (refine st_stO rfl rfl isDSlot (dlR_one _) g3 (by rfl) (by rfl) ?_; intro u4 g4 o4; refine Hid.out ?_)
      refine Hid.mk ?_
      have h4 := h3.only o4 (by omega)
      have hB4 := hB3.trans (o4.below hg)
      clear g3 h3 o4 hB3
      have hT4 : Touch (fun x => x = b) w u4 := touch_tr hT2 (touch_of_below hB4)
      clear h2 hT2 hB4 hg hl3
      have ct := dl_there g4
      rw [show (!decide ((R 1).1.ep = 0)) = true by simp [he]] at ct
      have cf := dl_fst g4
      rw [hf] at cf
      have cb := dl_born g4
      have cs := dl_sent g4
      have c1 := h4.time
      have hT5 : Touch (fun x => x = b) w u4.drew := hT4.drew
      have h5 : SdAt u4.drew b R (max t now) c := h4
      have HG := Hid.mk (goes_tellD rfl hW h5 hT5)
      clear hT4 hT5 h4 h5
      go_wp2_with fail
      go_region
      go_wp2_with fail
      go_ret
      exact ⟨rfl, HG.out⟩
    · go_enter Tryz.func15, Tryz.ntmps15
      go_wp2_with fail
      refine (goes_run now h).mono ?_
      rintro e u2 ⟨rfl, h2, o2⟩
      have hT2 : Touch (fun x => x = b) w u2 := touch_only o2
      clear o2 h
      go_wp2_with (first | (refine wl_value rfl (exec_ixD (i := 1) rfl (by rfl) (by rfl) (by decide)) ?_) | (refine wl_value rfl (exec_ldD (i := 1) rfl (by rfl) (by decide) h2) ?_) | (refine wl_alO rfl rfl zeroDSlotV ?_; intro g u3 hg g3 hB3; refine Hid.out ?_))
      refine Hid.mk ?_
      have h3 := h2.kept hB3
      have hl3 := h2.lt
      go_wp2_with (refine st_stO rfl rfl isDSlot (dlR_one _) g3 (by rfl) (by rfl) ?_; intro u4 g4 o4; refine Hid.out ?_)
      refine Hid.mk ?_
      have h4 := h3.only o4 (by omega)
      have hB4 := hB3.trans (o4.below hg)
      clear g3 h3 o4 hB3
      have hT4 : Touch (fun x => x = b) w u4 := touch_tr hT2 (touch_of_below hB4)
      clear h2 hT2 hB4 hg hl3
      have ct := dl_there g4
      rw [show (!decide ((R 1).1.ep = 0)) = true by simp [he]] at ct
      have cf := dl_fst g4
      rw [hf] at cf
      have cb := dl_born g4
      have cs := dl_sent g4
      have c1 := h4.time
      have hT5 : Touch (fun x => x = b) w u4.drew := hT4.drew
      have h5 : SdAt u4.drew b R (max t now) c := h4
      have HG := Hid.mk (goes_tellD rfl hW h5 hT5)
      clear hT4 hT5 h4 h5
      go_wp2_with fail
      go_region
      go_wp2_with fail
      go_ret
      exact ⟨rfl, HG.out⟩
  · cases sent
    · have hs : wantsF ⟨t, c, fun i => (R i).1⟩ now false = decide (165000 ≤ max t now - (R 1).1.born) := by unfold wantsF; rw [if_neg he, if_neg (by rw [hf]; simp), if_neg (by simp)]
      rw [hs]
      go_enter Tryz.func15, Tryz.ntmps15
      go_wp2_with fail
      refine (goes_run now h).mono ?_
      rintro e u2 ⟨rfl, h2, o2⟩
      have hT2 : Touch (fun x => x = b) w u2 := touch_only o2
      clear o2 h
      go_wp2_with (first | (refine wl_value rfl (exec_ixD (i := 1) rfl (by rfl) (by rfl) (by decide)) ?_) | (refine wl_value rfl (exec_ldD (i := 1) rfl (by rfl) (by decide) h2) ?_) | (refine wl_alO rfl rfl zeroDSlotV ?_; intro g u3 hg g3 hB3; refine Hid.out ?_))
      refine Hid.mk ?_
      have h3 := h2.kept hB3
      have hl3 := h2.lt
      go_wp2_with (refine st_stO rfl rfl isDSlot (dlR_one _) g3 (by rfl) (by rfl) ?_; intro u4 g4 o4; refine Hid.out ?_)
      refine Hid.mk ?_
      have h4 := h3.only o4 (by omega)
      have hB4 := hB3.trans (o4.below hg)
      clear g3 h3 o4 hB3
      have hT4 : Touch (fun x => x = b) w u4 := touch_tr hT2 (touch_of_below hB4)
      clear h2 hT2 hB4 hg hl3
      have ct := dl_there g4
      rw [show (!decide ((R 1).1.ep = 0)) = true by simp [he]] at ct
      have cf := dl_fst g4
      rw [hf] at cf
      have cb := dl_born g4
      have cs := dl_sent g4
      have c1 := h4.time
      have hT5 : Touch (fun x => x = b) w u4.drew := hT4.drew
      have h5 : SdAt u4.drew b R (max t now) c := h4
      have HG := Hid.mk (goes_tellD rfl hW h5 hT5)
      clear hT4 hT5 h4 h5
      go_wp2_with fail
      go_region
      go_wp2_with fail
      go_ret
      exact ⟨rfl, HG.out⟩
    · have hs : wantsF ⟨t, c, fun i => (R i).1⟩ now true = decide (120000 ≤ max t now - (R 1).1.born) := by unfold wantsF; rw [if_neg he, if_neg (by rw [hf]; simp), if_pos rfl]
      rw [hs]
      by_cases hag : 120000 ≤ max t now - (R 1).1.born
      · rw [decide_eq_true hag]
        have hagd : decide (120000 ≤ max t now - (R 1).1.born) = true := decide_eq_true hag
        go_enter Tryz.func15, Tryz.ntmps15
        go_wp2_with fail
        refine (goes_run now h).mono ?_
        rintro e u2 ⟨rfl, h2, o2⟩
        have hT2 : Touch (fun x => x = b) w u2 := touch_only o2
        clear o2 h
        go_wp2_with (first | (refine wl_value rfl (exec_ixD (i := 1) rfl (by rfl) (by rfl) (by decide)) ?_) | (refine wl_value rfl (exec_ldD (i := 1) rfl (by rfl) (by decide) h2) ?_) | (refine wl_alO rfl rfl zeroDSlotV ?_; intro g u3 hg g3 hB3; refine Hid.out ?_))
        refine Hid.mk ?_
        have h3 := h2.kept hB3
        have hl3 := h2.lt
        go_wp2_with (refine st_stO rfl rfl isDSlot (dlR_one _) g3 (by rfl) (by rfl) ?_; intro u4 g4 o4; refine Hid.out ?_)
        refine Hid.mk ?_
        have h4 := h3.only o4 (by omega)
        have hB4 := hB3.trans (o4.below hg)
        clear g3 h3 o4 hB3
        have hT4 : Touch (fun x => x = b) w u4 := touch_tr hT2 (touch_of_below hB4)
        clear h2 hT2 hB4 hg hl3
        have ct := dl_there g4
        rw [show (!decide ((R 1).1.ep = 0)) = true by simp [he]] at ct
        have cf := dl_fst g4
        rw [hf] at cf
        have cb := dl_born g4
        have cs := dl_sent g4
        have c1 := h4.time
        have hT5 : Touch (fun x => x = b) w u4.drew := hT4.drew
        have h5 : SdAt u4.drew b R (max t now) c := h4
        have HG := Hid.mk (goes_tellD rfl hW h5 hT5)
        clear hT4 hT5 h4 h5
        go_wp2_with fail
        go_region
        go_wp2_with fail
        go_ret
        exact ⟨rfl, HG.out⟩
      · rw [decide_eq_false hag]
        have hagd : decide (120000 ≤ max t now - (R 1).1.born) = false := decide_eq_false hag
        have hsd : decide (1152921504606846976 ≤ (R 1).1.sent) = false := decide_eq_false (by omega)
        go_enter Tryz.func15, Tryz.ntmps15
        go_wp2_with fail
        refine (goes_run now h).mono ?_
        rintro e u2 ⟨rfl, h2, o2⟩
        have hT2 : Touch (fun x => x = b) w u2 := touch_only o2
        clear o2 h
        go_wp2_with (first | (refine wl_value rfl (exec_ixD (i := 1) rfl (by rfl) (by rfl) (by decide)) ?_) | (refine wl_value rfl (exec_ldD (i := 1) rfl (by rfl) (by decide) h2) ?_) | (refine wl_alO rfl rfl zeroDSlotV ?_; intro g u3 hg g3 hB3; refine Hid.out ?_))
        refine Hid.mk ?_
        have h3 := h2.kept hB3
        have hl3 := h2.lt
        go_wp2_with (refine st_stO rfl rfl isDSlot (dlR_one _) g3 (by rfl) (by rfl) ?_; intro u4 g4 o4; refine Hid.out ?_)
        refine Hid.mk ?_
        have h4 := h3.only o4 (by omega)
        have hB4 := hB3.trans (o4.below hg)
        clear g3 h3 o4 hB3
        have hT4 : Touch (fun x => x = b) w u4 := touch_tr hT2 (touch_of_below hB4)
        clear h2 hT2 hB4 hg hl3
        have ct := dl_there g4
        rw [show (!decide ((R 1).1.ep = 0)) = true by simp [he]] at ct
        have cf := dl_fst g4
        rw [hf] at cf
        have cb := dl_born g4
        have cs := dl_sent g4
        have c1 := h4.time
        have hT5 : Touch (fun x => x = b) w u4.drew := hT4.drew
        have h5 : SdAt u4.drew b R (max t now) c := h4
        have HG := Hid.mk (goes_tellD rfl hW h5 hT5)
        clear hT4 hT5 h4 h5
        go_wp2_with fail
        go_region
        go_wp2_with fail
        go_ret
        exact ⟨rfl, HG.out⟩
set_option maxHeartbeats 8000000 in
theorem rDue_run {w : World} {b : Nat} {σ : Ses} {S : Nat → Prop} (h : SesD w b σ S) (hb : ∀ i, i < 3 → 0 ≤ (σ.K i).born ∧ (σ.K i).born ≤ 4611686018427387904) : Calls Tryz.prog 27 #[.pointer (some ⟨b, 0, none⟩)] w fun e w' => e = .returned (.int .i64 (dueF σ.K 3)) ∧ Below w.heap.size w w' := by
  obtain ⟨R, U, h, hW, hK, rfl⟩ := h
  obtain ⟨t, c, K⟩ := σ
  simp only at h hK hb
  subst hK
  have HR := Hid.mk (dueF_range hb)
  have HB := Hid.mk hb
  have HD : Hid (∀ n, dueF (fun i => (R i).1) (n + 1) = if (R n).1.ep ≠ 0 ∧ (dueF (fun i => (R i).1) n = -1 ∨ (R n).1.born + 180000 < dueF (fun i => (R i).1) n) then (R n).1.born + 180000 else dueF (fun i => (R i).1) n) := Hid.mk (fun n => rfl)
  have H0 : Hid (dueF (fun i => (R i).1) 0 = -1) := Hid.mk rfl
  simp only
  generalize dueF (fun i => (R i).1) = D at *
  clear hb
  go_enter Tryz.func27, Tryz.ntmps27
  go_wp2_with fail
  go_loopg [3, 4] (3 : Nat) (fun gm s3 s4 v => ∃ k : Nat, gm = 3 - k ∧ k ≤ 3 ∧ s3 = .int .i64 (D k) ∧ s4 = .int .i64 (k : Int) ∧ Below w.heap.size w v)
  case atStart => exact ⟨0, rfl, by omega, by rw [H0.out], rfl, Below.refl _ _⟩
  case round =>
    obtain ⟨k, hgm, hk, rfl, rfl, hB⟩ := hrel
    by_cases hlt : k < 3
    · have h0 := h.kept hB
      have hk0 : (0 : Int) ≤ (k : Int) := by omega
      have hk3 : (k : Int) < 3 := by omega
      have ct : wr.cell? ⟨b, 2 + k * 72, none⟩ = some (.bool (!decide ((R k).1.ep = 0))) := by have := h0.cell k 0 hlt (by omega); rw [show 2 + 72 * k + 0 = 2 + k * 72 by omega] at this; exact this
      have cb : wr.cell? ⟨b, 2 + k * 72 + 69, none⟩ = some (.int .i64 (R k).1.born) := by have := h0.cell k 69 hlt (by omega); rw [show 2 + 72 * k + 69 = 2 + k * 72 + 69 by omega] at this; exact this
      obtain ⟨hb0, hb1⟩ := HB.out k hlt
      have hw : IntKind.i64.wrap ((R k).1.born + 180000) = (R k).1.born + 180000 := by rw [IntKind.wrap_i64]; omega
      obtain ⟨hr0, hr1, hr2⟩ := HR.out k (by omega)
      clear h0
      by_cases he : (R k).1.ep = 0
      · have HE : Hid (D (k + 1) = D k) := Hid.mk (by rw [HD.out k, if_neg (fun e => e.1 he)])
        rw [show (!decide ((R k).1.ep = 0)) = false by rw [he]; rfl] at ct
        go_wp2_with fail
        go_roundg (3 - (k + 1))
        case rel => exact ⟨k + 1, rfl, by omega, by rw [HE.out], by go_num, hB⟩
        case measure => omega
      · rw [show (!decide ((R k).1.ep = 0)) = true by simp [he]] at ct
        by_cases hd : D k < 0
        · have HE : Hid (D (k + 1) = (R k).1.born + 180000) := Hid.mk (by rw [HD.out k, if_pos ⟨he, .inl (hr2 hd)⟩])
          have hdd : decide (D k < 0) = true := decide_eq_true hd
          go_wp2_with fail
          go_roundg (3 - (k + 1))
          case rel => exact ⟨k + 1, rfl, by omega, by rw [HE.out], by go_num, hB⟩
          case measure => omega
        · have hdd : decide (D k < 0) = false := decide_eq_false hd
          by_cases hl : (R k).1.born + 180000 < D k
          · have HE : Hid (D (k + 1) = (R k).1.born + 180000) := Hid.mk (by rw [HD.out k, if_pos ⟨he, .inr hl⟩])
            have hld : decide ((R k).1.born + 180000 < D k) = true := decide_eq_true hl
            go_wp2_with fail
            go_roundg (3 - (k + 1))
            case rel => exact ⟨k + 1, rfl, by omega, by rw [HE.out], by go_num, hB⟩
            case measure => omega
          · have HE : Hid (D (k + 1) = D k) := Hid.mk (by rw [HD.out k, if_neg (fun e => e.2.elim (fun e => by omega) hl)])
            have hld : decide ((R k).1.born + 180000 < D k) = false := decide_eq_false hl
            go_wp2_with fail
            go_roundg (3 - (k + 1))
            case rel => exact ⟨k + 1, rfl, by omega, by rw [HE.out], by go_num, hB⟩
            case measure => omega
    · obtain rfl : k = 3 := by omega
      go_wp2_with fail
      go_ret
      exact ⟨rfl, hB⟩
end Go.Proofs.YtbkbcfimpaolmaaGreat
/-
  Own text. The document's session: Seal.
-/
namespace Go.Proofs.YtbkbcfimpaolmaaGreat
open Go.RowKit Go.Proofs
set_option maxRecDepth 100000
theorem enterRNonce9 (args : Array Value) (w : World) : (callFunc 22 args).run Tryz.prog w = .ok (.enter 22 args) w := by kernel_rfl
theorem enterRSeal9 (args : Array Value) (w : World) : (callFunc 21 args).run Tryz.prog w = .ok (.enter 21 args) w := by kernel_rfl
theorem rold1_run {w : World} {b : Nat} {R : Nat → Kp × Option Nat} {t c : Int} (h : SdAt w b R t c) (h0 : 0 ≤ (R 1).1.born) (h1 : (R 1).1.born ≤ t) (h2 : t ≤ 9223372036854775807) : Calls Tryz.prog 38 #[.pointer (some ⟨b, 0, none⟩), .int .i64 1] w fun e w' => e = .returned (.bool (oldF t (R 1).1)) ∧ ∃ n, w' = w.drewN n := rold_run 1 (by decide) h h0 h1 h2
set_option maxHeartbeats 8000000 in
theorem rSeal_run9 {w : World} {b M : Nat} {σ : Ses} {S : Nat → Prop} (now : Int) (text : ByteArray) (h : SesD w b σ S) (ok : SesOk M σ) (hM : M ≤ 1000) (hnow : now ≤ 9223372036854775807) (ht : text.size ≤ 140737488355328) :
    Calls Tryz.prog 13 #[.pointer (some ⟨b, 0, none⟩), .int .i64 now, .string text] w fun e w' => e = .returned (.tuple #[.int .u32 (sealR σ now text).1, .int .u64 (sealR σ now text).2.1, .string (sealR σ now text).2.2.1, .int .i64 (sealR σ now text).2.2.2]) ∧ Goes SesD w b S (sealS σ now) w' := by
  obtain ⟨R, U, h, hW, hK, rfl⟩ := h
  obtain ⟨t, c, K⟩ := σ
  simp only at h hK
  subst hK
  have hlt := h.lt
  have ht0 : 0 ≤ t := ok.t0
  have ht1 : t ≤ 9223372036854775807 := ok.t1
  have hm : max t now ≤ 9223372036854775807 := by omega
  by_cases he : (R 1).1.ep = 0
  · have hs : sealOk ⟨t, c, fun i => (R i).1⟩ now = false := by unfold sealOk; simp [he]
    obtain ⟨e1, e2⟩ := seal_no (text := text) hs
    rw [e1, e2]
    clear e1 e2 hs
    go_enter Tryz.func13, Tryz.ntmps13
    go_wp2_with fail
    refine (goes_run now h).mono ?_
    rintro e u2 ⟨rfl, h2, o2⟩
    have hT2 : Touch (fun x => x = b) w u2 := touch_only o2
    clear o2 h
    go_wp2_with (first | (refine wl_value rfl (exec_ixD (i := 1) rfl (by rfl) (by rfl) (by decide)) ?_) | (refine wl_value rfl (exec_ldD (i := 1) rfl (by rfl) (by decide) h2) ?_) | (refine wl_alO rfl rfl zeroDSlotV ?_; intro g u3 hg g3 hB3; refine Hid.out ?_))
    refine Hid.mk ?_
    have h3 := h2.kept hB3
    have hl3 := h2.lt
    go_wp2_with (refine st_stO rfl rfl isDSlot (dlR_one _) g3 (by rfl) (by rfl) ?_; intro u4 g4 o4; refine Hid.out ?_)
    refine Hid.mk ?_
    have h4 := h3.only o4 (by omega)
    have hB4 := hB3.trans (o4.below hg)
    clear g3 h3 o4 hB3
    have hT4 : Touch (fun x => x = b) w u4 := touch_tr hT2 (touch_of_below hB4)
    have hgne : g ≠ b := by omega
    clear h2 hT2 hB4 hg hl3
    have ct := dl_there g4
    rw [show (!decide ((R 1).1.ep = 0)) = false by rw [he]; rfl] at ct
    have HG := Hid.mk (goes_tellD rfl hW h4 hT4)
    clear hT4 h4
    go_wp2_with fail
    exact bodyPost_ret (res_4t rfl (by rfl) (by rfl) (by rfl) (by rfl)) rfl ⟨rfl, HG.out⟩
  have ko := ok.ok 1 (by decide) he
  have hb0 : 0 ≤ (R 1).1.born := ko.b0
  have hb1 : (R 1).1.born ≤ t := ko.b1
  by_cases ho : oldF (max t now) (R 1).1 = true
  · have hs : sealOk ⟨t, c, fun i => (R i).1⟩ now = false := by unfold sealOk; simp [ho]
    obtain ⟨e1, e2⟩ := seal_no (text := text) hs
    rw [e1, e2]
    clear e1 e2 hs
    go_enter Tryz.func13, Tryz.ntmps13
    go_wp2_with fail
    refine (goes_run now h).mono ?_
    rintro e u2 ⟨rfl, h2, o2⟩
    have hT2 : Touch (fun x => x = b) w u2 := touch_only o2
    clear o2 h
    go_wp2_with (first | (refine wl_value rfl (exec_ixD (i := 1) rfl (by rfl) (by rfl) (by decide)) ?_) | (refine wl_value rfl (exec_ldD (i := 1) rfl (by rfl) (by decide) h2) ?_) | (refine wl_alO rfl rfl zeroDSlotV ?_; intro g u3 hg g3 hB3; refine Hid.out ?_))
    refine Hid.mk ?_
    have h3 := h2.kept hB3
    have hl3 := h2.lt
    go_wp2_with (refine st_stO rfl rfl isDSlot (dlR_one _) g3 (by rfl) (by rfl) ?_; intro u4 g4 o4; refine Hid.out ?_)
    refine Hid.mk ?_
    have h4 := h3.only o4 (by omega)
    have hB4 := hB3.trans (o4.below hg)
    clear g3 h3 o4 hB3
    have hT4 : Touch (fun x => x = b) w u4 := touch_tr hT2 (touch_of_below hB4)
    have hgne : g ≠ b := by omega
    clear h2 hT2 hB4 hg hl3
    have ct := dl_there g4
    rw [show (!decide ((R 1).1.ep = 0)) = true by simp [he]] at ct
    have HO1 := Hid.mk (rold1_run h4 hb0 (by omega) hm)
    go_wp2_with fail
    refine HO1.out.mono ?_
    rintro e u6 ⟨rfl, nq, hu6⟩
    have hB6 : Below u4.heap.size u4 u6 := by rw [hu6]; exact below_drewN (Below.refl _ _) nq
    clear hu6 HO1
    have h6 := h4.kept hB6
    have g6 := SAt.kept g4 hB6
    have hT6 : Touch (fun x => x = b) w u6 := touch_tr hT4 (touch_of_below hB6)
    have hgb : g ≠ b := hgne
    clear h4 g4 hT4 hB6 ct
    have HG := Hid.mk (goes_tellD rfl hW h6 hT6)
    go_wp2_with fail
    exact bodyPost_ret (res_4t rfl (by rfl) (by rfl) (by rfl) (by rfl)) rfl ⟨rfl, HG.out⟩
  · have ho' : oldF (max t now) (R 1).1 = false := by simpa using ho
    have hs : sealOk ⟨t, c, fun i => (R i).1⟩ now = true := by unfold sealOk; simp [he, ho']
    obtain ⟨e1, e2⟩ := seal_yes (text := text) hs
    rw [e1, e2]
    clear ho e1 e2 hs
    have hs0 : 0 ≤ (R 1).1.sent := ko.s0
    have hs1 : (R 1).1.sent ≤ 1000 := by have := ko.s1; simp only at this; omega
    have hU : Hid (0 ≤ (R 1).1.sent ∧ (R 1).1.sent < 18446744073709551616) := Hid.mk (by omega)
    have HKS := Hid.mk ko.ks
    clear ko ok
    go_enter Tryz.func13, Tryz.ntmps13
    go_wp2_with fail
    refine (goes_run now h).mono ?_
    rintro e u2 ⟨rfl, h2, o2⟩
    have hT2 : Touch (fun x => x = b) w u2 := touch_only o2
    clear o2 h
    go_wp2_with (first | (refine wl_value rfl (exec_ixD (i := 1) rfl (by rfl) (by rfl) (by decide)) ?_) | (refine wl_value rfl (exec_ldD (i := 1) rfl (by rfl) (by decide) h2) ?_) | (refine wl_alO rfl rfl zeroDSlotV ?_; intro g u3 hg g3 hB3; refine Hid.out ?_))
    refine Hid.mk ?_
    have h3 := h2.kept hB3
    have hl3 := h2.lt
    go_wp2_with (refine st_stO rfl rfl isDSlot (dlR_one _) g3 (by rfl) (by rfl) ?_; intro u4 g4 o4; refine Hid.out ?_)
    refine Hid.mk ?_
    have h4 := h3.only o4 (by omega)
    have hB4 := hB3.trans (o4.below hg)
    clear g3 h3 o4 hB3
    have hT4 : Touch (fun x => x = b) w u4 := touch_tr hT2 (touch_of_below hB4)
    have hgne : g ≠ b := by omega
    clear h2 hT2 hB4 hg hl3
    have ct := dl_there g4
    rw [show (!decide ((R 1).1.ep = 0)) = true by simp [he]] at ct
    have HO1 := Hid.mk (rold1_run h4 hb0 (by omega) hm)
    go_wp2_with fail
    refine HO1.out.mono ?_
    rintro e u6 ⟨rfl, nq, hu6⟩
    have hB6 : Below u4.heap.size u4 u6 := by rw [hu6]; exact below_drewN (Below.refl _ _) nq
    clear hu6 HO1
    have h6 := h4.kept hB6
    have g6 := SAt.kept g4 hB6
    have hT6 : Touch (fun x => x = b) w u6 := touch_tr hT4 (touch_of_below hB6)
    have hgb : g ≠ b := hgne
    clear h4 g4 hT4 hB6 ct
    have cs := dl_sent g6
    have c1 : u6.cell? ⟨b, 144, none⟩ = some (.int .u64 (R 1).1.sent) := h6.cell 1 70 (by omega) (by omega)
    have f1 : u6.frozen? ⟨b, 144, none⟩ = false := frozen_of_row u6 b 144 _ _ h6
    have hsd : decide (18446744073709543423 ≤ (R 1).1.sent) = false := decide_eq_false (by omega)
    have hw : IntKind.u64.wrap ((R 1).1.sent + 1) = (R 1).1.sent + 1 := by rw [IntKind.wrap_u64]; omega
    have HT := Hid.mk (And.intro h6.sent ((Only.refl b u6).setCell 144 (.int .u64 ((R 1).1.sent + 1))))
    go_wp2_with fail
    go_region
    go_wp2_with fail
    refine wp_gen (fun u => SdAt u b (setG R 1 (kpSent (R 1).1, (R 1).2)) (max t now) c ∧ Only b u6 u) ⟨HT.out.1, ⟨HT.out.2.os, HT.out.2.tape, HT.out.2.output, HT.out.2.size, HT.out.2.block⟩⟩ ?_
    rintro u5 ⟨h5, o5⟩
    have g5 := g6.only o5 hgb
    have hT5 := touch_tr hT6 (touch_only o5)
    clear c1 f1 HT h6 g6 o5 hT6 cs
    have HG4 : Hid (∀ v, Below u5.heap.size u5 v → SAt v g 34 72 (dlR (R 1))) := Hid.mk (fun v hv => SAt.kept g5 hv)
    clear g5
    refine wp_region3 (Below u5.heap.size u5) u5.heap.size
        ([] : List (Nat × Cont))
        [kv (.pointer (some ⟨g, 0 + 1, none⟩)), kv (.pointer (some ⟨g, 0 + 1 + 65, none⟩)), kv (.int .u32 (R 1).1.far), kv (.pointer (some ⟨g, 0 + 70, none⟩)), kv (.int .u64 (R 1).1.sent), kv (.pointer (some ⟨g, 0 + 1, none⟩)), kv (.pointer (some ⟨g, 0 + 1 + 0, none⟩)), kv (.agg (WA .u8 32 (R 1).1.ks)), kv (.pointer (some ⟨g, 0 + 70, none⟩)), kv (.int .u64 (R 1).1.sent), kv (.agg (WA .u8 12 (nonN (R 1).1.sent))), kv (.string text), kv (.string (boxT (R 1).1.ks (nonN (R 1).1.sent) text ByteArray.empty)), kv (.int .u32 (R 1).1.far), kv (.int .u64 (R 1).1.sent), kv (.string (boxT (R 1).1.ks (nonN (R 1).1.sent) text ByteArray.empty)), kv (.int .i64 0)]
        [.none, .none, .none, .none, .none, .none, .none, .none, .none, .none, .none, .none, .none, .none, .none, .none, .none]
        [some 40, some 41, some 42, some 43, some 44, some 45, some 46, some 47, some 48, some 49, some 50, some 51, some 52, some 6, some 7, some 8, some 9]
        [(10, .pointer (some ⟨g, 0, none⟩)), (2, .string text)]
        [[], [.slot 0], [.slot 1], [], [.slot 3], [], [.slot 5], [.slot 6], [], [.slot 8], [.slot 9], [], [.slot 7, .slot 10, .slot 11], [.slot 2], [.slot 4], [.slot 12], []]
        [.slot 13, .slot 14, .slot 15, .slot 16] [40, 41, 42, 43, 44, 45, 46, 47, 48, 49, 50, 51, 52, 6, 7, 8, 9]
        rfl (by kernel_rfl) ⟨rfl, rfl, trivial⟩ (Below.refl _ u5).drew (Nat.le_refl _) trivial trivial (below_G (Nat.le_refl _) trivial)
        ⟨
          (fun Q aq ww own hS hBg fr kn => .inl ⟨trivial, fun K hK => wp_value (exec_fdl (k := 1) rfl fr.1 (by decide)) (hK _ _ ⟨Touch.refl _ _, rfl⟩)⟩),
          (fun Q aq ww own hS hBg fr kn => .inl ⟨trivial, fun K hK => wp_value (exec_fpa (k := 3) rfl kn.1 (by decide)) (hK _ _ ⟨Touch.refl _ _, rfl⟩)⟩),
          (fun Q aq ww own hS hBg fr kn => .inl ⟨trivial, fun K hK => wp_value (exec_ld rfl kn.1 (ld_u32 (dl_far (HG4.out ww hS)))) (hK _ _ ⟨Touch.refl _ _, rfl⟩)⟩),
          (fun Q aq ww own hS hBg fr kn => .inl ⟨trivial, fun K hK => wp_value (exec_fdl (k := 5) rfl fr.1 (by decide)) (hK _ _ ⟨Touch.refl _ _, rfl⟩)⟩),
          (fun Q aq ww own hS hBg fr kn => .inl ⟨trivial, fun K hK => wp_value (exec_ld rfl kn.1 (ld_u64 (dl_sent (HG4.out ww hS)))) (hK _ _ ⟨Touch.refl _ _, rfl⟩)⟩),
          (fun Q aq ww own hS hBg fr kn => .inl ⟨trivial, fun K hK => wp_value (exec_fdl (k := 1) rfl fr.1 (by decide)) (hK _ _ ⟨Touch.refl _ _, rfl⟩)⟩),
          (fun Q aq ww own hS hBg fr kn => .inl ⟨trivial, fun K hK => wp_value (exec_fpa (k := 0) rfl kn.1 (by decide)) (hK _ _ ⟨Touch.refl _ _, rfl⟩)⟩),
          (fun Q aq ww own hS hBg fr kn => .inl ⟨trivial, fun K hK => wp_value (exec_ldmid rfl isArr32 kn.1 (dl_ks (HG4.out ww hS))) (hK _ _ ⟨Touch.refl _ _, rfl⟩)⟩),
          (fun Q aq ww own hS hBg fr kn => .inl ⟨trivial, fun K hK => wp_value (exec_fdl (k := 5) rfl fr.1 (by decide)) (hK _ _ ⟨Touch.refl _ _, rfl⟩)⟩),
          (fun Q aq ww own hS hBg fr kn => .inl ⟨trivial, fun K hK => wp_value (exec_ld rfl kn.1 (ld_u64 (dl_sent (HG4.out ww hS)))) (hK _ _ ⟨Touch.refl _ _, rfl⟩)⟩),
          (fun Q aq ww own hS hBg fr kn => .inl ⟨trivial, fun K hK => stepc enterRNonce9 rfl (args1 kn.1) (rNonce_run (R 1).1.sent ww hU.out) (fun w' hb => hK _ _ ⟨touch_below hb, rfl⟩)⟩),
          (fun Q aq ww own hS hBg fr kn => .inl ⟨trivial, fun K hK => wp_value (exec_move rfl fr.2.1) (hK _ _ ⟨Touch.refl _ _, rfl⟩)⟩),
          (fun Q aq ww own hS hBg fr kn => .inl ⟨trivial, fun K hK => stepc enterRSeal9 rfl (args4 kn.1 kn.2.1 kn.2.2.1 rfl) (rSeal_run (R 1).1.ks (nonN (R 1).1.sent) text ByteArray.empty ww HKS.out nonN_b ht (by decide)) (fun w' hb => hK _ _ ⟨touch_below hb, rfl⟩)⟩),
          (fun Q aq ww own hS hBg fr kn => .inl ⟨trivial, fun K hK => wp_value (exec_assign rfl kn.1) (hK _ _ ⟨Touch.refl _ _, rfl⟩)⟩),
          (fun Q aq ww own hS hBg fr kn => .inl ⟨trivial, fun K hK => wp_value (exec_assign rfl kn.1) (hK _ _ ⟨Touch.refl _ _, rfl⟩)⟩),
          (fun Q aq ww own hS hBg fr kn => .inl ⟨trivial, fun K hK => wp_value (exec_assign rfl kn.1) (hK _ _ ⟨Touch.refl _ _, rfl⟩)⟩),
          (fun Q aq ww own hS hBg fr kn => .inl ⟨trivial, fun K hK => wp_value (exec_assign (v := .int .i64 0) rfl rfl) (hK _ _ ⟨Touch.refl _ _, rfl⟩)⟩),
          trivial⟩ ?_
    intro vs own u7 hB7 hsz kn inj
    have e6 : vs 6 = .int .u32 (R 1).1.far := kn.1
    have e7 : vs 7 = .int .u64 (R 1).1.sent := kn.2.1
    have e8 : vs 8 = .string (boxT (R 1).1.ks (nonN (R 1).1.sent) text ByteArray.empty) := kn.2.2.1
    have e9 : vs 9 = .int .i64 0 := kn.2.2.2.1
    have h7 := h5.kept hB7
    have HG := Hid.mk (goes_sentD hW he h7 (touch_tr hT5 (touch_of_below hB7)))
    clear kn inj hsz h5 h7 hB7 HG4 HKS hT5
    simp only [putAll, Act.put, List.setIfInBounds_toArray, List.set_cons_zero, List.set_cons_succ, e6, e7, e8, e9]
    go_wp2_with fail
    exact bodyPost_ret (res_4t rfl (by rfl) (by rfl) (by rfl) (by rfl)) rfl ⟨rfl, HG.out⟩
end Go.Proofs.YtbkbcfimpaolmaaGreat
/-
  Own text. The document's session: Slots.
-/
namespace Go.Proofs.YtbkbcfimpaolmaaGreat
open Go.RowKit Go.Proofs
set_option maxRecDepth 100000
theorem enterTopD (args : Array Value) (w : World) : (callFunc 51 args).run Tryz.prog w = .ok (.enter 51 args) w := by kernel_rfl
theorem ld_winD {w : World} {p : Addr} {n : Option Addr} (h : w.cell? p = some (.pointer n)) : (Instr.loadAt 32 (.pointer (some p))).run Tryz.prog w = .ok (.pointer n) w := by simp [go_sem, h]
theorem dl_winS {w : World} {g gw : Nat} {r : Kp × Option Nat} {ty : TypeId} (e : r.2 = some gw) (h : SAt w g ty 72 (dlR r)) : w.cell? ⟨g, 71, none⟩ = some (.pointer (some ⟨gw, 0, none⟩)) := by rw [dl_win h, e]; rfl
theorem act_bsT {o : Oper} {a : Act} {w : World} {K : Act → World → Prop} {Q : Exit → Act → World → Prop} {x : Operand} {V : Nat → Value} (ho : o.op = .buildSlice 49 1 #[(0, x)]) (hx : a.eval x = .agg (SC 8 V))
    (h : ∀ g w', w.heap.size ≤ g → SAt w' g 52 8 V → Below w.heap.size w w' → K (a.put o.dst (.slice (some ⟨g, 0, none⟩) 1 1)) w') : o.wp Tryz.prog a w K Q := by
  have hr := run_bsT V w
  unfold Oper.wp execOp
  simp only [ho, List.map_toArray, List.map_cons, List.map_nil, hx, Sem.run_bind, hr, Result.andThen_ok, Sem.run_pure, Oper.upon]
  exact h _ _ (Nat.le_refl _) (heap_alloc_new w _) ((Below.refl _ _).alloc (Nat.le_refl _) _)
set_option maxHeartbeats 8000000 in
theorem rSlots_run {w : World} {b M : Nat} {σ : Ses} {S : Nat → Prop} (h : SesD w b σ S) (ok : SesOk M σ) (hM : M ≤ 1000) : Calls Tryz.prog 25 #[.pointer (some ⟨b, 0, none⟩)] w fun e w' => ∃ vo, e = .returned vo ∧ w'.ownsRow w.heap.size 52 8 vo (slotsL σ.K 3).length (toldX σ.K (slotsL σ.K 3)) ∧ Below w.heap.size w w' := by
  obtain ⟨R, U, h, hW, hK, rfl⟩ := h
  obtain ⟨t, c, K⟩ := σ
  simp only at h hK
  subst hK
  have HOK : Hid (∀ i, i < 3 → (R i).1.ep ≠ 0 → (R i).1.n ≤ 1000 ∧ Nums L64 (R i).1.n (R i).1.s) := Hid.mk (fun i hi he => ⟨Nat.le_trans (ok.ok i hi he).n1 hM, (ok.ok i hi he).nums⟩)
  clear ok
  have HL : Hid (∀ n, slotsL (fun i => (R i).1) (n + 1) = slotsL (fun i => (R i).1) n ++ (if (R n).1.ep = 0 then [] else [n])) := Hid.mk (fun n => rfl)
  have HN := Hid.mk (slotsL_len (fun i => (R i).1))
  have H0 : Hid (slotsL (fun i => (R i).1) 0 = []) := Hid.mk rfl
  simp only
  generalize slotsL (fun i => (R i).1) = L at *
  go_enter Tryz.func25, Tryz.ntmps25
  go_wp2_with fail
  go_loopg [3, 4] (3 : Nat) (fun gm s3 s8 v => ∃ k : Nat, gm = 3 - k ∧ k ≤ 3 ∧ s8 = .int .i64 (k : Int) ∧ Hid (v.ownsRow w.heap.size 52 8 s3 (L k).length (toldX (fun i => (R i).1) (L k))) ∧ Below w.heap.size w v)
  case atStart => exact ⟨0, rfl, by omega, rfl, Hid.mk (by rw [H0.out]; exact World.ownsRow_nil _ _ _ 8), Below.refl _ _⟩
  case round =>
    obtain ⟨k, hgm, hk, rfl, HO, hB⟩ := hrel
    obtain ⟨s3, hs3⟩ : ∃ s : Value, s = u3 := ⟨_, rfl⟩
    subst hs3
    by_cases hlt : k < 3
    · have h2 := h.kept hB
      go_wp2_with (first | (refine wl_value rfl (exec_ixD (i := k) rfl (by rfl) (by rfl) hlt) ?_) | (refine wl_value rfl (exec_ldD (i := k) rfl (by rfl) hlt h2) ?_) | (refine wl_alO rfl rfl zeroDSlotV ?_; intro g u3 hg g3 hB3; refine Hid.out ?_))
      refine Hid.mk ?_
      have h3 := h2.kept hB3
      have hl3 := h2.lt
      go_wp2_with (refine st_stO rfl rfl isDSlot (dlR_one _) g3 (by rfl) (by rfl) ?_; intro u4 g4 o4; refine Hid.out ?_)
      refine Hid.mk ?_
      have h4 := h3.only o4 (by omega)
      have hB4 := hB3.trans (o4.below hg)
      clear g3 h3 o4 hB3
      have ct := dl_there g4
      have HO2 := Hid.mk (ownT_kept HO.out hB4)
      replace hB := hB.trans (hB4.mono hB.size)
      clear h2 h4 hB4 hg hl3 HO
      by_cases he : (R k).1.ep = 0
      · have HE : Hid (L (k + 1) = L k) := Hid.mk (by rw [HL.out k, if_pos he, List.append_nil])
        rw [show (!decide ((R k).1.ep = 0)) = false by rw [he]; rfl] at ct
        go_wp2_with fail
        go_roundg (3 - (k + 1))
        case rel => exact ⟨k + 1, rfl, by omega, by go_num, Hid.mk (by rw [HE.out]; exact HO2.out), hB⟩
        case measure => omega
      · have HE : Hid (L (k + 1) = L k ++ [k]) := Hid.mk (by rw [HL.out k, if_neg he])
        rw [show (!decide ((R k).1.ep = 0)) = true by simp [he]] at ct
        obtain ⟨gw, hgw, hWi, _⟩ := (hW.below hB).yes k hlt he
        obtain ⟨hn1, hnu⟩ := HOK.out k hlt he
        have HG4 : Hid (∀ v, Below u4.heap.size u4 v → SAt v g 34 72 (dlR (R k))) := Hid.mk (fun v hv => SAt.kept g4 hv)
        have HTP : Hid (∀ v, Below u4.heap.size u4 v → Calls Tryz.prog 51 #[.pointer (some ⟨gw, 0, none⟩)] v fun e w' => e = .returned (.int .u64 (topF (R k).1.s (R k).1.n)) ∧ Below v.heap.size v w') := Hid.mk (fun v hv => topR (winR_below hWi hv) hnu (by omega))
        have hlen := HN.out k
        clear g4 hWi hnu
        go_wp2_with fail
        refine wp_region_cut 21 rfl (by kernel_rfl) (any_steps (Below u4.heap.size u4) (fun v v' => Below v.heap.size v v') (fun i v v0 => match i with | 0 => v = s3 | 1 => v = .int .i64 (k : Int) | 2 => v = .pointer (some ⟨g, 0 + 67, none⟩) | 3 => v = .int .i64 (R k).1.ep | 4 => v = .pointer (some ⟨g, 0 + 1, none⟩) | 5 => v = .pointer (some ⟨g, 0 + 1 + 64, none⟩) | 6 => v = .int .u32 (R k).1.loc | 7 => v = .pointer (some ⟨g, 0 + 1, none⟩) | 8 => v = .pointer (some ⟨g, 0 + 1 + 65, none⟩) | 9 => v = .int .u32 (R k).1.far | 10 => v = .pointer (some ⟨g, 0 + 68, none⟩) | 11 => v = .bool (R k).1.fst | 12 => v = .pointer (some ⟨g, 0 + 69, none⟩) | 13 => v = .int .i64 (R k).1.born | 14 => v = .pointer (some ⟨g, 0 + 70, none⟩) | 15 => v = .int .u64 (R k).1.sent | 16 => v = .pointer (some ⟨g, 0 + 71, none⟩) | 17 => v = .pointer (some ⟨gw, 0, none⟩) | 18 => v = .int .u64 (topF (R k).1.s (R k).1.n) | 19 => v = .agg (SC 8 (toV k (R k).1)) | 20 => ∃ g8, v = .slice (some ⟨g8, 0, none⟩) 1 1 ∧ SAt v0 g8 52 8 (toV k (R k).1) | _ => True)
            [18, 19, 20, 21, 22, 23, 24, 25, 26, 27, 28, 29, 30, 31, 32, 33, 34, 35, 36, 37, 38]
            [(3, s3), (4, .int .i64 (k : Int)), (5, .pointer (some ⟨g, 0, none⟩))]
            [[], [], [], [2], [], [4], [5], [], [7], [8], [], [10], [], [12], [], [14], [], [16], [17], [1, 3, 6, 9, 11, 13, 15, 18], [19]]
            (by kernel_rfl) ⟨rfl, rfl, rfl, trivial⟩ (Below.drew (Below.refl _ _)) (fun v v' h hb => h.trans (hb.mono h.size)) ?_
            ⟨
              (fun Q a1 ww hS fr kn => ⟨trivial, fun K hK => wp_value (exec_move rfl fr.1) (hK _ _ rfl (Below.refl _ _))⟩),
              (fun Q a1 ww hS fr kn => ⟨trivial, fun K hK => wp_value (exec_move rfl fr.2.1) (hK _ _ rfl (Below.refl _ _))⟩),
              (fun Q a1 ww hS fr kn => ⟨trivial, fun K hK => wp_value (exec_fdl (k := 2) rfl fr.2.2.1 (by decide)) (hK _ _ rfl (Below.refl _ _))⟩),
              (fun Q a1 ww hS fr kn => ⟨trivial, fun K hK => wp_value (exec_ld rfl kn.1 (ld_int (dl_ep (HG4.out ww hS)))) (hK _ _ rfl (Below.refl _ _))⟩),
              (fun Q a1 ww hS fr kn => ⟨trivial, fun K hK => wp_value (exec_fdl (k := 1) rfl fr.2.2.1 (by decide)) (hK _ _ rfl (Below.refl _ _))⟩),
              (fun Q a1 ww hS fr kn => ⟨trivial, fun K hK => wp_value (exec_fpa (k := 2) rfl kn.1 (by decide)) (hK _ _ rfl (Below.refl _ _))⟩),
              (fun Q a1 ww hS fr kn => ⟨trivial, fun K hK => wp_value (exec_ld rfl kn.1 (ld_u32 (dl_loc (HG4.out ww hS)))) (hK _ _ rfl (Below.refl _ _))⟩),
              (fun Q a1 ww hS fr kn => ⟨trivial, fun K hK => wp_value (exec_fdl (k := 1) rfl fr.2.2.1 (by decide)) (hK _ _ rfl (Below.refl _ _))⟩),
              (fun Q a1 ww hS fr kn => ⟨trivial, fun K hK => wp_value (exec_fpa (k := 3) rfl kn.1 (by decide)) (hK _ _ rfl (Below.refl _ _))⟩),
              (fun Q a1 ww hS fr kn => ⟨trivial, fun K hK => wp_value (exec_ld rfl kn.1 (ld_u32 (dl_far (HG4.out ww hS)))) (hK _ _ rfl (Below.refl _ _))⟩),
              (fun Q a1 ww hS fr kn => ⟨trivial, fun K hK => wp_value (exec_fdl (k := 3) rfl fr.2.2.1 (by decide)) (hK _ _ rfl (Below.refl _ _))⟩),
              (fun Q a1 ww hS fr kn => ⟨trivial, fun K hK => wp_value (exec_ld rfl kn.1 (ld_bool (dl_fst (HG4.out ww hS)))) (hK _ _ rfl (Below.refl _ _))⟩),
              (fun Q a1 ww hS fr kn => ⟨trivial, fun K hK => wp_value (exec_fdl (k := 4) rfl fr.2.2.1 (by decide)) (hK _ _ rfl (Below.refl _ _))⟩),
              (fun Q a1 ww hS fr kn => ⟨trivial, fun K hK => wp_value (exec_ld rfl kn.1 (ld_int (dl_born (HG4.out ww hS)))) (hK _ _ rfl (Below.refl _ _))⟩),
              (fun Q a1 ww hS fr kn => ⟨trivial, fun K hK => wp_value (exec_fdl (k := 5) rfl fr.2.2.1 (by decide)) (hK _ _ rfl (Below.refl _ _))⟩),
              (fun Q a1 ww hS fr kn => ⟨trivial, fun K hK => wp_value (exec_ld rfl kn.1 (ld_u64 (dl_sent (HG4.out ww hS)))) (hK _ _ rfl (Below.refl _ _))⟩),
              (fun Q a1 ww hS fr kn => ⟨trivial, fun K hK => wp_value (exec_fdl (k := 6) rfl fr.2.2.1 (by decide)) (hK _ _ rfl (Below.refl _ _))⟩),
              (fun Q a1 ww hS fr kn => ⟨trivial, fun K hK => wp_value (exec_ld rfl kn.1 (ld_winD (dl_winS hgw (HG4.out ww hS)))) (hK _ _ rfl (Below.refl _ _))⟩),
              (fun Q a1 ww hS fr kn => ⟨trivial, fun K hK => stepc enterTopD rfl (args1 kn.1) (HTP.out ww hS) (fun w' hb => hK _ _ rfl hb)⟩),
              (fun Q a1 ww hS fr kn => ⟨trivial, fun K hK => wp_value (exec_to rfl kn.1 kn.2.1 kn.2.2.1 kn.2.2.2.1 kn.2.2.2.2.1 kn.2.2.2.2.2.1 kn.2.2.2.2.2.2.1 kn.2.2.2.2.2.2.2.1) (hK _ _ rfl (Below.refl _ _))⟩),
              (fun Q a1 ww hS fr kn => ⟨trivial, fun K hK => act_bsT rfl kn.1 (fun g' w' hg' h8 hb => hK _ _ ⟨g', rfl, h8⟩ hb)⟩),
              trivial⟩ ?_)
        · intro i v u' u'' hh hb
          match i with
          | 0 | 1 | 2 | 3 | 4 | 5 | 6 | 7 | 8 | 9 | 10 | 11 | 12 | 13 | 14 | 15 | 16 | 17 | 18 | 19 => exact hh
          | 20 => obtain ⟨g8, e8, hg8⟩ := hh; exact ⟨g8, e8, SAt.kept hg8 hb⟩
          | n + 21 => trivial
        intro vs u5 hS5 hk5
        have e18 : vs 18 = s3 := hk5 0 (by decide)
        obtain ⟨g8, e38, h8⟩ := hk5 20 (by decide)
        replace e38 : vs 38 = .slice (some ⟨g8, 0, none⟩) 1 1 := e38
        have hO5 := ownT_kept HO2.out hS5
        replace hB := hB.trans (hS5.mono hB.size)
        have hsz := hB.size
        clear hk5 HO2 HG4 HTP hS5 ct
        show wpList Tryz.prog _ _ (_ :: _ :: []) _ _
        simp only [putAll, Act.put, List.setIfInBounds_toArray, List.set_cons_zero, List.set_cons_succ, e18, e38]
        clear e18 e38
        go_wp2_with (at_builtin; refine ap_told (toV_one k (R k).1) (by rfl) (by rfl) hO5 h8 (by omega) hsz ?_; intro v5 u6 hO6 hB6; refine Hid.out ?_)
        refine Hid.mk ?_
        have HO6 : Hid (u6.ownsRow w.heap.size 52 8 v5 (L (k + 1)).length (toldX (fun i => (R i).1) (L (k + 1)))) := Hid.mk (by rw [HE.out, toldX_one, List.length_append]; exact hO6)
        replace hB := hB.trans hB6
        clear hO5 h8 hO6 hB6 HE
        go_wp2_with fail
        go_roundg (3 - (k + 1))
        case rel => exact ⟨k + 1, rfl, by omega, by go_num, HO6, hB⟩
        case measure => omega
    · obtain rfl : k = 3 := by omega
      go_wp2_with fail
      go_ret
      exact ⟨_, rfl, HO.out, hB⟩
end Go.Proofs.YtbkbcfimpaolmaaGreat
