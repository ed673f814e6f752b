/-
  Own text. Keypairs stand in the order of their epochs.
-/
import Derived.Test.YtbkbcfimpaolmaaJ10
namespace Go.Proofs.Ytbkbcfimpaolmaa
open Go.RowKit Go.Proofs
set_option maxRecDepth 100000
/-- A slot's keypair is older than those of the slots behind it. -/
def Ord (σ : Ses) : Prop := ∀ i j, i < j → j < 3 → (σ.K i).ep ≠ 0 → (σ.K j).ep ≠ 0 → (σ.K i).ep < (σ.K j).ep
theorem ord_of {σ : Ses} (h01 : (σ.K 0).ep ≠ 0 → (σ.K 1).ep ≠ 0 → (σ.K 0).ep < (σ.K 1).ep) (h02 : (σ.K 0).ep ≠ 0 → (σ.K 2).ep ≠ 0 → (σ.K 0).ep < (σ.K 2).ep) (h12 : (σ.K 1).ep ≠ 0 → (σ.K 2).ep ≠ 0 → (σ.K 1).ep < (σ.K 2).ep) : Ord σ := fun i j hij hj hi he => by
  have : (i = 0 ∧ j = 1) ∨ (i = 0 ∧ j = 2) ∨ (i = 1 ∧ j = 2) := by omega
  rcases this with ⟨rfl, rfl⟩ | ⟨rfl, rfl⟩ | ⟨rfl, rfl⟩
  · exact h01 hi he
  · exact h02 hi he
  · exact h12 hi he
theorem Ord.congr {σ σ' : Ses} (h : Ord σ) (e : ∀ i, i < 3 → (σ'.K i).ep = (σ.K i).ep ∨ (σ'.K i).ep = 0) : Ord σ' := fun i j hij hj hi he => by
  have e1 := e i (by omega)
  have e2 := e j hj
  have k1 : (σ'.K i).ep = (σ.K i).ep := e1.resolve_right hi
  have k2 : (σ'.K j).ep = (σ.K j).ep := e2.resolve_right he
  rw [k1, k2]
  exact h i j hij hj (k1 ▸ hi) (k2 ▸ he)
theorem Ord.put {M : Nat} {σ : Ses} (h : Ord σ) (ok : SesOk M σ) (now : Int) (ks kr : Nat → Int) (loc far : Int) (first : Bool) : Ord (putS σ now ks kr loc far first) := by
  by_cases hA : atF σ.K loc = -1
  · rw [putS_yes hA]
    have hle : ∀ i, i < 3 → (σ.K i).ep ≠ 0 → (σ.K i).ep < σ.c + 1 := fun i hi he => by have := (ok.ok i hi he).ep1; omega
    cases first
    · obtain ⟨p2, p1, p0⟩ := plG_f (ep := Kp.ep) (R := σ.K) (r := kpNew ks kr loc far (σ.c + 1) (max σ.t now) false) (z := kp0)
      refine ord_of ?_ ?_ ?_
      · simp only [p0, p1]; exact h 0 1 (by omega) (by omega)
      · simp only [p0, p2]; exact fun a _ => hle 0 (by omega) a
      · simp only [p1, p2]; exact fun a _ => hle 1 (by omega) a
    · obtain ⟨p1, p2, p0⟩ := plG_t (ep := Kp.ep) (R := σ.K) (r := kpNew ks kr loc far (σ.c + 1) (max σ.t now) true) (z := kp0)
      refine ord_of ?_ ?_ ?_
      · simp only [p0, p1]
        intro a _
        show _ < σ.c + 1
        by_cases h2 : (σ.K 2).ep ≠ 0
        · rw [if_pos h2]; exact hle 2 (by omega) h2
        · rw [if_neg h2] at a ⊢
          by_cases h1 : (σ.K 1).ep ≠ 0
          · rw [if_pos h1]; exact hle 1 (by omega) h1
          · rw [if_neg h1] at a ⊢; exact hle 0 (by omega) a
      · simp only [p2]; exact fun _ b => absurd rfl b
      · simp only [p2]; exact fun _ b => absurd rfl b
  · rw [putS_no hA]
    exact h
theorem Ord.seal {σ : Ses} (h : Ord σ) (now : Int) : Ord (sealS σ now) := by
  unfold sealS
  split
  · refine h.congr (fun i _ => .inl ?_)
    show (setG σ.K 1 (kpSent (σ.K 1)) i).ep = _
    unfold setG
    split
    · rename_i e; subst e; rfl
    · rfl
  · exact h
theorem Ord.drop {σ : Ses} (h : Ord σ) (p : Kp → Bool) (t : Int) : Ord ⟨t, σ.c, dropK p σ.K 3⟩ := h.congr (fun i _ => by
  show (dropK p σ.K 3 i).ep = _ ∨ (dropK p σ.K 3 i).ep = 0
  unfold dropK
  split
  · exact .inr rfl
  · exact .inl rfl)
theorem Ord.opened {t c : Int} {K : Nat → Kp} (h : Ord ⟨t, c, K⟩) (i : Nat) : Ord ⟨t, c, openedF K i⟩ := by
  have key : ∀ K2 : Nat → Kp, Ord ⟨t, c, K2⟩ → Ord ⟨t, c, setG K2 0 kp0⟩ := fun K2 h2 => h2.congr (fun j _ => by
    show (setG K2 0 kp0 j).ep = _ ∨ (setG K2 0 kp0 j).ep = 0
    unfold setG
    split
    · exact .inr rfl
    · exact .inl rfl)
  have hm : Ord ⟨t, c, movedG Kp.ep K kp0⟩ := by
    obtain ⟨p1, p2, p0⟩ := mvG (ep := Kp.ep) (R := K) (z := kp0)
    refine ord_of ?_ ?_ ?_
    · simp only [p0, p1]
      intro a b
      by_cases h1 : (K 1).ep ≠ 0
      · rw [if_pos h1]; exact h 1 2 (by omega) (by omega) h1 b
      · rw [if_neg h1] at a ⊢; exact h 0 2 (by omega) (by omega) a b
    · simp only [p2]; exact fun _ b => absurd rfl b
    · simp only [p2]; exact fun _ b => absurd rfl b
  unfold openedF
  by_cases e : i = 2
  · simp only [if_pos e]
    split
    · exact key _ hm
    · exact hm
  · simp only [if_neg e]
    split
    · exact key _ h
    · exact h
theorem Ord.open {σ : Ses} (h : Ord σ) (now x c : Int) (box : ByteArray) : Ord (openS σ now x c box).2 := by
  have hT : Ord ⟨max σ.t now, σ.c, σ.K⟩ := h
  rcases at_cases σ.K x with hA | ⟨i, hi, hA, he, _⟩
  · rw [openS_no hA]; exact hT
  · rw [openS_at hA]
    unfold openAt
    split
    · exact hT
    · split
      · exact hT
      · refine Ord.opened ?_ i
        refine hT.congr (fun j _ => .inl ?_)
        show (setG σ.K i (kpTook (σ.K i) c) j).ep = _
        unfold setG
        split
        · rename_i e; subst e; rfl
        · rfl
theorem ord0 : Ord ses0 := fun _ _ _ _ he => absurd rfl he
/-- What is told: the numbers of the slots rise. -/
theorem slots_spec (K : Nat → Kp) : ∀ n, (∀ k, k < (slotsL K n).length → (slotsL K n).getD k 0 < n ∧ (K ((slotsL K n).getD k 0)).ep ≠ 0) ∧ ∀ k, k + 1 < (slotsL K n).length → (slotsL K n).getD k 0 < (slotsL K n).getD (k + 1) 0
  | 0 => ⟨fun k h => by simp [slotsL] at h, fun k h => by simp [slotsL] at h⟩
  | n + 1 => by
    obtain ⟨h1, h2⟩ := slots_spec K n
    unfold slotsL
    by_cases he : (K n).ep = 0
    · rw [if_pos he, List.append_nil]
      exact ⟨fun k hk => ⟨by have := (h1 k hk).1; omega, (h1 k hk).2⟩, h2⟩
    · rw [if_neg he]
      have hl : (slotsL K n ++ [n]).length = (slotsL K n).length + 1 := by simp
      have ga : ∀ k, k < (slotsL K n).length → (slotsL K n ++ [n]).getD k 0 = (slotsL K n).getD k 0 := fun k hk => by
        rw [List.getD_eq_getElem?_getD, List.getD_eq_getElem?_getD, List.getElem?_append_left hk]
      have gb : (slotsL K n ++ [n]).getD (slotsL K n).length 0 = n := by
        rw [List.getD_eq_getElem?_getD, List.getElem?_append_right (Nat.le_refl _)]
        simp
      refine ⟨fun k hk => ?_, fun k hk => ?_⟩
      · rw [hl] at hk
        by_cases e : k < (slotsL K n).length
        · rw [ga k e]; exact ⟨by have := (h1 k e).1; omega, (h1 k e).2⟩
        · obtain rfl : k = (slotsL K n).length := by omega
          rw [gb]; exact ⟨by omega, he⟩
      · rw [hl] at hk
        by_cases e : k + 1 < (slotsL K n).length
        · rw [ga k (by omega), ga (k + 1) e]; exact h2 k e
        · have e2 : k + 1 = (slotsL K n).length := by omega
          rw [ga k (by omega), e2, gb]
          exact (h1 k (by omega)).1
theorem told_at (K : Nat → Kp) : ∀ (l : List Nat) (k f : Nat), k < l.length → f < 8 → (toldX K l)[8 * k + f]? = some (toV (l.getD k 0) (K (l.getD k 0)) f)
  | [], k, f, h, _ => by simp at h
  | x :: l, 0, f, _, hf => by
    unfold toldX
    rw [List.flatMap_cons, List.getElem?_append_left (by rw [Array.length_toList, SC_size]; omega), Array.getElem?_toList, SC_get 8 _ _ (by omega)]
    simp
  | x :: l, k + 1, f, h, hf => by
    have ih := told_at K l k f (by simpa using h) hf
    unfold toldX at ih ⊢
    rw [List.flatMap_cons, List.getElem?_append_right (by rw [Array.length_toList, SC_size]; omega), Array.length_toList, SC_size, show 8 * (k + 1) + f - 8 = 8 * k + f by omega, ih]
    simp
end Go.Proofs.Ytbkbcfimpaolmaa
