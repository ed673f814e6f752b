/-
  Own text. What holds of every keypair of a session, kept by all calls.
-/
import Derived.Test.YtbkbcfimpaolmaaSXS
namespace Go.Proofs.Ytbkbcfimpaolmaa
open Go.RowKit Go.Proofs
set_option maxRecDepth 100000
/-- Every keypair that is there has P. -/
def AllK (P : Kp → Prop) (K : Nat → Kp) : Prop := ∀ i, i < 3 → (K i).ep ≠ 0 → P (K i)
theorem AllK.mono {P Q : Kp → Prop} {K : Nat → Kp} (h : AllK P K) (hPQ : ∀ k, P k → Q k) : AllK Q K := fun i hi he => hPQ _ (h i hi he)
theorem all_set {P : Kp → Prop} {K : Nat → Kp} {k : Kp} {i : Nat} (h : AllK P K) (hk : k.ep ≠ 0 → P k) : AllK P (setG K i k) := fun j hj he => by
  unfold setG at he ⊢
  by_cases e : j = i
  · rw [if_pos e] at he ⊢; exact hk he
  · rw [if_neg e] at he ⊢; exact h j hj he
theorem all_keep {P : Kp → Prop} {K : Nat → Kp} {i : Nat} (h : AllK P K) (hi : i < 3) : AllK P (keepG Kp.ep K i) := fun j hj he => by
  unfold keepG at he ⊢
  by_cases e : j = 0 ∧ (K i).ep ≠ 0
  · rw [if_pos e]; exact h i hi e.2
  · rw [if_neg e] at he ⊢; exact h j hj he
theorem all_drop {P : Kp → Prop} {K : Nat → Kp} (h : AllK P K) (p : Kp → Bool) : AllK P (dropK p K 3) := fun j hj he => by
  unfold dropK at he ⊢
  by_cases e : j < 3 ∧ goesF p (K j) = true
  · rw [if_pos e] at he; exact absurd rfl he
  · rw [if_neg e] at he ⊢; exact h j hj he
theorem all_moved {P : Kp → Prop} {K : Nat → Kp} (h : AllK P K) : AllK P (movedG Kp.ep K kp0) := by
  unfold movedG
  exact all_set (all_set (all_keep h (by omega)) (h 2 (by omega))) (fun e => absurd rfl e)
theorem all_opened {P : Kp → Prop} {K : Nat → Kp} (h : AllK P K) (i : Nat) : AllK P (openedF K i) := by
  unfold openedF
  by_cases e : i = 2
  · simp only [if_pos e]
    split
    · exact all_set (all_moved h) (fun e => absurd rfl e)
    · exact all_moved h
  · simp only [if_neg e]
    split
    · exact all_set h (fun e => absurd rfl e)
    · exact h
theorem all_place {P : Kp → Prop} {K : Nat → Kp} {k : Kp} (h : AllK P K) (hk : P k) (first : Bool) : AllK P (placeG Kp.ep K k kp0 first) := by
  unfold placeG
  split
  · exact all_set (all_set (all_keep (all_keep h (by omega)) (by omega)) (fun _ => hk)) (fun e => absurd rfl e)
  · exact all_set h (fun _ => hk)
theorem all_seal {P : Kp → Prop} {σ : Ses} (h : AllK P σ.K) (now : Int) (hP : ∀ k, P k → P (kpSent k)) : AllK P (sealS σ now).K := by
  unfold sealS
  split
  · exact all_set h (fun e => hP _ (h 1 (by omega) e))
  · exact h
theorem all_put {P : Kp → Prop} {σ : Ses} (h : AllK P σ.K) (now : Int) (ks kr : Nat → Int) (loc far : Int) (first : Bool) (hk : P (kpNew ks kr loc far (σ.c + 1) (max σ.t now) first)) : AllK P (putS σ now ks kr loc far first).K := by
  unfold putS
  split
  · exact all_place h hk first
  · exact h
theorem all_open {P Q : Kp → Prop} {σ : Ses} (h : AllK P σ.K) (now x c : Int) (box : ByteArray) (hPQ : ∀ k, P k → k.loc ≠ x → Q k) (hT : ∀ k, P k → k.loc = x → Q (kpTook k c)) (one : ∀ i j, i < 3 → j < 3 → (σ.K i).ep ≠ 0 → (σ.K j).ep ≠ 0 → (σ.K i).loc = (σ.K j).loc → i = j) (hok : (openS σ now x c box).1.2.2 = 0) : AllK Q (openS σ now x c box).2.K := by
  rcases at_cases σ.K x with hA | ⟨i, hi, hA, he, hx⟩
  · rw [openS_no hA] at hok; exact absurd (show (15 : Int) = 0 from hok) (by decide)
  · rw [openS_at hA] at hok ⊢
    unfold openAt at hok ⊢
    split at hok
    · rename_i h1; exact absurd hok h1
    · rename_i h1
      rw [if_neg h1]
      split at hok
      · rename_i h2; exact absurd hok h2
      · rename_i h2
        rw [if_neg h2]
        refine all_opened ?_ i
        intro j hj hej
        unfold setG at hej ⊢
        by_cases e : j = i
        · subst e
          rw [if_pos rfl]
          exact hT _ (h j hj he) hx
        · rw [if_neg e] at hej ⊢
          refine hPQ _ (h j hj hej) (fun e' => e (one j i hj hi hej he (by rw [e', hx])))
end Go.Proofs.Ytbkbcfimpaolmaa
