/-
  Own text. What rest of the document's answer for poly gives: the number by 2^130 - 5.
-/
import Derived.Test.YtfbeclleeehaaaaP2
import Derived.Deep.OwnRows
namespace Go.Proofs.Ytfbeclleeehaaaa
open Go.RowKit Go.Proofs
theorem dval_one {s : Nat → Int} {i : Nat} : ∀ {n : Nat}, (∀ j, j < n → 0 ≤ s j) → i < n → 256 ^ i * s i ≤ dval s n
  | 0, _, h => by omega
  | n + 1, hs, h => by
    have h0 := dval_nonneg (s := s) (n := n) (fun j hj => hs j (by omega))
    unfold dval
    by_cases e : i = n
    · subst e; omega
    · have h1 := dval_one (n := n) (fun j hj => hs j (by omega)) (show i < n by omega)
      have h2 := Int.mul_nonneg (Int.le_of_lt (p256 n)) (hs n (by omega))
      omega
theorem dval_comp (e : Nat → Int) : ∀ n, dval (fun i => 255 - e i) n = 256 ^ n - 1 - dval e n
  | 0 => by simp [dval]
  | n + 1 => by
    unfold dval
    rw [dval_comp e n, Int.mul_sub, Int.pow_succ]
    omega
/-- When a number below 2^130 is 2^130 - 5 at least. -/
theorem least_iff {e : Nat → Int} {m : Nat} (hm : 18 ≤ m) (he : Dg 256 m e) (hX : dval e m < W130) :
    (e 16 = 3 ∧ 251 ≤ e 0 ∧ ∀ i, 1 ≤ i → i < 16 → e i = 255) ↔ P130 ≤ dval e m := by
  have hlt := hX
  have h17 : dval e m = dval e 17 := by
    refine dval_tail (by omega) (fun i h1 h2 => ?_)
    have h3 := dval_one (s := e) (fun j hj => (he j hj).1) h2
    have h4 := he i h2
    rcases Int.lt_or_le 0 (e i) with h | h
    · exfalso
      have h5 : (256 : Int) ^ 17 ≤ 256 ^ i := by
        obtain ⟨d, hd⟩ : ∃ d, i = 17 + d := ⟨i - 17, by omega⟩
        rw [hd, Int.pow_add]
        have := p256 d
        have h6 : (256 : Int) ^ 17 * 1 ≤ 256 ^ 17 * 256 ^ d := Int.mul_le_mul_of_nonneg_left (by omega) (by decide)
        omega
      have h6 : (256 : Int) ^ i * 1 ≤ 256 ^ i * e i := Int.mul_le_mul_of_nonneg_left (by omega) (Int.le_of_lt (p256 i))
      have h7 : (256 : Int) ^ 17 = 87112285931760246646623899502532662132736 := by decide
      unfold W130 at hlt
      omega
    · omega
  have e17 : dval e 17 = dval e 16 + 340282366920938463463374607431768211456 * e 16 := by
    show dval e 16 + 256 ^ 16 * e 16 = _
    rw [pow16]
  have hc := dval_comp e 16
  rw [pow16] at hc
  have h16 := he 16 (by omega)
  have hn := dval_nonneg (s := fun i => 255 - e i) (n := 16) (fun i hi => by have := he i (by omega); omega)
  have hl := dval_nonneg (s := e) (n := 16) (fun i hi => (he i (by omega)).1)
  unfold W130 at hlt
  unfold P130
  rw [h17, e17] at hlt ⊢
  constructor
  · rintro ⟨h1, h2, h3⟩
    have hz : dval (fun i => 255 - e i) 16 = 255 - e 0 := by
      have := dval_tail (s := fun i => 255 - e i) (n := 1) (m := 16) (by omega) (fun i h4 h5 => by have := h3 i h4 h5; omega)
      rw [this]
      simp [dval]
    omega
  · intro hge
    have h163 : e 16 = 3 := by omega
    have hsm : dval (fun i => 255 - e i) 16 ≤ 4 := by omega
    have hnn : ∀ j, j < 16 → 0 ≤ 255 - e j := fun j hj => by have := he j (by omega); omega
    refine ⟨h163, ?_, fun i h1 h2 => ?_⟩
    · have := dval_one (s := fun i => 255 - e i) (i := 0) (n := 16) hnn (by omega)
      simp at this
      omega
    · have h3 := dval_one (s := fun i => 255 - e i) (i := i) (n := 16) hnn h2
      have h4 := hnn i h2
      rcases Int.lt_or_le 0 (255 - e i) with h | h
      · exfalso
        have h5 : (256 : Int) ^ 1 ≤ 256 ^ i := by
          obtain ⟨d, hd⟩ : ∃ d, i = 1 + d := ⟨i - 1, by omega⟩
          rw [hd, Int.pow_add]
          have := p256 d
          have h6 : (256 : Int) ^ 1 * 1 ≤ 256 ^ 1 * 256 ^ d := Int.mul_le_mul_of_nonneg_left (by omega) (by decide)
          omega
        have h6 : (256 : Int) ^ i * 1 ≤ 256 ^ i * (255 - e i) := Int.mul_le_mul_of_nonneg_left (by omega) (Int.le_of_lt (p256 i))
        simp at h5
        omega
      · have := he i (by omega)
        omega
theorem least_val {e : Nat → Int} {m : Nat} (hm : 18 ≤ m) (he : Dg 256 m e) (hX : dval e m < W130) (h1 : e 16 = 3) (h3 : ∀ i, 1 ≤ i → i < 16 → e i = 255) : dval e m = W130 - 256 + e 0 := by
  have hc := dval_comp e 16
  rw [pow16] at hc
  have hz : dval (fun i => 255 - e i) 16 = 255 - e 0 := by
    have := dval_tail (s := fun i => 255 - e i) (n := 1) (m := 16) (by omega) (fun i h4 h5 => by have := h3 i h4 h5; omega)
    rw [this]
    simp [dval]
  have h17 : dval e 17 = dval e 16 + 340282366920938463463374607431768211456 * e 16 := by
    show dval e 16 + 256 ^ 16 * e 16 = _
    rw [pow16]
  have hs := dval_shift e 17 (m - 17)
  rw [show 17 + (m - 17) = m by omega] at hs
  have hn := dval_nonneg (s := fun j => e (17 + j)) (n := m - 17) (fun i hi => (he (17 + i) (by omega)).1)
  have hp : (256 : Int) ^ 17 = 87112285931760246646623899502532662132736 := by decide
  have h0 := he 0 (by omega)
  rw [hp] at hs
  unfold W130 at *
  omega
theorem hid_b {x : Nat → Int} {m : Nat} (hx : Dg 256 m x) (j : Nat) : 0 ≤ hid (pad x m) j ∧ hid (pad x m) j < 256 := by
  have hp : ∀ i, 0 ≤ pad x m i ∧ pad x m i < 256 := fun i => by
    unfold pad
    split
    · exact hx i (by assumption)
    · omega
  have h1 := hp (16 + j)
  have h2 := hp (17 + j)
  unfold hid
  omega
theorem own_set {w : World} {B g c : Nat} {e : TypeId} {n : Nat} {k : IntKind} {s : Nat → Int} (h : w.ownsRow B e 1 (.slice (some ⟨g, 0, none⟩) n c) n (nums k n s)) (i : Nat) (v : Int) (hi : i < n) : (w.setCell ⟨g, i, none⟩ (.int k v)).ownsRow B e 1 (.slice (some ⟨g, 0, none⟩) n c) n (nums k n (upd s i v)) := by
  have h1 := (World.ownsRow.stored h i (.int k v)).1
  have e1 : (nums k n s).set i (.int k v) = nums k n (upd s i v) := by
    apply List.ext_getElem?
    intro j
    rw [List.getElem?_set]
    by_cases hj : i = j
    · subst hj
      rw [if_pos rfl, if_pos (by rw [nums_len]; exact hi), nums_at k n _ hi]
      simp [upd]
    · rw [if_neg hj]
      by_cases h2 : j < n
      · rw [nums_at k n s h2, nums_at k n _ h2]
        unfold upd
        rw [if_neg (fun h => hj h.symm)]
      · rw [List.getElem?_eq_none (by rw [nums_len]; omega), List.getElem?_eq_none (by rw [nums_len]; omega)]
  rw [e1] at h1
  exact h1
end Go.Proofs.Ytfbeclleeehaaaa
