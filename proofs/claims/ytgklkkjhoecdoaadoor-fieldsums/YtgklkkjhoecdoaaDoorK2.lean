/-
  Own text. What Rest of the document's answer does to a number: folded at 2^256, then at 2^255, then once p less.
-/
import Derived.Test.YtgklkkjhoecdoaaDoorK1
namespace Go.Proofs.YtgklkkjhoecdoaaDoor
open Go.RowKit Go.Proofs
/-- The digits from the sixteenth on are laid, 38 times, onto the first ones: so far j of them. -/
structure Fold (X : List Int) (j m : Nat) (ys : List Int) : Prop where
  l16 : 16 ≤ ys.length
  lj : j ≤ ys.length
  lm : ys.length ≤ max 16 m
  num : val ys = val (X.take 16) + 38 * val ((X.drop 16).take j)
  lo : ∀ k, 0 ≤ ys.getD k 0 ∧ ys.getD k 0 < 2621440
  hi : ∀ k, j ≤ k → ys.getD k 0 < 65536
theorem Fold.start {X : List Int} (hd : Dgs 65536 X) (hl : 16 ≤ X.length) : Fold X 0 0 (X.take 16) :=
  ⟨by simp; omega, Nat.zero_le _, by simp; omega, by simp [val], fun k => ((hd.take 16).mono (by omega : (65536 : Int) ≤ 2621440)).at (by omega) k, fun k _ => ((hd.take 16).at (by omega) k).2⟩
theorem Fold.wide {X : List Int} {j : Nat} {ys : List Int} (h : Fold X j j ys) : Fold X j (j + 1) ys := ⟨h.l16, h.lj, by have := h.lm; omega, h.num, h.lo, h.hi⟩
theorem getD_snoc0 (ys : List Int) (k : Nat) : (ys ++ [0]).getD k 0 = ys.getD k 0 := by
  simp only [List.getD, List.getElem?_append]
  by_cases h : k < ys.length
  · simp [h]
  · rw [if_neg h, List.getElem?_eq_none (Nat.le_of_not_lt h)]
    cases e : k - ys.length <;> simp
theorem Fold.zero {X : List Int} {j : Nat} {ys : List Int} (h : Fold X j (j + 1) ys) (hl : ys.length ≤ j) : Fold X j (j + 1) (ys ++ [0]) := by
  have h1 := h.lj
  have h2 := h.l16
  refine ⟨by simp; omega, by simp; omega, by simp; omega, by rw [val_snoc, h.num]; omega, fun k => by rw [getD_snoc0]; exact h.lo k, fun k hk => by rw [getD_snoc0]; exact h.hi k hk⟩
theorem Fold.step {X : List Int} {j : Nat} {ys : List Int} (h : Fold X j (j + 1) ys) (hd : Dgs 65536 X) (hl : j < ys.length) (hj : j + 16 < X.length) :
    Fold X (j + 1) (j + 1) (ys.set j (ys.getD j 0 + 38 * X.getD (16 + j) 0)) := by
  have hx := hd.at (by omega) (16 + j)
  have h0 := h.lo j
  have h1 := h.hi j (Nat.le_refl _)
  have h2 := h.l16
  have h3 := h.lm
  have eX : (X.drop 16).getD j 0 = X.getD (16 + j) 0 := by simp [List.getD]
  refine ⟨by simp; omega, by simp; omega, by simp; omega, ?_, fun k => ?_, fun k hk => ?_⟩
  · rw [val_set _ _ _ hl, h.num, val_take _ j (by simp; omega), eX, Int.mul_add 38, Int.add_comm (ys.getD j 0), Int.add_sub_cancel, ← Int.mul_assoc 38, Int.mul_comm 38 (65536 ^ j), Int.mul_assoc, Int.add_assoc]
  · rw [getD_set _ _ _ _ hl]
    split
    · omega
    · exact h.lo k
  · rw [getD_set _ _ _ _ hl, if_neg (by omega)]
    exact h.hi k (by omega)
theorem two256 : (65536 : Int) ^ 16 = 38 + 2 * P255 := by decide +kernel
/-- What stands in x, in Rest of n. -/
structure Rst (n : Int) (X : List Int) : Prop where
  dgs : Dgs 65536 X
  l16 : 16 ≤ X.length
  l44 : X.length ≤ 44
  num : val X % P255 = n % P255
theorem Rst.start {ds es : List Int} (h : Cared ds es) : Rst (val ds) es := ⟨h.dgs, h.l16, h.l44, by rw [h.num]⟩
theorem Rst.lt44 {n : Int} {X : List Int} (h : Rst n X) : val X < 65536 ^ 44 := Int.lt_of_lt_of_le h.dgs.lt (pow_mono16 h.l44)
theorem Fold.val_end {X ys : List Int} (h : Fold X (X.length - 16) (X.length - 16) ys) (hl : 16 ≤ X.length) :
    val X = val ys + 2 * P255 * val (X.drop 16) := by
  rw [val_split X 16 hl, h.num, List.take_of_length_le (l := X.drop 16) (i := X.length - 16) (by simp), two256, Int.add_mul]; omega
theorem Rst.fold_pre {n : Int} {X ys : List Int} (h : Rst n X) (f : Fold X (X.length - 16) (X.length - 16) ys) : Dgs 4398046511104 ys ∧ ys.length ≤ 44 ∧ val ys < 65536 ^ 44 := by
  have h1 := f.lm
  have h2 := h.l44
  have h3 := f.val_end h.l16
  have h4 := (h.dgs.drop 16).nonneg
  have h5 := h.lt44
  have hP : (0 : Int) ≤ 2 * P255 := by decide +kernel
  have h6 := Int.mul_nonneg hP h4
  exact ⟨Dgs.of fun k _ => ⟨(f.lo k).1, by have := (f.lo k).2; omega⟩, by omega, by omega⟩
theorem Rst.fold {n : Int} {X ys es : List Int} (h : Rst n X) (hl : 16 < X.length) (f : Fold X (X.length - 16) (X.length - 16) ys) (c : Cared ys es) :
    Rst n es ∧ (val es).toNat * 100 + es.length < (val X).toNat * 100 + X.length := by
  have h3 := f.val_end h.l16
  have h4 := (h.dgs.drop 16).nonneg
  have h5 := h.l44
  have h6 := c.l44
  refine ⟨⟨c.dgs, c.l16, c.l44, ?_⟩, ?_⟩
  · rw [← h.num, c.num, h3, Int.mul_comm 2 P255, Int.mul_assoc, Int.add_mul_emod_self_left]
  · by_cases hz : val (X.drop 16) = 0
    · rw [hz, Int.mul_zero, Int.add_zero] at h3
      have ht : val X < 65536 ^ 16 := by
        rw [val_split X 16 h.l16, hz, Int.mul_zero, Int.add_zero]
        have := (h.dgs.take 16).lt
        rwa [List.length_take, Nat.min_eq_left h.l16] at this
      have hs : es.length < X.length := by
        rcases c.top with t | t
        · have := f.lm; omega
        · have := pow_lt16 (Int.lt_of_le_of_lt t (by rw [← h3]; exact ht)); omega
      rw [c.num, ← h3]; omega
    · have h7 : 2 * P255 * 1 ≤ 2 * P255 * val (X.drop 16) := Int.mul_le_mul_of_nonneg_left (by omega) (by decide +kernel)
      have h8 : (1 : Int) ≤ 2 * P255 * 1 := by decide +kernel
      have h9 := c.dgs.nonneg
      have h10 : val es < val X := by rw [c.num]; omega
      omega
/-- p less, while the highest digit is great. -/
def fold15 (X : List Int) : List Int := (X.set 0 (X.getD 0 0 + 19 * (X.getD 15 0 / 32768))).set 15 (X.getD 15 0 % 32768)
theorem p15 : (65536 : Int) ^ 15 * 32768 = P255 + 19 := by decide +kernel
theorem fold15_len (X : List Int) : (fold15 X).length = X.length := by simp [fold15]
theorem fold15_val {X : List Int} (hd : Dgs 65536 X) (hl : X.length = 16) (h : 32768 ≤ X.getD 15 0) : val (fold15 X) = val X - P255 := by
  have h1 := hd.at (by omega) 15
  have hq : X.getD 15 0 / 32768 = 1 := by omega
  have hr : X.getD 15 0 % 32768 = X.getD 15 0 - 32768 := by omega
  unfold fold15
  rw [val_set _ _ _ (by simp; omega), val_set _ _ _ (by omega), getD_set _ _ _ _ (by omega), if_neg (by omega), hq, hr]
  have e : X.getD 15 0 - 32768 - X.getD 15 0 = -32768 := by omega
  rw [e, Int.mul_neg, p15]; omega
theorem fold15_pre {n : Int} {X : List Int} (r : Rst n X) (hl : X.length = 16) (h : 32768 ≤ X.getD 15 0) : Dgs 4398046511104 (fold15 X) ∧ val (fold15 X) < 65536 ^ 44 := by
  have h0 := r.dgs.at (by omega) 0
  have h1 := r.dgs.at (by omega) 15
  have h2 := fold15_val r.dgs hl h
  have h3 := r.lt44
  have hP : (0 : Int) ≤ P255 := by decide +kernel
  refine ⟨Dgs.of fun k _ => ?_, by omega⟩
  unfold fold15
  rw [getD_set _ _ _ _ (by simp; omega), getD_set _ _ _ _ (by omega)]
  have h4 := r.dgs.at (by omega) k
  split
  · omega
  · split
    · omega
    · omega
theorem Rst.fold15 {n : Int} {X es : List Int} (r : Rst n X) (hl : X.length = 16) (h : 32768 ≤ X.getD 15 0) (c : Cared (fold15 X) es) : Rst n es ∧ es.length = 16 ∧ (val es).toNat < (val X).toNat := by
  have h2 := fold15_val r.dgs hl h
  have hP : (0 : Int) < P255 := by decide +kernel
  have h3 := r.dgs.lt
  have h9 := c.dgs.nonneg
  have hc := c.num
  have h16 := c.l16
  rw [hl] at h3
  refine ⟨⟨c.dgs, c.l16, c.l44, ?_⟩, ?_, by omega⟩
  · rw [c.num, h2, ← r.num, Int.sub_emod_right]
  · rcases c.top with t | t
    · rw [fold15_len] at t; omega
    · have := pow_lt16 (Int.lt_of_le_of_lt t (by omega : val (Proofs.YtgklkkjhoecdoaaDoor.fold15 X) < 65536 ^ 16)); omega
end Go.Proofs.YtgklkkjhoecdoaaDoor
