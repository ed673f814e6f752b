/-
  Own text. The end of Rest (is it p at least, then p less; the bytes), and the digits of 32 bytes.
-/
import Derived.Test.YtgklkkjhoecdoaaDoorK2
namespace Go.Proofs.YtgklkkjhoecdoaaDoor
open Go.RowKit Go.Proofs
theorem map_set {f g : Nat → Int} {n i : Nat} (_hi : i < n) (h : ∀ j, j < n → j ≠ i → f j = g j) : ((List.range n).map f).set i (g i) = (List.range n).map g := by
  apply List.ext_getElem
  · simp
  · intro j h1 h2
    simp at h1 h2
    rw [List.getElem_set]
    split
    · rename_i e; subst e; simp
    · rename_i e; simp; exact h j h2 (fun h => e h.symm)
theorem getD_map (f : Nat → Int) {n i : Nat} (hi : i < n) : ((List.range n).map f).getD i 0 = f i := by
  simp [List.getD, hi]
theorem map_getD {X : List Int} {n : Nat} (hl : X.length = n) : (List.range n).map (fun j => X.getD j 0) = X := by
  subst hl
  apply List.ext_getElem
  · simp
  · intro j h1 h2; simp [List.getD, h2]
theorem sixteen {X : List Int} (h : X.length = 16) : ∃ d0 d1 d2 d3 d4 d5 d6 d7 d8 d9 d10 d11 d12 d13 d14 d15, X = [d0, d1, d2, d3, d4, d5, d6, d7, d8, d9, d10, d11, d12, d13, d14, d15] := by
  match X, h with
  | [d0, d1, d2, d3, d4, d5, d6, d7, d8, d9, d10, d11, d12, d13, d14, d15], _ => exact ⟨d0, d1, d2, d3, d4, d5, d6, d7, d8, d9, d10, d11, d12, d13, d14, d15, rfl⟩
theorem least_no {X : List Int} (hd : Dgs 65536 X) (hl : X.length = 16) (h15 : X.getD 15 0 < 32768) (j : Nat) (hj1 : 1 ≤ j) (hj : j < 15) (hx : X.getD j 0 ≠ 65535) : val X < P255 := by
  -- what lies above j is at most as great as p's
  have hs := val_split X (j + 1) (by omega)
  have ht := val_take X j (by omega)
  have hlo := (hd.take j).lt
  rw [List.length_take, hl, Nat.min_eq_left (by omega)] at hlo
  have hjb := hd.at (by omega) j
  have hup : val (X.drop (j + 1)) + 1 ≤ 65536 ^ (14 - j) * 32768 := by
    have h1 := val_split (X.drop (j + 1)) (14 - j) (by simp; omega)
    have h2 := ((hd.drop (j + 1)).take (14 - j)).lt
    rw [List.length_take, List.length_drop, hl, Nat.min_eq_left (by omega)] at h2
    rw [List.drop_drop, show j + 1 + (14 - j) = 15 by omega] at h1
    have h3 : X.drop 15 = [X.getD 15 0] := by
      apply List.ext_getElem
      · simp; omega
      · intro i a b
        simp at a b
        have : i = 0 := by omega
        subst this
        simp [List.getD, hl]
    rw [h3] at h1
    simp only [val, Int.mul_zero, Int.add_zero] at h1
    have h4 : (65536 : Int) ^ (14 - j) * X.getD 15 0 ≤ 65536 ^ (14 - j) * 32767 := Int.mul_le_mul_of_nonneg_left (by omega) (Int.le_of_lt (pow_pos16 _))
    omega
  have hp1 := pow_pos16 (j + 1)
  have hm : (65536 : Int) ^ (j + 1) * (val (X.drop (j + 1)) + 1) ≤ 65536 ^ (j + 1) * (65536 ^ (14 - j) * 32768) := Int.mul_le_mul_of_nonneg_left hup (Int.le_of_lt hp1)
  rw [← Int.mul_assoc, ← Int.pow_add, show j + 1 + (14 - j) = 15 by omega, p15, Int.mul_add, Int.mul_one] at hm
  have hpj := pow_pos16 j
  have hm2 : (65536 : Int) ^ j * X.getD j 0 ≤ 65536 ^ j * 65534 := Int.mul_le_mul_of_nonneg_left (by omega) (Int.le_of_lt hpj)
  have e1 : (65536 : Int) ^ (j + 1) = 65536 ^ j * 65536 := Int.pow_succ _ _
  have hj1' : (65536 : Int) ^ 1 ≤ 65536 ^ j := pow_mono16 hj1
  omega
theorem least_all {X : List Int} (hl : X.length = 16) (h : ∀ j, 1 ≤ j → j < 15 → X.getD j 0 = 65535) : val X = X.getD 0 0 - 65536 + 65536 ^ 15 * (1 + X.getD 15 0) := by
  obtain ⟨d0, d1, d2, d3, d4, d5, d6, d7, d8, d9, d10, d11, d12, d13, d14, d15, rfl⟩ := sixteen hl
  have h1 := h 1 (by omega) (by omega)
  have h2 := h 2 (by omega) (by omega)
  have h3 := h 3 (by omega) (by omega)
  have h4 := h 4 (by omega) (by omega)
  have h5 := h 5 (by omega) (by omega)
  have h6 := h 6 (by omega) (by omega)
  have h7 := h 7 (by omega) (by omega)
  have h8 := h 8 (by omega) (by omega)
  have h9 := h 9 (by omega) (by omega)
  have h10 := h 10 (by omega) (by omega)
  have h11 := h 11 (by omega) (by omega)
  have h12 := h 12 (by omega) (by omega)
  have h13 := h 13 (by omega) (by omega)
  have h14 := h 14 (by omega) (by omega)
  simp [List.getD] at h1 h2 h3 h4 h5 h6 h7 h8 h9 h10 h11 h12 h13 h14
  subst h1 h2 h3 h4 h5 h6 h7 h8 h9 h10 h11 h12 h13 h14
  simp only [val, List.getD, List.getElem?_cons_zero, List.getElem?_cons_succ, Option.getD_some, Int.reducePow]
  omega
theorem least_yes {X : List Int} (hd : Dgs 65536 X) (hl : X.length = 16) (h15 : X.getD 15 0 < 32768) (h : ∀ j, 1 ≤ j → j < 15 → X.getD j 0 = 65535) :
    (X.getD 15 0 = 32767 ∧ 65517 ≤ X.getD 0 0) ↔ P255 ≤ val X := by
  have e := least_all hl h
  have h0 := hd.at (by omega) 0
  have h1 := hd.at (by omega) 15
  simp only [Int.reducePow] at e
  unfold P255
  omega
/-- p less: the first i digits are done. -/
def minus (X : List Int) (i : Nat) : List Int := (List.range 16).map fun j => if j < i then (if j = 0 then X.getD 0 0 - 65517 else 0) else X.getD j 0
theorem minus_len (X : List Int) (i : Nat) : (minus X i).length = 16 := by simp [minus]
theorem minus_zero {X : List Int} (hl : X.length = 16) : minus X 0 = X := by
  unfold minus; simp only [Nat.not_lt_zero, if_false]; exact map_getD hl
theorem minus_get (X : List Int) {i : Nat} (hi : i < 16) : (minus X i).getD i 0 = X.getD i 0 := by
  unfold minus; rw [getD_map _ hi]; simp
theorem minus_set (X : List Int) {i : Nat} (hi : i < 16) : (minus X i).set i (if i = 0 then X.getD 0 0 - 65517 else 0) = minus X (i + 1) := by
  unfold minus
  have := @map_set (fun j => if j < i then (if j = 0 then X.getD 0 0 - 65517 else 0) else X.getD j 0) (fun j => if j < i + 1 then (if j = 0 then X.getD 0 0 - 65517 else 0) else X.getD j 0) 16 i hi
    (fun j _ hne => by by_cases h : j < i <;> simp [h, show j < i + 1 ↔ j < i by omega])
  simpa using this
theorem minus_val (X : List Int) : val (minus X 16) = X.getD 0 0 - 65517 := by
  simp [minus, List.range, List.range.loop, val]
theorem minus_end {X : List Int} (hd : Dgs 65536 X) (hl : X.length = 16) (h15 : X.getD 15 0 < 32768) (h : P255 ≤ val X) : val (minus X 16) = val X - P255 ∧ Dgs 65536 (minus X 16) := by
  have ha : ∀ j, 1 ≤ j → j < 15 → X.getD j 0 = 65535 := fun j h1 h2 => by
    by_cases e : X.getD j 0 = 65535
    · exact e
    · have := least_no hd hl h15 j h1 h2 e; omega
  have hy := (least_yes hd hl h15 ha).2 h
  have e := least_all hl ha
  have h0 := hd.at (by omega) 0
  refine ⟨?_, Dgs.of fun k hk => ?_⟩
  · rw [minus_val, e, hy.1]; simp only [Int.reducePow]; unfold P255; omega
  · rw [minus_len] at hk
    unfold minus
    rw [getD_map _ hk, if_pos hk]
    split <;> omega
theorem below_p {X : List Int} (hd : Dgs 65536 X) (hl : X.length = 16) (h15 : X.getD 15 0 < 32768) : val X < P255 + 19 := by
  have h1 := val_split X 15 (by omega)
  have h2 := (hd.take 15).lt
  rw [List.length_take, hl, Nat.min_eq_left (by omega)] at h2
  have h3 : X.drop 15 = [X.getD 15 0] := by
    apply List.ext_getElem
    · simp; omega
    · intro i a b
      simp at a b
      have : i = 0 := by omega
      subst this
      simp [List.getD, hl]
  rw [h3] at h1
  simp only [val, Int.mul_zero, Int.add_zero] at h1
  simp only [Int.reducePow] at h1 h2
  unfold P255
  omega
theorem pow2 (i : Nat) : (256 : Int) ^ (2 * i) = 65536 ^ i := by rw [Int.pow_mul]; rfl
theorem bytes_step {X : List Int} (hd : Dgs 65536 X) {i : Nat} (hl : X.length = 16) (hi : i < 16) :
    ((BA (val (X.take i))).setIfInBounds (2 * i) (.int .u8 (X.getD i 0 % 256))).setIfInBounds (2 * i + 1) (.int .u8 (X.getD i 0 / 256)) = BA (val (X.take (i + 1))) := by
  have h1 := (hd.take i).lt
  rw [List.length_take, hl, Nat.min_eq_left (by omega)] at h1
  have h0 := (hd.take i).nonneg
  have hx := hd.at (by omega) i
  have hp := pow_pos16 i
  have hpx : 0 ≤ X.getD i 0 % 256 * 65536 ^ i := Int.mul_nonneg (by omega) (Int.le_of_lt hp)
  have hpx2 : X.getD i 0 % 256 * 65536 ^ i ≤ 255 * 65536 ^ i := Int.mul_le_mul_of_nonneg_right (by omega) (Int.le_of_lt hp)
  rw [BA_set h0 (by rw [pow2]; exact h1) (by unfold Byte; omega) (by omega), pow2]
  rw [BA_set (by omega) (by rw [Int.pow_succ, pow2]; omega) (by unfold Byte; omega) (by omega)]
  congr 1
  rw [val_take X i (by omega), Int.pow_succ, pow2, Int.add_assoc]
  congr 1
  have e : X.getD i 0 = X.getD i 0 % 256 + X.getD i 0 / 256 * 256 := by omega
  conv => rhs; rw [e]
  rw [Int.mul_add, Int.mul_comm (65536 ^ i) (X.getD i 0 % 256), Int.mul_left_comm (65536 ^ i) (X.getD i 0 / 256) 256]
/-- The digits of 32 bytes: the first i of them. -/
def LD (n : Int) (i : Nat) : List Int := (List.range 16).map fun j => if j < i then n / 65536 ^ j % 65536 else 0
theorem LD_len (n : Int) (i : Nat) : (LD n i).length = 16 := by simp [LD]
theorem LD_set (n : Int) {i : Nat} (hi : i < 16) : (LD n i).set i (byt n (2 * i) + 256 * byt n (2 * i + 1)) = LD n (i + 1) := by
  have e : byt n (2 * i) + 256 * byt n (2 * i + 1) = n / 65536 ^ i % 65536 := by
    unfold byt
    rw [Int.pow_succ, pow2, ← Int.ediv_ediv_of_nonneg (Int.le_of_lt (pow_pos16 i))]
    omega
  rw [e]
  unfold LD
  have := @map_set (fun j => if j < i then n / 65536 ^ j % 65536 else 0) (fun j => if j < i + 1 then n / 65536 ^ j % 65536 else 0) 16 i hi
    (fun j _ hne => by by_cases h : j < i <;> simp [h, show j < i + 1 ↔ j < i by omega])
  simpa using this
theorem LD_dgs (n : Int) (i : Nat) : Dgs 65536 (LD n i) := Dgs.of fun k hk => by
  rw [LD_len] at hk
  unfold LD
  rw [getD_map _ hk]
  split <;> omega
theorem val_range (n : Int) (k : Nat) : val ((List.range k).map fun j => n / 65536 ^ j % 65536) = n % 65536 ^ k := by
  induction k with
  | zero => simp [val, Int.emod_one]
  | succ k ih =>
    rw [List.range_succ, List.map_append, List.map_cons, List.map_nil, val_snoc, ih, List.length_map, List.length_range, Int.pow_succ]
    rw [Int.emod_def n (65536 ^ k), Int.emod_def n (65536 ^ k * 65536), ← Int.ediv_ediv_of_nonneg (Int.le_of_lt (pow_pos16 k)), Int.emod_def (n / 65536 ^ k) 65536, Int.mul_sub, ← Int.mul_assoc (65536 ^ k) 65536]
    omega
theorem LD_val {n : Int} (h0 : 0 ≤ n) (h1 : n < W256) : val (LD n 16) = n := by
  have e : LD n 16 = (List.range 16).map fun j => n / 65536 ^ j % 65536 := by
    unfold LD
    apply List.map_congr_left
    intro j hj
    rw [if_pos (List.mem_range.1 hj)]
  rw [e, val_range]
  exact Int.emod_eq_of_lt h0 (by simp only [Int.reducePow]; unfold W256 at h1; exact h1)
end Go.Proofs.YtgklkkjhoecdoaaDoor
