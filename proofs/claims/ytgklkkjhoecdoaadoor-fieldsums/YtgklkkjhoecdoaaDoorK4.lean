/-
  Own text. Sums, products and differences, digit by digit.
-/
import Derived.Test.YtgklkkjhoecdoaaDoorK3
namespace Go.Proofs.YtgklkkjhoecdoaaDoor
open Go.RowKit Go.Proofs
/-- Plus: the first i digits of Y are added to X. -/
structure Sum (X Y : List Int) (i : Nat) (ds : List Int) : Prop where
  len : ds.length = 16
  num : val ds = val X + val (Y.take i)
  lo : ∀ k, 0 ≤ ds.getD k 0 ∧ ds.getD k 0 < 131072
  hi : ∀ k, i ≤ k → ds.getD k 0 < 65536
theorem Sum.start {X Y : List Int} (hX : Dgs 65536 X) (hl : X.length = 16) : Sum X Y 0 X :=
  ⟨hl, by simp [val], fun k => ⟨(hX.at (by omega) k).1, by have := (hX.at (by omega) k).2; omega⟩, fun k _ => (hX.at (by omega) k).2⟩
theorem Sum.step {X Y : List Int} {i : Nat} {ds : List Int} (h : Sum X Y i ds) (hY : Dgs 65536 Y) (hl : Y.length = 16) (hi : i < 16) : Sum X Y (i + 1) (ds.set i (ds.getD i 0 + Y.getD i 0)) := by
  have hn := h.len
  have hy := hY.at (by omega) i
  have h0 := h.lo i
  have h1 := h.hi i (Nat.le_refl _)
  refine ⟨by simp [hn], ?_, fun k => ?_, fun k hk => ?_⟩
  · rw [val_set _ _ _ (by omega), h.num, val_take Y i (by omega), Int.add_comm (ds.getD i 0), Int.add_sub_cancel]; omega
  · rw [getD_set _ _ _ _ (by omega)]
    split
    · omega
    · exact h.lo k
  · rw [getD_set _ _ _ _ (by omega), if_neg (by omega)]
    exact h.hi k (by omega)
theorem Sum.done {X Y ds : List Int} (h : Sum X Y 16 ds) (hY : Y.length = 16) : val ds = val X + val Y ∧ Dgs 4398046511104 ds := by
  refine ⟨by rw [h.num, List.take_of_length_le (by omega)], Dgs.of fun k _ => ⟨(h.lo k).1, by have := (h.lo k).2; omega⟩⟩
/-- Times: rows 0 to i - 1 are done, and of row i the first k. -/
structure Prd (X Y : List Int) (i k : Nat) (ds : List Int) : Prop where
  len : ds.length = 31
  num : val ds = val (X.take i) * val Y + 65536 ^ i * X.getD i 0 * val (Y.take k)
  lo : ∀ m, 0 ≤ ds.getD m 0 ∧ ds.getD m 0 ≤ 4294967296 * (i + 1 : Nat)
  hi : ∀ m, i + k ≤ m → ds.getD m 0 ≤ 4294967296 * (i : Nat)
theorem zeros_getD (n m : Nat) : (List.replicate n (0 : Int)).getD m 0 = 0 := by
  by_cases h : m < n <;> simp [List.getD, h]
theorem Prd.start (X Y : List Int) : Prd X Y 0 0 (List.replicate 31 0) :=
  ⟨List.length_replicate, by rw [val_zeros]; simp [val], fun m => by rw [zeros_getD]; omega, fun m _ => by rw [zeros_getD]; omega⟩
theorem mul_lt32 {a b : Int} (ha : 0 ≤ a ∧ a < 65536) (hb : 0 ≤ b ∧ b < 65536) : 0 ≤ a * b ∧ a * b < 4294967296 := by
  refine ⟨Int.mul_nonneg ha.1 hb.1, ?_⟩
  have h1 : a * b ≤ 65535 * b := Int.mul_le_mul_of_nonneg_right (by omega) hb.1
  omega
theorem Prd.step {X Y : List Int} {i k : Nat} {ds : List Int} (h : Prd X Y i k ds) (hX : Dgs 65536 X) (hY : Dgs 65536 Y) (hl : Y.length = 16) (hi : i < 16) (hk : k < 16) :
    Prd X Y i (k + 1) (ds.set (i + k) (ds.getD (i + k) 0 + X.getD i 0 * Y.getD k 0)) := by
  have hn := h.len
  have hm := mul_lt32 (hX.at (by omega) i) (hY.at (by omega) k)
  have h0 := h.lo (i + k)
  have h1 := h.hi (i + k) (Nat.le_refl _)
  refine ⟨by simp [hn], ?_, fun m => ?_, fun m hm => ?_⟩
  · rw [val_set _ _ _ (by omega), h.num, val_take Y k (by omega), Int.add_comm (ds.getD (i + k) 0), Int.add_sub_cancel, Int.mul_add, Int.pow_add]
    have e : (65536 : Int) ^ i * 65536 ^ k * (X.getD i 0 * Y.getD k 0) = 65536 ^ i * X.getD i 0 * (65536 ^ k * Y.getD k 0) := by
      rw [Int.mul_assoc, Int.mul_assoc, Int.mul_left_comm (65536 ^ k)]
    rw [e]; omega
  · rw [getD_set _ _ _ _ (by omega)]
    split
    · omega
    · exact h.lo m
  · rw [getD_set _ _ _ _ (by omega), if_neg (by omega)]
    exact h.hi m (by omega)
theorem Prd.next {X Y : List Int} {i : Nat} {ds : List Int} (h : Prd X Y i 16 ds) (hl : Y.length = 16) (hX : X.length = 16) (hi : i < 16) : Prd X Y (i + 1) 0 ds := by
  refine ⟨h.len, ?_, fun m => ⟨(h.lo m).1, by have := (h.lo m).2; omega⟩, fun m _ => (h.lo m).2⟩
  rw [h.num, List.take_of_length_le (l := Y) (by omega), val_take X i (by omega), Int.add_mul]
  simp [val]
theorem Prd.done {X Y ds : List Int} (h : Prd X Y 16 0 ds) (hX : X.length = 16) : val ds = val X * val Y ∧ Dgs 4398046511104 ds := by
  refine ⟨by rw [h.num, List.take_of_length_le (by omega)]; simp [val], Dgs.of fun k _ => ⟨(h.lo k).1, by have := (h.lo k).2; omega⟩⟩
/-- A bound for the number of digits that are below 2^42. -/
theorem val_lt42 {ds : List Int} (h : Dgs 4398046511104 ds) : val ds ≤ 4398046511103 * 65536 ^ ds.length - 4398046511103 := by
  induction ds with
  | nil => simp [val]
  | cons x xs ih =>
    have h1 := h x (by simp)
    have h2 := ih (fun d hd => h d (by simp [hd]))
    simp only [val, List.length_cons, Int.pow_succ]; omega
theorem val_44 {ds : List Int} (h : Dgs 4398046511104 ds) (hl : ds.length ≤ 40) : val ds < 65536 ^ 44 := by
  have h1 := val_lt42 h
  have h2 := pow_mono16 hl
  have e : (65536 : Int) ^ 44 = 65536 ^ 40 * 65536 ^ 4 := by rw [← Int.pow_add]
  rw [e]
  have h3 := pow_pos16 40
  simp only [Int.reducePow] at *
  omega
/-- p's digits. -/
def pd (i : Nat) : Int := if i = 15 then 32767 else if i = 0 then 65517 else 65535
/-- Sub, the first loop: i digits of p are added, and of Y taken away. -/
def Dif (X Y : List Int) (i : Nat) : List Int := (List.range 16).map fun j => if j < i then X.getD j 0 + pd j - Y.getD j 0 else X.getD j 0
theorem Dif_len (X Y : List Int) (i : Nat) : (Dif X Y i).length = 16 := by simp [Dif]
theorem Dif_zero {X Y : List Int} (hl : X.length = 16) : Dif X Y 0 = X := by
  unfold Dif; simp only [Nat.not_lt_zero, if_false]; exact map_getD hl
theorem Dif_get (X Y : List Int) {i : Nat} (hi : i < 16) : (Dif X Y i).getD i 0 = X.getD i 0 := by
  unfold Dif; rw [getD_map _ hi]; simp
theorem Dif_set (X Y : List Int) {i : Nat} (hi : i < 16) : (Dif X Y i).set i (X.getD i 0 + pd i - Y.getD i 0) = Dif X Y (i + 1) := by
  unfold Dif
  have := @map_set (fun j => if j < i then X.getD j 0 + pd j - Y.getD j 0 else X.getD j 0) (fun j => if j < i + 1 then X.getD j 0 + pd j - Y.getD j 0 else X.getD j 0) 16 i hi
    (fun j _ hne => by by_cases h : j < i <;> simp [h, show j < i + 1 ↔ j < i by omega])
  simpa using this
theorem pd_all : (List.range 16).map pd = [65517, 65535, 65535, 65535, 65535, 65535, 65535, 65535, 65535, 65535, 65535, 65535, 65535, 65535, 65535, 32767] := by decide
theorem Dif_val {X Y : List Int} (hX : X.length = 16) (hY : Y.length = 16) : val (Dif X Y 16) = val X + P255 - val Y := by
  obtain ⟨a0, a1, a2, a3, a4, a5, a6, a7, a8, a9, a10, a11, a12, a13, a14, a15, rfl⟩ := sixteen hX
  obtain ⟨b0, b1, b2, b3, b4, b5, b6, b7, b8, b9, b10, b11, b12, b13, b14, b15, rfl⟩ := sixteen hY
  simp [Dif, List.range, List.range.loop, val, pd]
  unfold P255
  omega
theorem Dif_dig {X Y : List Int} {j : Nat} (hj : j < 16) : (Dif X Y 16).getD j 0 = X.getD j 0 + pd j - Y.getD j 0 := by
  unfold Dif; rw [getD_map _ hj, if_pos hj]
/-- Sub, the second loop: below i nothing is below 0; t is 1 where the digit i has lent one. -/
structure Bor (X Y : List Int) (i : Nat) (t : Int) (ds : List Int) : Prop where
  len : ds.length = 16
  num : val ds = val X + P255 - val Y
  lo : ∀ k, k < i → 0 ≤ ds.getD k 0 ∧ ds.getD k 0 < 131072
  at' : i < 16 → ds.getD i 0 = X.getD i 0 + pd i - Y.getD i 0 - t
  hi : ∀ k, i < k → k < 16 → ds.getD k 0 = X.getD k 0 + pd k - Y.getD k 0
  t01 : t = 0 ∨ (t = 1 ∧ 0 < i ∧ 65517 < Y.getD 0 0 ∧ ∀ k, 1 ≤ k → k < i → Y.getD k 0 = 65535)
theorem Bor.start {X Y : List Int} (hX : X.length = 16) (hY : Y.length = 16) : Bor X Y 0 0 (Dif X Y 16) :=
  ⟨Dif_len _ _ _, Dif_val hX hY, fun k hk => by omega, fun h => by rw [Dif_dig h]; omega, fun k _ h => by rw [Dif_dig h], .inl rfl⟩
theorem Bor.keep {X Y : List Int} {i : Nat} {t : Int} {ds : List Int} (h : Bor X Y i t ds) (hX : Dgs 65536 X) (hY : Dgs 65536 Y) (hi : i < 15) (h0 : 0 ≤ ds.getD i 0) : Bor X Y (i + 1) 0 ds := by
  refine ⟨h.len, h.num, fun k hk => ?_, fun h2 => by rw [h.hi (i + 1) (by omega) h2]; omega, fun k hk h2 => h.hi k (by omega) h2, .inl rfl⟩
  by_cases e : k = i
  · subst e
    have h1 := h.at' (by omega)
    have hx := hX.at (by omega) k
    have hy := hY.at (by omega) k
    have hp : pd k ≤ 65535 := by unfold pd; split <;> (try split) <;> omega
    rcases h.t01 with ht | ht <;> omega
  · exact h.lo k (by omega)
theorem Bor.lend {X Y : List Int} {i : Nat} {t : Int} {ds : List Int} (h : Bor X Y i t ds) (hX : Dgs 65536 X) (hY : Dgs 65536 Y) (hi : i < 15) (h0 : ds.getD i 0 < 0) :
    0 ≤ ds.getD i 0 + 65536 ∧ Bor X Y (i + 1) 1 ((ds.set i (ds.getD i 0 + 65536)).set (i + 1) (ds.getD (i + 1) 0 - 1)) := by
  have hn := h.len
  have h1 := h.at' (by omega)
  have hx := hX.at (by omega) i
  have hy := hY.at (by omega) i
  have hp : pd i ≤ 65535 ∧ 65517 ≤ pd i := by unfold pd; rw [if_neg (by omega)]; split <;> omega
  have hge : 0 ≤ ds.getD i 0 + 65536 := by rcases h.t01 with ht | ht <;> omega
  refine ⟨hge, by simp [hn], ?_, fun k hk => ?_, fun h2 => ?_, fun k hk h2 => ?_, .inr ⟨rfl, by omega, ?_⟩⟩
  · rw [val_set _ _ _ (by simp; omega), val_set _ _ _ (by omega), getD_set _ _ _ _ (by omega), if_neg (by omega), h.num, Int.pow_succ]
    have e1 : ds.getD i 0 + 65536 - ds.getD i 0 = 65536 := by omega
    have e2 : ds.getD (i + 1) 0 - 1 - ds.getD (i + 1) 0 = -1 := by omega
    rw [e1, e2]; omega
  · rw [getD_set _ _ _ _ (by simp; omega), if_neg (by omega), getD_set _ _ _ _ (by omega)]
    split
    · omega
    · exact h.lo k (by omega)
  · rw [getD_set _ _ _ _ (by simp; omega), if_pos rfl, h.hi (i + 1) (by omega) h2]
  · rw [getD_set _ _ _ _ (by simp; omega), if_neg (by omega), getD_set _ _ _ _ (by omega), if_neg (by omega)]
    exact h.hi k (by omega) h2
  · by_cases e : i = 0
    · subst e
      have hp0 : pd 0 = 65517 := rfl
      refine ⟨?_, fun k h1 h2 => by omega⟩
      rcases h.t01 with ht | ht <;> omega
    · have hpi : pd i = 65535 := by unfold pd; rw [if_neg (by omega), if_neg e]
      rcases h.t01 with ht | ⟨ht, _, h5, h6⟩
      · omega
      · refine ⟨h5, fun k h7 h8 => ?_⟩
        by_cases ek : k = i
        · subst ek; omega
        · exact h6 k h7 (by omega)
theorem Bor.done {X Y : List Int} {t : Int} {ds : List Int} (h : Bor X Y 15 t ds) (hX : Dgs 65536 X) (hY : Dgs 65536 Y) (hYl : Y.length = 16) (hp : val Y < P255) :
    val ds = val X + P255 - val Y ∧ Dgs 4398046511104 ds := by
  refine ⟨h.num, Dgs.of fun k hk => ?_⟩
  rw [h.len] at hk
  by_cases e : k = 15
  · subst e
    have h1 := h.at' (by omega)
    have hx := hX.at (by omega) 15
    have hy := hY.at (by omega) 15
    have hy0 := hY.at (by omega) 0
    have hp15 : pd 15 = 32767 := rfl
    have hs : 65536 ^ 15 * Y.getD 15 0 ≤ val Y := by
      have s1 := val_take Y 15 (by omega)
      rw [List.take_of_length_le (l := Y) (i := 15 + 1) (by omega)] at s1
      have s2 := (hY.take 15).nonneg
      omega
    have h15 : Y.getD 15 0 ≤ 32767 := by
      simp only [Int.reducePow] at hs
      unfold P255 at hp
      omega
    rcases h.t01 with ht | ⟨ht, _, h5, h6⟩
    · omega
    · have := least_all hYl (fun j a b => h6 j a b)
      simp only [Int.reducePow] at this
      unfold P255 at hp
      omega
  · have := h.lo k (by omega); omega
end Go.Proofs.YtgklkkjhoecdoaaDoor
