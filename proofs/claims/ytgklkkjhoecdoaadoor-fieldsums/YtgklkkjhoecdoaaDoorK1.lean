/-
  Own text. Digits to the base 65536: the number of a list of digits, and what the document's answer does to it.
-/
import Derived.Test.YtgklkkjhoecdoaaDoorE1
namespace Go.Proofs.YtgklkkjhoecdoaaDoor
open Go.RowKit Go.Proofs
/-- The number of a list of digits to the base 65536, the lowest first. -/
def val : List Int → Int
  | [] => 0
  | d :: ds => d + 65536 * val ds
theorem pow_pos16 (k : Nat) : (0 : Int) < 65536 ^ k := Int.pow_pos (by decide)
theorem val_append (xs ys : List Int) : val (xs ++ ys) = val xs + 65536 ^ xs.length * val ys := by
  induction xs with
  | nil => simp [val]
  | cons x xs ih =>
    simp only [List.cons_append, val, ih, List.length_cons, Int.pow_succ]
    rw [Int.mul_add, Int.mul_comm (65536 ^ xs.length) 65536, Int.mul_assoc]
    omega
theorem val_snoc (xs : List Int) (d : Int) : val (xs ++ [d]) = val xs + 65536 ^ xs.length * d := by
  rw [val_append]; simp [val]
theorem val_nonneg {ds : List Int} (h : ∀ d ∈ ds, 0 ≤ d) : 0 ≤ val ds := by
  induction ds with
  | nil => simp [val]
  | cons x xs ih =>
    have h1 := h x (by simp)
    have h2 := ih (fun d hd => h d (by simp [hd]))
    simp only [val]; omega
theorem val_lt {ds : List Int} (h : ∀ d ∈ ds, 0 ≤ d ∧ d < 65536) : val ds < 65536 ^ ds.length := by
  induction ds with
  | nil => simp [val]
  | cons x xs ih =>
    have h1 := h x (by simp)
    have h2 := ih (fun d hd => h d (by simp [hd]))
    simp only [val, List.length_cons, Int.pow_succ]; omega
theorem val_zeros (n : Nat) : val (List.replicate n 0) = 0 := by
  induction n with
  | zero => rfl
  | succ n ih => simp [List.replicate_succ, val, ih]
theorem val_take (ds : List Int) (k : Nat) (h : k < ds.length) : val (ds.take (k + 1)) = val (ds.take k) + 65536 ^ k * ds.getD k 0 := by
  rw [List.take_succ_eq_append_getElem h, val_snoc, List.length_take, Nat.min_eq_left (by omega)]; simp [h]
theorem val_set (ds : List Int) (k : Nat) (d : Int) (h : k < ds.length) : val (ds.set k d) = val ds + 65536 ^ k * (d - ds.getD k 0) := by
  induction ds generalizing k with
  | nil => simp at h
  | cons x xs ih =>
    cases k with
    | zero => simp [val]; omega
    | succ k =>
      have hk : k < xs.length := by simpa using h
      simp only [List.set_cons_succ, val, ih k hk, List.getD_cons_succ, Int.pow_succ]
      rw [Int.mul_add, Int.mul_comm (65536 ^ k) 65536, Int.mul_assoc]
      omega
theorem getD_mem {ds : List Int} {k : Nat} (h : k < ds.length) : ds.getD k 0 ∈ ds := by
  simp [h]
theorem getD_set (ds : List Int) (k j : Nat) (d : Int) (h : k < ds.length) : (ds.set k d).getD j 0 = if j = k then d else ds.getD j 0 := by
  by_cases e : j = k
  · subst e; simp [h]
  · have : k ≠ j := fun h => e h.symm
    simp [List.getD, e, List.getElem?_set_ne this]
theorem val_split (ds : List Int) (k : Nat) (h : k ≤ ds.length) : val ds = val (ds.take k) + 65536 ^ k * val (ds.drop k) := by
  conv => lhs; rw [← List.take_append_drop k ds]
  rw [val_append, List.length_take, Nat.min_eq_left h]
/-- All digits are below m, and none below 0. -/
def Dgs (m : Int) (ds : List Int) : Prop := ∀ d ∈ ds, 0 ≤ d ∧ d < m
theorem Dgs.at {m : Int} {ds : List Int} (h : Dgs m ds) (hm : 0 < m) (k : Nat) : 0 ≤ ds.getD k 0 ∧ ds.getD k 0 < m := by
  by_cases hk : k < ds.length
  · exact h _ (getD_mem hk)
  · simp [List.getD, List.getElem?_eq_none (Nat.le_of_not_lt hk), hm]
theorem Dgs.of {m : Int} {ds : List Int} (h : ∀ k, k < ds.length → 0 ≤ ds.getD k 0 ∧ ds.getD k 0 < m) : Dgs m ds := by
  intro d hd
  obtain ⟨k, hk, rfl⟩ := List.getElem_of_mem hd
  simpa [hk] using h k hk
theorem Dgs.snoc {m : Int} {ds : List Int} (h : Dgs m ds) {d : Int} (h0 : 0 ≤ d) (h1 : d < m) : Dgs m (ds ++ [d]) := by
  intro x hx
  rcases List.mem_append.1 hx with hx | hx
  · exact h x hx
  · simp at hx; subst hx; exact ⟨h0, h1⟩
theorem Dgs.mono {m n : Int} {ds : List Int} (h : Dgs m ds) (hmn : m ≤ n) : Dgs n ds := fun d hd => ⟨(h d hd).1, by have := (h d hd).2; omega⟩
theorem Dgs.take {m : Int} {ds : List Int} (h : Dgs m ds) (k : Nat) : Dgs m (ds.take k) := fun d hd => h d (List.mem_of_mem_take hd)
theorem Dgs.drop {m : Int} {ds : List Int} (h : Dgs m ds) (k : Nat) : Dgs m (ds.drop k) := fun d hd => h d (List.mem_of_mem_drop hd)
theorem Dgs.nonneg {m : Int} {ds : List Int} (h : Dgs m ds) : 0 ≤ val ds := val_nonneg (fun d hd => (h d hd).1)
theorem Dgs.lt {ds : List Int} (h : Dgs 65536 ds) : val ds < 65536 ^ ds.length := val_lt h
theorem pow_mono16 {a b : Nat} (h : a ≤ b) : (65536 : Int) ^ a ≤ 65536 ^ b := by
  obtain ⟨c, rfl⟩ := Nat.exists_eq_add_of_le h
  have h1 := pow_pos16 c
  have h2 := pow_pos16 a
  rw [Int.pow_add]
  calc (65536 : Int) ^ a = 65536 ^ a * 1 := by rw [Int.mul_one]
    _ ≤ 65536 ^ a * 65536 ^ c := Int.mul_le_mul_of_nonneg_left (by omega) (Int.le_of_lt h2)
theorem pow_lt16 {a b : Nat} (h : (65536 : Int) ^ a < 65536 ^ b) : a < b := by
  by_cases hb : b ≤ a
  · have := pow_mono16 hb; omega
  · omega
/-- What 'carried' has done by round k: the digits so far, and what is carried on. -/
structure Car (ds : List Int) (k : Nat) (c : Int) (es : List Int) : Prop where
  len : es.length = k
  dgs : Dgs 65536 es
  c0 : 0 ≤ c
  c1 : c < 4398046511104
  num : val es + 65536 ^ k * c = val (ds.take k)
  top : k ≤ ds.length ∨ 65536 ^ (k - 1) ≤ val ds
  k44 : k ≤ 44
theorem Car.start (ds : List Int) : Car ds 0 0 [] := ⟨rfl, fun d hd => by simp at hd, by omega, by omega, by simp [val], .inl (Nat.zero_le _), by omega⟩
theorem Car.step {ds : List Int} {k : Nat} {c : Int} {es : List Int} (h : Car ds k c es) (hd : Dgs 4398046511104 ds) (hl : ds.length ≤ 44) (hk : k < ds.length) :
    Car ds (k + 1) ((c + ds.getD k 0) / 65536) (es ++ [(c + ds.getD k 0) % 65536]) := by
  have hx := hd.at (by omega) k
  have h0 := h.c0
  have h1 := h.c1
  refine ⟨by simp [h.len], h.dgs.snoc (by omega) (by omega), by omega, by omega, ?_, .inl hk, by omega⟩
  rw [val_snoc, val_take ds k hk, ← h.num, h.len, Int.pow_succ]
  have e : c + ds.getD k 0 = (c + ds.getD k 0) % 65536 + 65536 * ((c + ds.getD k 0) / 65536) := by omega
  rw [Int.add_assoc, Int.add_assoc, Int.mul_assoc, ← Int.mul_add, ← Int.mul_add, ← e]
theorem Car.over {ds : List Int} {k : Nat} {c : Int} {es : List Int} (h : Car ds k c es) (hv : val ds < 65536 ^ 44) (hk : ds.length ≤ k) (hc : 0 < c) :
    Car ds (k + 1) (c / 65536) (es ++ [c % 65536]) := by
  have h0 := h.c0
  have h1 := h.c1
  have hval := h.num
  rw [List.take_of_length_le hk] at hval
  have hp := pow_pos16 k
  have hes := h.dgs.nonneg
  have hle : (65536 : Int) ^ k ≤ val ds := by
    have : (65536 : Int) ^ k * 1 ≤ 65536 ^ k * c := Int.mul_le_mul_of_nonneg_left (by omega) (Int.le_of_lt hp)
    omega
  have hk44 : k < 44 := pow_lt16 (Int.lt_of_le_of_lt hle hv)
  refine ⟨by simp [h.len], h.dgs.snoc (by omega) (by omega), by omega, by omega, ?_, .inr (by simpa using hle), by omega⟩
  rw [val_snoc, List.take_of_length_le (by omega), ← hval, h.len, Int.pow_succ]
  have e : c = c % 65536 + 65536 * (c / 65536) := by omega
  rw [Int.add_assoc, Int.mul_assoc, ← Int.mul_add, ← e]
/-- What 'carried' answers. -/
structure Cared (ds es : List Int) : Prop where
  dgs : Dgs 65536 es
  num : val es = val ds
  l16 : 16 ≤ es.length
  l44 : es.length ≤ 44
  top : es.length ≤ max 16 ds.length ∨ 65536 ^ (es.length - 1) ≤ val ds
/-- Behind the first loop. -/
structure Pad (ds es : List Int) : Prop where
  dgs : Dgs 65536 es
  num : val es = val ds
  l44 : es.length ≤ 44
  top : es.length ≤ max 16 ds.length ∨ 65536 ^ (es.length - 1) ≤ val ds
theorem Car.done {ds : List Int} {k : Nat} {es : List Int} (h : Car ds k 0 es) (hk : ds.length ≤ k) : Pad ds es := by
  have hval := h.num
  rw [List.take_of_length_le hk] at hval
  refine ⟨h.dgs, by simpa using hval, by rw [h.len]; exact h.k44, ?_⟩
  rw [h.len]
  rcases h.top with h | h
  · exact .inl (by omega)
  · exact .inr h
theorem Pad.zero {ds es : List Int} (h : Pad ds es) (hl : es.length < 16) : Pad ds (es ++ [0]) :=
  ⟨h.dgs.snoc (by omega) (by omega), by rw [val_snoc, h.num]; omega, by simp; omega, .inl (by simp; omega)⟩
theorem Pad.done {ds es : List Int} (h : Pad ds es) (hl : 16 ≤ es.length) : Cared ds es := ⟨h.dgs, h.num, hl, h.l44, h.top⟩
end Go.Proofs.YtgklkkjhoecdoaaDoor
