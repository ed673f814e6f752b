/-
  Own text. The text of an address of version 6, as the document writes it: from left to right.
-/
import Derived.Test.YtdlepeogmjmleaaDoorJ4
namespace Go.Proofs.YtdlepeogmjmleaaDoor
open Go.RowKit Go.Proofs
set_option maxRecDepth 100000
/-- What is still to be written at the pair i. -/
def docT (pr : Nat → Nat) (a n : Nat) : Nat → Nat → List UInt8
  | 0, _ => []
  | f + 1, i => if 8 ≤ i then [] else if 0 < n ∧ i = a then 58 :: 58 :: docT pr a n f (i + n) else (if 0 < i ∧ (n = 0 ∨ i ≠ a + n) then [58] else []) ++ (hexT (pr i) ++ docT pr a n f (i + 1))
theorem docT_end (pr : Nat → Nat) (a n : Nat) : ∀ f, docT pr a n f 8 = []
  | 0 => rfl
  | f + 1 => by rw [docT, if_pos (Nat.le_refl _)]
theorem docT_succ (pr : Nat → Nat) (a n f i : Nat) : docT pr a n (f + 1) i = if 8 ≤ i then [] else if 0 < n ∧ i = a then 58 :: 58 :: docT pr a n f (i + n) else (if 0 < i ∧ (n = 0 ∨ i ≠ a + n) then [58] else []) ++ (hexT (pr i) ++ docT pr a n f (i + 1)) := by rw [docT]
theorem docT_fuel (pr : Nat → Nat) (a n : Nat) : ∀ f i, 8 ≤ f + i → docT pr a n (f + 1) i = docT pr a n f i
  | 0, i, h => by rw [docT_succ, if_pos (by omega)]; rfl
  | f + 1, i, h => by
    rw [docT_succ pr a n (f + 1) i, docT_succ pr a n f i, docT_fuel pr a n f (i + 1) (by omega)]
    split
    · rfl
    · split
      · rw [docT_fuel pr a n f (i + n) (by omega)]
      · rfl
theorem docT_row (pr : Nat → Nat) (a n i : Nat) (h : i < 8) (hn : 0 < n) (e : i = a) : docT pr a n 8 i = 58 :: 58 :: docT pr a n 8 (i + n) := by
  rw [docT_succ pr a n 7 i, if_neg (by omega), if_pos ⟨hn, e⟩, docT_fuel pr a n 7 (i + n) (by omega)]
theorem docT_one (pr : Nat → Nat) (a n i : Nat) (h : i < 8) (e : ¬ (0 < n ∧ i = a)) : docT pr a n 8 i = (if 0 < i ∧ (n = 0 ∨ i ≠ a + n) then [58] else []) ++ (hexT (pr i) ++ docT pr a n 8 (i + 1)) := by
  rw [docT_succ pr a n 7 i, if_neg (by omega), if_neg e, docT_fuel pr a n 7 (i + 1) (by omega)]
theorem docT_six (pr : Nat → Nat) (a n : Nat) (h : n = 0 ∨ (2 ≤ n ∧ a + n ≤ 8)) : docT pr a n 8 0 = sixT pr a n := by
  rcases h with rfl | ⟨h1, h2⟩
  · simp [docT, sixT, prL, joinC, List.range']
  · have ha : a = 0 ∨ a = 1 ∨ a = 2 ∨ a = 3 ∨ a = 4 ∨ a = 5 ∨ a = 6 := by omega
    have hn : n = 2 ∨ n = 3 ∨ n = 4 ∨ n = 5 ∨ n = 6 ∨ n = 7 ∨ n = 8 := by omega
    rcases ha with rfl | rfl | rfl | rfl | rfl | rfl | rfl <;> rcases hn with rfl | rfl | rfl | rfl | rfl | rfl | rfl <;> first | omega | simp [docT, sixT, prL, joinC, List.range']
end Go.Proofs.YtdlepeogmjmleaaDoor
