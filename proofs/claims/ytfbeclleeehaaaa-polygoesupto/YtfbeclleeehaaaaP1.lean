/-
  Own text. Digits to the base 256 as functions: their number; what the document's answer for poly does to them. No program is named here.
-/
import Derived.Test.YtfbeclleeehaaaaBz
namespace Go.Proofs.Ytfbeclleeehaaaa
open Go.RowKit Go.Proofs
/-- The number of the first n digits, the lowest first. -/
def dval (s : Nat → Int) : Nat → Int
  | 0 => 0
  | n + 1 => dval s n + 256 ^ n * s n
theorem p256 (n : Nat) : (0 : Int) < 256 ^ n := Int.pow_pos (by decide)
theorem dval_congr {s t : Nat → Int} : ∀ {n : Nat}, (∀ i, i < n → s i = t i) → dval s n = dval t n
  | 0, _ => rfl
  | n + 1, h => by unfold dval; rw [dval_congr (fun i hi => h i (by omega)), h n (by omega)]
theorem dval_nonneg {s : Nat → Int} : ∀ {n : Nat}, (∀ i, i < n → 0 ≤ s i) → 0 ≤ dval s n
  | 0, _ => by simp [dval]
  | n + 1, h => by
    have h1 := dval_nonneg (n := n) (fun i hi => h i (by omega))
    have h2 := Int.mul_nonneg (Int.le_of_lt (p256 n)) (h n (by omega))
    unfold dval; omega
theorem dval_lt {s : Nat → Int} : ∀ {n : Nat}, (∀ i, i < n → 0 ≤ s i ∧ s i < 256) → dval s n < 256 ^ n
  | 0, _ => by simp [dval]
  | n + 1, h => by
    have h1 := dval_lt (n := n) (fun i hi => h i (by omega))
    have h2 := h n (by omega)
    have h3 : (256 : Int) ^ n * s n ≤ 256 ^ n * 255 := Int.mul_le_mul_of_nonneg_left (by omega) (Int.le_of_lt (p256 n))
    unfold dval
    rw [Int.pow_succ]
    omega
theorem dval_upd {s : Nat → Int} {i : Nat} {v : Int} : ∀ {n : Nat}, i < n → dval (upd s i v) n = dval s n + 256 ^ i * (v - s i)
  | 0, h => by omega
  | n + 1, h => by
    unfold dval
    by_cases e : i = n
    · subst e
      rw [dval_congr (t := s) (fun j hj => by unfold upd; rw [if_neg (by omega)])]
      unfold upd
      rw [if_pos rfl, Int.mul_sub]
      omega
    · rw [dval_upd (by omega)]
      unfold upd
      rw [if_neg (fun h => e h.symm)]
      omega
theorem dval_tail {s : Nat → Int} {n : Nat} : ∀ {m : Nat}, n ≤ m → (∀ i, n ≤ i → i < m → s i = 0) → dval s m = dval s n
  | 0, h, _ => by rw [show n = 0 by omega]
  | m + 1, h, hz => by
    by_cases e : n = m + 1
    · rw [e]
    · show dval s m + 256 ^ m * s m = dval s n
      rw [dval_tail (m := m) (by omega) (fun i h1 h2 => hz i h1 (by omega)), hz m (by omega) (by omega)]
      simp
theorem dval_shift (s : Nat → Int) (a : Nat) : ∀ (n : Nat), dval s (a + n) = dval s a + 256 ^ a * dval (fun j => s (a + j)) n
  | 0 => by simp [dval]
  | n + 1 => by
    show dval s (a + n) + 256 ^ (a + n) * s (a + n) = dval s a + 256 ^ a * (dval (fun j => s (a + j)) n + 256 ^ n * s (a + n))
    rw [dval_shift s a n, Int.mul_add, Int.pow_add, Int.mul_assoc]
    omega
/-- Digits, with zeros behind them. -/
def pad (s : Nat → Int) (n : Nat) (i : Nat) : Int := if i < n then s i else 0
theorem dval_pad (s : Nat → Int) (n m : Nat) (h : n ≤ m) : dval (pad s n) m = dval s n := by
  rw [dval_tail h (fun i h1 _ => by unfold pad; rw [if_neg (by omega)])]
  exact dval_congr (fun i hi => by unfold pad; rw [if_pos hi])
def Dg (m : Int) (n : Nat) (s : Nat → Int) : Prop := ∀ i, i < n → 0 ≤ s i ∧ s i < m
/-- What 'carried' has done by round k: the digits so far, and what is carried on. -/
structure Car (s : Nat → Int) (n k : Nat) (c : Int) (e : Nat → Int) : Prop where
  dg : Dg 256 k e
  c0 : 0 ≤ c
  c1 : c < 1099511627776
  late : ∀ j, k = n + j → c * 256 ^ j < 1099511627776
  num : dval e k + 256 ^ k * c = dval (pad s n) k
theorem Car.start (s : Nat → Int) (n : Nat) (e : Nat → Int) : Car s n 0 0 e := ⟨fun i hi => by omega, by omega, by omega, fun j _ => by simp, by simp [dval]⟩
theorem Car.step {s : Nat → Int} {n k : Nat} {c : Int} {e e' : Nat → Int} (h : Car s n k c e) (hs : Dg 8796093022208 n s) (he : ∀ i, i < k → e' i = e i) (hk : e' k = (c + pad s n k) % 256) : Car s n (k + 1) ((c + pad s n k) / 256) e' := by
  have hp : 0 ≤ pad s n k ∧ pad s n k < 8796093022208 := by
    unfold pad
    split
    · exact hs k (by assumption)
    · omega
  have h0 := h.c0
  have h1 := h.c1
  refine ⟨fun i hi => ?_, by omega, by omega, fun j hj => ?_, ?_⟩
  · by_cases e1 : i < k
    · rw [he i e1]; exact h.dg i e1
    · rw [show i = k by omega, hk]; omega
  · cases j with
    | zero => simp; omega
    | succ j =>
      have hl := h.late j (by omega)
      have hz : pad s n k = 0 := by unfold pad; rw [if_neg (by omega)]
      rw [hz, Int.add_zero, Int.pow_succ]
      have h2 : c / 256 * 256 ≤ c := by omega
      have h3 : c / 256 * 256 * 256 ^ j ≤ c * 256 ^ j := Int.mul_le_mul_of_nonneg_right h2 (Int.le_of_lt (p256 j))
      have h4 : c / 256 * (256 ^ j * 256) = c / 256 * 256 * 256 ^ j := by rw [Int.mul_comm (256 ^ j) 256, ← Int.mul_assoc]
      omega
  · show dval e' k + 256 ^ k * e' k + _ = dval (pad s n) k + 256 ^ k * pad s n k
    rw [dval_congr he, hk, ← h.num, Int.pow_succ]
    have e2 : c + pad s n k = (c + pad s n k) % 256 + 256 * ((c + pad s n k) / 256) := by omega
    have e3 : 256 ^ k * (c + pad s n k) = 256 ^ k * ((c + pad s n k) % 256) + 256 ^ k * 256 * ((c + pad s n k) / 256) := by
      conv => lhs; rw [e2]
      rw [Int.mul_add, Int.mul_assoc]
    rw [Int.mul_add] at e3
    omega
theorem Car.few {s : Nat → Int} {n k : Nat} {c : Int} {e : Nat → Int} (h : Car s n k c e) (hk : n + 5 ≤ k) : c = 0 := by
  have h0 := h.c0
  have hl := h.late (k - n) (by omega)
  have hp : (256 : Int) ^ 5 ≤ 256 ^ (k - n) := by
    obtain ⟨d, hd⟩ : ∃ d, k - n = 5 + d := ⟨k - n - 5, by omega⟩
    rw [hd, Int.pow_add]
    have := p256 d
    have h5 : (256 : Int) ^ 5 * 1 ≤ 256 ^ 5 * 256 ^ d := Int.mul_le_mul_of_nonneg_left (by omega) (by decide)
    omega
  rcases Int.lt_or_le 0 c with hc | hc
  · have h6 : 1 * (256 : Int) ^ 5 ≤ c * 256 ^ (k - n) := Int.mul_le_mul (by omega) hp (by decide) (by omega)
    have h7 : (256 : Int) ^ 5 = 1099511627776 := by decide
    omega
  · omega
/-- What 'carried' answers: m digits of the same number. -/
structure Cared (s : Nat → Int) (n m : Nat) (e : Nat → Int) : Prop where
  dg : Dg 256 m e
  num : dval e m = dval s n
  lo : 18 ≤ m
  hi : m ≤ max (n + 5) 18
theorem Car.done {s : Nat → Int} {n k : Nat} {e : Nat → Int} (h : Car s n k 0 e) (hn : n ≤ k) (h18 : 18 ≤ k) (hh : k ≤ max (n + 5) 18) : Cared s n k e :=
  ⟨h.dg, by have := h.num; rw [dval_pad s n k hn] at this; omega, h18, hh⟩
def P130 : Int := 1361129467683753853853498429727072845819
def W130 : Int := 1361129467683753853853498429727072845824
/-- The digits of the number by 2^130. -/
def hid (x : Nat → Int) (j : Nat) : Int := x (16 + j) / 4 + x (17 + j) % 4 * 64
theorem hid_sum (x : Nat → Int) (hx : ∀ i, 0 ≤ x i) : ∀ k, 4 * dval (hid x) k + x 16 % 4 = dval (fun j => x (16 + j)) k + x (16 + k) % 4 * 256 ^ k
  | 0 => by simp [dval]
  | k + 1 => by
    have ih := hid_sum x hx k
    have h1 := hx (16 + k)
    unfold dval
    rw [Int.mul_add, Int.pow_succ]
    have e1 : 4 * (256 ^ k * hid x k) = 256 ^ k * (4 * hid x k) := by rw [← Int.mul_assoc, Int.mul_comm 4, Int.mul_assoc]
    have e2 : 4 * hid x k = x (16 + k) - x (16 + k) % 4 + 256 * (x (17 + k) % 4) := by unfold hid; omega
    have e3 : 256 ^ k * (x (16 + k) - x (16 + k) % 4 + 256 * (x (17 + k) % 4)) = 256 ^ k * x (16 + k) - x (16 + k) % 4 * 256 ^ k + x (17 + k) % 4 * (256 ^ k * 256) := by
      rw [Int.mul_add, Int.mul_sub, Int.mul_comm (256 ^ k) (x (16 + k) % 4), ← Int.mul_assoc, Int.mul_comm (256 ^ k * 256)]
    rw [e1, e2, e3, show 16 + (k + 1) = 17 + k by omega]
    omega
theorem pow16 : (256 : Int) ^ 16 = 340282366920938463463374607431768211456 := by decide
/-- A number of m digits: what is below 2^130, and 2^130 times the rest. -/
theorem hid_split (x : Nat → Int) (m : Nat) (hm : 16 ≤ m) (hx : Dg 256 m x) :
    dval x m = (dval x 16 + 340282366920938463463374607431768211456 * (pad x m 16 % 4)) + W130 * dval (hid (pad x m)) (m - 16) ∧ 0 ≤ dval x 16 + 340282366920938463463374607431768211456 * (pad x m 16 % 4) ∧ dval x 16 + 340282366920938463463374607431768211456 * (pad x m 16 % 4) < W130 := by
  have hp : ∀ i, 0 ≤ pad x m i := fun i => by
    unfold pad
    split
    · exact (hx i (by assumption)).1
    · omega
  have h := hid_sum (pad x m) hp (m - 16)
  have hz : pad x m (16 + (m - 16)) = 0 := by unfold pad; rw [if_neg (by omega)]
  rw [hz] at h
  have hs := dval_shift (pad x m) 16 (m - 16)
  rw [show 16 + (m - 16) = m by omega, dval_pad x m m (Nat.le_refl _), pow16] at hs
  have e16 : dval (pad x m) 16 = dval x 16 := dval_congr (fun i hi => by unfold pad; rw [if_pos (by omega)])
  rw [e16] at hs
  have h1 := dval_nonneg (s := x) (n := 16) (fun i hi => (hx i (by omega)).1)
  have h2 := dval_lt (s := x) (n := 16) (fun i hi => hx i (by omega))
  rw [pow16] at h2
  unfold W130
  simp only [Int.zero_emod, Int.zero_mul, Int.add_zero] at h
  refine ⟨?_, by omega, by omega⟩
  rw [hs]
  omega
end Go.Proofs.Ytfbeclleeehaaaa
