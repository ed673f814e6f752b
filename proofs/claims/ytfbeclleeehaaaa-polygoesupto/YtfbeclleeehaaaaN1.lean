/-
  Own text. Digits to the base 2^26 as functions: their number, carries, products by 2^130 - 5. No program is named here.
-/
import Derived.Test.YtfbeclleeehaaaaP5
namespace Go.Proofs.Ytfbeclleeehaaaa
open Go.RowKit Go.Proofs
/-- The number of the first n digits to the base 2^26, the lowest first. -/
def qv (s : Nat → Int) : Nat → Int
  | 0 => 0
  | n + 1 => qv s n + 67108864 ^ n * s n
theorem pQ (n : Nat) : (0 : Int) < 67108864 ^ n := Int.pow_pos (by decide)
theorem qv_congr {s t : Nat → Int} : ∀ {n : Nat}, (∀ i, i < n → s i = t i) → qv s n = qv t n
  | 0, _ => rfl
  | n + 1, h => by unfold qv; rw [qv_congr (fun i hi => h i (by omega)), h n (by omega)]
theorem qv_nonneg {s : Nat → Int} : ∀ {n : Nat}, (∀ i, i < n → 0 ≤ s i) → 0 ≤ qv s n
  | 0, _ => by simp [qv]
  | n + 1, h => by
    have h1 := qv_nonneg (n := n) (fun i hi => h i (by omega))
    have h2 := Int.mul_nonneg (Int.le_of_lt (pQ n)) (h n (by omega))
    unfold qv; omega
theorem qv_upd {s : Nat → Int} {i : Nat} {v : Int} : ∀ {n : Nat}, i < n → qv (upd s i v) n = qv s n + 67108864 ^ i * (v - s i)
  | 0, h => by omega
  | n + 1, h => by
    unfold qv
    by_cases e : i = n
    · subst e
      rw [qv_congr (t := s) (fun j hj => by unfold upd; rw [if_neg (by omega)])]
      unfold upd
      rw [if_pos rfl, Int.mul_sub]
      omega
    · rw [qv_upd (by omega)]
      unfold upd
      rw [if_neg (fun h => e h.symm)]
      omega
theorem qv_add {s : Nat → Int} {i n : Nat} {v : Int} (h : i < n) : qv (upd s i (s i + v)) n = qv s n + 67108864 ^ i * v := by
  rw [qv_upd h, show s i + v - s i = v by omega]
theorem qv_shift (s : Nat → Int) (a : Nat) : ∀ (n : Nat), qv s (a + n) = qv s a + 67108864 ^ a * qv (fun j => s (a + j)) n
  | 0 => by simp [qv]
  | n + 1 => by
    show qv s (a + n) + 67108864 ^ (a + n) * s (a + n) = qv s a + 67108864 ^ a * (qv (fun j => s (a + j)) n + 67108864 ^ n * s (a + n))
    rw [qv_shift s a n, Int.mul_add, Int.pow_add, Int.mul_assoc]
    omega
/-- Five digits, written out. -/
theorem qv5 (s : Nat → Int) : qv s 5 = s 0 + 67108864 * s 1 + 4503599627370496 * s 2 + 302231454903657293676544 * s 3 + 20282409603651670423947251286016 * s 4 := by
  simp only [qv, Int.reducePow, Int.pow_zero, Int.one_mul]
  omega
/-- What is carried into digit i. -/
def cc (x : Nat → Int) : Nat → Int
  | 0 => 0
  | i + 1 => (x i + cc x i) / 67108864
def cd (x : Nat → Int) (i : Nat) : Int := (x i + cc x i) % 67108864
theorem cd_b (x : Nat → Int) (i : Nat) : 0 ≤ cd x i ∧ cd x i < 67108864 := by unfold cd; omega
theorem cc_b {x : Nat → Int} {n : Nat} (hx : Dg 9223372036854775808 n x) : ∀ i, i ≤ n → 0 ≤ cc x i ∧ cc x i < 274877906944
  | 0, _ => by simp [cc]
  | i + 1, h => by
    have ih := cc_b hx i (by omega)
    have h1 := hx i (by omega)
    show 0 ≤ (x i + cc x i) / 67108864 ∧ (x i + cc x i) / 67108864 < 274877906944
    omega
theorem qv_cd (x : Nat → Int) : ∀ n, qv (cd x) n + 67108864 ^ n * cc x n = qv x n
  | 0 => by simp [qv, cc]
  | n + 1 => by
    have ih := qv_cd x n
    show qv (cd x) n + 67108864 ^ n * cd x n + 67108864 ^ (n + 1) * ((x n + cc x n) / 67108864) = qv x n + 67108864 ^ n * x n
    have e : cd x n + 67108864 * ((x n + cc x n) / 67108864) = x n + cc x n := by unfold cd; omega
    rw [Int.pow_succ, Int.mul_assoc]
    generalize (x n + cc x n) / 67108864 = q at *
    have e2 : (67108864 : Int) ^ n * (cd x n + 67108864 * q) = 67108864 ^ n * (x n + cc x n) := by rw [e]
    rw [Int.mul_add, Int.mul_add] at e2
    omega
theorem q5 : (67108864 : Int) ^ 5 = W130 := by decide
theorem cd_lt (x : Nat → Int) : 0 ≤ qv (cd x) 5 ∧ qv (cd x) 5 < W130 := by
  have h0 := cd_b x 0
  have h1 := cd_b x 1
  have h2 := cd_b x 2
  have h3 := cd_b x 3
  have h4 := cd_b x 4
  rw [qv5]
  unfold W130
  omega
theorem cd_num (x : Nat → Int) : qv (cd x) 5 = qv x 5 % W130 ∧ cc x 5 = qv x 5 / W130 := by
  have h := qv_cd x 5
  have hb := cd_lt x
  rw [q5] at h
  unfold W130 at *
  omega
/-- Sums of a block and what has come together. -/
structure Sm (x : Nat → Int) : Prop where
  a : ∀ i, i < 5 → 0 ≤ x i
  b : ∀ i, i < 5 → i ≠ 1 → x i < 67108864
  c : x 1 < 67141632
theorem Sm.dg {x : Nat → Int} (h : Sm x) : Dg 67141632 5 x := fun i hi => ⟨h.a i hi, by
  by_cases e : i = 1
  · subst e; exact h.c
  · have := h.b i hi e; omega⟩
theorem Sm.of {x : Nat → Int} (h : Dg 67108864 5 x) : Sm x := ⟨fun i hi => (h i hi).1, fun i hi _ => (h i hi).2, by have := h 1 (by omega); omega⟩
theorem Sm.lt {x : Nat → Int} (h : Sm x) : 0 ≤ qv x 5 ∧ qv x 5 < W130 + 4398046511104 := by
  have h0 := h.b 0 (by omega) (by omega)
  have h2 := h.b 2 (by omega) (by omega)
  have h3 := h.b 3 (by omega) (by omega)
  have h4 := h.b 4 (by omega) (by omega)
  have h1 := h.c
  have k0 := h.a 0 (by omega)
  have k1 := h.a 1 (by omega)
  have k2 := h.a 2 (by omega)
  have k3 := h.a 3 (by omega)
  have k4 := h.a 4 (by omega)
  rw [qv5]
  unfold W130
  omega
/-- The first k digits of two added. -/
def qadd (x y : Nat → Int) (k i : Nat) : Int := if i < k then x i + y i else x i
theorem qadd_step (s g : Nat → Int) (j : Nat) : upd (qadd s g j) j (qadd s g j j + g j) = qadd s g (j + 1) := by
  funext i
  unfold upd qadd
  by_cases e : i = j
  · subst e; simp
  · rw [if_neg e]
    by_cases h : i < j
    · rw [if_pos h, if_pos (by omega)]
    · rw [if_neg h, if_neg (by omega)]
theorem qv_sum (x y : Nat → Int) : ∀ n, qv (fun i => x i + y i) n = qv x n + qv y n
  | 0 => rfl
  | n + 1 => by
    have ih := qv_sum x y n
    unfold qv
    rw [ih, Int.mul_add]
    omega
theorem qprod_step (z h r : Nat → Int) (R : Int) (i k : Nat) (hik : i + k < 10) (hz : qv z 10 = qv h i * R + 67108864 ^ i * (h i * qv r k)) : qv (upd z (i + k) (z (i + k) + h i * r k)) 10 = qv h i * R + 67108864 ^ i * (h i * qv r (k + 1)) := by
  rw [qv_add hik, hz]
  show qv h i * R + 67108864 ^ i * (h i * qv r k) + 67108864 ^ (i + k) * (h i * r k) = qv h i * R + 67108864 ^ i * (h i * (qv r k + 67108864 ^ k * r k))
  rw [Int.mul_add, Int.mul_add, Int.pow_add, Int.mul_assoc, ← Int.mul_assoc (67108864 ^ k), Int.mul_comm (67108864 ^ k) (h i), Int.mul_assoc]
  omega
theorem qprod_row (h r : Nat → Int) (i : Nat) : qv h i * qv r 5 + 67108864 ^ i * (h i * qv r 5) = qv h (i + 1) * qv r 5 := by
  show _ = (qv h i + 67108864 ^ i * h i) * qv r 5
  rw [Int.add_mul, Int.mul_assoc]
/-- The first k digits of the folded product. -/
def fold5 (z : Nat → Int) (k i : Nat) : Int := if i < k then z i + 5 * z (i + 5) else 0
theorem fold5_step (z : Nat → Int) (k : Nat) : upd (fold5 z k) k (z k + 5 * z (k + 5)) = fold5 z (k + 1) := by
  funext i
  unfold upd fold5
  by_cases e : i = k
  · subst e; simp
  · rw [if_neg e]
    by_cases h : i < k
    · rw [if_pos h, if_pos (by omega)]
    · rw [if_neg h, if_neg (by omega)]
theorem fold5_num (z : Nat → Int) : qv z 10 = qv (fold5 z 5) 5 + P130 * qv (fun j => z (5 + j)) 5 := by
  have h := qv_shift z 5 5
  rw [q5] at h
  rw [show (5 + 5 : Nat) = 10 from rfl] at h
  rw [h, qv5 z, qv5 (fun j => z (5 + j)), qv5 (fold5 z 5)]
  simp only [fold5, show (0 : Nat) < 5 from by decide, show (1 : Nat) < 5 from by decide, show (2 : Nat) < 5 from by decide, show (3 : Nat) < 5 from by decide, show (4 : Nat) < 5 from by decide, if_true, Nat.add_zero, Nat.zero_add, Nat.reduceAdd]
  unfold W130 P130
  omega
/-- The last steps of a product: what went beyond 2^130 comes back five times. -/
def back5 (x : Nat → Int) (i : Nat) : Int := if i = 0 then (cd x 0 + 5 * cc x 5) % 67108864 else if i = 1 then cd x 1 + (cd x 0 + 5 * cc x 5) / 67108864 else cd x i
theorem back5_num {x : Nat → Int} : ∃ q, qv x 5 = qv (back5 x) 5 + P130 * q := by
  have h := qv_cd x 5
  rw [q5, qv5 (cd x)] at h
  refine ⟨cc x 5, ?_⟩
  rw [qv5 (back5 x)]
  simp only [back5, if_true, show (1 : Nat) ≠ 0 from by decide, show (2 : Nat) ≠ 0 from by decide, show (3 : Nat) ≠ 0 from by decide, show (4 : Nat) ≠ 0 from by decide, show (2 : Nat) ≠ 1 from by decide, show (3 : Nat) ≠ 1 from by decide, show (4 : Nat) ≠ 1 from by decide, if_false]
  unfold W130 at h
  unfold P130
  omega
theorem back5_sm {x : Nat → Int} (hx : Dg 9223372036854775808 5 x) : Sm (back5 x) := by
  have hc := cc_b hx 5 (Nat.le_refl _)
  have h0 := cd_b x 0
  have h1 := cd_b x 1
  refine ⟨fun i hi => ?_, fun i hi h => ?_, ?_⟩
  · have := cd_b x i
    unfold back5
    split
    · omega
    · split <;> omega
  · have := cd_b x i
    unfold back5
    rw [if_neg h]
    split <;> omega
  · show cd x 1 + (cd x 0 + 5 * cc x 5) / 67108864 < 67141632
    omega
theorem back5_upd (x : Nat → Int) (i : Nat) : upd (upd (upd (cd x) 0 (cd x 0 + 5 * cc x 5)) 1 (cd x 1 + (cd x 0 + 5 * cc x 5) / 67108864)) 0 ((cd x 0 + 5 * cc x 5) % 67108864) i = back5 x i := by
  unfold upd back5
  by_cases e0 : i = 0
  · simp only [e0, if_true]
  · by_cases e1 : i = 1
    · simp only [e1, if_true, if_neg (show ¬ (1 = 0) by decide)]
    · simp only [if_neg e0, if_neg e1]
theorem ediv0 {a b : Int} (h0 : 0 ≤ a) (h1 : a < b) : a / b = 0 ∧ a % b = a := ⟨Int.ediv_eq_zero_of_lt h0 h1, Int.emod_eq_of_lt h0 h1⟩
theorem ediv1 {a b : Int} (h0 : b ≤ a) (h1 : a < b + b) : a / b = 1 ∧ a % b = a - b := by
  have hb : 0 < b := by omega
  have e : a = (a - b) + b * 1 := by omega
  have e2 := Int.add_mul_ediv_left (a - b) 1 (show b ≠ 0 by omega)
  have e3 := Int.add_mul_emod_self_left (a - b) b 1
  rw [← e] at e2 e3
  have h := ediv0 (a := a - b) (b := b) (by omega) (by omega)
  omega
theorem least_arith {X : Int} (h0 : 0 ≤ X) (h1 : X < W130 + 4398046511104) :
    ((X % W130 + 5 * (X / W130)) % W130 + 5 * (((X % W130 + 5 * (X / W130)) % W130 + 5) / W130)) % W130 = X % P130 := by
  have hW : W130 = P130 + 5 := by decide
  have hP : 4398046511104 + 1000 < P130 := by decide
  generalize W130 = W at *
  generalize P130 = P at *
  by_cases c : X < W
  · obtain ⟨a1, a2⟩ := ediv0 h0 c
    rw [a1, a2, show X + 5 * 0 = X by omega, a2]
    by_cases d : X + 5 < W
    · rw [(ediv0 (by omega) d).1, show X + 5 * 0 = X by omega, a2, (ediv0 h0 (show X < P by omega)).2]
    · rw [(ediv1 (a := X + 5) (b := W) (by omega) (by omega)).1, show X + 5 * 1 = X + 5 by omega, (ediv1 (a := X + 5) (b := W) (by omega) (by omega)).2, (ediv1 (a := X) (b := P) (by omega) (by omega)).2]
      omega
  · obtain ⟨a1, a2⟩ := ediv1 (a := X) (b := W) (by omega) (by omega)
    rw [a1, a2, (ediv0 (a := X - W + 5 * 1) (b := W) (by omega) (by omega)).2, (ediv0 (a := X - W + 5 * 1 + 5) (b := W) (by omega) (by omega)).1, (ediv0 (a := X - W + 5 * 1 + 5 * 0) (b := W) (by omega) (by omega)).2, (ediv1 (a := X) (b := P) (by omega) (by omega)).2]
    omega
/-- The least number that stands for the same. -/
theorem least_num {x x1 rc x3 : Nat → Int} (h : Sm x) (h1 : x1 = upd (cd x) 0 (cd x 0 + 5 * cc x 5)) (hr : rc = upd (cd x1) 0 (cd x1 0 + 5)) (h3 : x3 = upd (cd x1) 0 (cd x1 0 + 5 * cc rc 5)) : qv (cd x3) 5 = qv x 5 % P130 := by
  have hX := h.lt
  have e1 : qv x1 5 = qv (cd x) 5 + 5 * cc x 5 := by rw [h1, qv_add (by decide)]; simp
  have e2 : qv rc 5 = qv (cd x1) 5 + 5 := by rw [hr, qv_add (by decide)]; simp
  have e3 : qv x3 5 = qv (cd x1) 5 + 5 * cc rc 5 := by rw [h3, qv_add (by decide)]; simp
  have n0 := cd_num x
  have n1 := cd_num x1
  have n2 := cd_num rc
  have n3 := cd_num x3
  rw [n3.1, e3, n2.2, e2, n1.1, e1, n0.1, n0.2]
  exact least_arith hX.1 hX.2
theorem cd0_dg {x : Nat → Int} {v : Int} (h0 : 0 ≤ v) (h1 : v < 9223372036854775808) : Dg 9223372036854775808 5 (upd (cd x) 0 v) := fun i _ => by
  have := cd_b x i
  unfold upd
  split <;> omega
end Go.Proofs.Ytfbeclleeehaaaa
