/-
  Own text. Marks by keys that are alike: the numbers of PolyCuts.
-/
import Derived.Test.YtfbeclleeehaaaaP6
namespace Go.Proofs.Ytfbeclleeehaaaa
open Go.RowKit Go.Proofs
theorem dval_digN (M : Int) : ∀ n, dval (digN M) n = M % 256 ^ n
  | 0 => by simp [dval]
  | n + 1 => by
    have ih := dval_digN M n
    show dval (digN M) n + 256 ^ n * digN M n = _
    rw [ih, Int.pow_succ]
    unfold digN
    have hp := p256 n
    have h2 : M % (256 ^ n * 256) = M % 256 ^ n + 256 ^ n * (M / 256 ^ n % 256) := by
      have a1 := Int.emod_add_mul_ediv M (256 ^ n)
      have a2 := Int.emod_add_mul_ediv (M / 256 ^ n) 256
      have b1 := Int.emod_nonneg M (show (256 : Int) ^ n ≠ 0 by omega)
      have b2 := Int.emod_lt_of_pos M hp
      have b3 := Int.emod_nonneg (M / 256 ^ n) (show (256 : Int) ≠ 0 by decide)
      have b4 := Int.emod_lt_of_pos (M / 256 ^ n) (show (0 : Int) < 256 by decide)
      generalize hq : M / 256 ^ n / 256 = q at *
      generalize M / 256 ^ n = d at *
      generalize d % 256 = e at *
      generalize M % 256 ^ n = r at *
      generalize (256 : Int) ^ n = P at *
      have hM : M = (r + P * e) + (P * 256) * q := by
        rw [← a1, ← a2, Int.mul_add, Int.mul_assoc]; omega
      rw [hM, Int.add_mul_emod_self_left]
      have c1 : 0 ≤ P * e := Int.mul_nonneg (by omega) b3
      have c2 : P * e ≤ P * 255 := Int.mul_le_mul_of_nonneg_left (by omega) (by omega)
      exact Int.emod_eq_of_lt (by omega) (by omega)
    exact h2.symm
/-- What is carried when c is added to digits. -/
def cry (s : Nat → Int) (c : Int) : Nat → Int
  | 0 => c
  | n + 1 => (cry s c n + s n) / 256
def dgc (s : Nat → Int) (c : Int) (i : Nat) : Int := (cry s c i + s i) % 256
theorem dgc_b (s : Nat → Int) (c : Int) (i : Nat) : 0 ≤ dgc s c i ∧ dgc s c i < 256 := by unfold dgc; omega
theorem cry_b {s : Nat → Int} {c : Int} {n : Nat} (hs : Dg 256 n s) (hc : 0 ≤ c ∧ c < 256) : ∀ i, i ≤ n → 0 ≤ cry s c i ∧ cry s c i < 256
  | 0, _ => hc
  | i + 1, h => by
    have ih := cry_b hs hc i (by omega)
    have h1 := hs i (by omega)
    show 0 ≤ (cry s c i + s i) / 256 ∧ (cry s c i + s i) / 256 < 256
    omega
theorem dval_dgc (s : Nat → Int) (c : Int) : ∀ n, dval (dgc s c) n + 256 ^ n * cry s c n = dval s n + c
  | 0 => by simp [dval, cry]
  | n + 1 => by
    have ih := dval_dgc s c n
    show dval (dgc s c) n + 256 ^ n * dgc s c n + 256 ^ (n + 1) * ((cry s c n + s n) / 256) = dval s n + 256 ^ n * s n + c
    have e : dgc s c n + 256 * ((cry s c n + s n) / 256) = cry s c n + s n := by unfold dgc; omega
    rw [Int.pow_succ, Int.mul_assoc]
    generalize (cry s c n + s n) / 256 = q at *
    have e2 : (256 : Int) ^ n * (dgc s c n + 256 * q) = 256 ^ n * (cry s c n + s n) := by rw [e]
    rw [Int.mul_add, Int.mul_add] at e2
    omega
/-- A key whose last sixteen bytes are c more. -/
def keyMore (key : Nat → Int) (c : Int) (i : Nat) : Int := if i < 16 then key i else dgc (fun j => key (16 + j)) c (i - 16)
theorem rN_congr {k k' : Nat → Int} (h : ∀ i, i < 16 → k i = k' i) : rN k = rN k' := dval_congr (fun i hi => by unfold rdig; rw [h i hi])
theorem mark_more (key f : Nat → Int) (L : Nat) (c : Int) : ∀ i, i < 16 → digN (markN (keyMore key c) f L) i = dgc (digN (markN key f L)) c i := fun i hi => by
  have hr : rN (keyMore key c) = rN key := rN_congr (fun i hi => by unfold keyMore; rw [if_pos hi])
  have hs : sN (keyMore key c) = dval (dgc (fun j => key (16 + j)) c) 16 := dval_congr (fun j _ => by unfold keyMore; rw [if_neg (by omega), show 16 + j - 16 = j by omega])
  have e1 := dval_dgc (fun j => key (16 + j)) c 16
  have e2 := dval_dgc (digN (markN key f L)) c 16
  rw [dval_digN] at e2
  have e3 := dig_of (e := dgc (digN (markN key f L)) c) (m := 16) (fun j _ => dgc_b _ _ j) i hi
  have hl := dval_lt (s := dgc (digN (markN key f L)) c) (n := 16) (fun j _ => dgc_b _ _ j)
  have hn := dval_nonneg (s := dgc (digN (markN key f L)) c) (n := 16) (fun j _ => (dgc_b _ _ j).1)
  rw [e3]
  congr 1
  unfold markN at e2 ⊢
  rw [hr, hs]
  rw [pow16] at e1 e2 hl
  change _ = sN key + c at e1
  unfold markN at hl hn
  omega
theorem mark_zero (key f : Nat → Int) (L : Nat) (h : ∀ i, i < 16 → key i = 0) (hk : Byts 32 key) : ∀ i, i < 16 → digN (markN key f L) i = key (16 + i) := fun i hi => by
  have hr : rN key = 0 := by
    rw [rN, dval_congr (t := fun _ => 0) (fun i hi => by unfold rdig; rw [h i hi]; simp)]
    decide
  have ha : ∀ q, accN 0 f L q = 0
    | 0 => rfl
    | q + 1 => by simp [accN]
  have e3 := dig_of (e := fun j => key (16 + j)) (m := 16) (fun j hj => hk (16 + j) (by omega)) i hi
  unfold markN
  rw [hr, ha, digN_mod _ i hi, Int.zero_add]
  exact e3.symm
end Go.Proofs.Ytfbeclleeehaaaa
