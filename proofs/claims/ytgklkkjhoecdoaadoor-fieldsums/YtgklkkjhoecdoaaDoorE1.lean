/-
  Own text. Bytes of numbers: a byte laid at its place; the highest bit struck.
-/
import Derived.Test.YtgklkkjhoecdoaaDoorG7
import Derived.Deep.QuietTactic
import Derived.BigQuiet
namespace Go.Proofs.YtgklkkjhoecdoaaDoor
open Go.RowKit Go.Proofs
/-- 2^255 -/
def W255 : Int := 57896044618658097711785492504343953926634992332820282019728792003956564819968
theorem byt_mod (n : Int) (i k : Nat) (h : i < k) : byt (n % 256 ^ k) i = byt n i := by
  unfold byt
  obtain ⟨m, rfl⟩ : ∃ m, k = i + 1 + m := ⟨k - (i + 1), by omega⟩
  have hp : (0 : Int) < 256 ^ i := Int.pow_pos (by decide)
  have e : (256 : Int) ^ (i + 1 + m) = 256 ^ i * (256 * 256 ^ m) := by rw [Int.pow_add, Int.pow_add]; simp [Int.mul_assoc]
  rw [e]
  have hq : n % (256 ^ i * (256 * 256 ^ m)) = n - 256 ^ i * (256 * 256 ^ m) * (n / (256 ^ i * (256 * 256 ^ m))) := by
    have := Int.emod_add_mul_ediv n (256 ^ i * (256 * 256 ^ m)); omega
  rw [hq, show n - 256 ^ i * (256 * 256 ^ m) * (n / (256 ^ i * (256 * 256 ^ m))) = n + 256 ^ i * (-(256 * 256 ^ m * (n / (256 ^ i * (256 * 256 ^ m))))) by
    rw [Int.mul_neg, ← Int.mul_assoc, ← Int.mul_assoc, Int.mul_assoc (256 ^ i) 256 (256 ^ m)]; omega]
  rw [Int.add_mul_ediv_left _ _ (by omega)]
  generalize n / 256 ^ i = A
  rw [Int.mul_assoc]
  generalize 256 ^ m * (n / (256 ^ i * (256 * 256 ^ m))) = B
  omega
theorem BA_ext {cs : Array Value} {n : Int} (hs : cs.size = 32) (h : ∀ i, i < 32 → cs[i]? = some (.int .u8 (byt n i))) : cs = BA n := by
  apply Array.ext_getElem?
  intro i
  by_cases hi : i < 32
  · rw [h i hi, BA_get _ _ hi]
  · rw [Array.getElem?_eq_none (by omega), Array.getElem?_eq_none (by rw [BA_size]; omega)]
theorem byt_top {n : Int} (i : Nat) (hi : i < 31) : byt (n % W255) i = byt n i := by
  have e : n % W255 = (n % W255) % 256 ^ 31 + 256 ^ 31 * ((n % W255) / 256 ^ 31) := by have := Int.emod_add_mul_ediv (n % W255) (256 ^ 31); omega
  rw [← byt_mod (n % W255) i 31 (by omega), ← byt_mod n i 31 (by omega)]
  congr 1
  unfold W255
  omega
theorem byt_31 {n : Int} : byt (n % W255) 31 = byt n 31 % 128 := by
  unfold byt W255
  omega
theorem BA_low (n : Int) : (BA n).setIfInBounds 31 (.int .u8 (byt n 31 % 128)) = BA (n % W255) := by
  apply BA_ext
  · simp [BA_size]
  · intro i hi
    rw [Array.getElem?_setIfInBounds]
    by_cases h : 31 = i
    · subst h; simp [BA_size, byt_31]
    · rw [if_neg h, BA_get _ _ hi, byt_top i (by omega)]
/-- One byte laid at place k above what is below 256^k. -/
theorem BA_set {X b : Int} {k : Nat} (hX0 : 0 ≤ X) (hX : X < 256 ^ k) (hb : Byte b) (hk : k < 32) : (BA X).setIfInBounds k (.int .u8 b) = BA (X + b * 256 ^ k) := by
  have hp : ∀ j : Nat, (0 : Int) < 256 ^ j := fun j => Int.pow_pos (by decide)
  unfold Byte at hb
  apply BA_ext
  · simp [BA_size]
  · intro i hi
    rw [Array.getElem?_setIfInBounds]
    by_cases h : k = i
    · subst h
      simp only [BA_size, hk, if_true]
      congr 2
      unfold byt
      rw [Int.add_mul_ediv_right _ _ (by have := hp k; omega), Int.ediv_eq_zero_of_lt hX0 hX]
      omega
    · rw [if_neg h, BA_get _ _ hi]
      congr 2
      by_cases hlt : i < k
      · rw [← byt_mod X i k hlt, ← byt_mod (X + b * 256 ^ k) i k hlt, Int.mul_comm, Int.add_mul_emod_self_left]
      · obtain ⟨m, rfl⟩ : ∃ m, i = k + (m + 1) := ⟨i - k - 1, by omega⟩
        unfold byt
        rw [Int.pow_add, ← Int.ediv_ediv_of_nonneg (by have := hp k; omega), ← Int.ediv_ediv_of_nonneg (by have := hp k; omega), Int.add_mul_ediv_right _ _ (by have := hp k; omega), Int.ediv_eq_zero_of_lt hX0 hX, Int.zero_add]
        have : b / 256 ^ (m + 1) = 0 := by
          rw [Int.pow_succ, Int.mul_comm, ← Int.ediv_ediv_of_nonneg (by decide), show b / 256 = 0 by omega]
          simp
        rw [this]
        simp
end Go.Proofs.YtgklkkjhoecdoaaDoor
