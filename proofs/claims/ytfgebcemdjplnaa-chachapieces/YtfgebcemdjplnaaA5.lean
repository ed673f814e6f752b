/-
  Own text. What turn of the document's answer gives.
-/
import Derived.Test.YtfgebcemdjplnaaA4
namespace Go.Proofs.Ytfgebcemdjplnaa
open Go.RowKit Go.Proofs
theorem or_rotw64 (x : Int) (n : Nat) (hx : W32 x) (p q : Int) (hp : p = ((2 ^ n : Nat) : Int)) (hq : q = ((2 ^ (32 - n) : Nat) : Int)) : bits .or .i64 (x * p % 4294967296) (x / q) = rotw x n := by
  unfold W32 at hx
  obtain ⟨m, rfl⟩ := Int.eq_ofNat_of_zero_le hx.1
  subst hp; subst hq
  have e1 : (m : Int) * ((2 ^ n : Nat) : Int) % 4294967296 = ((m * 2 ^ n % 4294967296 : Nat) : Int) := by simp
  have e2 : (m : Int) / ((2 ^ (32 - n) : Nat) : Int) = ((m / 2 ^ (32 - n) : Nat) : Int) := by simp
  have h1 := Nat.mod_lt (m * 2 ^ n) (show 4294967296 > 0 by decide)
  have h2 : m / 2 ^ (32 - n) < 4294967296 := Nat.lt_of_le_of_lt (Nat.div_le_self _ _) (by omega)
  rw [e1, e2, i64_or ⟨Int.natCast_nonneg _, Int.ofNat_lt.2 h1⟩ ⟨Int.natCast_nonneg _, Int.ofNat_lt.2 h2⟩]
  simp only [Int.toNat_natCast, rotw]
theorem turn_run (x : Int) (n : Nat) (w : World) (hx : W32 x) (hn : n = 7 ∨ n = 8 ∨ n = 12 ∨ n = 16) :
    Calls Try.prog 18 #[.int .i64 x, .int .i64 n] w fun e w' => e = .returned (.int .i64 (rotw x n)) ∧ Below w.heap.size w w' := by
  have key : ∀ p q : Int, p = ((2 ^ n : Nat) : Int) → q = ((2 ^ (32 - n) : Nat) : Int) → bits .or .i64 (x * p % 4294967296) (x / q) = rotw x n := fun p q => or_rotw64 x n hx p q
  unfold W32 at hx
  go_enter Try.func18, Try.ntmps18
  rcases hn with rfl | rfl | rfl | rfl
  · have e2 := key 128 33554432 (by decide) (by decide)
    have e3 : (x * 128).tmod 4294967296 = x * 128 % 4294967296 := Int.tmod_eq_emod_of_nonneg (by omega)
    go_wp2
    go_region
    go_wp2
    go_ret
    exact ⟨rfl, (Below.refl _ _).drew⟩
  · have e2 := key 256 16777216 (by decide) (by decide)
    have e3 : (x * 256).tmod 4294967296 = x * 256 % 4294967296 := Int.tmod_eq_emod_of_nonneg (by omega)
    go_wp2
    go_region
    go_wp2
    go_ret
    exact ⟨rfl, (Below.refl _ _).drew⟩
  · have e2 := key 4096 1048576 (by decide) (by decide)
    have e3 : (x * 4096).tmod 4294967296 = x * 4096 % 4294967296 := Int.tmod_eq_emod_of_nonneg (by omega)
    go_wp2
    go_region
    go_wp2
    go_ret
    exact ⟨rfl, (Below.refl _ _).drew⟩
  · have e2 := key 65536 65536 (by decide) (by decide)
    have e3 : (x * 65536).tmod 4294967296 = x * 65536 % 4294967296 := Int.tmod_eq_emod_of_nonneg (by omega)
    go_wp2
    go_region
    go_wp2
    go_ret
    exact ⟨rfl, (Below.refl _ _).drew⟩
end Go.Proofs.Ytfgebcemdjplnaa
