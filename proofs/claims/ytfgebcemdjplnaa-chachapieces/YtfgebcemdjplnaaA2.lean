/-
  Own text. What bits.RotateLeft32 and the quarter round of package chacha give; the fixed answer (awake).
-/
import Derived.Test.YtfgebcemdjplnaaA1
namespace Go.Proofs.Ytfgebcemdjplnaa
open Go.RowKit Go.Proofs
theorem or_rotw (x : Int) (n : Nat) (hx : W32 x) (p q : Int) (hp : p = ((2 ^ n : Nat) : Int)) (hq : q = ((2 ^ (32 - n) : Nat) : Int)) : bits .or .u32 (x * p % 4294967296) (x / q) = rotw x n := by
  unfold W32 at hx
  obtain ⟨m, rfl⟩ := Int.eq_ofNat_of_zero_le hx.1
  subst hp; subst hq
  have e1 : (m : Int) * ((2 ^ n : Nat) : Int) % 4294967296 = ((m * 2 ^ n % 4294967296 : Nat) : Int) := by simp
  have e2 : (m : Int) / ((2 ^ (32 - n) : Nat) : Int) = ((m / 2 ^ (32 - n) : Nat) : Int) := by simp
  rw [e1, e2, u32_or_nat _ _ (Nat.mod_lt _ (by decide)) (Nat.lt_of_le_of_lt (Nat.div_le_self _ _) (by omega))]
  simp [rotw]
theorem rot_run (x : Int) (n : Nat) (w : World) (hx : W32 x) (hn : n = 7 ∨ n = 8 ∨ n = 12 ∨ n = 16) :
    Calls Try.prog 19 #[.int .u32 x, .int .i64 n] w fun e w' => e = .returned (.int .u32 (rotw x n)) ∧ w' = w := by
  have key : ∀ p q : Int, p = ((2 ^ n : Nat) : Int) → q = ((2 ^ (32 - n) : Nat) : Int) → bits .or .u32 (x * p % 4294967296) (x / q) = rotw x n := fun p q => or_rotw x n hx p q
  unfold W32 at hx
  go_enter Try.func19, Try.ntmps19
  rcases hn with rfl | rfl | rfl | rfl
  · have e1 : bits .and .u64 7 31 = 7 := by decide
    have e2 := key 128 33554432 (by decide) (by decide)
    go_wp2
    go_ret
    exact ⟨rfl, rfl⟩
  · have e1 : bits .and .u64 8 31 = 8 := by decide
    have e2 := key 256 16777216 (by decide) (by decide)
    go_wp2
    go_ret
    exact ⟨rfl, rfl⟩
  · have e1 : bits .and .u64 12 31 = 12 := by decide
    have e2 := key 4096 1048576 (by decide) (by decide)
    go_wp2
    go_ret
    exact ⟨rfl, rfl⟩
  · have e1 : bits .and .u64 16 31 = 16 := by decide
    have e2 := key 65536 65536 (by decide) (by decide)
    go_wp2
    go_ret
    exact ⟨rfl, rfl⟩
theorem xor_u32 {x y : Int} (hx : W32 x) (hy : W32 y) : bits .xor .u32 x y = xorw x y := u32_xor x y hx.1 hx.2 hy.1 hy.2
theorem quarter_run (a b c d : Int) (w : World) (_ha : W32 a) (hb : W32 b) (_hc : W32 c) (hd : W32 d) :
    Calls Try.prog 9 #[.int .u32 a, .int .u32 b, .int .u32 c, .int .u32 d] w fun e w' =>
      e = .returned (.tuple #[.int .u32 (quart ⟨a, b, c, d⟩).a, .int .u32 (quart ⟨a, b, c, d⟩).b, .int .u32 (quart ⟨a, b, c, d⟩).c, .int .u32 (quart ⟨a, b, c, d⟩).d]) ∧ w' = w := by
  unfold quart half
  dsimp only
  obtain ⟨a1, h1⟩ : ∃ y, addw a b = y := ⟨_, rfl⟩
  rw [h1]
  have ha1 := h1 ▸ addw_w a b
  obtain ⟨x1, g1⟩ : ∃ y, xorw d a1 = y := ⟨_, rfl⟩
  rw [g1]
  have hx1 := g1 ▸ xorw_w hd ha1
  rw [← xor_u32 hd ha1] at g1
  obtain ⟨d1, k1⟩ : ∃ y, rotw x1 16 = y := ⟨_, rfl⟩
  rw [k1]
  have hd1 := k1 ▸ rotw_w 16 hx1
  obtain ⟨c1, h2⟩ : ∃ y, addw c d1 = y := ⟨_, rfl⟩
  rw [h2]
  have hc1 := h2 ▸ addw_w c d1
  obtain ⟨x2, g2⟩ : ∃ y, xorw b c1 = y := ⟨_, rfl⟩
  rw [g2]
  have hx2 := g2 ▸ xorw_w hb hc1
  rw [← xor_u32 hb hc1] at g2
  obtain ⟨b1, k2⟩ : ∃ y, rotw x2 12 = y := ⟨_, rfl⟩
  rw [k2]
  have hb1 := k2 ▸ rotw_w 12 hx2
  obtain ⟨a2, h3⟩ : ∃ y, addw a1 b1 = y := ⟨_, rfl⟩
  rw [h3]
  have ha2 := h3 ▸ addw_w a1 b1
  obtain ⟨x3, g3⟩ : ∃ y, xorw d1 a2 = y := ⟨_, rfl⟩
  rw [g3]
  have hx3 := g3 ▸ xorw_w hd1 ha2
  rw [← xor_u32 hd1 ha2] at g3
  obtain ⟨d2, k3⟩ : ∃ y, rotw x3 8 = y := ⟨_, rfl⟩
  rw [k3]
  have hd2 := k3 ▸ rotw_w 8 hx3
  obtain ⟨c2, h4⟩ : ∃ y, addw c1 d2 = y := ⟨_, rfl⟩
  rw [h4]
  have hc2 := h4 ▸ addw_w c1 d2
  obtain ⟨x4, g4⟩ : ∃ y, xorw b1 c2 = y := ⟨_, rfl⟩
  rw [g4]
  have hx4 := g4 ▸ xorw_w hb1 hc2
  rw [← xor_u32 hb1 hc2] at g4
  obtain ⟨b2, k4⟩ : ∃ y, rotw x4 7 = y := ⟨_, rfl⟩
  rw [k4]
  unfold addw at h1 h2 h3 h4
  have r1 : Calls Try.prog 19 #[.int .u32 x1, .int .i64 16] w fun e w' => e = .returned (.int .u32 (rotw x1 16)) ∧ w' = w := rot_run x1 16 w hx1 (by decide)
  have r2 : Calls Try.prog 19 #[.int .u32 x2, .int .i64 12] w fun e w' => e = .returned (.int .u32 (rotw x2 12)) ∧ w' = w := rot_run x2 12 w hx2 (by decide)
  have r3 : Calls Try.prog 19 #[.int .u32 x3, .int .i64 8] w fun e w' => e = .returned (.int .u32 (rotw x3 8)) ∧ w' = w := rot_run x3 8 w hx3 (by decide)
  have r4 : Calls Try.prog 19 #[.int .u32 x4, .int .i64 7] w fun e w' => e = .returned (.int .u32 (rotw x4 7)) ∧ w' = w := rot_run x4 7 w hx4 (by decide)
  rw [k1] at r1; rw [k2] at r2; rw [k3] at r3; rw [k4] at r4
  clear k1 k2 k3 k4
  unfold W32 at *
  go_enter Try.func9, Try.ntmps9
  go_wp2_with fail
  refine r1.mono ?_
  rintro e w1 ⟨rfl, rfl⟩
  go_wp2_with fail
  refine r2.mono ?_
  rintro e w2 ⟨rfl, rfl⟩
  go_wp2_with fail
  refine r3.mono ?_
  rintro e w3 ⟨rfl, rfl⟩
  go_wp2_with fail
  refine r4.mono ?_
  rintro e w4 ⟨rfl, rfl⟩
  go_wp2_with fail
  exact bodyPost_ret (v := .tuple #[.int .u32 a2, .int .u32 b2, .int .u32 c2, .int .u32 d2]) (by simp [results, Try.results9, go_sem]) rfl ⟨rfl, rfl⟩
theorem awake_quart : quart ⟨286331153, 16909060, 2609737539, 19088743⟩ = ⟨3928658676, 3407673550, 1166100270, 1484899515⟩ := by kernel_rfl
theorem awake_run (w : World) : Calls Try.prog 10 #[] w fun e w' => e = .returned (.bool true) ∧ w' = w := by
  have r := quarter_run 286331153 16909060 2609737539 19088743 w (by unfold W32; decide) (by unfold W32; decide) (by unfold W32; decide) (by unfold W32; decide)
  rw [awake_quart] at r
  go_enter Try.func10, Try.ntmps10
  go_wp2_with (refine r.mono ?_; rintro e w' ⟨rfl, rfl⟩)
  go_ret
  exact ⟨rfl, rfl⟩
end Go.Proofs.Ytfgebcemdjplnaa
