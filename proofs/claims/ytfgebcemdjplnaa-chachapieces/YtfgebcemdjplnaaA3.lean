/-
  Own text. What goes into a quarter round comes again, line by line backwards: the walk of the law ChachaTurnsBack.
-/
import Derived.Test.YtfgebcemdjplnaaA2
namespace Go.Proofs.Ytfgebcemdjplnaa
open Go.RowKit Go.Proofs
theorem rotw_num (x : Nat) (n : Nat) (hn : n ≤ 32) (hx : x < 4294967296) : rotw (x : Int) n = ((x % 2 ^ (32 - n) * 2 ^ n + x / 2 ^ (32 - n) : Nat) : Int) := by
  unfold rotw
  simp only [Int.toNat_natCast]
  congr 1
  have e : 4294967296 = 2 ^ (32 - n) * 2 ^ n := by rw [← Nat.pow_add]; rw [show 32 - n + n = 32 by omega]
  have h1 : x * 2 ^ n % 4294967296 = x % 2 ^ (32 - n) * 2 ^ n := by rw [e, Nat.mul_mod_mul_right]
  have h2 : x / 2 ^ (32 - n) < 2 ^ n := by
    apply Nat.div_lt_of_lt_mul
    rw [← e]; exact hx
  rw [h1, Nat.mul_comm, ← Nat.two_pow_add_eq_or_of_lt h2]
theorem rot_back (x : Int) (n : Nat) (hx : W32 x) (hn : n = 7 ∨ n = 8 ∨ n = 12 ∨ n = 16) : rotw (rotw x n) (32 - n) = x := by
  unfold W32 at hx
  obtain ⟨m, rfl⟩ := Int.eq_ofNat_of_zero_le hx.1
  have hm : m < 4294967296 := by omega
  rcases hn with rfl | rfl | rfl | rfl
  · rw [rotw_num m 7 (by omega) hm]
    generalize hy : m % 2 ^ (32 - 7) * 2 ^ 7 + m / 2 ^ (32 - 7) = y
    rw [rotw_num y _ (by omega) (by omega)]
    simp at hy ⊢
    omega
  · rw [rotw_num m 8 (by omega) hm]
    generalize hy : m % 2 ^ (32 - 8) * 2 ^ 8 + m / 2 ^ (32 - 8) = y
    rw [rotw_num y _ (by omega) (by omega)]
    simp at hy ⊢
    omega
  · rw [rotw_num m 12 (by omega) hm]
    generalize hy : m % 2 ^ (32 - 12) * 2 ^ 12 + m / 2 ^ (32 - 12) = y
    rw [rotw_num y _ (by omega) (by omega)]
    simp at hy ⊢
    omega
  · rw [rotw_num m 16 (by omega) hm]
    generalize hy : m % 2 ^ (32 - 16) * 2 ^ 16 + m / 2 ^ (32 - 16) = y
    rw [rotw_num y _ (by omega) (by omega)]
    simp at hy ⊢
    omega
theorem u32_or_comm {x y : Int} (hx : W32 x) (hy : W32 y) : bits .or .u32 x y = bits .or .u32 y x := by
  rw [u32_or x y hx.1 hx.2 hy.1 hy.2, u32_or y x hy.1 hy.2 hx.1 hx.2, Nat.or_comm]
theorem or_back (x : Int) (n : Nat) (p q : Int) (hx : W32 x) (hn : n = 7 ∨ n = 8 ∨ n = 12 ∨ n = 16) (hp : p = ((2 ^ n : Nat) : Int)) (hq : q = ((2 ^ (32 - n) : Nat) : Int)) :
    bits .or .u32 (rotw x n / p) (rotw x n * q % 4294967296) = x := by
  have hy := rotw_w n hx
  have h := or_rotw (rotw x n) (32 - n) hy q p hq (by rw [hp]; rcases hn with rfl | rfl | rfl | rfl <;> rfl)
  rw [rot_back x n hx hn] at h
  rw [u32_or_comm, h]
  · unfold W32 at *
    refine ⟨Int.ediv_nonneg hy.1 (by rw [hp]; exact Int.natCast_nonneg _), ?_⟩
    have := Int.ediv_le_self p hy.1
    omega
  · unfold W32; omega
theorem xorw_back {x y : Int} (hx : W32 x) (_hy : W32 y) : xorw (xorw x y) y = x := by
  unfold xorw W32 at *
  simp only [Int.toNat_natCast, Nat.xor_assoc, Nat.xor_self, Nat.xor_zero]
  omega
theorem addw_back {x y : Int} (hx : W32 x) : (addw x y - y) % 4294967296 = x := by
  unfold addw W32 at *
  omega
set_option maxHeartbeats 2000000 in
theorem turnsBack_walk (a b c d : Int) (w : World) (ha : W32 a) (hb : W32 b) (hc : W32 c) (hd : W32 d) :
    Calls Try.prog 7 #[.int .u32 a, .int .u32 b, .int .u32 c, .int .u32 d] w fun e w' => e = .returned (.bool true) ∧ w' = w := by
  have r := quarter_run a b c d w ha hb hc hd
  unfold quart half at r
  dsimp only at r
  obtain ⟨a1, h1⟩ : ∃ y, addw a b = y := ⟨_, rfl⟩
  have u1 := h1 ▸ addw_back (y := b) ha
  rw [h1] at r
  have ha1 := h1 ▸ addw_w a b
  obtain ⟨x1, g1⟩ : ∃ y, xorw d a1 = y := ⟨_, rfl⟩
  rw [g1] at r
  have v1 := g1 ▸ xorw_back hd ha1
  have hx1 := g1 ▸ xorw_w hd ha1
  have z1 := or_back x1 16 65536 65536 hx1 (by decide) (by decide) (by decide)
  obtain ⟨d1, k1⟩ : ∃ y, rotw x1 16 = y := ⟨_, rfl⟩
  rw [k1] at r z1
  have hd1 := k1 ▸ rotw_w 16 hx1
  obtain ⟨c1, h2⟩ : ∃ y, addw c d1 = y := ⟨_, rfl⟩
  have u2 := h2 ▸ addw_back (y := d1) hc
  rw [h2] at r
  have hc1 := h2 ▸ addw_w c d1
  obtain ⟨x2, g2⟩ : ∃ y, xorw b c1 = y := ⟨_, rfl⟩
  rw [g2] at r
  have v2 := g2 ▸ xorw_back hb hc1
  have hx2 := g2 ▸ xorw_w hb hc1
  have z2 := or_back x2 12 4096 1048576 hx2 (by decide) (by decide) (by decide)
  obtain ⟨b1, k2⟩ : ∃ y, rotw x2 12 = y := ⟨_, rfl⟩
  rw [k2] at r z2
  have hb1 := k2 ▸ rotw_w 12 hx2
  obtain ⟨a2, h3⟩ : ∃ y, addw a1 b1 = y := ⟨_, rfl⟩
  have u3 := h3 ▸ addw_back (y := b1) ha1
  rw [h3] at r
  have ha2 := h3 ▸ addw_w a1 b1
  obtain ⟨x3, g3⟩ : ∃ y, xorw d1 a2 = y := ⟨_, rfl⟩
  rw [g3] at r
  have v3 := g3 ▸ xorw_back hd1 ha2
  have hx3 := g3 ▸ xorw_w hd1 ha2
  have z3 := or_back x3 8 256 16777216 hx3 (by decide) (by decide) (by decide)
  obtain ⟨d2, k3⟩ : ∃ y, rotw x3 8 = y := ⟨_, rfl⟩
  rw [k3] at r z3
  have hd2 := k3 ▸ rotw_w 8 hx3
  obtain ⟨c2, h4⟩ : ∃ y, addw c1 d2 = y := ⟨_, rfl⟩
  have u4 := h4 ▸ addw_back (y := d2) hc1
  rw [h4] at r
  have hc2 := h4 ▸ addw_w c1 d2
  obtain ⟨x4, g4⟩ : ∃ y, xorw b1 c2 = y := ⟨_, rfl⟩
  rw [g4] at r
  have v4 := g4 ▸ xorw_back hb1 hc2
  have hx4 := g4 ▸ xorw_w hb1 hc2
  have z4 := or_back x4 7 128 33554432 hx4 (by decide) (by decide) (by decide)
  obtain ⟨b2, k4⟩ : ∃ y, rotw x4 7 = y := ⟨_, rfl⟩
  rw [k4] at r z4
  have hb2 := k4 ▸ rotw_w 7 hx4
  rw [← xor_u32 hx4 hc2] at v4
  rw [← xor_u32 hx3 ha2] at v3
  rw [← xor_u32 hx2 hc1] at v2
  rw [← xor_u32 hx1 ha1] at v1
  clear h1 h2 h3 h4 g1 g2 g3 g4 k1 k2 k3 k4
  unfold W32 at *
  go_enter Try.func7, Try.ntmps7
  go_wp2_with fail
  refine r.mono ?_
  rintro e w1 ⟨rfl, rfl⟩
  go_wp2_with fail
  refine (awake_run _).mono ?_
  rintro e w2 ⟨rfl, rfl⟩
  go_wp2_with fail
  go_ret
  exact ⟨rfl, rfl⟩
theorem w32_wf {x : Int} (h : (Lit.int .u32 x).wf = true) : W32 x := by
  have := bounds_u32 h
  unfold W32; omega
theorem turnsBack_lift (a : Int) (ha : (Lit.int .u32 a).wf = true) (b : Int) (hb : (Lit.int .u32 b).wf = true) (c : Int) (hc : (Lit.int .u32 c).wf = true) (d : Int) (hd : (Lit.int .u32 d).wf = true) (w : World) :
    Calls Try.prog 7 #[.int .u32 a, .int .u32 b, .int .u32 c, .int .u32 d] w fun e w' => e = .returned (.bool true) ∧ Below w.heap.size w w' :=
  (turnsBack_walk a b c d w (w32_wf ha) (w32_wf hb) (w32_wf hc) (w32_wf hd)).mono fun _ _ ⟨h, e⟩ => ⟨h, e ▸ Below.refl _ _⟩
end Go.Proofs.Ytfgebcemdjplnaa
