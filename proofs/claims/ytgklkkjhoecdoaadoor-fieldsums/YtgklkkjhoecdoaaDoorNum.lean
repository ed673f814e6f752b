/-
  Own text. The numbers beneath the words of package field: words of 64 bits, carries, four words as one number, the rest by 2^255 - 19. No program is named here.
-/
namespace Go.Proofs.YtgklkkjhoecdoaaDoor
def U64 (x : Int) : Prop := 0 ≤ x ∧ x < 18446744073709551616
def Bit (c : Int) : Prop := c = 0 ∨ c = 1
/-- lo and hi are the low word and the carry of x + y + c. -/
def Sum3 (x y c lo hi : Int) : Prop := U64 lo ∧ Bit hi ∧ lo + 18446744073709551616 * hi = x + y + c
theorem Sum3.lo {x y c lo hi : Int} (h : Sum3 x y c lo hi) : U64 lo := h.1
theorem Sum3.hi {x y c lo hi : Int} (h : Sum3 x y c lo hi) : Bit hi := h.2.1
theorem Bit.u64 {c : Int} (h : Bit c) : U64 c := by unfold Bit at h; unfold U64; omega
theorem bit0 : Bit 0 := Or.inl rfl
theorem u64_0 : U64 0 := bit0.u64
/-- Four words, the lowest first, as a number. -/
def V4 (a b c d : Int) : Int := a + 18446744073709551616 * b + 340282366920938463463374607431768211456 * c + 6277101735386680763835789423207666416102355444464034512896 * d
/-- 2^256 -/
def W256 : Int := 115792089237316195423570985008687907853269984665640564039457584007913129639936
/-- 2^255 - 19 -/
def P255 : Int := 57896044618658097711785492504343953926634992332820282019728792003956564819949
theorem V4_range {a b c d : Int} (ha : U64 a) (hb : U64 b) (hc : U64 c) (hd : U64 d) : 0 ≤ V4 a b c d ∧ V4 a b c d < W256 := by
  unfold U64 at ha hb hc hd; unfold V4 W256; omega
theorem plusWord_num {x0 x1 x2 x3 n y0 y1 y2 y3 c0 c1 c2 c3 : Int} (s0 : Sum3 x0 n 0 y0 c0) (s1 : Sum3 x1 c0 0 y1 c1) (s2 : Sum3 x2 c1 0 y2 c2) (s3 : Sum3 x3 c2 0 y3 c3) :
    V4 y0 y1 y2 y3 + W256 * c3 = V4 x0 x1 x2 x3 + n := by
  unfold Sum3 at s0 s1 s2 s3
  unfold V4 W256
  omega
theorem fold_num {X Y Z a b c : Int} (hX : 0 ≤ X ∧ X < W256) (hY : 0 ≤ Y ∧ Y < W256) (hZ : 0 ≤ Z ∧ Z < W256) (hc0 : 0 ≤ c) (hc : c ≤ 38) (ha : Bit a)
    (h1 : Y + W256 * a = X + 38 * c) (h2 : Z + W256 * b = Y + 38 * a) : ∃ k : Int, Z = X + W256 * c + k * P255 := by
  unfold W256 P255 at *
  unfold Bit at ha
  rcases ha with rfl | rfl
  · exact ⟨-2 * c, by omega⟩
  · exact ⟨-2 * c - 2, by omega⟩
theorem least_core {A R Z Y t u v a b c : Int} (hA : 0 ≤ A ∧ A < 57896044618658097711785492504343953926634992332820282019728792003956564819968) (hR : 0 ≤ R ∧ R < 57896044618658097711785492504343953926634992332820282019728792003956564819968)
    (hZ : 0 ≤ Z ∧ Z < 57896044618658097711785492504343953926634992332820282019728792003956564819968) (hY : 0 ≤ Y) (ha : Bit a) (ht : Bit t) (hu : Bit u) (hv : Bit v) (hb : Bit b) (hc : Bit c)
    (h1 : Y + W256 * a = A + 19 * t) (h2 : R + 57896044618658097711785492504343953926634992332820282019728792003956564819968 * u + W256 * b = Y + 19)
    (h3 : Z + 57896044618658097711785492504343953926634992332820282019728792003956564819968 * v + W256 * c = Y + 19 * u) :
    Z + P255 * (t + u) = A + 57896044618658097711785492504343953926634992332820282019728792003956564819968 * t ∧ 0 ≤ Z ∧ Z < P255 := by
  unfold W256 P255 at *
  unfold Bit at *
  have ea : a = 0 := by omega
  subst ea
  have eb : b = 0 := by omega
  subst eb
  have ec : c = 0 := by omega
  subst ec
  rcases hu with rfl | rfl
  · have ev : v = 0 := by omega
    subst ev
    exact ⟨by omega, by omega, by omega⟩
  · have ev : v = 1 := by omega
    subst ev
    exact ⟨by omega, by omega, by omega⟩
theorem top_bit {x : Int} (h : U64 x) : Bit (x / 9223372036854775808) := by unfold U64 at h; unfold Bit; omega
theorem low_part {a b c d : Int} (ha : U64 a) (hb : U64 b) (hc : U64 c) : 0 ≤ V4 a b c (d % 9223372036854775808) ∧ V4 a b c (d % 9223372036854775808) < 57896044618658097711785492504343953926634992332820282019728792003956564819968 := by
  unfold U64 V4 at *
  have : 0 ≤ d % 9223372036854775808 ∧ d % 9223372036854775808 < 9223372036854775808 := by omega
  omega
theorem split_top (a b c d : Int) : V4 a b c d = V4 a b c (d % 9223372036854775808) + 57896044618658097711785492504343953926634992332820282019728792003956564819968 * (d / 9223372036854775808) := by
  unfold V4
  have : d = d % 9223372036854775808 + 9223372036854775808 * (d / 9223372036854775808) := by omega
  omega
/-- least's steps. -/
theorem least_num {x0 x1 x2 x3 y0 y1 y2 y3 a r0 r1 r2 r3 b z0 z1 z2 z3 c : Int} (hx0 : U64 x0) (hx1 : U64 x1) (hx2 : U64 x2) (hx3 : U64 x3)
    (hy0 : U64 y0) (hy1 : U64 y1) (hy2 : U64 y2) (hy3 : U64 y3) (hr0 : U64 r0) (hr1 : U64 r1) (hr2 : U64 r2) (hr3 : U64 r3) (hz0 : U64 z0) (hz1 : U64 z1) (hz2 : U64 z2) (hz3 : U64 z3) (ha : Bit a) (hb : Bit b) (hc : Bit c)
    (h1 : V4 y0 y1 y2 y3 + W256 * a = V4 x0 x1 x2 (x3 % 9223372036854775808) + 19 * (x3 / 9223372036854775808))
    (h2 : V4 r0 r1 r2 r3 + W256 * b = V4 y0 y1 y2 y3 + 19)
    (h3 : V4 z0 z1 z2 z3 + W256 * c = V4 y0 y1 y2 y3 + 19 * (r3 / 9223372036854775808)) :
    V4 z0 z1 z2 (z3 % 9223372036854775808) = V4 x0 x1 x2 x3 % P255 := by
  rw [split_top r0 r1 r2 r3] at h2
  rw [split_top z0 z1 z2 z3] at h3
  obtain ⟨e, l1, l2⟩ := least_core (low_part hx0 hx1 hx2) (low_part hr0 hr1 hr2) (low_part hz0 hz1 hz2) (V4_range hy0 hy1 hy2 hy3).1 ha (top_bit hx3) (top_bit hr3) (top_bit hz3) hb hc h1 h2 h3
  rw [split_top x0 x1 x2 x3, ← e, Int.add_mul_emod_self_left, Int.emod_eq_of_lt l1 l2]
end Go.Proofs.YtgklkkjhoecdoaaDoor
