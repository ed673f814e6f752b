/-
  Own text. What Pow of package field answers, for every two times 32 bytes: a contract over the translation.
-/
import Derived.Test.YtgklkkjhoecdoaaDoorG5
namespace Go.Proofs.YtgklkkjhoecdoaaDoor
open Go.RowKit Go.Proofs
theorem heap_a45 (w : World) (A B : Obj) : ((w.alloc A).alloc B).heap[w.heap.size]? = some A := heap_alloc2_old w A B
theorem u64_1 : U64 1 := by unfold U64; omega
/-- The k highest bits of a number of 256. -/
def topBits (e : Int) (k : Nat) : Nat := e.toNat / 2 ^ (256 - k)
theorem pow_start {a e : Int} (h1 : e < W256) : V4 1 0 0 0 = a ^ topBits e 0 + 0 * P255 := by
  unfold topBits
  have : e.toNat / 2 ^ 256 = 0 := Nat.div_eq_of_lt (by unfold W256 at h1; omega)
  rw [V4_one, show 256 - 0 = 256 from rfl, this]
  simp
theorem and_one_u8 (x : Int) (h0 : 0 ≤ x) (h1 : x < 256) : bits BinOp.and IntKind.u8 x 1 = x % 2 := by go_bits2
theorem byt_bit (e : Int) (m : Nat) (he : 0 ≤ e) : (byt e (m / 8) / 2 ^ (m % 8)) % 2 = ((e.toNat / 2 ^ m % 2 : Nat) : Int) := by
  obtain ⟨E, rfl⟩ := Int.eq_ofNat_of_zero_le he
  rw [Int.toNat_natCast]
  have e1 : E / 2 ^ m = E / 256 ^ (m / 8) / 2 ^ (m % 8) := by
    rw [Nat.div_div_eq_div_mul]
    congr 1
    rw [show (256 : Nat) = 2 ^ 8 from rfl, ← Nat.pow_mul, ← Nat.pow_add]
    congr 1
    omega
  have e2 : byt (E : Int) (m / 8) = ((E / 256 ^ (m / 8) % 256 : Nat) : Int) := by
    unfold byt
    rw [show ((256 : Int) ^ (m / 8)) = ((256 ^ (m / 8) : Nat) : Int) from by rw [Int.natCast_pow]; rfl]
    omega
  rw [e1, e2]
  generalize E / 256 ^ (m / 8) = G
  have hj : m % 8 < 8 := by omega
  generalize m % 8 = j at *
  have : j = 0 ∨ j = 1 ∨ j = 2 ∨ j = 3 ∨ j = 4 ∨ j = 5 ∨ j = 6 ∨ j = 7 := by omega
  rcases this with rfl | rfl | rfl | rfl | rfl | rfl | rfl | rfl <;> omega
theorem topBits_succ (e : Int) (k : Nat) (h : k < 256) (he : 0 ≤ e) :
    topBits e (k + 1) = 2 * topBits e k + (if (bits BinOp.and IntKind.u8 (byt e ((255 - k) / 8) / 2 ^ ((255 - k) % 8)) 1 == 1) = true then 1 else 0) := by
  have hb := byt_byte e ((255 - k) / 8)
  unfold Byte at hb
  have hp : (0 : Int) < 2 ^ ((255 - k) % 8) := Int.pow_pos (by decide)
  have h0 : 0 ≤ byt e ((255 - k) / 8) / 2 ^ ((255 - k) % 8) := Int.ediv_nonneg hb.1 (by omega)
  have h1 : byt e ((255 - k) / 8) / 2 ^ ((255 - k) % 8) < 256 := by
    have := Int.ediv_le_self (2 ^ ((255 - k) % 8)) hb.1
    omega
  rw [and_one_u8 _ h0 h1, byt_bit e (255 - k) he]
  unfold topBits
  rw [show 256 - (k + 1) = 255 - k by omega, show 256 - k = (255 - k) + 1 by omega, Nat.pow_succ, ← Nat.div_div_eq_div_mul]
  generalize e.toNat / 2 ^ (255 - k) = G
  have hG : G % 2 = 0 ∨ G % 2 = 1 := by omega
  rcases hG with hG | hG <;> simp [hG] <;> omega
theorem pow_sq {A Z Q c : Int} (hz : ∃ c : Int, Z = A + c * P255) (e : Q = Z * Z + c * P255) : ∃ c : Int, Q = A * A + c * P255 := by
  obtain ⟨d, rfl⟩ := hz
  exact ⟨2 * A * d + d * d * P255 + c, by rw [e]; grind⟩
theorem pow_even {a Q : Int} {t : Nat} (h : ∃ c : Int, Q = a ^ t * a ^ t + c * P255) : ∃ c : Int, Q = a ^ (2 * t + (if false = true then 1 else 0)) + c * P255 := by
  obtain ⟨c, h⟩ := h
  exact ⟨c, by rw [h, ← Int.pow_add]; simp; rw [Nat.two_mul]⟩
theorem pow_odd {a Q S d : Int} {t : Nat} (h : ∃ c : Int, Q = a ^ t * a ^ t + c * P255) (e : S = Q * a + d * P255) : ∃ c : Int, S = a ^ (2 * t + (if true = true then 1 else 0)) + c * P255 := by
  obtain ⟨c, rfl⟩ := h
  refine ⟨c * a + d, ?_⟩
  rw [e]
  simp only [if_true, Int.pow_succ, Nat.two_mul, Int.pow_add]
  grind
theorem pow_last {a e Z : Int} (hz : ∃ c : Int, Z = a ^ topBits e 256 + c * P255) : Z % P255 = a ^ e.toNat % P255 := by
  obtain ⟨d, rfl⟩ := hz
  rw [Int.mul_comm, Int.add_mul_emod_self_left]
  simp [topBits]
set_option maxHeartbeats 1000000 in
set_option maxRecDepth 100000 in
theorem pow_any (a e : Int) (w : World) (ha0 : 0 ≤ a) (ha1 : a < W256) (he0 : 0 ≤ e) (he1 : e < W256) :
    Calls Tryd.prog 23 #[.agg (BA a), .agg (BA e)] w fun r w' => r = .returned (.agg (BA (a ^ e.toNat % P255))) ∧ Below w.heap.size w w' := by
  go_enter Tryd.func23, Tryd.ntmps23
  go_wp2_with (refine ld_bytes rfl _ rfl _ _ rfl (heap_a31 w _ _ _) (BA_size _) ?_)
  refine (load_any a _).mono ?_
  rintro r v0 ⟨rfl, hb0⟩
  have ge := bheap hb0 (heap_a32 w _ _ _) (by simp <;> omega)
  have gz := bheap hb0 (heap_a3 w _ _ _) (by simp <;> omega)
  have hB : Below w.heap.size w v0 := by
    refine Below.trans ?_ (hb0.mono (by simp <;> omega))
    repeat first | exact Below.refl _ _ | refine Below.alloc ?_ (by simp <;> omega) _
  clear hb0
  go_wp2_with (first | (refine st_limbs rfl _ _ rfl _ _ _ _ _ rfl rfl _ _ _ _ (heap_a45 v0 _ _) ?_; intro v1 g1 o1; have g2 := (o1.block _ (by omega)).trans (heap_alloc2_new v0 _ _)) | (refine st_limbs rfl _ _ rfl _ _ _ _ _ rfl rfl _ _ _ _ g2 ?_; intro v2 g3 o2))
  have hs0 : w.heap.size + 1 + 1 < v0.heap.size := heap_lt gz
  have ge2 := (o2.block _ (by omega)).trans ((o1.block _ (by omega)).trans ((Below.heap_alloc _ _ _ (by simp <;> omega)).trans ((Below.heap_alloc _ _ _ (by omega)).trans ge)))
  have gz2 := (o2.block _ (by omega)).trans ((o1.block _ (by omega)).trans ((Below.heap_alloc _ _ _ (by simp <;> omega)).trans ((Below.heap_alloc _ _ _ (by omega)).trans gz)))
  have gb2 := (o2.block _ (by omega)).trans g1
  have hB2 : Below w.heap.size w v2 := Below.trans ((hB.alloc (by omega) _).alloc (by simp <;> omega) _) (Below.trans (Only.below (b := v0.heap.size) (B := w.heap.size) o1 (by omega)) (Only.below (b := v0.heap.size + 1) (B := w.heap.size) o2 (by omega)))
  clear o1 o2 g1 g2 ge gz hB
  generalize v0.heap.size = bs at *
  go_loopw [12] (fun i v => ∃ k : Nat, k ≤ 256 ∧ i = .int .i64 k ∧ ∃ z0 z1 z2 z3, U64 z0 ∧ U64 z1 ∧ U64 z2 ∧ U64 z3 ∧ (∃ c : Int, V4 z0 z1 z2 z3 = a ^ topBits e k + c * P255) ∧
      v.heap[bs + 1]? = some (.cells #[.int .u64 z0, .int .u64 z1, .int .u64 z2, .int .u64 z3] 38 (0, 0)) ∧
      v.heap[bs]? = some (.cells #[.int .u64 (limb a 0), .int .u64 (limb a 8), .int .u64 (limb a 16), .int .u64 (limb a 24)] 38 (0, 0)) ∧
      v.heap[w.heap.size + 1]? = some (.cells (BA e) 24 (0, 0)) ∧ (∃ z : Array Value, v.heap[w.heap.size + 1 + 1]? = some (.cells z 24 (0, 0)) ∧ z.size = 32) ∧ Below w.heap.size w v)
    (fun i _ => 256 - (intOf i).toNat)
  case atStart =>
    exact ⟨0, by omega, rfl, 1, 0, 0, 0, u64_1, u64_0, u64_0, u64_0, ⟨0, pow_start he1⟩, g3, gb2, ge2, ⟨_, gz2, rfl⟩, hB2⟩
  case round =>
    clear g3 gb2 ge2 gz2 hB2
    obtain ⟨k, hk, rfl, z0, z1, z2, z3, hz0, hz1, hz2, hz3, hz, gp, gb, ge, ⟨z, gz, sz⟩, hB⟩ := hrel
    have HZ := Hid.mk hz
    clear hz
    by_cases hlt : k < 256
    · have hbit := topBits_succ e k hlt he0
      cases hbv : (bits BinOp.and IntKind.u8 (byt e ((255 - k) / 8) / 2 ^ ((255 - k) % 8)) 1 == 1)
      all_goals
        rw [hbv] at hbit
        have HBIT := Hid.mk hbit
        clear hbit
        go_wp2_with (refine ld_limbs rfl _ rfl _ _ _ _ _ rfl gp ?_)
        refine (times_any _ _ _ _ _ _ _ _ _ hz0 hz1 hz2 hz3 hz0 hz1 hz2 hz3).mono ?_
        rintro r v1 ⟨q0, q1, q2, q3, hq0, hq1, hq2, hq3, ⟨c, ec⟩, rfl, hb1⟩
        have EC := Hid.mk (pow_sq HZ.out ec)
        clear ec
        have gp1 := bheap hb1 gp (heap_lt gp)
        have gb1 := bheap hb1 gb (heap_lt gb)
        have ge1 := bheap hb1 ge (heap_lt ge)
        have gz1 := bheap hb1 gz (heap_lt gz)
        have hB1 := Below.trans hB (hb1.mono hB.size)
        clear hb1 gp gb ge gz hB
        go_wp2_with (first | (refine st_limbs rfl _ _ rfl _ _ _ _ _ rfl rfl _ _ _ _ gp1 ?_; intro v2 gp2 o2; have gb2 := (o2.block _ (by omega)).trans gb1; have ge2 := (o2.block _ (by omega)).trans ge1; have gz2 := (o2.block _ (by omega)).trans gz1; have hB2 := Below.trans hB1 (Only.below (b := bs + 1) (B := w.heap.size) o2 (by omega)); have ce := (cell_of_row v2 (w.heap.size + 1) ((255 - k) / 8) _ _ _ ge2).trans (BA_get e _ (by omega))) | (refine ld_limbs rfl _ rfl _ _ _ _ _ rfl gp2 ?_) | (refine ld_limbs rfl _ rfl _ _ _ _ _ rfl gb2 ?_))
      · exact ⟨⟨k + 1, by omega, by go_num, q0, q1, q2, q3, hq0, hq1, hq2, hq3, by rw [HBIT.out]; exact pow_even EC.out, gp2, gb2, ge2, ⟨z, gz2, sz⟩, hB2⟩, by simp [intOf]; omega⟩
      · refine (times_any _ _ _ _ _ _ _ _ _ hq0 hq1 hq2 hq3 (limb_u64 _ _) (limb_u64 _ _) (limb_u64 _ _) (limb_u64 _ _)).mono ?_
        rintro r v3 ⟨p0, p1, p2, p3, hp0, hp1, hp2, hp3, ⟨d, ed⟩, rfl, hb3⟩
        rw [limb_V4 ha0 ha1] at ed
        have ED := Hid.mk (pow_odd EC.out ed)
        clear ed
        have gp3 := bheap hb3 gp2 (heap_lt gp2)
        have gb3 := bheap hb3 gb2 (heap_lt gb2)
        have ge3 := bheap hb3 ge2 (heap_lt ge2)
        have gz3 := bheap hb3 gz2 (heap_lt gz2)
        have hB3 := Below.trans hB2 (hb3.mono hB2.size)
        clear hb3 gp2 gb2 ge2 gz2 hB2 ce gp1 gb1 ge1 gz1 hB1
        go_wp2_with (refine st_limbs rfl _ _ rfl _ _ _ _ _ rfl rfl _ _ _ _ gp3 ?_; intro v4 gp4 o4)
        have gb4 := (o4.block _ (by omega)).trans gb3
        have ge4 := (o4.block _ (by omega)).trans ge3
        have gz4 := (o4.block _ (by omega)).trans gz3
        have hB4 := Below.trans hB3 (Only.below (b := bs + 1) (B := w.heap.size) o4 (by omega))
        exact ⟨⟨k + 1, by omega, by go_num, p0, p1, p2, p3, hp0, hp1, hp2, hp3, by rw [HBIT.out]; exact ED.out, gp4, gb4, ge4, ⟨z, gz4, sz⟩, hB4⟩, by simp [intOf]; omega⟩
    · have hk2 : k = 256 := by omega
      subst hk2
      go_wp2_with (refine ld_limbs rfl _ rfl _ _ _ _ _ rfl gp ?_)
      refine (store_any _ _ _ _ _ hz0 hz1 hz2 hz3).mono ?_
      rintro r v2 ⟨rfl, hb2⟩
      have gz2 := bheap hb2 gz (heap_lt gz)
      have hB2 := Below.trans hB (hb2.mono hB.size)
      clear hb2
      go_wp2_with (refine st_bytes rfl _ _ rfl _ _ rfl rfl _ gz2 sz ?_; intro v3 g3 o3)
      rw [pow_last HZ.out] at g3
      exact bodyPost_ret (v := .agg (BA (a ^ e.toNat % P255))) (results_cell_row rfl _ _ _ _ _ _ _ rfl g3 Tryd.underlying24 rfl (by rw [BA_size]; exact info32)) rfl
        ⟨rfl, Below.trans hB2 (Only.below (b := w.heap.size + 1 + 1) (B := w.heap.size) o3 (by omega))⟩
end Go.Proofs.YtgklkkjhoecdoaaDoor
