/-
  Own text. The law FieldExponents answers true at every input, walked over the translation.
-/
import Derived.Test.YtgklkkjhoecdoabDoorE1
import Derived.Deep.QuietTactic
import Derived.BigQuiet
namespace Go.Proofs.YtgklkkjhoecdoabDoor
open Go.RowKit Go.Proofs
/-- What d + e leaves below 256^k, and what it carries. -/
def lowSum (D E : Int) (k : Nat) : Int := (D + E) % 256 ^ k
def carry (D E : Int) (k : Nat) : Int := (D % 256 ^ k + E % 256 ^ k) / 256 ^ k
theorem mod_W255 (n : Int) : 0 ≤ n % W255 ∧ n % W255 < W255 := ⟨Int.emod_nonneg _ (by unfold W255; decide), Int.emod_lt_of_pos _ (by unfold W255; decide)⟩
theorem heap_a4 (w : World) (A B C D : Obj) : ((((w.alloc A).alloc B).alloc C).alloc D).heap[w.heap.size + 1 + 1 + 1]? = some D := by
  have := heap_alloc_new (((w.alloc A).alloc B).alloc C) D
  simpa using this
theorem carry_0 (D E : Int) : carry D E 0 = 0 := by simp [carry]
theorem lowSum_0 (D E : Int) : lowSum D E 0 = 0 := by simp [lowSum]
theorem pow256_pos (k : Nat) : (0 : Int) < 256 ^ k := Int.pow_pos (by decide)
theorem carry_range (D E : Int) (k : Nat) : 0 ≤ carry D E k ∧ carry D E k ≤ 1 := by
  have hp := pow256_pos k
  have h1 := Int.emod_nonneg D (show (256 : Int) ^ k ≠ 0 by omega)
  have h2 := Int.emod_lt_of_pos D hp
  have h3 := Int.emod_nonneg E (show (256 : Int) ^ k ≠ 0 by omega)
  have h4 := Int.emod_lt_of_pos E hp
  unfold carry
  refine ⟨Int.ediv_nonneg (by omega) (by omega), ?_⟩
  have : (D % 256 ^ k + E % 256 ^ k) / 256 ^ k < 2 := Int.ediv_lt_of_lt_mul hp (by omega)
  omega
theorem split_mod (D : Int) (k : Nat) : D % 256 ^ (k + 1) = D % 256 ^ k + byt D k * 256 ^ k := by
  have hp := pow256_pos k
  unfold byt
  have e1 := Int.emod_add_mul_ediv D (256 ^ k)
  have e2 := Int.emod_add_mul_ediv (D / 256 ^ k) 256
  have h1 := Int.emod_nonneg D (show (256 : Int) ^ k ≠ 0 by omega)
  have h2 := Int.emod_lt_of_pos D hp
  have h3 : 0 ≤ D / 256 ^ k % 256 ∧ D / 256 ^ k % 256 < 256 := by omega
  have : D = (D % 256 ^ k + (D / 256 ^ k % 256) * 256 ^ k) + 256 ^ (k + 1) * (D / 256 ^ k / 256) := by
    rw [Int.pow_succ]
    generalize D / 256 ^ k = q at *
    generalize D % 256 ^ k = r at *
    generalize (256 : Int) ^ k = p at *
    generalize q / 256 = q2 at *
    generalize q % 256 = r2 at *
    subst e2
    rw [← e1]
    grind
  rw [show D % 256 ^ (k + 1) = (D % 256 ^ k + (D / 256 ^ k % 256) * 256 ^ k + 256 ^ (k + 1) * (D / 256 ^ k / 256)) % 256 ^ (k + 1) by rw [← this], Int.add_mul_emod_self_left]
  apply Int.emod_eq_of_lt
  · have := Int.mul_nonneg h3.1 (show (0 : Int) ≤ 256 ^ k by omega); omega
  · rw [Int.pow_succ]
    have : (D / 256 ^ k % 256) * 256 ^ k ≤ 255 * 256 ^ k := Int.mul_le_mul_of_nonneg_right (by omega) (by omega)
    omega
/-- What a round of the sum does: c + d[k] + e[k] is the next byte and 256 times the next carry. -/
theorem carry_step (D E : Int) (k : Nat) : lowSum D E (k + 1) = lowSum D E k + ((carry D E k + byt D k + byt E k) % 256) * 256 ^ k ∧ carry D E (k + 1) = (carry D E k + byt D k + byt E k) / 256 := by
  have hp := pow256_pos k
  have hl : lowSum D E k = (D % 256 ^ k + E % 256 ^ k) % 256 ^ k := by unfold lowSum; rw [Int.add_emod]
  have hl1 : lowSum D E (k + 1) = (D % 256 ^ (k + 1) + E % 256 ^ (k + 1)) % 256 ^ (k + 1) := by unfold lowSum; rw [Int.add_emod]
  have e := Int.emod_add_mul_ediv (D % 256 ^ k + E % 256 ^ k) (256 ^ k)
  have h1 := Int.emod_nonneg (D % 256 ^ k + E % 256 ^ k) (show (256 : Int) ^ k ≠ 0 by omega)
  have h2 := Int.emod_lt_of_pos (D % 256 ^ k + E % 256 ^ k) hp
  have key : D % 256 ^ (k + 1) + E % 256 ^ (k + 1) = (lowSum D E k + ((carry D E k + byt D k + byt E k) % 256) * 256 ^ k) + 256 ^ (k + 1) * ((carry D E k + byt D k + byt E k) / 256) := by
    rw [split_mod D k, split_mod E k, hl, Int.pow_succ]
    unfold carry
    generalize (D % 256 ^ k + E % 256 ^ k) / 256 ^ k = c at *
    have e3 := Int.emod_add_mul_ediv (c + byt D k + byt E k) 256
    generalize (c + byt D k + byt E k) / 256 = q at *
    generalize (c + byt D k + byt E k) % 256 = r at *
    generalize byt D k = x at *
    generalize byt E k = y at *
    generalize (D % 256 ^ k + E % 256 ^ k) % 256 ^ k = s at *
    generalize D % 256 ^ k = d0 at *
    generalize E % 256 ^ k = e0 at *
    generalize (256 : Int) ^ k = p at *
    have : c = r + 256 * q - x - y := by omega
    subst this
    grind
  have b1 : 0 ≤ lowSum D E k + ((carry D E k + byt D k + byt E k) % 256) * 256 ^ k := by
    rw [hl]
    have := Int.mul_nonneg (show 0 ≤ (carry D E k + byt D k + byt E k) % 256 by omega) (show (0 : Int) ≤ 256 ^ k by omega)
    omega
  have b2 : lowSum D E k + ((carry D E k + byt D k + byt E k) % 256) * 256 ^ k < 256 ^ (k + 1) := by
    rw [hl, Int.pow_succ]
    have : ((carry D E k + byt D k + byt E k) % 256) * 256 ^ k ≤ 255 * 256 ^ k := Int.mul_le_mul_of_nonneg_right (by omega) (by omega)
    omega
  constructor
  · rw [hl1, key, Int.add_mul_emod_self_left, Int.emod_eq_of_lt b1 b2]
  · show (D % 256 ^ (k + 1) + E % 256 ^ (k + 1)) / 256 ^ (k + 1) = _
    rw [key, Int.add_mul_ediv_left _ _ (by have := pow256_pos (k + 1); omega), Int.ediv_eq_zero_of_lt b1 b2, Int.zero_add]
theorem lowSum_range (D E : Int) (k : Nat) : 0 ≤ lowSum D E k ∧ lowSum D E k < 256 ^ k :=
  ⟨Int.emod_nonneg _ (by have := pow256_pos k; omega), Int.emod_lt_of_pos _ (pow256_pos k)⟩
theorem lowSum_32 {D E : Int} (hD : 0 ≤ D ∧ D < W255) (hE : 0 ≤ E ∧ E < W255) : lowSum D E 32 = D + E := by
  unfold lowSum W255 at *
  omega
theorem two_bytes {z : Int} (h0 : 0 ≤ z) (h1 : z ≤ 65025) : (#[.int .u8 (z % 256), .int .u8 (z / 256), .int .u8 0, .int .u8 0, .int .u8 0, .int .u8 0, .int .u8 0, .int .u8 0, .int .u8 0, .int .u8 0, .int .u8 0, .int .u8 0, .int .u8 0, .int .u8 0, .int .u8 0, .int .u8 0, .int .u8 0, .int .u8 0, .int .u8 0, .int .u8 0, .int .u8 0, .int .u8 0, .int .u8 0, .int .u8 0, .int .u8 0, .int .u8 0, .int .u8 0, .int .u8 0, .int .u8 0, .int .u8 0, .int .u8 0, .int .u8 0] : Array Value) = BA z := by
  have e1 := BA_set (X := 0) (b := z % 256) (k := 0) (by omega) (by simp) (by unfold Byte; omega) (by omega)
  have e2 := BA_set (X := z % 256) (b := z / 256) (k := 1) (by omega) (by simp; omega) (by unfold Byte; omega) (by omega)
  simp only [Int.pow_zero, Int.mul_one, Int.zero_add] at e1
  rw [← e1, show z % 256 + z / 256 * 256 ^ 1 = z by simp; omega] at e2
  rw [← e2]
  simp only [BA, range32, List.map_cons, List.map_nil, List.setIfInBounds_toArray, List.set_cons_zero, List.set_cons_succ]
  rfl
theorem emod_pow (a : Int) (n : Nat) : (a % P255) ^ n % P255 = a ^ n % P255 := by
  induction n with
  | zero => simp
  | succ n ih => rw [Int.pow_succ, Int.pow_succ, Int.mul_emod, ih, Int.emod_emod, ← Int.mul_emod]
theorem pow_add_num {a D E : Int} (hD : 0 ≤ D) (hE : 0 ≤ E) : (a ^ D.toNat % P255 * (a ^ E.toNat % P255)) % P255 = a ^ (D + E).toNat % P255 := by
  rw [← Int.mul_emod, ← Int.pow_add, Int.toNat_add hD hE]
theorem pow_pow_num {a x y : Int} (hx : 0 ≤ x) (hy : 0 ≤ y) : (a ^ x.toNat % P255) ^ y.toNat % P255 = a ^ (x * y).toNat % P255 := by
  rw [emod_pow, ← Int.pow_mul, Int.toNat_mul hx hy]
theorem one_byte (c : Int) (hc : Byte c) : (#[.int .u8 c, .int .u8 0, .int .u8 0, .int .u8 0, .int .u8 0, .int .u8 0, .int .u8 0, .int .u8 0, .int .u8 0, .int .u8 0, .int .u8 0, .int .u8 0, .int .u8 0, .int .u8 0, .int .u8 0, .int .u8 0, .int .u8 0, .int .u8 0, .int .u8 0, .int .u8 0, .int .u8 0, .int .u8 0, .int .u8 0, .int .u8 0, .int .u8 0, .int .u8 0, .int .u8 0, .int .u8 0, .int .u8 0, .int .u8 0, .int .u8 0, .int .u8 0] : Array Value) = BA c := by
  have e1 := BA_set (X := 0) (b := c) (k := 0) (by omega) (by simp) hc (by omega)
  simp only [Int.pow_zero, Int.mul_one, Int.zero_add] at e1
  rw [← e1]
  simp only [BA, range32, List.map_cons, List.map_nil, List.setIfInBounds_toArray, List.set_cons_zero]
  rfl
theorem run_build_byte (c : Int) (w : World) : (Instr.build 22 #[(0, .int .u8 c)]).run Tryd.prog w = .ok (.agg #[.int .u8 c, .int .u8 0, .int .u8 0, .int .u8 0, .int .u8 0, .int .u8 0, .int .u8 0, .int .u8 0, .int .u8 0, .int .u8 0, .int .u8 0, .int .u8 0, .int .u8 0, .int .u8 0, .int .u8 0, .int .u8 0, .int .u8 0, .int .u8 0, .int .u8 0, .int .u8 0, .int .u8 0, .int .u8 0, .int .u8 0, .int .u8 0, .int .u8 0, .int .u8 0, .int .u8 0, .int .u8 0, .int .u8 0, .int .u8 0, .int .u8 0, .int .u8 0]) w := by kernel_rfl
theorem exec_build_tmp {a : Act} {o : Oper} {w : World} (y : Operand) (ho : o.op = .build 22 #[(0, y)]) (c : Int) (hy : a.eval y = .int .u8 c) (hc : Byte c) :
    (execOp a.eval o).run Tryd.prog w = .ok (.value (.agg (BA c))) w := by
  have h := run_build_byte c w
  rw [one_byte c hc] at h
  unfold execOp
  simp only [ho, List.map_toArray, List.map_cons, List.map_nil, hy, Sem.run_bind, h, Result.andThen_ok, Sem.run_pure]
def exF (i : Nat) : Nat := [1, 1, 0, 1, 1, 0, 0, 0, 1, 1, 0, 2, 2, 1, 2, 1, 2, 0, 2, 1, 2, 0, 1, 1, 0, 2, 2, 2, 0, 2, 2].getD i 2
def exT (_i : Nat) : Bool := true
set_option maxHeartbeats 1000000 in
set_option maxRecDepth 100000 in
theorem exps_walk (a d e : Int) (w : World) (hP : PrimeAt w) (ha : N256 a) :
    Calls Tryd.prog 3 #[.agg (BA a), .agg (BA d), .agg (BA e)] w fun r w' => r = .returned (.bool true) ∧ Below w.heap.size w w' := by
  have hp0 := primeAt_pos hP
  have HP := Hid.mk hP
  clear hP
  have c31 := BA_get d 31 (by omega)
  have e31 := BA_get e 31 (by omega)
  have hbd := byt_byte d 31
  have hbe := byt_byte e 31
  unfold Byte at hbd hbe
  obtain ⟨hbd0, hbd1⟩ := hbd
  obtain ⟨hbe0, hbe1⟩ := hbe
  go_enter Tryd.func3, Tryd.ntmps3
  go_wp2
  rw [BA_low, BA_low]
  have hD := mod_W255 d
  have hE := mod_W255 e
  generalize d % W255 = D at *
  generalize e % W255 = E at *
  clear c31 e31 hbd0 hbd1 hbe0 hbe1
  refine wp_gen (fun v => v.heap[w.heap.size]? = some (.cells (BA a) 22 (0, 0)) ∧ v.heap[w.heap.size + 1]? = some (.cells (BA D) 22 (0, 0)) ∧ v.heap[w.heap.size + 1 + 1]? = some (.cells (BA E) 22 (0, 0)) ∧
      v.heap[w.heap.size + 1 + 1 + 1]? = some (.cells (BA 0) 22 (0, 0)) ∧ Below w.heap.size w v)
    ⟨(Below.heap_alloc _ _ _ (by simp <;> omega)).trans (heap_a31 w _ _ _), (Below.heap_alloc _ _ _ (by simp <;> omega)).trans (heap_a32 w _ _ _), (Below.heap_alloc _ _ _ (by simp <;> omega)).trans (heap_a3 w _ _ _), heap_a4 w _ _ _ _,
      by repeat first | exact Below.refl _ _ | refine Below.alloc ?_ (by simp <;> omega) _⟩ ?_
  rintro v0 ⟨ga, gd, ge, gs, hB⟩
  go_loopw [8, 9] (fun c i v => ∃ k : Nat, k ≤ 32 ∧ i = .int .i64 k ∧ c = .int .i64 (carry D E k) ∧ v.heap[w.heap.size]? = some (.cells (BA a) 22 (0, 0)) ∧ v.heap[w.heap.size + 1]? = some (.cells (BA D) 22 (0, 0)) ∧ v.heap[w.heap.size + 1 + 1]? = some (.cells (BA E) 22 (0, 0)) ∧
      v.heap[w.heap.size + 1 + 1 + 1]? = some (.cells (BA (lowSum D E k)) 22 (0, 0)) ∧ Below w.heap.size w v) (fun _ i _ => 32 - (intOf i).toNat)
  case atStart => exact ⟨0, by omega, rfl, by rw [carry_0], ga, gd, ge, by rw [lowSum_0]; exact gs, hB⟩
  case round =>
    clear ga gd ge gs hB
    obtain ⟨k, hk, rfl, rfl, ga, gd, ge, gs, hB⟩ := hrel
    by_cases hlt : k < 32
    · have cd := (cell_of_row wr _ k _ _ _ gd).trans (BA_get D k hlt)
      have ce := (cell_of_row wr _ k _ _ _ ge).trans (BA_get E k hlt)
      have cs := (cell_of_row wr _ k _ _ _ gs).trans (BA_get _ k hlt)
      have fs := frozen_of_row wr _ k _ _ gs
      have hc0 := (carry_range D E k).1
      have hc1 := (carry_range D E k).2
      have hd0 := (byt_byte D k).1
      have hd1 := (byt_byte D k).2
      have he0 := (byt_byte E k).1
      have he1 := (byt_byte E k).2
      have HS := Hid.mk (carry_step D E k)
      generalize hcc : carry D E k = c at *
      generalize hdd : byt D k = x at *
      generalize hee : byt E k = y at *
      go_wp2
      go_quiet (fail)
      go_wp2
      exact ⟨⟨k + 1, by omega, by go_num, by rw [HS.out.2], (heap_setCell_other _ _ _ _ (by simp <;> omega)).trans ga, (heap_setCell_other _ _ _ _ (by simp <;> omega)).trans gd, (heap_setCell_other _ _ _ _ (by simp <;> omega)).trans ge,
        by rw [HS.out.1, ← BA_set (lowSum_range D E k).1 (lowSum_range D E k).2 (by unfold Byte; omega) hlt]; exact heap_setCell_same _ _ _ _ _ _ gs,
        Below.setCell (below_drewN hB _) (by simp <;> omega) _⟩, by simp [intOf]; omega⟩
    · have hk2 : k = 32 := by omega
      subst hk2
      rw [lowSum_32 hD hE] at gs
      have cd := (cell_of_row wr _ 0 _ _ _ gd).trans (BA_get D 0 (by omega))
      have ce := (cell_of_row wr _ 0 _ _ _ ge).trans (BA_get E 0 (by omega))
      have hx := byt_byte D 0
      have hy := byt_byte E 0
      have BX := Hid.mk hx
      have BY := Hid.mk hy
      unfold Byte at hx hy
      have hxy0 : 0 ≤ byt D 0 * byt E 0 := Int.mul_nonneg hx.1 hy.1
      have hxy1 : byt D 0 * byt E 0 ≤ 65025 := by
        have := Int.mul_le_mul (show byt D 0 ≤ 255 by omega) (show byt E 0 ≤ 255 by omega) hy.1 (by omega)
        omega
      have hx0 := hx.1
      have hx1 := hx.2
      have hy0 := hy.1
      have hy1 := hy.2
      clear hx hy
      have hsz : w.heap.size + 1 + 1 + 1 < wr.heap.size := heap_lt gs
      generalize hdx : byt D 0 = x at *
      generalize hdy : byt E 0 = y at *
      go_wp2
      rw [two_bytes hxy0 hxy1]
      refine wp_gen (fun v => (v.heap[w.heap.size]? = some (.cells (BA a) 22 (0, 0)) ∧ v.heap[w.heap.size + 1]? = some (.cells (BA D) 22 (0, 0)) ∧ v.heap[w.heap.size + 1 + 1]? = some (.cells (BA E) 22 (0, 0)) ∧ v.heap[w.heap.size + 1 + 1 + 1]? = some (.cells (BA (D + E)) 22 (0, 0)) ∧ v.heap[wr.heap.size]? = some (.cells (BA (x * y)) 22 (0, 0))) ∧ Below w.heap.size w v)
        ⟨⟨(Below.heap_alloc _ _ _ (by omega)).trans ga, (Below.heap_alloc _ _ _ (by omega)).trans gd, (Below.heap_alloc _ _ _ (by omega)).trans ge, (Below.heap_alloc _ _ _ (by omega)).trans gs, heap_alloc_new _ _⟩, hB.alloc (by omega) _⟩ ?_
      clear ga gd ge gs hB cd ce
      generalize wr.heap.size = bm at *
      rintro v0 ⟨hS, hB⟩
      have E1 := Hid.mk (pow_add_num (a := a) hD.1 hE.1)
      have E2 := Hid.mk (pow_pow_num (a := a) hx0 hy0)
      have ND : N256 D := ⟨hD.1, by have := hD.2; unfold W255 at this; unfold W256; omega⟩
      have NE : N256 E := ⟨hE.1, by have := hE.2; unfold W255 at this; unfold W256; omega⟩
      have NS : N256 (D + E) := ⟨by omega, by have := hD.2; have := hE.2; unfold W255 at *; unfold W256; omega⟩
      have NX : N256 x := ⟨hx0, by unfold W256; omega⟩
      have NY : N256 y := ⟨hy0, by unfold W256; omega⟩
      have NM : N256 (x * y) := ⟨hxy0, by unfold W256; omega⟩
      clear hx0 hx1 hy0 hy1 hxy0 hxy1 hD hE hlt hk
      refine wp_region_mixS (fun v => v.heap[w.heap.size]? = some (.cells (BA a) 22 (0, 0)) ∧ v.heap[w.heap.size + 1]? = some (.cells (BA D) 22 (0, 0)) ∧ v.heap[w.heap.size + 1 + 1]? = some (.cells (BA E) 22 (0, 0)) ∧ v.heap[w.heap.size + 1 + 1 + 1]? = some (.cells (BA (D + E)) 22 (0, 0)) ∧ v.heap[bm]? = some (.cells (BA (x * y)) 22 (0, 0)))
        exF exT [0, 1, 3, 4, 8, 9, 2, 5, 6, 7, 10, 11, 12, 13, 14, 15, 16, 18, 19, 20, 22, 23, 17, 21, 24, 25, 26, 27, 28, 29, 30] rfl (by kernel_rfl) (fun _ _ d _ _ h => by cases d <;> exact h) hS (fun HS => ?_)
      clear hS
      apply mix_look rfl rfl rfl HS
      focus exact fun v h => look_bytes rfl _ _ rfl (BA_size _) h.1
      simp only [Act.put, List.setIfInBounds_toArray, List.set_cons_zero, List.set_cons_succ]
      apply mix_look rfl rfl rfl HS
      focus exact fun v h => look_bytes rfl _ _ rfl (BA_size _) h.2.1
      simp only [Act.put, List.setIfInBounds_toArray, List.set_cons_zero, List.set_cons_succ]
      apply mix_look rfl rfl rfl HS
      focus exact fun v h => look_bytes rfl _ _ rfl (BA_size _) h.1
      simp only [Act.put, List.setIfInBounds_toArray, List.set_cons_zero, List.set_cons_succ]
      apply mix_look rfl rfl rfl HS
      focus exact fun v h => look_bytes rfl _ _ rfl (BA_size _) h.2.2.1
      simp only [Act.put, List.setIfInBounds_toArray, List.set_cons_zero, List.set_cons_succ]
      apply mix_look rfl rfl rfl HS
      focus exact fun v h => look_bytes rfl _ _ rfl (BA_size _) h.1
      simp only [Act.put, List.setIfInBounds_toArray, List.set_cons_zero, List.set_cons_succ]
      apply mix_look rfl rfl rfl HS
      focus exact fun v h => look_bytes rfl _ _ rfl (BA_size _) h.2.2.2.1
      simp only [Act.put, List.setIfInBounds_toArray, List.set_cons_zero, List.set_cons_succ]
      refine mix_act rfl rfl rfl ?_
      intro K hK
      go_simp
      refine (pow_any a D _ ha.1 ha.2 ND.1 ND.2).mono ?_
      rintro r u1 ⟨rfl, hb⟩
      have hB := Below.trans (Below.drew hB) (hb.mono hB.size)
      have HS : _ ∧ _ ∧ _ ∧ _ ∧ _ := ⟨bheap hb HS.1 (heap_lt HS.1), bheap hb HS.2.1 (heap_lt HS.2.1), bheap hb HS.2.2.1 (heap_lt HS.2.2.1), bheap hb HS.2.2.2.1 (heap_lt HS.2.2.2.1), bheap hb HS.2.2.2.2 (heap_lt HS.2.2.2.2)⟩
      refine hK _ _ (fun _ _ => HS) ?_
      clear hK K hb
      refine mix_act rfl rfl rfl ?_
      intro K hK
      go_simp
      refine (pow_any a E _ ha.1 ha.2 NE.1 NE.2).mono ?_
      rintro r u2 ⟨rfl, hb⟩
      have hB := Below.trans hB (hb.mono hB.size)
      have HS : _ ∧ _ ∧ _ ∧ _ ∧ _ := ⟨bheap hb HS.1 (heap_lt HS.1), bheap hb HS.2.1 (heap_lt HS.2.1), bheap hb HS.2.2.1 (heap_lt HS.2.2.1), bheap hb HS.2.2.2.1 (heap_lt HS.2.2.2.1), bheap hb HS.2.2.2.2 (heap_lt HS.2.2.2.2)⟩
      refine hK _ _ (fun _ _ => HS) ?_
      clear hK K hb
      refine mix_act rfl rfl rfl ?_
      intro K hK
      refine act_bs2 _ _ rfl _ _ rfl rfl ?_
      intro u3 r3 s3 b3
      have hB := Below.trans hB (b3.mono hB.size)
      have HS : _ ∧ _ ∧ _ ∧ _ ∧ _ := ⟨bheap b3 HS.1 (heap_lt HS.1), bheap b3 HS.2.1 (heap_lt HS.2.1), bheap b3 HS.2.2.1 (heap_lt HS.2.2.1), bheap b3 HS.2.2.2.1 (heap_lt HS.2.2.2.1), bheap b3 HS.2.2.2.2 (heap_lt HS.2.2.2.2)⟩
      refine hK _ _ (fun _ _ => HS) ?_
      clear hK K b3
      simp only [Act.put, List.setIfInBounds_toArray, List.set_cons_zero, List.set_cons_succ]
      refine mix_act rfl rfl rfl ?_
      intro K hK
      go_simp
      refine (mul2 _ _ _ _ (N256.mod _) (N256.mod _) r3 s3).mono ?_
      rintro r u4 ⟨rfl, hb⟩
      have hB := Below.trans hB (hb.mono hB.size)
      have HS : _ ∧ _ ∧ _ ∧ _ ∧ _ := ⟨bheap hb HS.1 (heap_lt HS.1), bheap hb HS.2.1 (heap_lt HS.2.1), bheap hb HS.2.2.1 (heap_lt HS.2.2.1), bheap hb HS.2.2.2.1 (heap_lt HS.2.2.2.1), bheap hb HS.2.2.2.2 (heap_lt HS.2.2.2.2)⟩
      refine hK _ _ (fun _ _ => HS) ?_
      clear hK K hb
      rw [E1.out]
      clear r3 s3
      refine mix_act rfl rfl rfl ?_
      intro K hK
      go_simp
      refine (pow_any a (D + E) _ ha.1 ha.2 NS.1 NS.2).mono ?_
      rintro r u5 ⟨rfl, hb⟩
      have hB := Below.trans hB (hb.mono hB.size)
      have HS : _ ∧ _ ∧ _ ∧ _ ∧ _ := ⟨bheap hb HS.1 (heap_lt HS.1), bheap hb HS.2.1 (heap_lt HS.2.1), bheap hb HS.2.2.1 (heap_lt HS.2.2.1), bheap hb HS.2.2.2.1 (heap_lt HS.2.2.2.1), bheap hb HS.2.2.2.2 (heap_lt HS.2.2.2.2)⟩
      refine hK _ _ (fun _ _ => HS) ?_
      clear hK K hb
      apply mix_pure rfl rfl rfl
      focus exact fun v => eql_same _ _ _ rfl _ rfl rfl
      simp only [Act.put, List.setIfInBounds_toArray, List.set_cons_zero, List.set_cons_succ]
      apply mix_pure rfl rfl rfl
      focus (intro wq; go_simp; first | done | with_reducible rfl)
      simp only [Act.put, List.setIfInBounds_toArray, List.set_cons_zero, List.set_cons_succ]
      apply mix_look rfl rfl rfl HS
      focus exact fun v h => look_bytes rfl _ _ rfl (BA_size _) h.1
      simp only [Act.put, List.setIfInBounds_toArray, List.set_cons_zero, List.set_cons_succ]
      apply mix_pure rfl rfl rfl
      focus (intro wq; go_simp; first | done | with_reducible rfl)
      simp only [Act.put, List.setIfInBounds_toArray, List.set_cons_zero, List.set_cons_succ]
      apply mix_look rfl rfl rfl HS
      focus (intro wq hq; have cq := (cell_of_row wq _ 0 _ _ _ hq.2.1).trans (BA_get D 0 (by omega)); rw [hdx] at cq; clear hq; go_simp; first | done | with_reducible rfl)
      simp only [Act.put, List.setIfInBounds_toArray, List.set_cons_zero, List.set_cons_succ]
      apply mix_pure rfl rfl rfl
      focus exact fun v => exec_build_tmp _ rfl x rfl BX.out
      simp only [Act.put, List.setIfInBounds_toArray, List.set_cons_zero, List.set_cons_succ]
      apply mix_pure rfl rfl rfl
      focus (intro wq; go_simp; first | done | with_reducible rfl)
      simp only [Act.put, List.setIfInBounds_toArray, List.set_cons_zero, List.set_cons_succ]
      apply mix_look rfl rfl rfl HS
      focus (intro wq hq; have cq := (cell_of_row wq _ 0 _ _ _ hq.2.2.1).trans (BA_get E 0 (by omega)); rw [hdy] at cq; clear hq; go_simp; first | done | with_reducible rfl)
      simp only [Act.put, List.setIfInBounds_toArray, List.set_cons_zero, List.set_cons_succ]
      apply mix_pure rfl rfl rfl
      focus exact fun v => exec_build_tmp _ rfl y rfl BY.out
      simp only [Act.put, List.setIfInBounds_toArray, List.set_cons_zero, List.set_cons_succ]
      apply mix_look rfl rfl rfl HS
      focus exact fun v h => look_bytes rfl _ _ rfl (BA_size _) h.1
      simp only [Act.put, List.setIfInBounds_toArray, List.set_cons_zero, List.set_cons_succ]
      apply mix_look rfl rfl rfl HS
      focus exact fun v h => look_bytes rfl _ _ rfl (BA_size _) h.2.2.2.2
      simp only [Act.put, List.setIfInBounds_toArray, List.set_cons_zero, List.set_cons_succ]
      refine mix_act rfl rfl rfl ?_
      intro K hK
      go_simp
      refine (pow_any a x _ ha.1 ha.2 NX.1 NX.2).mono ?_
      rintro r u6 ⟨rfl, hb⟩
      have hB := Below.trans hB (hb.mono hB.size)
      have HS : _ ∧ _ ∧ _ ∧ _ ∧ _ := ⟨bheap hb HS.1 (heap_lt HS.1), bheap hb HS.2.1 (heap_lt HS.2.1), bheap hb HS.2.2.1 (heap_lt HS.2.2.1), bheap hb HS.2.2.2.1 (heap_lt HS.2.2.2.1), bheap hb HS.2.2.2.2 (heap_lt HS.2.2.2.2)⟩
      refine hK _ _ (fun _ _ => HS) ?_
      clear hK K hb
      refine mix_act rfl rfl rfl ?_
      intro K hK
      go_simp
      refine (pow_any _ y _ (N256.mod _).1 (N256.mod _).2 NY.1 NY.2).mono ?_
      rintro r u7 ⟨rfl, hb⟩
      have hB := Below.trans hB (hb.mono hB.size)
      have HS : _ ∧ _ ∧ _ ∧ _ ∧ _ := ⟨bheap hb HS.1 (heap_lt HS.1), bheap hb HS.2.1 (heap_lt HS.2.1), bheap hb HS.2.2.1 (heap_lt HS.2.2.1), bheap hb HS.2.2.2.1 (heap_lt HS.2.2.2.1), bheap hb HS.2.2.2.2 (heap_lt HS.2.2.2.2)⟩
      refine hK _ _ (fun _ _ => HS) ?_
      clear hK K hb
      rw [E2.out]
      refine mix_act rfl rfl rfl ?_
      intro K hK
      go_simp
      refine (pow_any a (x * y) _ ha.1 ha.2 NM.1 NM.2).mono ?_
      rintro r u8 ⟨rfl, hb⟩
      have hB := Below.trans hB (hb.mono hB.size)
      have HS : _ ∧ _ ∧ _ ∧ _ ∧ _ := ⟨bheap hb HS.1 (heap_lt HS.1), bheap hb HS.2.1 (heap_lt HS.2.1), bheap hb HS.2.2.1 (heap_lt HS.2.2.1), bheap hb HS.2.2.2.1 (heap_lt HS.2.2.2.1), bheap hb HS.2.2.2.2 (heap_lt HS.2.2.2.2)⟩
      refine hK _ _ (fun _ _ => HS) ?_
      clear hK K hb
      apply mix_pure rfl rfl rfl
      focus exact fun v => eql_same _ _ _ rfl _ rfl rfl
      simp only [Act.put, List.setIfInBounds_toArray, List.set_cons_zero, List.set_cons_succ]
      apply mix_pure rfl rfl rfl
      focus (intro wq; go_simp; first | done | with_reducible rfl)
      simp only [Act.put, List.setIfInBounds_toArray, List.set_cons_zero, List.set_cons_succ]
      apply mix_pure rfl rfl rfl
      focus (intro wq; go_simp; first | done | with_reducible rfl)
      simp only [Act.put, List.setIfInBounds_toArray, List.set_cons_zero, List.set_cons_succ]
      refine mix_act rfl rfl rfl ?_
      intro K hK
      go_simp
      refine (awake_any _ (primeAt_below HP.out hB hp0)).mono ?_
      rintro r u9 ⟨rfl, hb⟩
      have hB := Below.trans hB (hb.mono hB.size)
      have HS : _ ∧ _ ∧ _ ∧ _ ∧ _ := ⟨bheap hb HS.1 (heap_lt HS.1), bheap hb HS.2.1 (heap_lt HS.2.1), bheap hb HS.2.2.1 (heap_lt HS.2.2.1), bheap hb HS.2.2.2.1 (heap_lt HS.2.2.2.1), bheap hb HS.2.2.2.2 (heap_lt HS.2.2.2.2)⟩
      refine hK _ _ (fun _ _ => HS) ?_
      clear hK K hb
      apply mix_pure rfl rfl rfl
      focus (intro wq; go_simp; first | done | with_reducible rfl)
      simp only [Act.put, List.setIfInBounds_toArray, List.set_cons_zero, List.set_cons_succ]
      apply mix_pure rfl rfl rfl
      focus (intro wq; go_simp; first | done | with_reducible rfl)
      simp only [Act.put, List.setIfInBounds_toArray, List.set_cons_zero, List.set_cons_succ]
      refine mix_done ?_
      go_wp2
      go_ret
      exact ⟨rfl, hB⟩
end Go.Proofs.YtgklkkjhoecdoabDoor
