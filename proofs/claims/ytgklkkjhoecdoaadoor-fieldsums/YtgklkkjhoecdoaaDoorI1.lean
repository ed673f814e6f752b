/-
  Own text. Inverses modulo 2^255 - 19; what Inv of package field and Less of the document's answer give: contracts over the translation.
-/
import Derived.Test.YtgklkkjhoecdoaaDoorPrime
import Derived.Test.YtgklkkjhoecdoaaDoorG7
namespace Go.Proofs.YtgklkkjhoecdoaaDoor
open Go.RowKit Go.Proofs
theorem emod_pow (a : Int) (n : Nat) : (a % P255) ^ n % P255 = a ^ n % P255 := by
  induction n with
  | zero => simp
  | succ n ih => rw [Int.pow_succ, Int.pow_succ, Int.mul_emod, ih, Int.emod_emod, ← Int.mul_emod]
/-- The exponent of Inv: p - 2. -/
def invE : Nat := ((-2 : Int) % P255).toNat
theorem invE_two : invE + 2 = 57896044618658097711785492504343953926634992332820282019728792003956564819949 := by decide +kernel
/-- What Inv answers. -/
def invN (a : Int) : Int := a ^ invE % P255
theorem invN_range (a : Int) : 0 ≤ invN a ∧ invN a < P255 := mod_lt_P _
theorem invN_256 (a : Int) : N256 (invN a) := N256.mod _
theorem invN_zero {a : Int} (h : a % P255 = 0) : invN a = 0 := by
  unfold invN
  rw [← emod_pow, h]
  obtain ⟨k, hk⟩ : ∃ k, invE = k + 1 := ⟨invE - 1, by have := invE_two; omega⟩
  rw [hk, Int.pow_succ, Int.mul_zero]
  rfl
theorem nat_pow_mod (m n : Nat) : ((m : Int) ^ n) % P255 = ((m ^ n % 57896044618658097711785492504343953926634992332820282019728792003956564819949 : Nat) : Int) := by
  rw [Int.natCast_emod, Int.natCast_pow]
  rfl
theorem fermat_int {a : Int} (h : a % P255 ≠ 0) : a ^ (invE + 1) % P255 = 1 := by
  have hr := mod_lt_P a
  rw [← emod_pow]
  obtain ⟨m, hm⟩ : ∃ m : Nat, a % P255 = (m : Int) := ⟨(a % P255).toNat, by omega⟩
  rw [hm] at h hr ⊢
  have hnd : ¬ 57896044618658097711785492504343953926634992332820282019728792003956564819949 ∣ m := fun hd => by
    have := Nat.le_of_dvd (by omega) hd
    unfold P255 at hr
    omega
  have hf := fermat prP hnd
  rw [show 57896044618658097711785492504343953926634992332820282019728792003956564819949 - 1 = invE + 1 by have := invE_two; omega] at hf
  rw [nat_pow_mod, hf]
  rfl
theorem inv_mul {a : Int} (h : a % P255 ≠ 0) : (a * invN a) % P255 = 1 := by
  have := fermat_int h
  unfold invN
  rw [Int.mul_emod, Int.emod_emod, ← Int.mul_emod, Int.mul_comm, ← Int.pow_succ]
  exact this
theorem inv_inv {a : Int} (h : a % P255 ≠ 0) : invN (invN a) = a % P255 := by
  have h1 := inv_mul h
  have h2 : invN a % P255 ≠ 0 := fun h0 => by
    rw [Int.mul_emod, h0, Int.mul_zero] at h1
    cases h1
  have h3 := inv_mul h2
  have hr := invN_range (invN a)
  generalize invN (invN a) = y at *
  generalize invN a = x at *
  have e1 : y % P255 = a % P255 := by
    have e2 : (a * x * y) % P255 = y % P255 := by rw [Int.mul_emod, h1, Int.one_mul, Int.emod_emod]
    have e3 : (a * x * y) % P255 = a % P255 := by rw [Int.mul_assoc, Int.mul_emod, h3, Int.mul_one, Int.emod_emod]
    rw [← e2, e3]
  rw [← e1, Int.emod_eq_of_lt hr.1 hr.2]
theorem inv_prod (a b : Int) : (invN a * invN b) % P255 = invN ((a * b) % P255) := by
  unfold invN
  rw [← Int.mul_emod, emod_pow, Int.mul_pow]
theorem pow_less (a : Int) {E : Int} (hE : E = P255 - 1) (h : a % P255 ≠ 0) : a ^ E.toNat % P255 = 1 := by
  have e : E.toNat = invE + 1 := by
    have h2 := invE_two
    rw [hE]
    unfold P255
    omega
  rw [e]
  exact fermat_int h
theorem of_invE : (-2 : Int) % P255 = P255 - 2 := by decide +kernel
def invF (i : Nat) : Nat := [1].getD i 0
def invT (i : Nat) : Bool := i != 3
set_option maxHeartbeats 1000000 in
theorem inv_any (a : Int) (w : World) (hP : PrimeAt w) (ha : N256 a) :
    Calls Tryd.prog 25 #[.agg (BA a)] w fun e w' => e = .returned (.agg (BA (invN a))) ∧ Below w.heap.size w w' := by
  have hp0 := primeAt_pos hP
  have HP := Hid.mk hP
  clear hP
  go_enter Tryd.func25, Tryd.ntmps25
  go_wp2
  refine wp_gen (fun v => v.heap[w.heap.size]? = some (.cells (BA a) 24 (0, 0)) ∧
    (∃ z : Array Value, v.heap[w.heap.size + 1]? = some (.cells z 24 (0, 0)) ∧ z.size = 32) ∧ Below w.heap.size w v)
    ⟨heap_alloc2_old w _ _, ⟨_, heap_alloc2_new w _ _, rfl⟩, by repeat first | exact Below.refl _ _ | refine Below.alloc ?_ (by simp <;> omega) _⟩ ?_
  rintro v0 ⟨ga, ⟨z, gz, sz⟩, hB⟩
  refine wp_region_mixS (fun v => v.heap[w.heap.size]? = some (.cells (BA a) 24 (0, 0)))
    invF invT [0, 1, 2, 3] rfl (by kernel_rfl) (fun _ _ d _ _ h => by cases d <;> exact h) ga (fun HS => ?_)
  apply mix_look rfl rfl rfl HS
  focus exact fun v h => look_bytes rfl _ _ rfl (BA_size _) h
  simp only [Act.put, List.setIfInBounds_toArray, List.set_cons_zero, List.set_cons_succ]
  clear HS ga
  refine mix_act rfl rfl rfl ?_
  intro K hK
  go_simp
  refine (of_any (-2) _ (primeAt_below HP.out (Below.drew hB) hp0) (by omega) (by omega)).mono ?_
  rintro e v1 ⟨rfl, hb⟩
  have gz := bheap hb gz (heap_lt gz)
  have hB := Below.trans (Below.drew hB) (hb.mono hB.size)
  refine hK _ _ (fun _ h => bheap hb h (heap_lt h)) ?_
  clear hK K hb
  have NE := N256.mod (-2)
  refine mix_act rfl rfl rfl ?_
  intro K hK
  go_simp
  refine (pow_any a _ _ ha.1 ha.2 NE.1 NE.2).mono ?_
  rintro e v2 ⟨rfl, hb⟩
  have gz := bheap hb gz (heap_lt gz)
  have hB := Below.trans hB (hb.mono hB.size)
  refine hK _ _ (fun _ h => bheap hb h (heap_lt h)) ?_
  clear hK K hb
  refine mix_act rfl rfl rfl ?_
  intro K hK
  refine act_bytes _ _ rfl _ _ rfl rfl _ gz sz ?_
  intro v7 g7 o7
  refine hK _ _ (fun h => by cases h) ?_
  clear hK K
  refine mix_done ?_
  go_wp2
  exact bodyPost_ret (v := .agg (BA (invN a))) (results_cell_row rfl _ _ _ _ _ _ _ rfl g7 Tryd.underlying24 rfl (by rw [BA_size]; exact info32)) rfl
    ⟨rfl, Below.trans hB (Only.below (b := w.heap.size + 1) (B := w.heap.size) o7 (by omega))⟩
end Go.Proofs.YtgklkkjhoecdoaaDoor
