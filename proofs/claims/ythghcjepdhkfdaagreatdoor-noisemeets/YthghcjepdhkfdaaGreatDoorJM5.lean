/-
  Own text. What Mul of package field answers, for every slice of 32 bytes each that is not empty: a contract over the translation.
-/
import Derived.Test.YthghcjepdhkfdaaGreatDoorJM4
import Derived.ChangeKeysEq
import Derived.Deep.QuietTactic
import Derived.BigQuiet
import Derived.Laws.OwnMore
import Derived.OwnWalk
import Derived.Deep.OwnRows
import Derived.Deep.LoopGhost
import Derived.Laws.CopyOwn
import Derived.Test.YthghcjepdhkfdaaGreatDoorJM1
import Derived.Test.YthghcjepdhkfdaaGreatDoorJM2
namespace Go.Proofs.YthghcjepdhkfdaaGreatDoor.Fld
open Go.RowKit Go.Proofs
set_option maxRecDepth 100000
def lprod : List Int → Int
 | [] => 1
 | x :: l => x * lprod l
theorem lprod_append (l m : List Int) : lprod (l ++ m) = lprod l * lprod m := by
 induction l with
 | nil => simp [lprod]
 | cons x l ih => simp only [List.cons_append, lprod, ih, Int.mul_assoc]
theorem take_prod (ns : List Int) (k : Nat) (h : k < ns.length) : lprod (ns.take (k + 1)) = lprod (ns.take k) * ns[k] := by
 rw [List.take_succ_eq_append_getElem h, lprod_append]; simp [lprod]
theorem mul_step {ns : List Int} {k : Nat} {Z Q c n : Int} (hz : ∃ c : Int, Z = lprod (ns.take k) + c * P255) (e : Q = Z * n + c * P255) (hs : lprod (ns.take (k + 1)) = lprod (ns.take k) * n) :
  ∃ c : Int, Q = lprod (ns.take (k + 1)) + c * P255 := by
 obtain ⟨d, rfl⟩ := hz
 exact ⟨d * n + c, by rw [e, hs, Int.add_mul, Int.add_mul, Int.mul_assoc, Int.mul_comm P255 n, ← Int.mul_assoc]; omega⟩
theorem mul_last {ns : List Int} {Z : Int} (hz : ∃ c : Int, Z = lprod (ns.take ns.length) + c * P255) : Z % P255 = lprod ns % P255 := by
 obtain ⟨d, rfl⟩ := hz
 rw [List.take_length, Int.mul_comm, Int.add_mul_emod_self_left]
set_option maxHeartbeats 1000000 in
theorem mul_walk (b off cap : Nat) (ns : List Int) (w : World) (hr : ∀ n ∈ ns, 0 ≤ n ∧ n < W256) (hrows : RowsAt w b off ns) (hb : b < w.heap.size) (hlen : ns.length ≤ 4611686018427387904) (hcap : ns.length ≤ cap) (h1 : 1 ≤ ns.length) :
  Calls Tryz.prog 103 #[.slice (some ⟨b, off, none⟩) ns.length cap] w fun e w' => e = .returned (.agg (BA (lprod ns % P255))) ∧ Below w.heap.size w w' := by
 have hz : ((ns.length : Int) == 0) = false := by simp; intro h; simp [h] at h1
 have hn0 := hr _ (List.getElem_mem (show 0 < ns.length by omega))
 have r0 := hrows 0 (by omega)
 have hgd : ns.getD 0 0 = ns[0] := by simp [show 0 < ns.length by omega]
 rw [hgd] at r0
 have E0 := Hid.mk (take_prod ns 0 (by omega))
 have HR := Hid.mk hr
 have HW := Hid.mk hrows
 clear hr hrows hgd
 simp only [Nat.zero_mul, Nat.add_zero] at r0
 generalize ns[0] = n0 at *
 have R0 : Hid (∀ v, Below w.heap.size w v → v.rangeAt b off (BA n0).toList) := fun v hB j x hx => (hB.cell hb).trans (r0 j x hx)
 clear r0
 rcases Nat.eq_or_lt_of_le (show 1 ≤ cap by omega) with hc | hc
 ·subst hc
  go_enter Tryz.func103, Tryz.ntmps103
  go_wp2_with (refine ld_mid rfl _ rfl _ _ n0 rfl (R0.out _ ((Below.refl _ _).alloc (Nat.le_refl _) _)) ?_)
  refine (load_any n0 _).mono ?_
  rintro e v0 ⟨rfl, hb0⟩
  have gz := bheap hb0 (heap_alloc_new w _) (by simp <;> omega)
  have hB := Below.trans ((Below.refl _ w).alloc (Nat.le_refl _) _) (hb0.mono (by simp <;> omega))
  clear hb0
  go_wp2_with (refine st_limbs rfl _ _ rfl _ _ _ _ _ rfl rfl _ _ _ _ (heap_alloc_new v0 _) ?_; intro v1 g1 o1)
  have hsz : w.heap.size < v0.heap.size := heap_lt gz
  have gz1 := (o1.block _ (by omega)).trans ((Below.heap_alloc v0 _ _ hsz).trans gz)
  have hB1 : Below w.heap.size w v1 := Below.trans (hB.alloc (by omega) _) (Only.below (b := v0.heap.size) (B := w.heap.size) o1 (by omega))
  clear o1 gz hB
  generalize v0.heap.size = bs at *
  refine wp_loop_rounds 1 ?_
  rw [rounds_succ]
  have e1 : ns.length = 1 := by omega
  have Z1 : Hid (∃ c : Int, V4 (limb n0 0) (limb n0 8) (limb n0 16) (limb n0 24) = lprod (ns.take ns.length) + c * P255) := ⟨0, by rw [limb_V4 hn0.1 hn0.2, e1, E0.out]; simp [lprod]⟩
  have e2 : ((ns.length - 1 : Nat) : Int) = 0 := by omega
  clear e1
  go_wp2_with (refine ld_limbs rfl _ rfl _ _ _ _ _ rfl g1 ?_)
  refine (store_any _ _ _ _ _ (limb_u64 _ _) (limb_u64 _ _) (limb_u64 _ _) (limb_u64 _ _)).mono ?_
  rintro e v2 ⟨rfl, hb2⟩
  have gz2 := bheap hb2 gz1 (heap_lt gz1)
  have hB2 := Below.trans hB1 (hb2.mono hB1.size)
  clear hb2
  go_wp2_with (refine st_bytes rfl _ _ rfl _ _ rfl rfl _ gz2 rfl ?_; intro v3 g3 o3)
  rw [mul_last Z1.out] at g3
  exact bodyPost_ret (v := .agg (BA (lprod ns % P255))) (results_cell_row rfl _ _ _ _ _ _ _ rfl g3 Tryz.underlying22 rfl (by rw [BA_size]; exact info32)) rfl
   ⟨rfl, Below.trans hB2 (Only.below (b := w.heap.size) (B := w.heap.size) o3 (by omega))⟩
 ·have hc' : ¬ cap = 1 := by omega
  go_enter Tryz.func103, Tryz.ntmps103
  go_wp2_with (refine ld_mid rfl _ rfl _ _ n0 rfl (R0.out _ ((Below.refl _ _).alloc (Nat.le_refl _) _)) ?_)
  refine (load_any n0 _).mono ?_
  rintro e v0 ⟨rfl, hb0⟩
  have gz := bheap hb0 (heap_alloc_new w _) (by simp <;> omega)
  have hB := Below.trans ((Below.refl _ w).alloc (Nat.le_refl _) _) (hb0.mono (by simp <;> omega))
  clear hb0
  go_wp2_with (refine st_limbs rfl _ _ rfl _ _ _ _ _ rfl rfl _ _ _ _ (heap_alloc_new v0 _) ?_; intro v1 g1 o1)
  have hsz : w.heap.size < v0.heap.size := heap_lt gz
  have gz1 := (o1.block _ (by omega)).trans ((Below.heap_alloc v0 _ _ hsz).trans gz)
  have hB1 : Below w.heap.size w v1 := Below.trans (hB.alloc (by omega) _) (Only.below (b := v0.heap.size) (B := w.heap.size) o1 (by omega))
  clear o1 gz hB
  generalize v0.heap.size = bs at *
  go_loopw [17] (fun i v => ∃ k : Nat, k + 1 ≤ ns.length ∧ i = .int .i64 k ∧ ∃ z0 z1 z2 z3, U64 z0 ∧ U64 z1 ∧ U64 z2 ∧ U64 z3 ∧ (∃ c : Int, V4 z0 z1 z2 z3 = lprod (ns.take (k + 1)) + c * P255) ∧
    v.heap[bs]? = some (.cells #[.int .u64 z0, .int .u64 z1, .int .u64 z2, .int .u64 z3] 142 (0, 0)) ∧ (∃ z : Array Value, v.heap[w.heap.size]? = some (.cells z 22 (0, 0)) ∧ z.size = 32) ∧ Below w.heap.size w v)
   (fun i _ => ns.length - (intOf i).toNat)
  case atStart =>
   exact ⟨0, h1, rfl, _, _, _, _, limb_u64 _ _, limb_u64 _ _, limb_u64 _ _, limb_u64 _ _, ⟨0, by rw [limb_V4 hn0.1 hn0.2, E0.out]; simp [lprod]⟩, g1, ⟨_, gz1, rfl⟩, hB1⟩
  case round =>
   clear g1 gz1 hB1
   obtain ⟨k, hk, rfl, z0, z1, z2, z3, hz0, hz1, hz2, hz3, hzz, gs, ⟨z, gz, sz⟩, hB⟩ := hrel
   have HZ := Hid.mk hzz
   clear hzz
   by_cases hlt : k + 1 < ns.length
   ·have hn := HR.out _ (List.getElem_mem hlt)
    have hrow : wr.rangeAt b (off + 32 + k * 32) (BA (ns.getD (k + 1) 0)).toList := fun j v hv => by
     have h2 := HW.out (k + 1) hlt j v hv
     rw [show off + (k + 1) * 32 = off + 32 + k * 32 by omega] at h2
     exact (hB.cell hb).trans h2
    have hgd : ns.getD (k + 1) 0 = ns[k + 1] := by simp [hlt]
    rw [hgd] at hrow
    have hsn := Hid.mk (take_prod ns (k + 1) hlt)
    clear hgd
    generalize ns[k + 1] = n at *
    have HROW := Hid.mk hrow
    clear hrow
    have hlt2 : (k : Int) < ((ns.length - 1 : Nat) : Int) := by omega
    have hlt3 : k < ns.length - 1 := by omega
    go_wp2_with (first | (refine ld_mid rfl _ rfl _ _ n rfl HROW.out ?_) | (refine st_bytes rfl _ _ rfl _ n rfl rfl _ (heap_alloc_new wr _) rfl ?_; intro v1 g1 o1))
    have hsz2 : bs < wr.heap.size := heap_lt gs
    have gs1 := (o1.block _ (by omega)).trans ((Below.heap_alloc wr _ _ hsz2).trans gs)
    have gz1 := (o1.block _ (by omega)).trans ((Below.heap_alloc wr _ _ (by omega)).trans gz)
    have hB1 : Below w.heap.size w v1 := Below.trans (hB.alloc (by omega) _) (Only.below (b := wr.heap.size) (B := w.heap.size) o1 (by omega))
    clear o1 gs gz hB
    generalize wr.heap.size = bw at *
    refine wp_region_mixS (fun v => v.heap[bs]? = some (.cells #[.int .u64 z0, .int .u64 z1, .int .u64 z2, .int .u64 z3] 142 (0, 0)) ∧ v.heap[bw]? = some (.cells (BA n) 22 (0, 0)))
     addF addT [0, 1, 2, 3, 4] rfl (by kernel_rfl) (fun _ _ d _ _ h => by cases d <;> exact h) ⟨gs1, g1⟩ (fun HS => ?_)
    apply mix_look rfl rfl rfl HS
    focus exact fun v h => look_limbs rfl _ _ _ _ _ rfl h.1
    simp only [Act.put, List.setIfInBounds_toArray, List.set_cons_zero, List.set_cons_succ]
    apply mix_look rfl rfl rfl HS
    focus exact fun v h => look_bytes rfl _ _ rfl (BA_size _) h.2
    simp only [Act.put, List.setIfInBounds_toArray, List.set_cons_zero, List.set_cons_succ]
    clear HS g1
    refine mix_act rfl rfl rfl ?_
    intro K hK
    go_simp
    refine (load_any n _).mono ?_
    rintro e v2 ⟨rfl, hb2⟩
    have gs2 := bheap hb2 gs1 (heap_lt gs1)
    have gz2 := bheap hb2 gz1 (heap_lt gz1)
    have hB2 := Below.trans (Below.drew hB1) (hb2.mono hB1.size)
    refine hK _ _ (fun _ h => ⟨bheap hb2 h.1 (heap_lt h.1), bheap hb2 h.2 (heap_lt h.2)⟩) ?_
    clear hK K hb2 gs1 gz1 hB1
    refine mix_act rfl rfl rfl ?_
    intro K hK
    go_simp
    refine (times_any _ _ _ _ _ _ _ _ _ hz0 hz1 hz2 hz3 (limb_u64 _ _) (limb_u64 _ _) (limb_u64 _ _) (limb_u64 _ _)).mono ?_
    rintro e v3 ⟨q0, q1, q2, q3, hq0, hq1, hq2, hq3, ⟨c, ec⟩, rfl, hb3⟩
    rw [limb_V4 hn.1 hn.2] at ec
    have EC := Hid.mk ec
    clear ec
    have gs3 := bheap hb3 gs2 (heap_lt gs2)
    have gz3 := bheap hb3 gz2 (heap_lt gz2)
    have hB3 := Below.trans hB2 (hb3.mono hB2.size)
    refine hK _ _ (fun _ h => ⟨bheap hb3 h.1 (heap_lt h.1), bheap hb3 h.2 (heap_lt h.2)⟩) ?_
    clear hK K hb3 gs2 gz2 hB2
    refine mix_act rfl rfl rfl ?_
    intro K hK
    refine act_limbs _ _ rfl _ _ _ _ _ rfl rfl _ _ _ _ gs3 ?_
    intro v4 g4 o4
    refine hK _ _ (fun h => by cases h) ?_
    clear hK K
    refine mix_done ?_
    have gz4 := (o4.block _ (by omega)).trans gz3
    have hB4 : Below w.heap.size w v4 := Below.trans hB3 (Only.below (b := bs) (B := w.heap.size) o4 (by omega))
    clear o4 gs3 gz3 hB3
    go_wp2
    go_roundw
    case rel => exact ⟨k + 1, by omega, by go_num, q0, q1, q2, q3, hq0, hq1, hq2, hq3, mul_step HZ.out EC.out hsn.out, g4, ⟨z, gz4, sz⟩, hB4⟩
    case measure => simp [intOf]; omega
   ·have hk2 : k + 1 = ns.length := by omega
    have HZ2 := HZ.out
    rw [hk2] at HZ2
    have HZ3 := Hid.mk HZ2
    have hk3 : ¬ (k : Int) < ((ns.length - 1 : Nat) : Int) := by omega
    clear hk2 HZ2
    go_wp2_with (refine ld_limbs rfl _ rfl _ _ _ _ _ rfl gs ?_)
    refine (store_any _ _ _ _ _ hz0 hz1 hz2 hz3).mono ?_
    rintro e v2 ⟨rfl, hb2⟩
    have gz2 := bheap hb2 gz (heap_lt gz)
    have hB2 := Below.trans hB (hb2.mono hB.size)
    clear hb2
    go_wp2_with (refine st_bytes rfl _ _ rfl _ _ rfl rfl _ gz2 sz ?_; intro v3 g3 o3)
    rw [mul_last HZ3.out] at g3
    exact bodyPost_ret (v := .agg (BA (lprod ns % P255))) (results_cell_row rfl _ _ _ _ _ _ _ rfl g3 Tryz.underlying22 rfl (by rw [BA_size]; exact info32)) rfl
     ⟨rfl, Below.trans hB2 (Only.below (b := w.heap.size) (B := w.heap.size) o3 (by omega))⟩
end Go.Proofs.YthghcjepdhkfdaaGreatDoor.Fld

/-
  Own text. What Pow of package field answers, for every two times 32 bytes: a contract over the translation.
-/
namespace Go.Proofs.YthghcjepdhkfdaaGreatDoor.Fld
open Go.RowKit Go.Proofs
set_option maxRecDepth 100000
theorem heap_a45 (w : World) (A B : Obj) : ((w.alloc A).alloc B).heap[w.heap.size]? = some A := heap_alloc2_old w A B
theorem u64_1 : U64 1 := by unfold U64; omega
def topBits (e : Int) (k : Nat) : Nat := e.toNat / 2 ^ (256 - k)
theorem pow_start {a e : Int} (h1 : e < W256) : V4 1 0 0 0 = a ^ topBits e 0 + 0 * P255 := by
 unfold topBits
 have : e.toNat / 2 ^ 256 = 0 := Nat.div_eq_of_lt (by unfold W256 at h1; omega)
 rw [V4_one, show 256 - 0 = 256 from rfl, this]
 simp
theorem and_one_u8 (x : Int) (h0 : 0 ≤ x) (h1 : x < 256) : bits BinOp.and IntKind.u8 x 1 = x % 2 := by go_bits2
theorem byt_bit (e : Int) (m : Nat) (he : 0 ≤ e) : (byt e (m / 8) / 2 ^ (m % 8)) % 2 = ((e.toNat / 2 ^ m % 2 : Nat) : Int) := by
 obtain ⟨E, rfl⟩ := Int.eq_ofNat_of_zero_le he
 rw [Int.toNat_natCast]
 have e1 : E / 2 ^ m = E / 256 ^ (m / 8) / 2 ^ (m % 8) := by
  rw [Nat.div_div_eq_div_mul]
  congr 1
  rw [show (256 : Nat) = 2 ^ 8 from rfl, ← Nat.pow_mul, ← Nat.pow_add]
  congr 1
  omega
 have e2 : byt (E : Int) (m / 8) = ((E / 256 ^ (m / 8) % 256 : Nat) : Int) := by
  unfold byt
  rw [show ((256 : Int) ^ (m / 8)) = ((256 ^ (m / 8) : Nat) : Int) from by rw [Int.natCast_pow]; rfl]
  omega
 rw [e1, e2]
 generalize E / 256 ^ (m / 8) = G
 have hj : m % 8 < 8 := by omega
 generalize m % 8 = j at *
 have : j = 0 ∨ j = 1 ∨ j = 2 ∨ j = 3 ∨ j = 4 ∨ j = 5 ∨ j = 6 ∨ j = 7 := by omega
 rcases this with rfl | rfl | rfl | rfl | rfl | rfl | rfl | rfl <;> omega
theorem topBits_succ (e : Int) (k : Nat) (h : k < 256) (he : 0 ≤ e) :
  topBits e (k + 1) = 2 * topBits e k + (if (bits BinOp.and IntKind.u8 (byt e ((255 - k) / 8) / 2 ^ ((255 - k) % 8)) 1 == 1) = true then 1 else 0) := by
 have hb := byt_byte e ((255 - k) / 8)
 unfold Byte at hb
 have hp : (0 : Int) < 2 ^ ((255 - k) % 8) := Int.pow_pos (by decide)
 have h0 : 0 ≤ byt e ((255 - k) / 8) / 2 ^ ((255 - k) % 8) := Int.ediv_nonneg hb.1 (by omega)
 have h1 : byt e ((255 - k) / 8) / 2 ^ ((255 - k) % 8) < 256 := by
  have := Int.ediv_le_self (2 ^ ((255 - k) % 8)) hb.1
  omega
 rw [and_one_u8 _ h0 h1, byt_bit e (255 - k) he]
 unfold topBits
 rw [show 256 - (k + 1) = 255 - k by omega, show 256 - k = (255 - k) + 1 by omega, Nat.pow_succ, ← Nat.div_div_eq_div_mul]
 generalize e.toNat / 2 ^ (255 - k) = G
 have hG : G % 2 = 0 ∨ G % 2 = 1 := by omega
 rcases hG with hG | hG <;> simp [hG] <;> omega
theorem pow_sq {A Z Q c : Int} (hz : ∃ c : Int, Z = A + c * P255) (e : Q = Z * Z + c * P255) : ∃ c : Int, Q = A * A + c * P255 := by
 obtain ⟨d, rfl⟩ := hz
 exact ⟨2 * A * d + d * d * P255 + c, by rw [e]; grind⟩
theorem pow_even {a Q : Int} {t : Nat} (h : ∃ c : Int, Q = a ^ t * a ^ t + c * P255) : ∃ c : Int, Q = a ^ (2 * t + (if false = true then 1 else 0)) + c * P255 := by
 obtain ⟨c, h⟩ := h
 exact ⟨c, by rw [h, ← Int.pow_add]; simp; rw [Nat.two_mul]⟩
theorem pow_odd {a Q S d : Int} {t : Nat} (h : ∃ c : Int, Q = a ^ t * a ^ t + c * P255) (e : S = Q * a + d * P255) : ∃ c : Int, S = a ^ (2 * t + (if true = true then 1 else 0)) + c * P255 := by
 obtain ⟨c, rfl⟩ := h
 refine ⟨c * a + d, ?_⟩
 rw [e]
 simp only [if_true, Int.pow_succ, Nat.two_mul, Int.pow_add]
 grind
theorem pow_last {a e Z : Int} (hz : ∃ c : Int, Z = a ^ topBits e 256 + c * P255) : Z % P255 = a ^ e.toNat % P255 := by
 obtain ⟨d, rfl⟩ := hz
 rw [Int.mul_comm, Int.add_mul_emod_self_left]
 simp [topBits]
set_option maxHeartbeats 1000000 in
set_option maxRecDepth 100000 in
theorem pow_any (a e : Int) (w : World) (ha0 : 0 ≤ a) (ha1 : a < W256) (he0 : 0 ≤ e) (he1 : e < W256) :
  Calls Tryz.prog 137 #[.agg (BA a), .agg (BA e)] w fun r w' => r = .returned (.agg (BA (a ^ e.toNat % P255))) ∧ Below w.heap.size w w' := by
 go_enter Tryz.func137, Tryz.ntmps137
 go_wp2_with (refine ld_bytes rfl _ rfl _ _ rfl (heap_a31 w _ _ _) (BA_size _) ?_)
 refine (load_any a _).mono ?_
 rintro r v0 ⟨rfl, hb0⟩
 have ge := bheap hb0 (heap_a32 w _ _ _) (by simp <;> omega)
 have gz := bheap hb0 (heap_a3 w _ _ _) (by simp <;> omega)
 have hB : Below w.heap.size w v0 := by
  refine Below.trans ?_ (hb0.mono (by simp <;> omega))
  repeat first | exact Below.refl _ _ | refine Below.alloc ?_ (by simp <;> omega) _
 clear hb0
 go_wp2_with (first | (refine st_limbs rfl _ _ rfl _ _ _ _ _ rfl rfl _ _ _ _ (heap_a45 v0 _ _) ?_; intro v1 g1 o1; have g2 := (o1.block _ (by omega)).trans (heap_alloc2_new v0 _ _)) | (refine st_limbs rfl _ _ rfl _ _ _ _ _ rfl rfl _ _ _ _ g2 ?_; intro v2 g3 o2))
 have hs0 : w.heap.size + 1 + 1 < v0.heap.size := heap_lt gz
 have ge2 := (o2.block _ (by omega)).trans ((o1.block _ (by omega)).trans ((Below.heap_alloc _ _ _ (by simp <;> omega)).trans ((Below.heap_alloc _ _ _ (by omega)).trans ge)))
 have gz2 := (o2.block _ (by omega)).trans ((o1.block _ (by omega)).trans ((Below.heap_alloc _ _ _ (by simp <;> omega)).trans ((Below.heap_alloc _ _ _ (by omega)).trans gz)))
 have gb2 := (o2.block _ (by omega)).trans g1
 have hB2 : Below w.heap.size w v2 := Below.trans ((hB.alloc (by omega) _).alloc (by simp <;> omega) _) (Below.trans (Only.below (b := v0.heap.size) (B := w.heap.size) o1 (by omega)) (Only.below (b := v0.heap.size + 1) (B := w.heap.size) o2 (by omega)))
 clear o1 o2 g1 g2 ge gz hB
 generalize v0.heap.size = bs at *
 go_loopw [12] (fun i v => ∃ k : Nat, k ≤ 256 ∧ i = .int .i64 k ∧ ∃ z0 z1 z2 z3, U64 z0 ∧ U64 z1 ∧ U64 z2 ∧ U64 z3 ∧ (∃ c : Int, V4 z0 z1 z2 z3 = a ^ topBits e k + c * P255) ∧
   v.heap[bs + 1]? = some (.cells #[.int .u64 z0, .int .u64 z1, .int .u64 z2, .int .u64 z3] 142 (0, 0)) ∧
   v.heap[bs]? = some (.cells #[.int .u64 (limb a 0), .int .u64 (limb a 8), .int .u64 (limb a 16), .int .u64 (limb a 24)] 142 (0, 0)) ∧
   v.heap[w.heap.size + 1]? = some (.cells (BA e) 22 (0, 0)) ∧ (∃ z : Array Value, v.heap[w.heap.size + 1 + 1]? = some (.cells z 22 (0, 0)) ∧ z.size = 32) ∧ Below w.heap.size w v)
  (fun i _ => 256 - (intOf i).toNat)
 case atStart =>
  exact ⟨0, by omega, rfl, 1, 0, 0, 0, u64_1, u64_0, u64_0, u64_0, ⟨0, pow_start he1⟩, g3, gb2, ge2, ⟨_, gz2, rfl⟩, hB2⟩
 case round =>
  clear g3 gb2 ge2 gz2 hB2
  obtain ⟨k, hk, rfl, z0, z1, z2, z3, hz0, hz1, hz2, hz3, hz, gp, gb, ge, ⟨z, gz, sz⟩, hB⟩ := hrel
  have HZ := Hid.mk hz
  clear hz
  by_cases hlt : k < 256
  ·have hbit := topBits_succ e k hlt he0
   cases hbv : (bits BinOp.and IntKind.u8 (byt e ((255 - k) / 8) / 2 ^ ((255 - k) % 8)) 1 == 1)
   all_goals
    rw [hbv] at hbit
    have HBIT := Hid.mk hbit
    clear hbit
    go_wp2_with (refine ld_limbs rfl _ rfl _ _ _ _ _ rfl gp ?_)
    refine (times_any _ _ _ _ _ _ _ _ _ hz0 hz1 hz2 hz3 hz0 hz1 hz2 hz3).mono ?_
    rintro r v1 ⟨q0, q1, q2, q3, hq0, hq1, hq2, hq3, ⟨c, ec⟩, rfl, hb1⟩
    have EC := Hid.mk (pow_sq HZ.out ec)
    clear ec
    have gp1 := bheap hb1 gp (heap_lt gp)
    have gb1 := bheap hb1 gb (heap_lt gb)
    have ge1 := bheap hb1 ge (heap_lt ge)
    have gz1 := bheap hb1 gz (heap_lt gz)
    have hB1 := Below.trans hB (hb1.mono hB.size)
    clear hb1 gp gb ge gz hB
    go_wp2_with (first | (refine st_limbs rfl _ _ rfl _ _ _ _ _ rfl rfl _ _ _ _ gp1 ?_; intro v2 gp2 o2; have gb2 := (o2.block _ (by omega)).trans gb1; have ge2 := (o2.block _ (by omega)).trans ge1; have gz2 := (o2.block _ (by omega)).trans gz1; have hB2 := Below.trans hB1 (Only.below (b := bs + 1) (B := w.heap.size) o2 (by omega)); have ce := (cell_of_row v2 (w.heap.size + 1) ((255 - k) / 8) _ _ _ ge2).trans (BA_get e _ (by omega))) | (refine ld_limbs rfl _ rfl _ _ _ _ _ rfl gp2 ?_) | (refine ld_limbs rfl _ rfl _ _ _ _ _ rfl gb2 ?_))
   ·exact ⟨⟨k + 1, by omega, by go_num, q0, q1, q2, q3, hq0, hq1, hq2, hq3, by rw [HBIT.out]; exact pow_even EC.out, gp2, gb2, ge2, ⟨z, gz2, sz⟩, hB2⟩, by simp [intOf]; omega⟩
   ·refine (times_any _ _ _ _ _ _ _ _ _ hq0 hq1 hq2 hq3 (limb_u64 _ _) (limb_u64 _ _) (limb_u64 _ _) (limb_u64 _ _)).mono ?_
    rintro r v3 ⟨p0, p1, p2, p3, hp0, hp1, hp2, hp3, ⟨d, ed⟩, rfl, hb3⟩
    rw [limb_V4 ha0 ha1] at ed
    have ED := Hid.mk (pow_odd EC.out ed)
    clear ed
    have gp3 := bheap hb3 gp2 (heap_lt gp2)
    have gb3 := bheap hb3 gb2 (heap_lt gb2)
    have ge3 := bheap hb3 ge2 (heap_lt ge2)
    have gz3 := bheap hb3 gz2 (heap_lt gz2)
    have hB3 := Below.trans hB2 (hb3.mono hB2.size)
    clear hb3 gp2 gb2 ge2 gz2 hB2 ce gp1 gb1 ge1 gz1 hB1
    go_wp2_with (refine st_limbs rfl _ _ rfl _ _ _ _ _ rfl rfl _ _ _ _ gp3 ?_; intro v4 gp4 o4)
    have gb4 := (o4.block _ (by omega)).trans gb3
    have ge4 := (o4.block _ (by omega)).trans ge3
    have gz4 := (o4.block _ (by omega)).trans gz3
    have hB4 := Below.trans hB3 (Only.below (b := bs + 1) (B := w.heap.size) o4 (by omega))
    exact ⟨⟨k + 1, by omega, by go_num, p0, p1, p2, p3, hp0, hp1, hp2, hp3, by rw [HBIT.out]; exact ED.out, gp4, gb4, ge4, ⟨z, gz4, sz⟩, hB4⟩, by simp [intOf]; omega⟩
  ·have hk2 : k = 256 := by omega
   subst hk2
   go_wp2_with (refine ld_limbs rfl _ rfl _ _ _ _ _ rfl gp ?_)
   refine (store_any _ _ _ _ _ hz0 hz1 hz2 hz3).mono ?_
   rintro r v2 ⟨rfl, hb2⟩
   have gz2 := bheap hb2 gz (heap_lt gz)
   have hB2 := Below.trans hB (hb2.mono hB.size)
   clear hb2
   go_wp2_with (refine st_bytes rfl _ _ rfl _ _ rfl rfl _ gz2 sz ?_; intro v3 g3 o3)
   rw [pow_last HZ.out] at g3
   exact bodyPost_ret (v := .agg (BA (a ^ e.toNat % P255))) (results_cell_row rfl _ _ _ _ _ _ _ rfl g3 Tryz.underlying22 rfl (by rw [BA_size]; exact info32)) rfl
    ⟨rfl, Below.trans hB2 (Only.below (b := w.heap.size + 1 + 1) (B := w.heap.size) o3 (by omega))⟩
end Go.Proofs.YthghcjepdhkfdaaGreatDoor.Fld

/-
  Own text. '==' on 32 bytes, the slices of a call's arguments, and what the law's own 'awake' answers: contracts over the translation.
-/
namespace Go.Proofs.YthghcjepdhkfdaaGreatDoor.Fld
open Go.RowKit Go.Proofs
set_option maxRecDepth 100000
theorem eqItems_BA (x y : Int) (d : Nat) (w : World) : ∀ (is : List Nat), (∀ i ∈ is, i < 32) → (Op.eqItems (d + 1) 5 1 (BA x) (BA y) is).run Tryz.prog w = .ok (is.all fun i => byt x i == byt y i) w
 | [], _ => by simp [Op.eqItems]
 | i :: is, h => by
  have hi : i < 32 := h i (by simp)
  have ih := eqItems_BA x y d w is (fun j hj => h j (by simp [hj]))
  have e1 : (part 5 (BA x) (i * 1)).run Tryz.prog w = .ok (.int .u8 (byt x i)) w := by
   simp [part, BA_get, hi, go_sem]
  have e2 : (part 5 (BA y) (i * 1)).run Tryz.prog w = .ok (.int .u8 (byt y i)) w := by
   simp [part, BA_get, hi, go_sem]
  simp only [Op.eqItems, Sem.run_bind, e1, e2, Result.andThen_ok, run_equalIn_int w d 5 .u8 .u8 _ _ Tryz.underlying5, List.all_cons]
  cases hb : (byt x i == byt y i)
  ·simp
  ·simpa using ih
theorem byt_inj {x y : Int} (hx0 : 0 ≤ x) (hx1 : x < W256) (hy0 : 0 ≤ y) (hy1 : y < W256) (h : ∀ i, i < 32 → byt x i = byt y i) : x = y := by
 rw [← limb_V4 hx0 hx1, ← limb_V4 hy0 hy1]
 simp only [← limb_eq]
 simp only [h 0 (by omega), h (0 + 1) (by omega), h (0 + 2) (by omega), h (0 + 3) (by omega), h (0 + 4) (by omega), h (0 + 5) (by omega), h (0 + 6) (by omega), h (0 + 7) (by omega),
  h 8 (by omega), h (8 + 1) (by omega), h (8 + 2) (by omega), h (8 + 3) (by omega), h (8 + 4) (by omega), h (8 + 5) (by omega), h (8 + 6) (by omega), h (8 + 7) (by omega),
  h 16 (by omega), h (16 + 1) (by omega), h (16 + 2) (by omega), h (16 + 3) (by omega), h (16 + 4) (by omega), h (16 + 5) (by omega), h (16 + 6) (by omega), h (16 + 7) (by omega),
  h 24 (by omega), h (24 + 1) (by omega), h (24 + 2) (by omega), h (24 + 3) (by omega), h (24 + 4) (by omega), h (24 + 5) (by omega), h (24 + 6) (by omega), h (24 + 7) (by omega)]
theorem all_beq {x y : Int} (hx0 : 0 ≤ x) (hx1 : x < W256) (hy0 : 0 ≤ y) (hy1 : y < W256) : ((List.range 32).all fun i => byt x i == byt y i) = (x == y) := by
 by_cases h : x = y
 ·subst h; simp
 ·have h1 : (x == y) = false := by simpa using h
  rw [h1]
  cases hb : (List.range 32).all fun i => byt x i == byt y i with
  | false => rfl
  | true =>
   exfalso
   apply h
   refine byt_inj hx0 hx1 hy0 hy1 (fun i hi => ?_)
   have := List.all_eq_true.1 hb i (List.mem_range.2 hi)
   simpa using this
theorem cells5 : Tryz.prog.cellsOf 5 = 1 := by kernel_rfl
theorem info5 : (Tryz.prog.info? 5).isSome = true := by kernel_rfl
theorem equal_bytes (x y : Int) (d : Nat) (w : World) : (Op.equalIn (d + 1 + 1) 22 (.agg (BA x)) (.agg (BA y))).run Tryz.prog w = .ok ((List.range 32).all fun i => byt x i == byt y i) w := by
 obtain ⟨i, hi⟩ := Option.isSome_iff_exists.1 info5
 rw [run_equalIn_array w (d + 1) (BA x) (BA y) Tryz.underlying22 hi, cells5]
 exact eqItems_BA x y d w _ (fun i hi => List.mem_range.1 hi)
theorem eqg24 : Tryz.prog.eqGuardType Tryz.prog.depth 22 = false := by kernel_rfl
theorem run_bs2 (m n : Int) (w : World) : (Instr.buildSlice 75 2 #[(0, .agg (BA m)), (1, .agg (BA n))]).run Tryz.prog w = .ok (.slice (some ⟨w.heap.size, 0, none⟩) 2 2) (w.alloc (.cells (BA m ++ BA n) 22)) := by kernel_rfl
theorem run_bs3 (m n k : Int) (w : World) : (Instr.buildSlice 75 3 #[(0, .agg (BA m)), (1, .agg (BA n)), (2, .agg (BA k))]).run Tryz.prog w = .ok (.slice (some ⟨w.heap.size, 0, none⟩) 3 3) (w.alloc (.cells (BA m ++ BA n ++ BA k) 22)) := by kernel_rfl
theorem rows_of {w : World} {b : Nat} {cs : Array Value} {ns : List Int} (hg : w.heap[b]? = some (.cells cs 22 (0, 0))) (h : ∀ k, k < ns.length → ∀ j v, (BA (ns.getD k 0)).toList[j]? = some v → cs[k * 32 + j]? = some v) : RowsAt w b 0 ns :=
 fun k hk j v hv => by rw [cell_of_row w b _ _ _ _ hg, Nat.zero_add]; exact h k hk j v hv
theorem rows2 {w : World} {b : Nat} {x y : Int} (hg : w.heap[b]? = some (.cells (BA x ++ BA y) 22 (0, 0))) : RowsAt w b 0 [x, y] :=
 rows_of hg (fun k hk j v hv => by
  have hj : j < 32 := by have := (List.getElem?_eq_some_iff.1 hv).1; rwa [Array.length_toList, BA_size] at this
  have hk2 : k = 0 ∨ k = 1 := by simp at hk; omega
  rcases hk2 with rfl | rfl
  ·rw [Array.getElem?_append_left (by rw [BA_size]; omega)]; simpa using hv
  ·rw [Array.getElem?_append_right (by rw [BA_size]; omega), BA_size, show 1 * 32 + j - 32 = j by omega]; simpa using hv)
theorem rows3 {w : World} {b : Nat} {x y z : Int} (hg : w.heap[b]? = some (.cells (BA x ++ BA y ++ BA z) 22 (0, 0))) : RowsAt w b 0 [x, y, z] :=
 rows_of hg (fun k hk j v hv => by
  have hj : j < 32 := by have := (List.getElem?_eq_some_iff.1 hv).1; rwa [Array.length_toList, BA_size] at this
  have hk2 : k = 0 ∨ k = 1 ∨ k = 2 := by simp at hk; omega
  rcases hk2 with rfl | rfl | rfl
  ·rw [Array.getElem?_append_left (by rw [Array.size_append, BA_size, BA_size]; omega), Array.getElem?_append_left (by rw [BA_size]; omega)]; simpa using hv
  ·rw [Array.getElem?_append_left (by rw [Array.size_append, BA_size, BA_size]; omega), Array.getElem?_append_right (by rw [BA_size]; omega), BA_size, show 1 * 32 + j - 32 = j by omega]; simpa using hv
  ·rw [Array.getElem?_append_right (by rw [Array.size_append, BA_size, BA_size]; omega), Array.size_append, BA_size, BA_size, show 2 * 32 + j - (32 + 32) = j by omega]; simpa using hv)
def N256 (x : Int) : Prop := 0 ≤ x ∧ x < W256
theorem N256.mod (x : Int) : N256 (x % P255) := ⟨(mod_lt_P x).1, by have := (mod_lt_P x).2; unfold P255 at this; unfold W256; unfold P255; omega⟩
theorem add2 (x y : Int) (b : Nat) (w : World) (hx : N256 x) (hy : N256 y) (hr : RowsAt w b 0 [x, y]) (hb : b < w.heap.size) : Calls Tryz.prog 166 #[.slice (some ⟨b, 0, none⟩) 2 2] w fun r w' => r = .returned (.agg (BA ((x + y) % P255))) ∧ Below w.heap.size w w' := by
 have := add_walk b 0 2 [x, y] w (by simpa using ⟨hx, hy⟩) hr hb (by simp)
 simpa using this
theorem mul2 (x y : Int) (b : Nat) (w : World) (hx : N256 x) (hy : N256 y) (hr : RowsAt w b 0 [x, y]) (hb : b < w.heap.size) : Calls Tryz.prog 103 #[.slice (some ⟨b, 0, none⟩) 2 2] w fun r w' => r = .returned (.agg (BA ((x * y) % P255))) ∧ Below w.heap.size w w' := by
 have := mul_walk b 0 2 [x, y] w (by simpa using ⟨hx, hy⟩) hr hb (by simp) (by simp) (by simp)
 simpa [lprod] using this
theorem mul3 (x y z : Int) (b : Nat) (w : World) (hx : N256 x) (hy : N256 y) (hz : N256 z) (hr : RowsAt w b 0 [x, y, z]) (hb : b < w.heap.size) : Calls Tryz.prog 103 #[.slice (some ⟨b, 0, none⟩) 3 3] w fun r w' => r = .returned (.agg (BA ((x * (y * z)) % P255))) ∧ Below w.heap.size w w' := by
 have := mul_walk b 0 3 [x, y, z] w (by simpa using ⟨hx, hy, hz⟩) hr hb (by simp) (by simp) (by simp)
 simpa [lprod] using this
end Go.Proofs.YthghcjepdhkfdaaGreatDoor.Fld

/-
  Own text. Bytes of numbers: a byte laid at its place; the highest bit struck.
-/
namespace Go.Proofs.YthghcjepdhkfdaaGreatDoor.Fld
open Go.RowKit Go.Proofs
set_option maxRecDepth 100000
def W255 : Int := 57896044618658097711785492504343953926634992332820282019728792003956564819968
theorem byt_mod (n : Int) (i k : Nat) (h : i < k) : byt (n % 256 ^ k) i = byt n i := by
 unfold byt
 obtain ⟨m, rfl⟩ : ∃ m, k = i + 1 + m := ⟨k - (i + 1), by omega⟩
 have hp : (0 : Int) < 256 ^ i := Int.pow_pos (by decide)
 have e : (256 : Int) ^ (i + 1 + m) = 256 ^ i * (256 * 256 ^ m) := by rw [Int.pow_add, Int.pow_add]; simp [Int.mul_assoc]
 rw [e]
 have hq : n % (256 ^ i * (256 * 256 ^ m)) = n - 256 ^ i * (256 * 256 ^ m) * (n / (256 ^ i * (256 * 256 ^ m))) := by
  have := Int.emod_add_mul_ediv n (256 ^ i * (256 * 256 ^ m)); omega
 rw [hq, show n - 256 ^ i * (256 * 256 ^ m) * (n / (256 ^ i * (256 * 256 ^ m))) = n + 256 ^ i * (-(256 * 256 ^ m * (n / (256 ^ i * (256 * 256 ^ m))))) by
  rw [Int.mul_neg, ← Int.mul_assoc, ← Int.mul_assoc, Int.mul_assoc (256 ^ i) 256 (256 ^ m)]; omega]
 rw [Int.add_mul_ediv_left _ _ (by omega)]
 generalize n / 256 ^ i = A
 rw [Int.mul_assoc]
 generalize 256 ^ m * (n / (256 ^ i * (256 * 256 ^ m))) = B
 omega
theorem BA_ext {cs : Array Value} {n : Int} (hs : cs.size = 32) (h : ∀ i, i < 32 → cs[i]? = some (.int .u8 (byt n i))) : cs = BA n := by
 apply Array.ext_getElem?
 intro i
 by_cases hi : i < 32
 ·rw [h i hi, BA_get _ _ hi]
 ·rw [Array.getElem?_eq_none (by omega), Array.getElem?_eq_none (by rw [BA_size]; omega)]
theorem byt_top {n : Int} (i : Nat) (hi : i < 31) : byt (n % W255) i = byt n i := by
 have e : n % W255 = (n % W255) % 256 ^ 31 + 256 ^ 31 * ((n % W255) / 256 ^ 31) := by have := Int.emod_add_mul_ediv (n % W255) (256 ^ 31); omega
 rw [← byt_mod (n % W255) i 31 (by omega), ← byt_mod n i 31 (by omega)]
 congr 1
 unfold W255
 omega
theorem byt_31 {n : Int} : byt (n % W255) 31 = byt n 31 % 128 := by
 unfold byt W255
 omega
theorem BA_low (n : Int) : (BA n).setIfInBounds 31 (.int .u8 (byt n 31 % 128)) = BA (n % W255) := by
 apply BA_ext
 ·simp [BA_size]
 ·intro i hi
  rw [Array.getElem?_setIfInBounds]
  by_cases h : 31 = i
  ·subst h; simp [BA_size, byt_31]
  ·rw [if_neg h, BA_get _ _ hi, byt_top i (by omega)]
end Go.Proofs.YthghcjepdhkfdaaGreatDoor.Fld

/-
  Own text. Digits to the base 65536: the number of a list of digits, and what the document's answer does to it.
-/
namespace Go.Proofs.YthghcjepdhkfdaaGreatDoor.Fld
open Go.RowKit Go.Proofs
set_option maxRecDepth 100000
def val : List Int → Int
 | [] => 0
 | d :: ds => d + 65536 * val ds
end Go.Proofs.YthghcjepdhkfdaaGreatDoor.Fld

/-
  Own text. What Rest of the document's answer does to a number: folded at 2^256, then at 2^255, then once p less.
-/
namespace Go.Proofs.YthghcjepdhkfdaaGreatDoor.Fld
open Go.RowKit Go.Proofs
set_option maxRecDepth 100000
end Go.Proofs.YthghcjepdhkfdaaGreatDoor.Fld

/-
  Own text. The end of Rest (is it p at least, then p less; the bytes), and the digits of 32 bytes.
-/
namespace Go.Proofs.YthghcjepdhkfdaaGreatDoor.Fld
open Go.RowKit Go.Proofs
set_option maxRecDepth 100000
end Go.Proofs.YthghcjepdhkfdaaGreatDoor.Fld

/-
  Own text. Sums, products and differences, digit by digit.
-/
namespace Go.Proofs.YthghcjepdhkfdaaGreatDoor.Fld
open Go.RowKit Go.Proofs
set_option maxRecDepth 100000
end Go.Proofs.YthghcjepdhkfdaaGreatDoor.Fld

/-
  Own text. Slices of ints that hold digits; what Load and carried of the document's answer give: contracts over the translation.
-/
namespace Go.Proofs.YthghcjepdhkfdaaGreatDoor.Fld
open Go.RowKit Go.Proofs
set_option maxRecDepth 100000
end Go.Proofs.YthghcjepdhkfdaaGreatDoor.Fld

/-
  Own text. What carried of the document's answer gives, for all digits that are not too great: a contract over the translation.
-/
namespace Go.Proofs.YthghcjepdhkfdaaGreatDoor.Fld
open Go.RowKit Go.Proofs
set_option maxRecDepth 100000
end Go.Proofs.YthghcjepdhkfdaaGreatDoor.Fld

/-
  Own text. What atLeast of the document's answer gives: is a number below 2^255 p at least? And laws for the copy and the making of slices in Rest.
-/
namespace Go.Proofs.YthghcjepdhkfdaaGreatDoor.Fld
open Go.RowKit Go.Proofs
set_option maxRecDepth 100000
end Go.Proofs.YthghcjepdhkfdaaGreatDoor.Fld

/-
  Own text. What Rest of the document's answer gives: the rest by p of the number of any digits that are not too great.
-/
namespace Go.Proofs.YthghcjepdhkfdaaGreatDoor.Fld
open Go.RowKit Go.Proofs
set_option maxRecDepth 100000
end Go.Proofs.YthghcjepdhkfdaaGreatDoor.Fld

/-
  Own text. What Canon, Plus and Times of the document's answer give.
-/
namespace Go.Proofs.YthghcjepdhkfdaaGreatDoor.Fld
open Go.RowKit Go.Proofs
set_option maxRecDepth 100000
end Go.Proofs.YthghcjepdhkfdaaGreatDoor.Fld

/-
  Own text. What Sub of the document's answer gives.
-/
namespace Go.Proofs.YthghcjepdhkfdaaGreatDoor.Fld
open Go.RowKit Go.Proofs
set_option maxRecDepth 100000
end Go.Proofs.YthghcjepdhkfdaaGreatDoor.Fld

/-
  Own text. 2^255 - 19 is a prime, and so a power by p - 1 leaves 1: by Fermat's little theorem and Pocklington's criterion, down a chain of eight primes. No program is named here.
-/
namespace Go.Proofs.YthghcjepdhkfdaaGreatDoor.Fld
def IsPrime (p : Nat) : Prop := 2 ≤ p ∧ ∀ d, d ∣ p → d = 1 ∨ d = p
theorem exists_prime_dvd : ∀ (m n : Nat), n ≤ m → 2 ≤ n → ∃ r, IsPrime r ∧ r ∣ n
 | 0, n, h, h2 => by omega
 | m + 1, n, h, h2 => by
  by_cases hp : ∀ d, d ∣ n → d = 1 ∨ d = n
  ·exact ⟨n, ⟨h2, hp⟩, Nat.dvd_refl n⟩
  ·have : ∃ d, d ∣ n ∧ d ≠ 1 ∧ d ≠ n := by
    apply Classical.byContradiction
    intro hn
    apply hp
    intro d hd
    by_cases h1 : d = 1
    ·exact Or.inl h1
    ·by_cases h3 : d = n
     ·exact Or.inr h3
     ·exact absurd ⟨d, hd, h1, h3⟩ hn
   obtain ⟨d, hd, h1, h3⟩ := this
   have hle := Nat.le_of_dvd (by omega) hd
   have hpos : d ≠ 0 := fun h0 => by subst h0; have := Nat.eq_zero_of_zero_dvd hd; omega
   obtain ⟨r, hr, hrd⟩ := exists_prime_dvd m d (by omega) (by omega)
   exact ⟨r, hr, Nat.dvd_trans hrd hd⟩
theorem prime_coprime {p a : Nat} (hp : IsPrime p) (h : ¬ p ∣ a) : Nat.Coprime p a := by
 rcases hp.2 (Nat.gcd p a) (Nat.gcd_dvd_left p a) with h1 | h1
 ·exact h1
 ·exact absurd (h1 ▸ Nat.gcd_dvd_right p a) h
theorem prime_dvd_mul {p a b : Nat} (hp : IsPrime p) (h : p ∣ a * b) : p ∣ a ∨ p ∣ b := by
 by_cases ha : p ∣ a
 ·exact Or.inl ha
 ·exact Or.inr (Nat.Coprime.dvd_of_dvd_mul_left (prime_coprime hp ha) h)
def ch : Nat → Nat → Nat
 | _, 0 => 1
 | 0, _ + 1 => 0
 | n + 1, k + 1 => ch n k + ch n (k + 1)
theorem ch_zero (n : Nat) : ch n 0 = 1 := by cases n <;> rfl
theorem ch_succ (n k : Nat) : ch (n + 1) (k + 1) = ch n k + ch n (k + 1) := rfl
theorem ch_big : ∀ (n k : Nat), n < k → ch n k = 0
 | 0, 0, h => by omega
 | 0, k + 1, _ => rfl
 | n + 1, 0, h => by omega
 | n + 1, k + 1, h => by rw [ch_succ, ch_big n k (by omega), ch_big n (k + 1) (by omega)]
theorem ch_self : ∀ n : Nat, ch n n = 1
 | 0 => rfl
 | n + 1 => by rw [ch_succ, ch_self n, ch_big n (n + 1) (by omega)]
theorem ch_absorb : ∀ (n k : Nat), (k + 1) * ch (n + 1) (k + 1) = (n + 1) * ch n k
 | 0, 0 => rfl
 | 0, k + 1 => by rw [ch_succ, ch_big 0 (k + 1) (by omega), ch_big 0 (k + 2) (by omega)]; simp
 | n + 1, 0 => by
  have h1 := ch_absorb n 0
  rw [ch_zero] at h1
  rw [ch_succ, ch_zero]
  omega
 | n + 1, k + 1 => by
  have h1 := ch_absorb n k
  have h2 := ch_absorb n (k + 1)
  rw [ch_succ (n + 1) (k + 1), Nat.mul_add, h2]
  have h3 : (k + 1 + 1) * ch (n + 1) (k + 1) = (n + 1) * ch n k + ch (n + 1) (k + 1) := by rw [← h1, Nat.add_mul (k + 1) 1, Nat.one_mul]
  rw [h3]
  have h4 : (n + 1 + 1) * ch (n + 1) (k + 1) = (n + 1) * ch (n + 1) (k + 1) + ch (n + 1) (k + 1) := by rw [Nat.add_mul (n + 1) 1, Nat.one_mul]
  rw [h4, ch_succ n k, Nat.mul_add]
  omega
def sumN (f : Nat → Nat) : Nat → Nat
 | 0 => 0
 | m + 1 => sumN f m + f m
theorem pascal_sum (x n : Nat) : ∀ m, sumN (fun k => ch (n + 1) k * x ^ k) (m + 1) = sumN (fun k => ch n k * x ^ k) (m + 1) + x * sumN (fun k => ch n k * x ^ k) m
 | 0 => by simp [sumN, ch_zero]
 | m + 1 => by
  have ih := pascal_sum x n m
  have e1 : sumN (fun k => ch (n + 1) k * x ^ k) (m + 1 + 1) = sumN (fun k => ch (n + 1) k * x ^ k) (m + 1) + ch (n + 1) (m + 1) * x ^ (m + 1) := rfl
  have e2 : sumN (fun k => ch n k * x ^ k) (m + 1 + 1) = sumN (fun k => ch n k * x ^ k) (m + 1) + ch n (m + 1) * x ^ (m + 1) := rfl
  have e3 : sumN (fun k => ch n k * x ^ k) (m + 1) = sumN (fun k => ch n k * x ^ k) m + ch n m * x ^ m := rfl
  rw [e1, ih, e2, ch_succ, Nat.add_mul]
  have e4 : x * sumN (fun k => ch n k * x ^ k) (m + 1) = x * sumN (fun k => ch n k * x ^ k) m + ch n m * x ^ (m + 1) := by
   rw [e3, Nat.mul_add, Nat.pow_succ]
   have : x * (ch n m * x ^ m) = ch n m * (x ^ m * x) := by rw [Nat.mul_comm x, Nat.mul_assoc]
   rw [this]
  rw [e4]
  omega
theorem binom (x : Nat) : ∀ n, sumN (fun k => ch n k * x ^ k) (n + 1) = (x + 1) ^ n
 | 0 => by simp [sumN, ch_zero]
 | n + 1 => by
  rw [pascal_sum, binom x n]
  have e : sumN (fun k => ch n k * x ^ k) (n + 1 + 1) = sumN (fun k => ch n k * x ^ k) (n + 1) + ch n (n + 1) * x ^ (n + 1) := rfl
  have e2 : (x + 1) ^ (n + 1) = (x + 1) ^ n * (x + 1) := Nat.pow_succ (x + 1) n
  rw [e, ch_big n (n + 1) (by omega), binom x n, Nat.zero_mul, Nat.add_zero, e2, Nat.mul_add, Nat.mul_one, Nat.mul_comm x]
  omega
theorem prime_dvd_ch {p k : Nat} (hp : IsPrime p) (h0 : 0 < k) (h1 : k < p) : p ∣ ch p k := by
 obtain ⟨n, rfl⟩ : ∃ n, p = n + 1 := ⟨p - 1, by have := hp.1; omega⟩
 obtain ⟨j, rfl⟩ : ∃ j, k = j + 1 := ⟨k - 1, by omega⟩
 have h := ch_absorb n j
 have hd : n + 1 ∣ (j + 1) * ch (n + 1) (j + 1) := ⟨ch n j, h⟩
 rcases prime_dvd_mul hp hd with h2 | h2
 ·have := Nat.le_of_dvd (by omega) h2; omega
 ·exact h2
theorem low_sum {p : Nat} (hp : IsPrime p) (x : Nat) : ∀ m, m < p → sumN (fun k => ch p k * x ^ k) (m + 1) % p = 1 % p
 | 0, _ => by simp [sumN, ch_zero]
 | m + 1, h => by
  have ih := low_sum hp x m (by omega)
  have e : sumN (fun k => ch p k * x ^ k) (m + 1 + 1) = sumN (fun k => ch p k * x ^ k) (m + 1) + ch p (m + 1) * x ^ (m + 1) := rfl
  have hz : ch p (m + 1) * x ^ (m + 1) % p = 0 := Nat.mod_eq_zero_of_dvd (Nat.dvd_trans (prime_dvd_ch hp (by omega) h) (Nat.dvd_mul_right _ _))
  rw [e, Nat.add_mod, ih, hz, Nat.add_zero, Nat.mod_mod]
theorem freshman {p : Nat} (hp : IsPrime p) (x : Nat) : (x + 1) ^ p % p = (x ^ p + 1) % p := by
 obtain ⟨n, rfl⟩ : ∃ n, p = n + 1 := ⟨p - 1, by have := hp.1; omega⟩
 have e : sumN (fun k => ch (n + 1) k * x ^ k) (n + 1 + 1) = sumN (fun k => ch (n + 1) k * x ^ k) (n + 1) + ch (n + 1) (n + 1) * x ^ (n + 1) := rfl
 rw [← binom, e, ch_self, Nat.one_mul, Nat.add_mod, low_sum hp x n (by omega), ← Nat.add_mod, Nat.add_comm]
theorem fermat1 {p : Nat} (hp : IsPrime p) : ∀ x, x ^ p % p = x % p
 | 0 => by have := hp.1; rw [Nat.zero_pow (by omega)]
 | x + 1 => by rw [freshman hp, Nat.add_mod, fermat1 hp x, ← Nat.add_mod]
theorem mod_eq_one_of_dvd {p y : Nat} (hp : 2 ≤ p) (hy : 1 ≤ y) (h : p ∣ y - 1) : y % p = 1 := by
 obtain ⟨k, hk⟩ := h
 have : y = 1 + p * k := by omega
 rw [this, Nat.add_mul_mod_self_left, Nat.mod_eq_of_lt (by omega)]
theorem fermat {p a : Nat} (hp : IsPrime p) (h : ¬ p ∣ a) : a ^ (p - 1) % p = 1 := by
 have h2 := hp.1
 have ha : 0 < a := Nat.pos_of_ne_zero (fun h0 => by subst h0; exact h (Nat.dvd_zero p))
 have hpos : 1 ≤ a ^ (p - 1) := Nat.pow_pos ha
 apply mod_eq_one_of_dvd h2 hpos
 have h1 := fermat1 hp a
 have e : a ^ p = a * a ^ (p - 1) := by
  obtain ⟨n, rfl⟩ : ∃ n, p = n + 1 := ⟨p - 1, by omega⟩
  rw [Nat.pow_succ, Nat.mul_comm]; rfl
 have hd : p ∣ a * (a ^ (p - 1) - 1) := by
  have h3 : a * (a ^ (p - 1) - 1) = a ^ p - a := by rw [Nat.mul_sub, Nat.mul_one, e]
  rw [h3]
  exact Nat.dvd_of_mod_eq_zero (Nat.sub_mod_eq_zero_of_mod_eq h1)
 rcases prime_dvd_mul hp hd with h4 | h4
 ·exact absurd h4 h
 ·exact h4
theorem pow_mod_one {b r m : Nat} (h : b ^ m % r = 1 % r) (k : Nat) : b ^ (m * k) % r = 1 % r := by
 rw [Nat.pow_mul, Nat.pow_mod, h, ← Nat.pow_mod, Nat.one_pow]
theorem pow_gcd {b r : Nat} (m n : Nat) : b ^ m % r = 1 % r → b ^ n % r = 1 % r → b ^ Nat.gcd m n % r = 1 % r := by
 induction m, n using Nat.gcd.induction with
 | H0 n => intro _ h; simpa using h
 | H1 m n hm ih =>
  intro h1 h2
  rw [Nat.gcd_rec]
  refine ih ?_ h1
  have e : b ^ n = b ^ (m * (n / m)) * b ^ (n % m) := by rw [← Nat.pow_add, Nat.div_add_mod]
  rw [e, Nat.mul_mod, pow_mod_one h1, ← Nat.mul_mod, Nat.one_mul] at h2
  exact h2
theorem pock_one {n q a r : Nat} (hn : 2 ≤ n) (hq : IsPrime q) (hqn : q ∣ n - 1) (h1 : a ^ (n - 1) % n = 1) (hg : Nat.gcd (a ^ ((n - 1) / q) % n + n - 1) n = 1) (hr : IsPrime r) (hrn : r ∣ n) : q ∣ r - 1 := by
 have hr2 := hr.1
 apply Classical.byContradiction
 intro hnd
 have hc : Nat.gcd q (r - 1) = 1 := prime_coprime hq hnd
 have hb1 : (a ^ ((n - 1) / q)) ^ q % r = 1 % r := by
  rw [← Nat.pow_mul, Nat.div_mul_cancel hqn]
  have h2 : a ^ (n - 1) % n % r = 1 % r := by rw [h1]
  rwa [Nat.mod_mod_of_dvd _ hrn] at h2
 have hrb : ¬ r ∣ a ^ ((n - 1) / q) := fun hd => by
  have h3 : r ∣ (a ^ ((n - 1) / q)) ^ q := by
   obtain ⟨k, hk⟩ : ∃ k, q = k + 1 := ⟨q - 1, by have := hq.1; omega⟩
   rw [show (a ^ ((n - 1) / q)) ^ q = (a ^ ((n - 1) / q)) ^ (k + 1) by rw [← hk], Nat.pow_succ]
   exact Nat.dvd_trans hd (Nat.dvd_mul_left _ _)
  rw [Nat.mod_eq_zero_of_dvd h3, Nat.mod_eq_of_lt (show 1 < r by omega)] at hb1
  omega
 have hb2 : (a ^ ((n - 1) / q)) ^ (r - 1) % r = 1 % r := by rw [fermat hr hrb, Nat.mod_eq_of_lt (show 1 < r by omega)]
 have hb3 := pow_gcd q (r - 1) hb1 hb2
 rw [hc, Nat.pow_one, Nat.mod_eq_of_lt (show 1 < r by omega)] at hb3
 have hd : r ∣ a ^ ((n - 1) / q) % n + n - 1 := by
  have h4 : a ^ ((n - 1) / q) % n % r = 1 := by rw [Nat.mod_mod_of_dvd _ hrn]; exact hb3
  obtain ⟨k, hk⟩ := hrn
  have h5 := Nat.div_add_mod (a ^ ((n - 1) / q) % n) r
  rw [h4] at h5
  refine ⟨a ^ ((n - 1) / q) % n / r + k, ?_⟩
  rw [Nat.mul_add, ← hk]
  omega
 have h6 : r ∣ 1 := hg ▸ Nat.dvd_gcd hd hrn
 have := Nat.le_of_dvd (by omega) h6
 omega
theorem prime_of_big {n F : Nat} (hn : 2 ≤ n) (hF : n < F * F) (h : ∀ r, IsPrime r → r ∣ n → F ∣ r - 1) : IsPrime n := by
 have big : ∀ r, IsPrime r → r ∣ n → F < r := fun r hr hd => by
  have h1 := Nat.le_of_dvd (by have := hr.1; omega) (h r hr hd)
  have := hr.1
  omega
 obtain ⟨r, hr, m, hm⟩ := exists_prime_dvd n n (Nat.le_refl n) hn
 have hrF := big r hr ⟨m, hm⟩
 by_cases hm1 : m = 1
 ·rw [hm1, Nat.mul_one] at hm; rw [hm]; exact hr
 ·exfalso
  have hm0 : m ≠ 0 := fun h0 => by rw [h0] at hm; omega
  obtain ⟨s, hs, t, ht⟩ := exists_prime_dvd m m (Nat.le_refl m) (by omega)
  have hsF := big s hs ⟨r * t, by rw [hm, ht, Nat.mul_left_comm]⟩
  have ht0 : t ≠ 0 := fun h0 => by rw [h0] at ht; omega
  have hsm : s ≤ m := by rw [ht]; exact Nat.le_mul_of_pos_right s (by omega)
  have h2 : F * F ≤ r * m := Nat.mul_le_mul (by omega) (by omega)
  omega
theorem pock1 {n q a : Nat} (hn : 2 ≤ n) (hq : IsPrime q) (hqn : q ∣ n - 1) (h1 : a ^ (n - 1) % n = 1) (hg : Nat.gcd (a ^ ((n - 1) / q) % n + n - 1) n = 1) (hF : n < q * q) : IsPrime n :=
 prime_of_big hn hF (fun _ hr hd => pock_one hn hq hqn h1 hg hr hd)
theorem pock2 {n q s a : Nat} (hn : 2 ≤ n) (hq : IsPrime q) (hs : IsPrime s) (hqs : Nat.gcd q s = 1) (hqn : q ∣ n - 1) (hsn : s ∣ n - 1) (h1 : a ^ (n - 1) % n = 1) (hg : Nat.gcd (a ^ ((n - 1) / q) % n + n - 1) n = 1)
  (hg2 : Nat.gcd (a ^ ((n - 1) / s) % n + n - 1) n = 1) (hF : n < (q * s) * (q * s)) : IsPrime n :=
 prime_of_big hn hF (fun _ hr hd => Nat.Coprime.mul_dvd_of_dvd_of_dvd hqs (pock_one hn hq hqn h1 hg hr hd) (pock_one hn hs hsn h1 hg2 hr hd))
def powMod (m : Nat) : Nat → Nat → Nat → Nat
 | 0, _, _ => 1 % m
 | f + 1, a, n => if n = 0 then 1 % m else if n % 2 = 1 then a * powMod m f (a * a % m) (n / 2) % m else powMod m f (a * a % m) (n / 2)
theorem powMod_eq (m : Nat) : ∀ (f a n : Nat), n < 2 ^ f → powMod m f a n = a ^ n % m
 | 0, a, n, h => by simp at h; subst h; simp [powMod]
 | f + 1, a, n, h => by
  have hf : n / 2 < 2 ^ f := by rw [Nat.pow_succ] at h; omega
  have ih := powMod_eq m f (a * a % m) (n / 2) hf
  have e : (a * a % m) ^ (n / 2) % m = a ^ (2 * (n / 2)) % m := by rw [← Nat.pow_mod, ← Nat.pow_two, ← Nat.pow_mul]
  unfold powMod
  by_cases h0 : n = 0
  ·subst h0; simp
  ·rw [if_neg h0, ih, e]
   by_cases h1 : n % 2 = 1
   ·rw [if_pos h1, Nat.mul_mod_mod]
    congr 1
    have hn : n = 2 * (n / 2) + 1 := by omega
    rw [show a ^ n = a ^ (2 * (n / 2) + 1) by rw [← hn], Nat.pow_succ, Nat.mul_comm]
   ·rw [if_neg h1]
    congr 2
    omega
theorem trial {n B : Nat} (hn : 2 ≤ n) (hB : n < B * B) (h : (List.range B).all (fun d => decide (d < 2) || n % d != 0) = true) : IsPrime n := by
 obtain ⟨r, hr, m, hm⟩ := exists_prime_dvd n n (Nat.le_refl n) hn
 have key : ∀ d, 2 ≤ d → d ∣ n → B ≤ d := fun d h2 hd => by
  rcases Nat.lt_or_ge d B with hlt | hge
  ·have h1 := List.all_eq_true.1 h d (List.mem_range.2 hlt)
   rw [Nat.mod_eq_zero_of_dvd hd] at h1
   simp at h1
   omega
  ·exact hge
 by_cases hm1 : m = 1
 ·rw [hm1, Nat.mul_one] at hm; rw [hm]; exact hr
 ·exfalso
  have hm0 : m ≠ 0 := fun h0 => by rw [h0] at hm; omega
  have h1 := key r hr.1 ⟨m, hm⟩
  have h2 := key m (by omega) ⟨r, by rw [hm, Nat.mul_comm]⟩
  have h3 : B * B ≤ r * m := Nat.mul_le_mul h1 h2
  omega
theorem pr127 : IsPrime 127 := trial (B := 12) (by omega) (by omega) (by decide +kernel)
theorem pr103 : IsPrime 103 := trial (B := 11) (by omega) (by omega) (by decide +kernel)
theorem pr991 : IsPrime 991 := trial (B := 32) (by omega) (by omega) (by decide +kernel)
theorem pr4153 : IsPrime 4153 := trial (B := 65) (by omega) (by omega) (by decide +kernel)
theorem pr430751 : IsPrime 430751 := trial (B := 657) (by omega) (by omega) (by decide +kernel)
theorem pr569003 : IsPrime 569003 := trial (B := 755) (by omega) (by omega) (by decide +kernel)
def pockB (n q : Nat) : Bool := decide ((n - 1) % q = 0) && decide (powMod n 260 2 (n - 1) = 1) && decide (Nat.gcd (powMod n 260 2 ((n - 1) / q) + n - 1) n = 1)
theorem pockB_spec {n q : Nat} (hn : n < 2 ^ 260) (h : pockB n q = true) : q ∣ n - 1 ∧ 2 ^ (n - 1) % n = 1 ∧ Nat.gcd (2 ^ ((n - 1) / q) % n + n - 1) n = 1 := by
 simp only [pockB, Bool.and_eq_true, decide_eq_true_eq] at h
 obtain ⟨⟨h1, h2⟩, h3⟩ := h
 rw [powMod_eq n 260 2 (n - 1) (by omega)] at h2
 rw [powMod_eq n 260 2 ((n - 1) / q) (by have := Nat.div_le_self (n - 1) q; omega)] at h3
 exact ⟨Nat.dvd_of_mod_eq_zero h1, h2, h3⟩
theorem pockA {n q : Nat} (hq : IsPrime q) (hn : (decide (2 ≤ n) && decide (n < 2 ^ 260) && decide (n < q * q) && pockB n q) = true) : IsPrime n := by
 simp only [Bool.and_eq_true, decide_eq_true_eq] at hn
 obtain ⟨⟨⟨h2, h3⟩, h4⟩, h5⟩ := hn
 obtain ⟨a, b, c⟩ := pockB_spec h3 h5
 exact pock1 h2 hq a b c h4
theorem pockC {n q s : Nat} (hq : IsPrime q) (hs : IsPrime s) (hn : (decide (2 ≤ n) && decide (n < 2 ^ 260) && decide (n < (q * s) * (q * s)) && decide (Nat.gcd q s = 1) && pockB n q && pockB n s) = true) : IsPrime n := by
 simp only [Bool.and_eq_true, decide_eq_true_eq] at hn
 obtain ⟨⟨⟨⟨⟨h2, h3⟩, h4⟩, h5⟩, h6⟩, h7⟩ := hn
 obtain ⟨a, b, c⟩ := pockB_spec h3 h6
 obtain ⟨a', _, c'⟩ := pockB_spec h3 h7
 exact pock2 h2 hq hs h5 a a' b c c' h4
theorem pr8574133 : IsPrime 8574133 := pockC pr991 pr103 (by decide +kernel)
theorem prA : IsPrime 1919519569386763 := pockC pr8574133 pr127 (by decide +kernel)
theorem prB : IsPrime 2773320623 := pockA pr569003 (by decide +kernel)
theorem prC : IsPrime 72106336199 := pockA prB (by decide +kernel)
theorem prD : IsPrime 75445702479781427272750846543864801 := pockC prA prC (by decide +kernel)
theorem prE : IsPrime 31757755568855353 := pockC pr430751 pr4153 (by decide +kernel)
theorem prF : IsPrime 74058212732561358302231226437062788676166966415465897661863160754340907 := pockC prD prE (by decide +kernel)
theorem prP : IsPrime 57896044618658097711785492504343953926634992332820282019728792003956564819949 := pockA prF (by decide +kernel)
end Go.Proofs.YthghcjepdhkfdaaGreatDoor.Fld

/-
  Own text. Inverses modulo 2^255 - 19; what Inv of package field and Less of the document's answer give: contracts over the translation.
-/
namespace Go.Proofs.YthghcjepdhkfdaaGreatDoor.Fld
open Go.RowKit Go.Proofs
set_option maxRecDepth 100000
theorem emod_pow (a : Int) (n : Nat) : (a % P255) ^ n % P255 = a ^ n % P255 := by
 induction n with
 | zero => simp
 | succ n ih => rw [Int.pow_succ, Int.pow_succ, Int.mul_emod, ih, Int.emod_emod, ← Int.mul_emod]
def invE : Nat := ((-2 : Int) % P255).toNat
theorem invE_two : invE + 2 = 57896044618658097711785492504343953926634992332820282019728792003956564819949 := by decide +kernel
def invN (a : Int) : Int := a ^ invE % P255
theorem invN_256 (a : Int) : N256 (invN a) := N256.mod _
theorem invN_zero {a : Int} (h : a % P255 = 0) : invN a = 0 := by
 unfold invN
 rw [← emod_pow, h]
 obtain ⟨k, hk⟩ : ∃ k, invE = k + 1 := ⟨invE - 1, by have := invE_two; omega⟩
 rw [hk, Int.pow_succ, Int.mul_zero]
 rfl
theorem nat_pow_mod (m n : Nat) : ((m : Int) ^ n) % P255 = ((m ^ n % 57896044618658097711785492504343953926634992332820282019728792003956564819949 : Nat) : Int) := by
 rw [Int.natCast_emod, Int.natCast_pow]
 rfl
theorem fermat_int {a : Int} (h : a % P255 ≠ 0) : a ^ (invE + 1) % P255 = 1 := by
 have hr := mod_lt_P a
 rw [← emod_pow]
 obtain ⟨m, hm⟩ : ∃ m : Nat, a % P255 = (m : Int) := ⟨(a % P255).toNat, by omega⟩
 rw [hm] at h hr ⊢
 have hnd : ¬ 57896044618658097711785492504343953926634992332820282019728792003956564819949 ∣ m := fun hd => by
  have := Nat.le_of_dvd (by omega) hd
  unfold P255 at hr
  omega
 have hf := fermat prP hnd
 rw [show 57896044618658097711785492504343953926634992332820282019728792003956564819949 - 1 = invE + 1 by have := invE_two; omega] at hf
 rw [nat_pow_mod, hf]
 rfl
theorem inv_mul {a : Int} (h : a % P255 ≠ 0) : (a * invN a) % P255 = 1 := by
 have := fermat_int h
 unfold invN
 rw [Int.mul_emod, Int.emod_emod, ← Int.mul_emod, Int.mul_comm, ← Int.pow_succ]
 exact this
def invF (i : Nat) : Nat := [1].getD i 0
def invT (i : Nat) : Bool := i != 3
set_option maxHeartbeats 1000000 in
theorem inv_any (a : Int) (w : World) (hP : PrimeAt w) (ha : N256 a) :
  Calls Tryz.prog 104 #[.agg (BA a)] w fun e w' => e = .returned (.agg (BA (invN a))) ∧ Below w.heap.size w w' := by
 have hp0 := primeAt_pos hP
 have HP := Hid.mk hP
 clear hP
 go_enter Tryz.func104, Tryz.ntmps104
 go_wp2
 refine wp_gen (fun v => v.heap[w.heap.size]? = some (.cells (BA a) 22 (0, 0)) ∧
  (∃ z : Array Value, v.heap[w.heap.size + 1]? = some (.cells z 22 (0, 0)) ∧ z.size = 32) ∧ Below w.heap.size w v)
  ⟨heap_alloc2_old w _ _, ⟨_, heap_alloc2_new w _ _, rfl⟩, by repeat first | exact Below.refl _ _ | refine Below.alloc ?_ (by simp <;> omega) _⟩ ?_
 rintro v0 ⟨ga, ⟨z, gz, sz⟩, hB⟩
 refine wp_region_mixS (fun v => v.heap[w.heap.size]? = some (.cells (BA a) 22 (0, 0)))
  invF invT [0, 1, 2, 3] rfl (by kernel_rfl) (fun _ _ d _ _ h => by cases d <;> exact h) ga (fun HS => ?_)
 apply mix_look rfl rfl rfl HS
 focus exact fun v h => look_bytes rfl _ _ rfl (BA_size _) h
 simp only [Act.put, List.setIfInBounds_toArray, List.set_cons_zero, List.set_cons_succ]
 clear HS ga
 refine mix_act rfl rfl rfl ?_
 intro K hK
 go_simp
 refine (of_any (-2) _ (primeAt_below HP.out (Below.drew hB) hp0) (by omega) (by omega)).mono ?_
 rintro e v1 ⟨rfl, hb⟩
 have gz := bheap hb gz (heap_lt gz)
 have hB := Below.trans (Below.drew hB) (hb.mono hB.size)
 refine hK _ _ (fun _ h => bheap hb h (heap_lt h)) ?_
 clear hK K hb
 have NE := N256.mod (-2)
 refine mix_act rfl rfl rfl ?_
 intro K hK
 go_simp
 refine (pow_any a _ _ ha.1 ha.2 NE.1 NE.2).mono ?_
 rintro e v2 ⟨rfl, hb⟩
 have gz := bheap hb gz (heap_lt gz)
 have hB := Below.trans hB (hb.mono hB.size)
 refine hK _ _ (fun _ h => bheap hb h (heap_lt h)) ?_
 clear hK K hb
 refine mix_act rfl rfl rfl ?_
 intro K hK
 refine act_bytes _ _ rfl _ _ rfl rfl _ gz sz ?_
 intro v7 g7 o7
 refine hK _ _ (fun h => by cases h) ?_
 clear hK K
 refine mix_done ?_
 go_wp2
 exact bodyPost_ret (v := .agg (BA (invN a))) (results_cell_row rfl _ _ _ _ _ _ _ rfl g7 Tryz.underlying22 rfl (by rw [BA_size]; exact info32)) rfl
  ⟨rfl, Below.trans hB (Only.below (b := w.heap.size + 1) (B := w.heap.size) o7 (by omega))⟩
end Go.Proofs.YthghcjepdhkfdaaGreatDoor.Fld

/-
  Own text. What Less of the document's answer gives: p - 2, as 32 bytes.
-/
namespace Go.Proofs.YthghcjepdhkfdaaGreatDoor.Fld
open Go.RowKit Go.Proofs
set_option maxRecDepth 100000
end Go.Proofs.YthghcjepdhkfdaaGreatDoor.Fld

/-
  Own text. What Pow and Inv of the document's answer give.
-/
namespace Go.Proofs.YthghcjepdhkfdaaGreatDoor.Fld
open Go.RowKit Go.Proofs
set_option maxRecDepth 100000
theorem heap_a4r (w : World) (A B C D : Obj) : ((((w.alloc A).alloc B).alloc C).alloc D).heap[w.heap.size + 1 + 1 + 1]? = some D := by
 have h := heap_alloc_new (((w.alloc A).alloc B).alloc C) D
 have e : (((w.alloc A).alloc B).alloc C).heap.size = w.heap.size + 1 + 1 + 1 := by simp
 rwa [e] at h
theorem st_bytesS {ops : Array Oper} {rest : List Oper} {d : Option Tmp} {x y : Operand} {t : TypeId} {ps : String} {af : Array Edge} {a : Act} {w : World} {Q : Exit → Act → World → Prop} {g : Nat} {n : Int} {old : Array Value}
  (hx : a.eval x = .pointer (some ⟨g, 0, none⟩)) (hy : a.eval y = .agg (BA n)) (hg : w.heap[g]? = some (.cells old 22 (0, 0))) (hold : old.size = 32)
  (h : ∀ w2, w2.heap[g]? = some (.cells (BA n) 22 (0, 0)) → Only g w w2 → wpList Tryz.prog ops Q rest (a.put d undef) w2) : wpList Tryz.prog ops Q ({ dst := d, op := .store 22 x y, type := t, pos := ps, after := af, guard := none } :: rest) a w :=
 st_bytes rfl x y rfl g n hx hy old hg hold h
end Go.Proofs.YthghcjepdhkfdaaGreatDoor.Fld

/-
  Own text. Calls, picks and copies in a region that leaves its order open; what is known of its slots; what Same of package field answers.
-/
namespace Go.Proofs.YthghcjepdhkfdaaGreatDoor.Fld
open Go.RowKit Go.Proofs
set_option maxRecDepth 100000
theorem enterAdd (args : Array Value) (w : World) : (callFunc 166 args).run Tryz.prog w = .ok (.enter 166 args) w := by kernel_rfl
theorem enterMul (args : Array Value) (w : World) : (callFunc 103 args).run Tryz.prog w = .ok (.enter 103 args) w := by kernel_rfl
theorem enterSub (args : Array Value) (w : World) : (callFunc 167 args).run Tryz.prog w = .ok (.enter 167 args) w := by kernel_rfl
theorem exec_call {f : FuncId} (hc : ∀ args w, (callFunc f args).run Tryz.prog w = .ok (.enter f args) w) (xs : Array Operand) (ts : Array TypeId) {o : Oper} {a : Act} {w : World} (ho : o.op = .call { callee := .value (.func f), args := xs, argTypes := ts }) :
  (execOp a.eval o).run Tryz.prog w = .ok (.enter f (xs.map a.eval)) w := by
 unfold execOp
 rw [ho]
 simp only [resolve, Sem.run_bind]
 generalize xs.map a.eval = args
 simp [Act.eval, Deferred.ofValue, invoke, go_sem, hc]
theorem call1 {f : FuncId} (hc : ∀ args w, (callFunc f args).run Tryz.prog w = .ok (.enter f args) w) (x : Operand) (ts : Array TypeId) {o : Oper} {a : Act} {w : World} {K : Act → World → Prop} {Q : Exit → Act → World → Prop}
  (ho : o.op = .call { callee := .value (.func f), args := #[x], argTypes := ts }) (V v : Value) (hx : a.eval x = V) (hC : Calls Tryz.prog f #[V] w fun r w' => r = .returned v ∧ Below w.heap.size w w')
  (h : ∀ w', Below w.heap.size w w' → K (a.put o.dst v) w') : o.wp Tryz.prog a w K Q := by
 refine wp_enter (exec_call hc #[x] ts ho) ?_
 simp only [List.map_toArray, List.map_cons, List.map_nil, hx]
 exact hC.mono (fun e w' ⟨he, hb⟩ => ⟨v, he, h w' hb⟩)
theorem call2 {f : FuncId} (hc : ∀ args w, (callFunc f args).run Tryz.prog w = .ok (.enter f args) w) (x y : Operand) (ts : Array TypeId) {o : Oper} {a : Act} {w : World} {K : Act → World → Prop} {Q : Exit → Act → World → Prop}
  (ho : o.op = .call { callee := .value (.func f), args := #[x, y], argTypes := ts }) (V V2 v : Value) (hx : a.eval x = V) (hy : a.eval y = V2) (hC : Calls Tryz.prog f #[V, V2] w fun r w' => r = .returned v ∧ Below w.heap.size w w')
  (h : ∀ w', Below w.heap.size w w' → K (a.put o.dst v) w') : o.wp Tryz.prog a w K Q := by
 refine wp_enter (exec_call hc #[x, y] ts ho) ?_
 simp only [List.map_toArray, List.map_cons, List.map_nil, hx, hy]
 exact hC.mono (fun e w' ⟨he, hb⟩ => ⟨v, he, h w' hb⟩)
def known (L : List (Option (List Int) × Value)) (i : Nat) (v : Value) (w : World) : Prop :=
 match (L.getD i (none, undef)).1 with
 | some ns => ∃ b, v = .slice (some ⟨b, 0, none⟩) ns.length ns.length ∧ RowsAt w b 0 ns ∧ b < w.heap.size
 | none => v = (L.getD i (none, undef)).2
theorem exec_move {a : Act} {o : Oper} {w : World} (x : Operand) (ho : o.op = .move x) : (execOp a.eval o).run Tryz.prog w = .ok (.value (a.eval x)) w := by unfold execOp; simp only [ho, Sem.run_pure]
theorem exec_assign {a : Act} {o : Oper} {w : World} (x : Operand) (ho : o.op = .assign x) : (execOp a.eval o).run Tryz.prog w = .ok (.value (a.eval x)) w := by unfold execOp; simp only [ho, Sem.run_pure]
theorem run_build0 (w : World) : (Instr.build 22 #[]).run Tryz.prog w = .ok (.agg (BA 0)) w := by kernel_rfl
theorem exec_build0 {a : Act} {o : Oper} {w : World} (ho : o.op = .build 22 #[]) : (execOp a.eval o).run Tryz.prog w = .ok (.value (.agg (BA 0))) w := by
 unfold execOp
 simp only [ho, List.map_toArray, List.map_nil, Sem.run_bind, run_build0, Result.andThen_ok, Sem.run_pure]
end Go.Proofs.YthghcjepdhkfdaaGreatDoor.Fld

/-
  Own text. The same as in Inv, where the region's last operation waits for all the others and stores: it is walked behind them. No program is named here.
-/
namespace Go.Proofs.YthghcjepdhkfdaaGreatDoor.Fld
open Go
section
variable {P : Program} {ops : Array Oper} {Q : Exit → Act → World → Prop}
end
end Go.Proofs.YthghcjepdhkfdaaGreatDoor.Fld

/-
  Own text. Four elements in a row, as the document's answer for layer 2 keeps them: laws for the row; what square and turned give.
-/
namespace Go.Proofs.YthghcjepdhkfdaaGreatDoor.Fld
open Go.RowKit Go.Proofs
set_option maxRecDepth 100000
def Q4 (x z v w : Int) : Array Value := BA x ++ BA z ++ BA v ++ BA w
theorem Q4_size (x z v w : Int) : (Q4 x z v w).size = 128 := by simp [Q4, BA_size]
theorem Q4_one (x z v w : Int) : (Q4 x z v w).all (·.oneCell') = true := by
 simp only [Q4, Array.all_append, BA_one, Bool.and_self]
theorem Q4_0 (x z v w : Int) (j : Nat) (hj : j < 32) : (Q4 x z v w)[j]? = (BA x)[j]? := by
 unfold Q4
 rw [Array.getElem?_append_left (by simp [BA_size]; omega), Array.getElem?_append_left (by simp [BA_size]; omega), Array.getElem?_append_left (by simp [BA_size]; omega)]
theorem Q4_1 (x z v w : Int) (j : Nat) (hj : j < 32) : (Q4 x z v w)[32 + j]? = (BA z)[j]? := by
 unfold Q4
 rw [Array.getElem?_append_left (by simp [BA_size]; omega), Array.getElem?_append_left (by simp [BA_size]; omega), Array.getElem?_append_right (by simp [BA_size])]
 simp [BA_size]
theorem Q4_2 (x z v w : Int) (j : Nat) (hj : j < 32) : (Q4 x z v w)[64 + j]? = (BA v)[j]? := by
 unfold Q4
 rw [Array.getElem?_append_left (by simp [BA_size]; omega), Array.getElem?_append_right (by simp [BA_size])]
 simp [BA_size]
theorem Q4_3 (x z v w : Int) (j : Nat) (_hj : j < 32) : (Q4 x z v w)[96 + j]? = (BA w)[j]? := by
 unfold Q4
 rw [Array.getElem?_append_right (by simp [BA_size])]
 simp [BA_size]
def tb (b : Bool) (p q : Int) : Int := if b then q else p
end Go.Proofs.YthghcjepdhkfdaaGreatDoor.Fld

/-
  Own text. The curve x^2 + y^2 = 1 + d x^2 y^2 over a field of n elements, d no square: its points are a group.
-/
namespace Go.Proofs.YthghcjepdhkfdaaGreatDoor.Fld
section
variable {n : Nat} [NeZero n]
structure Fd (n : Nat) [NeZero n] where
 inv : Fin n → Fin n
 mul_inv : ∀ a, a ≠ 0 → a * inv a = 1
 two : (2 : Fin n) ≠ 0
 inv0 : inv 0 = 0
variable (K : Fd n)
include K in
theorem Fd.one : (1 : Fin n) ≠ 0 := fun h => K.two (by grind)
include K in
theorem Fd.mul_ne {a b : Fin n} (ha : a ≠ 0) (hb : b ≠ 0) : a * b ≠ 0 := fun h => by
 have h1 := K.mul_inv b hb
 exact ha (by grind)
include K in
theorem Fd.zero_or {a b : Fin n} (h : a * b = 0) : a = 0 ∨ b = 0 := by
 by_cases ha : a = 0
 ·exact .inl ha
 ·by_cases hb : b = 0
  ·exact .inr hb
  ·exact absurd h (K.mul_ne ha hb)
include K in
theorem Fd.cancel {a b c : Fin n} (hc : c ≠ 0) (h : a * c = b * c) : a = b := by
 have h1 := K.mul_inv c hc
 grind
theorem sq_div {p q i d : Fin n} (k : p * p = d * q * q) (hi : q * i = 1) : (p * i) * (p * i) = d := by grind
def On (d x y : Fin n) : Prop := x * x + y * y = 1 + d * x * x * y * y
def Nsq (d : Fin n) : Prop := ∀ t : Fin n, t * t ≠ d
include K in
theorem complete {d x1 y1 x2 y2 : Fin n} (hd : Nsq d) (h1 : On d x1 y1) (h2 : On d x2 y2) (e : Fin n) (he : e * e = 1) : d * x1 * x2 * y1 * y2 ≠ e := by
 intro h
 unfold On at h1 h2
 have k1 : (x1 + e * y1) * (x1 + e * y1) = d * (x1 * y1 * (x2 + y2)) * (x1 * y1 * (x2 + y2)) := by grind
 have k2 : (x1 - e * y1) * (x1 - e * y1) = d * (x1 * y1 * (x2 - y2)) * (x1 * y1 * (x2 - y2)) := by grind
 have hz : x1 * y1 ≠ 0 := fun hz => K.one (by grind)
 have hzz : x2 ≠ 0 := fun hz => K.one (by grind)
 by_cases hs : x2 + y2 = 0
 ·have hm : x2 - y2 ≠ 0 := fun hm => by
   have : 2 * x2 = 0 := by grind
   rcases K.zero_or this with h | h
   ·exact K.two h
   ·exact hzz h
  have hq := K.mul_ne hz hm
  have hi := K.mul_inv _ hq
  exact hd ((x1 - e * y1) * K.inv (x1 * y1 * (x2 - y2))) (sq_div k2 hi)
 ·have hq := K.mul_ne hz hs
  have hi := K.mul_inv _ hq
  exact hd ((x1 + e * y1) * K.inv (x1 * y1 * (x2 + y2))) (sq_div k1 hi)
include K in
theorem den_plus {d x1 y1 x2 y2 : Fin n} (hd : Nsq d) (h1 : On d x1 y1) (h2 : On d x2 y2) : 1 + d * x1 * x2 * y1 * y2 ≠ 0 := fun h =>
 complete K hd h1 h2 (-1) (by grind) (by grind)
include K in
theorem den_minus {d x1 y1 x2 y2 : Fin n} (hd : Nsq d) (h1 : On d x1 y1) (h2 : On d x2 y2) : 1 - d * x1 * x2 * y1 * y2 ≠ 0 := fun h =>
 complete K hd h1 h2 1 (by grind) (by grind)
structure Pt (d : Fin n) where
 x : Fin n
 y : Fin n
 on : On d x y
theorem Pt.eq {d : Fin n} {P Q : Pt d} (hx : P.x = Q.x) (hy : P.y = Q.y) : P = Q := by
 cases P; cases Q; simp only at hx hy; subst hx hy; rfl
structure IsSum {d : Fin n} (P Q R : Pt d) : Prop where
 x : R.x * (1 + d * P.x * Q.x * P.y * Q.y) = P.x * Q.y + P.y * Q.x
 y : R.y * (1 - d * P.x * Q.x * P.y * Q.y) = P.y * Q.y - P.x * Q.x
theorem sum_on {d x1 y1 x2 y2 ip im : Fin n} (h1 : On d x1 y1) (h2 : On d x2 y2) (hp : (1 + d * x1 * x2 * y1 * y2) * ip = 1) (hm : (1 - d * x1 * x2 * y1 * y2) * im = 1) :
  On d ((x1 * y2 + y1 * x2) * ip) ((y1 * y2 - x1 * x2) * im) := by
 unfold On at *
 have key : (x1 * y2 + y1 * x2) * (x1 * y2 + y1 * x2) * ((1 - d * x1 * x2 * y1 * y2) * (1 - d * x1 * x2 * y1 * y2)) + (y1 * y2 - x1 * x2) * (y1 * y2 - x1 * x2) * ((1 + d * x1 * x2 * y1 * y2) * (1 + d * x1 * x2 * y1 * y2))
   = (1 - d * x1 * x2 * y1 * y2) * (1 - d * x1 * x2 * y1 * y2) * ((1 + d * x1 * x2 * y1 * y2) * (1 + d * x1 * x2 * y1 * y2)) + d * (x1 * y2 + y1 * x2) * (x1 * y2 + y1 * x2) * (y1 * y2 - x1 * x2) * (y1 * y2 - x1 * x2) := by grind
 generalize x1 * y2 + y1 * x2 = a at *
 generalize y1 * y2 - x1 * x2 = b at *
 generalize 1 + d * x1 * x2 * y1 * y2 = p at *
 generalize 1 - d * x1 * x2 * y1 * y2 = m at *
 have e1 : (p * ip) * (p * ip) * ((m * im) * (m * im)) = 1 := by rw [hp, hm]; grind
 grind
def Pt.add {d : Fin n} (hd : Nsq d) (P Q : Pt d) : Pt d :=
 ⟨(P.x * Q.y + P.y * Q.x) * K.inv (1 + d * P.x * Q.x * P.y * Q.y), (P.y * Q.y - P.x * Q.x) * K.inv (1 - d * P.x * Q.x * P.y * Q.y),
  sum_on P.on Q.on (K.mul_inv _ (den_plus K hd P.on Q.on)) (K.mul_inv _ (den_minus K hd P.on Q.on))⟩
theorem Pt.add_is {d : Fin n} (hd : Nsq d) (P Q : Pt d) : IsSum P Q (Pt.add K hd P Q) := by
 have hp := K.mul_inv _ (den_plus K hd P.on Q.on)
 have hm := K.mul_inv _ (den_minus K hd P.on Q.on)
 refine ⟨?_, ?_⟩
 ·simp only [Pt.add]
  generalize K.inv (1 + d * P.x * Q.x * P.y * Q.y) = ip at *
  generalize 1 + d * P.x * Q.x * P.y * Q.y = p at *
  grind
 ·simp only [Pt.add]
  generalize K.inv (1 - d * P.x * Q.x * P.y * Q.y) = ip at *
  generalize 1 - d * P.x * Q.x * P.y * Q.y = p at *
  grind
include K in
theorem IsSum.unique {d : Fin n} (hd : Nsq d) {P Q R S : Pt d} (h1 : IsSum P Q R) (h2 : IsSum P Q S) : R = S :=
 Pt.eq (K.cancel (den_plus K hd P.on Q.on) (h1.x.trans h2.x.symm)) (K.cancel (den_minus K hd P.on Q.on) (h1.y.trans h2.y.symm))
def Pt.zero (d : Fin n) : Pt d := ⟨0, 1, by unfold On; grind⟩
def Pt.neg {d : Fin n} (P : Pt d) : Pt d := ⟨-P.x, P.y, by have := P.on; unfold On at *; grind⟩
theorem Pt.add_zero {d : Fin n} (hd : Nsq d) (P : Pt d) : Pt.add K hd P (Pt.zero d) = P :=
 (Pt.add_is K hd P (Pt.zero d)).unique K hd ⟨by simp only [Pt.zero]; grind, by simp only [Pt.zero]; grind⟩
theorem Pt.add_comm {d : Fin n} (hd : Nsq d) (P Q : Pt d) : Pt.add K hd P Q = Pt.add K hd Q P := by
 have h := Pt.add_is K hd Q P
 exact (Pt.add_is K hd P Q).unique K hd ⟨by have := h.x; grind, by have := h.y; grind⟩
theorem Pt.zero_add {d : Fin n} (hd : Nsq d) (P : Pt d) : Pt.add K hd (Pt.zero d) P = P := by rw [Pt.add_comm, Pt.add_zero]
theorem Pt.add_neg {d : Fin n} (hd : Nsq d) (P : Pt d) : Pt.add K hd P P.neg = Pt.zero d :=
 (Pt.add_is K hd P P.neg).unique K hd ⟨by simp only [Pt.zero, Pt.neg]; grind, by have := P.on; unfold On at this; simp only [Pt.zero, Pt.neg]; grind⟩
theorem assoc_x {d x1 y1 x2 y2 x3 y3 : Fin n} (h1 : On d x1 y1) (h2 : On d x2 y2) (h3 : On d x3 y3) :
  ((x1*y2+y1*x2)*(1 - d*x1*x2*y1*y2)*y3 + (y1*y2-x1*x2)*(1 + d*x1*x2*y1*y2)*x3) * ((1 - d*x2*x3*y2*y3)*(1 + d*x2*x3*y2*y3) + d*(x2*y3+y2*x3)*(y2*y3-x2*x3)*x1*y1)
  = (x1*(y2*y3-x2*x3)*(1 + d*x2*x3*y2*y3) + y1*(x2*y3+y2*x3)*(1 - d*x2*x3*y2*y3)) * ((1 - d*x1*x2*y1*y2)*(1 + d*x1*x2*y1*y2) + d*(x1*y2+y1*x2)*(y1*y2-x1*x2)*x3*y3) := by
 unfold On at *
 grind
theorem assoc_y {d x1 y1 x2 y2 x3 y3 : Fin n} (h1 : On d x1 y1) (h2 : On d x2 y2) (h3 : On d x3 y3) :
  ((y1*y2-x1*x2)*(1 + d*x1*x2*y1*y2)*y3 - (x1*y2+y1*x2)*(1 - d*x1*x2*y1*y2)*x3) * ((1 - d*x2*x3*y2*y3)*(1 + d*x2*x3*y2*y3) - d*(x2*y3+y2*x3)*(y2*y3-x2*x3)*x1*y1)
  = (y1*(y2*y3-x2*x3)*(1 + d*x2*x3*y2*y3) - x1*(x2*y3+y2*x3)*(1 - d*x2*x3*y2*y3)) * ((1 - d*x1*x2*y1*y2)*(1 + d*x1*x2*y1*y2) - d*(x1*y2+y1*x2)*(y1*y2-x1*x2)*x3*y3) := by
 unfold On at *
 grind
end
end Go.Proofs.YthghcjepdhkfdaaGreatDoor.Fld

/-
  Own text. The group's laws; multiples of a point; what the second coordinate of a sum, of a difference and of a double is.
-/
namespace Go.Proofs.YthghcjepdhkfdaaGreatDoor.Fld
section
variable {n : Nat} [NeZero n] (K : Fd n)
theorem frac_x {d p m a b sx sy c e X : Fin n} (h1 : sx * p = a) (h2 : sy * m = b) (h : X * (1 + d * sx * c * sy * e) = sx * e + sy * c) : X * (m * p + d * a * b * c * e) = a * m * e + b * p * c := by grind
theorem frac_y {d p m a b sx sy c e Y : Fin n} (h1 : sx * p = a) (h2 : sy * m = b) (h : Y * (1 - d * sx * c * sy * e) = sy * e - sx * c) : Y * (m * p - d * a * b * c * e) = b * p * e - a * m * c := by grind
theorem den_x {d p m a b sx sy c e : Fin n} (h1 : sx * p = a) (h2 : sy * m = b) : m * p + d * a * b * c * e = m * p * (1 + d * sx * c * sy * e) := by grind
theorem den_y {d p m a b sx sy c e : Fin n} (h1 : sx * p = a) (h2 : sy * m = b) : m * p - d * a * b * c * e = m * p * (1 - d * sx * c * sy * e) := by grind
theorem swp_x {d X p t q s : Fin n} (h : X * (1 + d * p * t * q * s) = p * s + q * t) : X * (1 + d * t * p * s * q) = t * q + s * p := by grind
theorem swp_y {d X p t q s : Fin n} (h : X * (1 - d * p * t * q * s) = q * s - p * t) : X * (1 - d * t * p * s * q) = s * q - t * p := by grind
theorem swp_p {d p t q s : Fin n} (h : 1 + d * p * t * q * s ≠ 0) : 1 + d * t * p * s * q ≠ 0 := fun e => h (by grind)
theorem swp_m {d p t q s : Fin n} (h : 1 - d * p * t * q * s ≠ 0) : 1 - d * t * p * s * q ≠ 0 := fun e => h (by grind)
include K in
theorem cross {X Y D1 D2 N1 N2 : Fin n} (h1 : X * D1 = N1) (h2 : Y * D2 = N2) (hd1 : D1 ≠ 0) (hd2 : D2 ≠ 0) (h : N1 * D2 = N2 * D1) : X = Y :=
 K.cancel (K.mul_ne hd1 hd2) (by grind)
theorem Pt.add_assoc {d : Fin n} (hd : Nsq d) (P Q R : Pt d) : Pt.add K hd (Pt.add K hd P Q) R = Pt.add K hd P (Pt.add K hd Q R) := by
 have hS := Pt.add_is K hd P Q
 have hT := Pt.add_is K hd Q R
 have hU := Pt.add_is K hd (Pt.add K hd P Q) R
 have hV := Pt.add_is K hd P (Pt.add K hd Q R)
 have p1 := den_plus K hd P.on Q.on
 have m1 := den_minus K hd P.on Q.on
 have p2 := den_plus K hd Q.on R.on
 have m2 := den_minus K hd Q.on R.on
 have pu := den_plus K hd (Pt.add K hd P Q).on R.on
 have mu := den_minus K hd (Pt.add K hd P Q).on R.on
 have pv := den_plus K hd P.on (Pt.add K hd Q R).on
 have mv := den_minus K hd P.on (Pt.add K hd Q R).on
 have ax := assoc_x P.on Q.on R.on
 have ay := assoc_y P.on Q.on R.on
 apply Pt.eq
 ·refine cross K (frac_x hS.x hS.y hU.x) (frac_x (d := d) (c := P.x) (e := P.y) hT.x hT.y (swp_x hV.x)) ?_ ?_ ?_
  ·rw [den_x hS.x hS.y]; exact K.mul_ne (K.mul_ne m1 p1) pu
  ·rw [den_x hT.x hT.y]
   exact K.mul_ne (K.mul_ne m2 p2) (swp_p pv)
  ·clear hS hT hU hV p1 m1 p2 m2 pu mu pv mv ay
   grind
 ·refine cross K (frac_y hS.x hS.y hU.y) (frac_y (d := d) (c := P.x) (e := P.y) hT.x hT.y (swp_y hV.y)) ?_ ?_ ?_
  ·rw [den_y hS.x hS.y]; exact K.mul_ne (K.mul_ne m1 p1) mu
  ·rw [den_y hT.x hT.y]
   exact K.mul_ne (K.mul_ne m2 p2) (swp_m mv)
  ·clear hS hT hU hV p1 m1 p2 m2 pu mu pv mv ax
   grind
def Pt.mul {d : Fin n} (hd : Nsq d) (k : Nat) (P : Pt d) : Pt d := match k with
 | 0 => Pt.zero d
 | k + 1 => Pt.add K hd (Pt.mul hd k P) P
theorem Pt.mul_add {d : Fin n} (hd : Nsq d) (j k : Nat) (P : Pt d) : Pt.mul K hd (j + k) P = Pt.add K hd (Pt.mul K hd j P) (Pt.mul K hd k P) := by
 induction k with
 | zero => simp only [Nat.add_zero, Pt.mul, Pt.add_zero]
 | succ k ih => rw [← Nat.add_assoc]; simp only [Pt.mul]; rw [ih, Pt.add_assoc]
theorem Pt.mul_one {d : Fin n} (hd : Nsq d) (P : Pt d) : Pt.mul K hd 1 P = P := by simp only [Pt.mul, Pt.zero_add]
theorem Pt.mul_zero {d : Fin n} (hd : Nsq d) (k : Nat) : Pt.mul K hd k (Pt.zero d) = Pt.zero d := by
 induction k with
 | zero => rfl
 | succ k ih => simp only [Pt.mul, ih, Pt.add_zero]
theorem Pt.mul_mul {d : Fin n} (hd : Nsq d) (j k : Nat) (P : Pt d) : Pt.mul K hd j (Pt.mul K hd k P) = Pt.mul K hd (j * k) P := by
 induction j with
 | zero => simp only [Nat.zero_mul, Pt.mul]
 | succ j ih =>
  show Pt.add K hd (Pt.mul K hd j (Pt.mul K hd k P)) (Pt.mul K hd k P) = _
  rw [ih, Nat.succ_mul, Pt.mul_add]
theorem Pt.sub_add {d : Fin n} (hd : Nsq d) (P Q : Pt d) : Pt.add K hd (Pt.add K hd P Q) P.neg = Q := by
 rw [Pt.add_comm K hd P Q, Pt.add_assoc, Pt.add_neg, Pt.add_zero]
theorem y_key {d x1 y1 x2 y2 : Fin n} (h1 : On d x1 y1) (h2 : On d x2 y2) :
  (1 - d*x1*x2*y1*y2 + (y1*y2 - x1*x2)) * (1 + d*x1*x2*y1*y2 + (y1*y2 + x1*x2)) * ((y1 - y2) * (y1 - y2)) = (1 - d*x1*x2*y1*y2 - (y1*y2 - x1*x2)) * (1 + d*x1*x2*y1*y2 - (y1*y2 + x1*x2)) * ((y1 + y2) * (y1 + y2)) := by
 unfold On at *
 grind
theorem y_frac {s m p q a b u v : Fin n} (hs : s * p = a) (hm : m * q = b) (h : (p + a) * (q + b) * u = (p - a) * (q - b) * v) : ((1 + s) * (1 + m) * u) * (p * q) = ((1 - s) * (1 - m) * v) * (p * q) := by grind
theorem y_both {d : Fin n} (hd : Nsq d) (P Q : Pt d) :
  (1 + (Pt.add K hd P Q).y) * (1 + (Pt.add K hd P Q.neg).y) * ((P.y - Q.y) * (P.y - Q.y)) = (1 - (Pt.add K hd P Q).y) * (1 - (Pt.add K hd P Q.neg).y) * ((P.y + Q.y) * (P.y + Q.y)) := by
 have hS := (Pt.add_is K hd P Q).y
 have hM := (Pt.add_is K hd P Q.neg).y
 have hM2 : (Pt.add K hd P Q.neg).y * (1 + d * P.x * Q.x * P.y * Q.y) = P.y * Q.y + P.x * Q.x := by
  simp only [Pt.neg] at hM ⊢
  grind
 exact K.cancel (K.mul_ne (den_minus K hd P.on Q.on) (den_plus K hd P.on Q.on)) (y_frac hS hM2 (y_key P.on Q.on))
theorem y_dbl {d : Fin n} (hd : Nsq d) (P : Pt d) : ∃ D : Fin n, D ≠ 0 ∧ (1 + (Pt.add K hd P P).y) * D = 2 * (1 - P.x * P.x) ∧ (1 - (Pt.add K hd P P).y) * D = 2 * (1 - P.y * P.y) := by
 have hS := (Pt.add_is K hd P P).y
 have hon := P.on
 unfold On at hon
 exact ⟨1 - d * P.x * P.x * P.y * P.y, den_minus K hd P.on P.on, by grind, by grind⟩
end
end Go.Proofs.YthghcjepdhkfdaaGreatDoor.Fld

/-
  Own text. The ladder: elements X : Z that stand for a point's multiple, V : W for the next one; what it tells is the point's u.
-/
namespace Go.Proofs.YthghcjepdhkfdaaGreatDoor.Fld
section
variable {n : Nat} [NeZero n] (K : Fd n)
structure Link (s d c k : Fin n) : Prop where
 s2 : s * s = 1
 cd : c * (1 - d) = 1
 hk : 2 * k + 1 = s * (2 * c - 1)
 hd : Nsq d
def Rep (s : Fin n) {d : Fin n} (P : Pt d) (X Z : Fin n) : Prop := ∃ l, l ≠ 0 ∧ X = l * (1 + P.y) ∧ Z = s * l * (1 - P.y)
include K in
theorem dy_ne {d : Fin n} (hd : Nsq d) (y : Fin n) : 1 - d * y * y ≠ 0 := by
 intro h
 have hy : y ≠ 0 := fun e => K.one (by rw [e] at h; grind)
 have hi := K.mul_inv y hy
 exact hd (K.inv y) (by grind)
include K in
theorem eight_ne : (8 : Fin n) ≠ 0 := by
 have h := K.mul_ne (K.mul_ne K.two K.two) K.two
 have e8 : (8 : Fin n) = 2 * 2 * 2 := by grind
 rw [e8]; exact h
theorem curve_y {d x y : Fin n} (hon : x * x + y * y = 1 + d * x * x * y * y) : (1 - x * x) * (1 - d * y * y) = y * y * (1 - d) := by grind
theorem curve_c {s c d l y : Fin n} (hs : s * s = 1) (hc : c * (1 - d) = 1) : l * l * (2 + 2 * (y * y) + 2 * s * (s * (2 * c - 1)) * (1 - y * y)) = 4 * (l * l) * (c * (1 - d * y * y)) := by grind
theorem turn_y {a b c d e f : Fin n} (h : a * b * ((c - d) * (c - d)) = e * f * ((c + d) * (c + d))) : a * b * ((d - c) * (d - c)) = e * f * ((d + c) * (d + c)) := by grind
theorem dbl_x {s d c l x y D y2 X Z : Fin n} (hs : s * s = 1) (hc : c * (1 - d) = 1) (hon : On d x y) (hX : X = l * (1 + y)) (hZ : Z = s * l * (1 - y)) (h1 : (1 + y2) * D = 2 * (1 - x * x)) :
  (X + Z) * (X + Z) * ((X - Z) * (X - Z)) = 8 * (l * l * l * l) * D * c * (1 - d * y * y) * (1 + y2) := by
 unfold On at hon
 have e1 : (X + Z) * (X - Z) = 4 * (l * l) * y := by subst hX hZ; grind
 have e2 : (1 - x * x) * (1 - d * y * y) = y * y * (1 - d) := curve_y hon
 have e3 : (X + Z) * (X + Z) * ((X - Z) * (X - Z)) = 16 * (l * l * l * l) * (y * y) := by
  have : (X + Z) * (X + Z) * ((X - Z) * (X - Z)) = ((X + Z) * (X - Z)) * ((X + Z) * (X - Z)) := by grind
  rw [this, e1]; grind
 rw [e3]
 have e4 : 8 * (l * l * l * l) * D * c * (1 - d * y * y) * (1 + y2) = 8 * (l * l * l * l) * c * (1 - d * y * y) * ((1 + y2) * D) := by grind
 rw [e4, h1]
 have e5 : 8 * (l * l * l * l) * c * (1 - d * y * y) * (2 * (1 - x * x)) = 16 * (l * l * l * l) * c * ((1 - x * x) * (1 - d * y * y)) := by grind
 rw [e5, e2]
 have e6 : 16 * (l * l * l * l) * c * (y * y * (1 - d)) = 16 * (l * l * l * l) * (y * y) * (c * (1 - d)) := by grind
 rw [e6, hc]; grind
theorem dbl_z {s d c k l y D y2 X Z : Fin n} (hs : s * s = 1) (hc : c * (1 - d) = 1) (hk : 2 * k + 1 = s * (2 * c - 1)) (hX : X = l * (1 + y)) (hZ : Z = s * l * (1 - y)) (h1 : (1 - y2) * D = 2 * (1 - y * y)) :
  ((X + Z) * (X + Z) - (X - Z) * (X - Z)) * ((X + Z) * (X + Z) + k * ((X + Z) * (X + Z) - (X - Z) * (X - Z))) = s * (8 * (l * l * l * l) * D * c * (1 - d * y * y)) * (1 - y2) := by
 have e1 : (X + Z) * (X + Z) - (X - Z) * (X - Z) = 4 * s * (l * l) * (1 - y * y) := by subst hX hZ; grind
 have e2 : (X + Z) * (X + Z) + k * (4 * s * (l * l) * (1 - y * y)) = l * l * (2 + 2 * (y * y) + 2 * s * (2 * k + 1) * (1 - y * y)) := by subst hX hZ; grind
 have e3 : l * l * (2 + 2 * (y * y) + 2 * s * (2 * k + 1) * (1 - y * y)) = 4 * (l * l) * (c * (1 - d * y * y)) := by rw [hk]; exact curve_c hs hc
 rw [e1, e2, e3]
 have e4 : s * (8 * (l * l * l * l) * D * c * (1 - d * y * y)) * (1 - y2) = s * (8 * (l * l * l * l) * c * (1 - d * y * y)) * ((1 - y2) * D) := by grind
 rw [e4, h1]; grind
theorem Rep.dbl {s d c k : Fin n} (L : Link s d c k) {P : Pt d} {X Z : Fin n} (h : Rep s P X Z) :
  Rep s (Pt.add K L.hd P P) ((X + Z) * (X + Z) * ((X - Z) * (X - Z))) (((X + Z) * (X + Z) - (X - Z) * (X - Z)) * ((X + Z) * (X + Z) + k * ((X + Z) * (X + Z) - (X - Z) * (X - Z)))) := by
 obtain ⟨l, hl, hX, hZ⟩ := h
 obtain ⟨D, hD, h1, h2⟩ := y_dbl K L.hd P
 have hc : c ≠ 0 := fun e => K.one (by have := L.cd; rw [e] at this; grind)
 exact ⟨8 * (l * l * l * l) * D * c * (1 - d * P.y * P.y), K.mul_ne (K.mul_ne (K.mul_ne (K.mul_ne (eight_ne K) (K.mul_ne (K.mul_ne (K.mul_ne hl hl) hl) hl)) hD) hc) (dy_ne K L.hd P.y),
  dbl_x L.s2 L.cd P.on hX hZ h1, dbl_z L.s2 L.cd L.hk hX hZ h2⟩
theorem diff_m {s x t y1 y2 r : Fin n} (hb : (1 + t) * (1 + r) * ((y1 - y2) * (y1 - y2)) = (1 - t) * (1 - r) * ((y1 + y2) * (y1 + y2))) (hs : s * s = 1) (hx : x * (1 - r) = s * (1 + r)) :
  (s * x * ((y1 - y2) * (y1 - y2)) * (1 + t)) * (1 - r) = ((y1 + y2) * (y1 + y2) * (1 - t)) * (1 - r) := by
 have e : (s * x * ((y1 - y2) * (y1 - y2)) * (1 + t)) * (1 - r) = s * (x * (1 - r)) * ((y1 - y2) * (y1 - y2)) * (1 + t) := by grind
 rw [e, hx]
 have e2 : s * (s * (1 + r)) * ((y1 - y2) * (y1 - y2)) * (1 + t) = (s * s) * ((1 + t) * (1 + r) * ((y1 - y2) * (y1 - y2))) := by grind
 rw [e2, hs, hb]
 grind
theorem diff_1 {s x t L y1 y2 : Fin n} (h : s * x * ((y1 - y2) * (y1 - y2)) * (1 + t) = (y1 + y2) * (y1 + y2) * (1 - t)) :
  4 * L * (y1 + y2) * (4 * L * (y1 + y2)) = 8 * (L * L) * ((y1 + y2) * (y1 + y2) + s * x * ((y1 - y2) * (y1 - y2))) * (1 + t) := by
 have e : 8 * (L * L) * ((y1 + y2) * (y1 + y2) + s * x * ((y1 - y2) * (y1 - y2))) * (1 + t) = 8 * (L * L) * ((y1 + y2) * (y1 + y2) * (1 + t) + s * x * ((y1 - y2) * (y1 - y2)) * (1 + t)) := by grind
 rw [e, h]; grind
theorem diff_2 {s x t L y1 y2 : Fin n} (hs : s * s = 1) (h : s * x * ((y1 - y2) * (y1 - y2)) * (1 + t) = (y1 + y2) * (y1 + y2) * (1 - t)) :
  x * (4 * s * L * (y2 - y1) * (4 * s * L * (y2 - y1))) = s * (8 * (L * L) * ((y1 + y2) * (y1 + y2) + s * x * ((y1 - y2) * (y1 - y2)))) * (1 - t) := by
 have e : s * (8 * (L * L) * ((y1 + y2) * (y1 + y2) + s * x * ((y1 - y2) * (y1 - y2)))) * (1 - t) = s * (8 * (L * L)) * ((y1 + y2) * (y1 + y2) * (1 - t) + s * x * ((y1 - y2) * (y1 - y2)) * (1 - t)) := by grind
 rw [e, ← h]
 have e2 : s * (8 * (L * L)) * (s * x * ((y1 - y2) * (y1 - y2)) * (1 + t) + s * x * ((y1 - y2) * (y1 - y2)) * (1 - t)) = (s * s) * (16 * (L * L) * x * ((y1 - y2) * (y1 - y2))) := by grind
 have e3 : x * (4 * s * L * (y2 - y1) * (4 * s * L * (y2 - y1))) = (s * s) * (16 * (L * L) * x * ((y1 - y2) * (y1 - y2))) := by grind
 rw [e2, e3]
theorem two_sum {a b t : Fin n} (h : b * (1 + t) = a * (1 - t)) : a * 2 = (a + b) * (1 + t) := by grind
theorem zero_sum {b : Fin n} (h : 0 * 0 + b = 0) : b = 0 := by grind
theorem zero_mul' {b : Fin n} : 0 * b = 0 := by grind
theorem dif_v {s l m y1 y2 X Z V W : Fin n} (hs : s * s = 1) (hX : X = l * (1 + y1)) (hZ : Z = s * l * (1 - y1)) (hV : V = m * (1 + y2)) (hW : W = s * m * (1 - y2)) :
  (V - W) * (X + Z) + (V + W) * (X - Z) = 4 * (l * m) * (y1 + y2) ∧ (V - W) * (X + Z) - (V + W) * (X - Z) = 4 * s * (l * m) * (y2 - y1) := by
 subst hX hZ hV hW
 constructor <;> grind
include K in
theorem Rep.diff {s d c k : Fin n} (L : Link s d c k) {P Q R : Pt d} {X Z V W x : Fin n} (h1 : Rep s P X Z) (h2 : Rep s Q V W) (hR : Pt.add K L.hd P Q.neg = R ∨ Pt.add K L.hd Q P.neg = R)
  (hx : x * (1 - R.y) = s * (1 + R.y)) (hx0 : x ≠ 0) :
  Rep s (Pt.add K L.hd P Q) (((V - W) * (X + Z) + (V + W) * (X - Z)) * ((V - W) * (X + Z) + (V + W) * (X - Z))) (x * (((V - W) * (X + Z) - (V + W) * (X - Z)) * ((V - W) * (X + Z) - (V + W) * (X - Z)))) := by
 obtain ⟨l, hl, hX, hZ⟩ := h1
 obtain ⟨m, hm, hV, hW⟩ := h2
 obtain ⟨eV, eW⟩ := dif_v L.s2 hX hZ hV hW
 rw [eV, eW]
 have hs0 : s ≠ 0 := fun e => K.one (by have := L.s2; rw [e] at this; grind)
 have hy0 : 1 - R.y ≠ 0 := fun e => by
  rw [e] at hx
  have h2 : s * 2 = 0 := by grind
  rcases K.zero_or h2 with h | h
  ·exact hs0 h
  ·exact K.two h
 have hb : (1 + (Pt.add K L.hd P Q).y) * (1 + R.y) * ((P.y - Q.y) * (P.y - Q.y)) = (1 - (Pt.add K L.hd P Q).y) * (1 - R.y) * ((P.y + Q.y) * (P.y + Q.y)) := by
  rcases hR with h | h
  ·have := y_both K L.hd P Q
   rwa [h] at this
  ·have := y_both K L.hd Q P
   rw [h, Pt.add_comm K L.hd Q P] at this
   exact turn_y this
 have hy := K.cancel hy0 (diff_m hb L.s2 hx)
 have hm2 := K.mul_ne hl hm
 refine ⟨8 * ((l * m) * (l * m)) * ((P.y + Q.y) * (P.y + Q.y) + s * x * ((P.y - Q.y) * (P.y - Q.y))), K.mul_ne (K.mul_ne (eight_ne K) (K.mul_ne hm2 hm2)) ?_, diff_1 hy, diff_2 L.s2 hy⟩
 intro h0
 have ha : (P.y + Q.y) * (P.y + Q.y) * 2 = 0 := by
  rw [two_sum hy, h0]; exact zero_mul'
 have hsum : P.y + Q.y = 0 := by
  rcases K.zero_or ha with h | h
  ·rcases K.zero_or h with h | h <;> exact h
  ·exact absurd h K.two
 have hdif : P.y - Q.y = 0 := by
  have e : s * x * ((P.y - Q.y) * (P.y - Q.y)) = 0 := by rw [hsum] at h0; exact zero_sum h0
  rcases K.zero_or e with h | h
  ·exact absurd h (K.mul_ne hs0 hx0)
  ·rcases K.zero_or h with h | h <;> exact h
 have hP : P.y = 0 := by
  have : 2 * P.y = 0 := by grind -lia
  rcases K.zero_or this with h | h
  ·exact absurd h K.two
  ·exact h
 have hQ : Q.y = 0 := by grind -lia
 have hRy : R.y * R.y = 1 := by
  have oP := P.on
  have oQ := Q.on
  unfold On at oP oQ
  have hd1 : P.x * P.x = 1 := by rw [hP] at oP; grind -lia
  have hd2 : Q.x * Q.x = 1 := by rw [hQ] at oQ; grind -lia
  rcases hR with h | h
  ·have h3 := (Pt.add_is K L.hd P Q.neg).y
   rw [h] at h3
   simp only [Pt.neg, hP, hQ] at h3
   have h4 : R.y = P.x * Q.x := by grind -lia
   rw [h4]; grind -lia
  ·have h3 := (Pt.add_is K L.hd Q P.neg).y
   rw [h] at h3
   simp only [Pt.neg, hP, hQ] at h3
   have h4 : R.y = Q.x * P.x := by grind -lia
   rw [h4]; grind -lia
 have h5 : (1 - R.y) * (1 + R.y) = 0 := by grind -lia
 rcases K.zero_or h5 with h | h
 ·exact hy0 h
 ·rw [h] at hx
  have h6 : x * (1 - R.y) = 0 := by rw [hx]; grind
  rcases K.zero_or h6 with h | h
  ·exact hx0 h
  ·exact hy0 h
end
end Go.Proofs.YthghcjepdhkfdaaGreatDoor.Fld

/-
  Own text. The whole ladder: it tells the u of a multiple; it does not matter which of two multiples is taken first.
-/
namespace Go.Proofs.YthghcjepdhkfdaaGreatDoor.Fld
section
variable {n : Nat} [NeZero n] (K : Fd n)
structure Qd (n : Nat) where
  X : Fin n
  Z : Fin n
  V : Fin n
  W : Fin n
def Qd.turn (b : Bool) (q : Qd n) : Qd n := if b then ⟨q.V, q.W, q.X, q.Z⟩ else q
def Qd.core (k x : Fin n) (q : Qd n) : Qd n :=
  ⟨(q.X + q.Z) * (q.X + q.Z) * ((q.X - q.Z) * (q.X - q.Z)),
   ((q.X + q.Z) * (q.X + q.Z) - (q.X - q.Z) * (q.X - q.Z)) * ((q.X + q.Z) * (q.X + q.Z) + k * ((q.X + q.Z) * (q.X + q.Z) - (q.X - q.Z) * (q.X - q.Z))),
   ((q.V - q.W) * (q.X + q.Z) + (q.V + q.W) * (q.X - q.Z)) * ((q.V - q.W) * (q.X + q.Z) + (q.V + q.W) * (q.X - q.Z)),
   x * (((q.V - q.W) * (q.X + q.Z) - (q.V + q.W) * (q.X - q.Z)) * ((q.V - q.W) * (q.X + q.Z) - (q.V + q.W) * (q.X - q.Z)))⟩
def Qd.step (k x : Fin n) (b : Bool) (q : Qd n) : Qd n := ((q.turn b).core k x).turn b
def Qd.run (k x : Fin n) (bs : List Bool) (q : Qd n) : Qd n := bs.foldl (fun q b => Qd.step k x b q) q
def Qd.start (x : Fin n) : Qd n := ⟨1, 0, x, 1⟩
def numOfBits (m : Nat) (bs : List Bool) : Nat := bs.foldl (fun m b => 2 * m + b.toNat) m
def Reps (s : Fin n) {d : Fin n} (hd : Nsq d) (P : Pt d) (m : Nat) (q : Qd n) : Prop := Rep s (Pt.mul K hd m P) q.X q.Z ∧ Rep s (Pt.mul K hd (m + 1) P) q.V q.W
theorem Reps.step {s d c k : Fin n} (L : Link s d c k) {P : Pt d} {x : Fin n} (hx : x * (1 - P.y) = s * (1 + P.y)) (hx0 : x ≠ 0) {m : Nat} {q : Qd n} (h : Reps K s L.hd P m q) (b : Bool) :
    Reps K s L.hd P (2 * m + b.toNat) (Qd.step k x b q) := by
  obtain ⟨h1, h2⟩ := h
  have hdif : Pt.add K L.hd (Pt.mul K L.hd (m + 1) P) (Pt.mul K L.hd m P).neg = P := by
    show Pt.add K L.hd (Pt.add K L.hd (Pt.mul K L.hd m P) P) (Pt.mul K L.hd m P).neg = P
    exact Pt.sub_add K L.hd _ _
  cases b with
  | false =>
    refine ⟨?_, ?_⟩
    · have := h1.dbl K L
      rw [← Pt.mul_add, ← Nat.two_mul] at this
      exact this
    · have := Rep.diff K L h1 h2 (.inr hdif) hx hx0
      rw [← Pt.mul_add, show m + (m + 1) = 2 * m + 0 + 1 by omega] at this
      exact this
  | true =>
    refine ⟨?_, ?_⟩
    · have := Rep.diff K L h2 h1 (.inl hdif) hx hx0
      rw [← Pt.mul_add, show m + 1 + m = 2 * m + 1 by omega] at this
      exact this
    · have := h2.dbl K L
      rw [← Pt.mul_add, show m + 1 + (m + 1) = 2 * m + 1 + 1 by omega] at this
      exact this
theorem Reps.run {s d c k : Fin n} (L : Link s d c k) {P : Pt d} {x : Fin n} (hx : x * (1 - P.y) = s * (1 + P.y)) (hx0 : x ≠ 0) (bs : List Bool) {m : Nat} {q : Qd n} (h : Reps K s L.hd P m q) :
    Reps K s L.hd P (numOfBits m bs) (Qd.run k x bs q) := by
  induction bs generalizing m q with
  | nil => exact h
  | cons b bs ih => exact ih (h.step K L hx hx0 b)
include K in
theorem s_ne {s : Fin n} (hs : s * s = 1) : s ≠ 0 := fun e => K.one (by rw [e] at hs; grind)
include K in
theorem y_ne_one {s x y : Fin n} (hs : s * s = 1) (hx : x * (1 - y) = s * (1 + y)) : 1 - y ≠ 0 := fun e => by
  rw [e] at hx
  have h2 : s * 2 = 0 := by grind -lia
  rcases K.zero_or h2 with h | h
  · exact s_ne K hs h
  · exact K.two h
theorem start_x {s x y i : Fin n} (hx : x * (1 - y) = s * (1 + y)) (hi : (1 - y) * i = 1) : x = s * i * (1 + y) := by grind
theorem start_w {s y i : Fin n} (hs : s * s = 1) (hi : (1 - y) * i = 1) : 1 = s * (s * i) * (1 - y) := by grind
theorem start_1 {i : Fin n} (hi : 2 * i = 1) : 1 = i * (1 + 1) := by grind
theorem start_0 {s i : Fin n} : 0 = s * i * (1 - 1) := by grind
theorem Reps.start {s d c k : Fin n} (L : Link s d c k) {P : Pt d} {x : Fin n} (hx : x * (1 - P.y) = s * (1 + P.y)) : Reps K s L.hd P 0 (Qd.start x) := by
  have h2 := K.mul_inv 2 K.two
  have hy := y_ne_one K L.s2 hx
  have hi := K.mul_inv _ hy
  have hin : K.inv (1 - P.y) ≠ 0 := fun e => K.one (by rw [e] at hi; grind)
  refine ⟨⟨K.inv 2, fun e => K.one (by rw [e] at h2; grind), start_1 h2, start_0⟩, ?_⟩
  rw [show (0 : Nat) + 1 = 1 from rfl, Pt.mul_one]
  exact ⟨s * K.inv (1 - P.y), K.mul_ne (s_ne K L.s2) hin, start_x hx hi, start_w L.s2 hi⟩
def uOf (s : Fin n) {d : Fin n} (P : Pt d) : Fin n := s * (1 + P.y) * K.inv (1 - P.y)
theorem tell_1 {s l y X Z i j : Fin n} (hs : s * s = 1) (hX : X = l * (1 + y)) (hZ : Z = s * l * (1 - y)) (hi : (1 - y) * i = 1) (hj : Z * j = 1) : X * j = s * (1 + y) * i := by
  have e : X = Z * (s * (1 + y) * i) := by subst hX hZ; grind
  rw [e]; grind
theorem Rep.tell {s d c k : Fin n} (L : Link s d c k) {P : Pt d} {X Z : Fin n} (h : Rep s P X Z) : X * K.inv Z = uOf K s P := by
  obtain ⟨l, hl, hX, hZ⟩ := h
  unfold uOf
  by_cases hy : 1 - P.y = 0
  · have hz : Z = 0 := by rw [hZ, hy]; grind
    rw [hz, hy, K.inv0]; grind
  · have hz : Z ≠ 0 := by rw [hZ]; exact K.mul_ne (K.mul_ne (s_ne K L.s2) hl) hy
    exact tell_1 L.s2 hX hZ (K.mul_inv _ hy) (K.mul_inv _ hz)
def Lad (k x : Fin n) (bs : List Bool) : Fin n := (Qd.run k x bs (Qd.start x)).X * K.inv (Qd.run k x bs (Qd.start x)).Z
theorem lad_u {s d c k : Fin n} (L : Link s d c k) {P : Pt d} {x : Fin n} (hx : x * (1 - P.y) = s * (1 + P.y)) (hx0 : x ≠ 0) (bs : List Bool) : Lad K k x bs = uOf K s (Pt.mul K L.hd (numOfBits 0 bs) P) :=
  Rep.tell K L (Reps.run K L hx hx0 bs (Reps.start K L hx)).1
def Flat0 (q : Qd n) : Prop := q.Z = 0 ∧ (q.W = 0 ∨ (q.X = 1 ∧ q.V = 0 ∧ q.W = 1))
theorem flat_step (k : Fin n) (b : Bool) {q : Qd n} (h : Flat0 q) : Flat0 (Qd.step k 0 b q) := by
  obtain ⟨hz, hw⟩ := h
  cases b with
  | false =>
    refine ⟨?_, .inl ?_⟩
    · show ((q.X + q.Z) * (q.X + q.Z) - (q.X - q.Z) * (q.X - q.Z)) * ((q.X + q.Z) * (q.X + q.Z) + k * ((q.X + q.Z) * (q.X + q.Z) - (q.X - q.Z) * (q.X - q.Z))) = 0
      rw [hz]; grind
    · show 0 * (((q.V - q.W) * (q.X + q.Z) - (q.V + q.W) * (q.X - q.Z)) * ((q.V - q.W) * (q.X + q.Z) - (q.V + q.W) * (q.X - q.Z))) = 0
      grind
  | true =>
    refine ⟨?_, .inl ?_⟩
    · show 0 * (((q.X - q.Z) * (q.V + q.W) - (q.X + q.Z) * (q.V - q.W)) * ((q.X - q.Z) * (q.V + q.W) - (q.X + q.Z) * (q.V - q.W))) = 0
      grind
    · show ((q.V + q.W) * (q.V + q.W) - (q.V - q.W) * (q.V - q.W)) * ((q.V + q.W) * (q.V + q.W) + k * ((q.V + q.W) * (q.V + q.W) - (q.V - q.W) * (q.V - q.W))) = 0
      rcases hw with h | ⟨_, h1, h2⟩
      · rw [h]; grind
      · rw [h1, h2]; grind
theorem flat_run (k : Fin n) (bs : List Bool) {q : Qd n} (h : Flat0 q) : Flat0 (Qd.run k 0 bs q) := by
  induction bs generalizing q with
  | nil => exact h
  | cons b bs ih => exact ih (flat_step k b h)
theorem lad_zero (k : Fin n) (bs : List Bool) : Lad K k 0 bs = 0 := by
  have h := (flat_run k bs (q := Qd.start 0) ⟨rfl, .inr ⟨rfl, rfl, rfl⟩⟩).1
  unfold Lad
  rw [h, K.inv0]; grind
theorem nsq_one {d : Fin n} (hd : Nsq d) : 1 - d ≠ 0 := fun e => hd 1 (by grind)
theorem flat_x {d x y : Fin n} (hon : x * x + y * y = 1 + d * x * x * y * y) (hy : y * y = 1) : x * x * (1 - d) = 0 := by grind
theorem u_zero {s d c k : Fin n} (L : Link s d c k) {P : Pt d} (h : uOf K s P = 0) : Pt.mul K L.hd 2 P = Pt.zero d := by
  have hy : P.y * P.y = 1 := by
    by_cases e : 1 - P.y = 0
    · have : P.y = 1 := by grind -lia
      rw [this]; grind
    · have hi := K.mul_inv _ e
      unfold uOf at h
      have hin : K.inv (1 - P.y) ≠ 0 := fun e => K.one (by rw [e] at hi; grind)
      rcases K.zero_or h with h | h
      · rcases K.zero_or h with h | h
        · exact absurd h (s_ne K L.s2)
        · have : P.y = -1 := by grind -lia
          rw [this]; grind
      · exact absurd h hin
  have hon := P.on
  unfold On at hon
  have hx : P.x = 0 := by
    rcases K.zero_or (flat_x hon hy) with h | h
    · rcases K.zero_or h with h | h <;> exact h
    · exact absurd h (nsq_one L.hd)
  show Pt.add K L.hd (Pt.add K L.hd (Pt.zero d) P) P = Pt.zero d
  rw [Pt.zero_add]
  refine (Pt.add_is K L.hd P P).unique K L.hd ⟨?_, ?_⟩
  · simp only [Pt.zero, hx]; grind
  · simp only [Pt.zero, hx]; grind
theorem u_of_zero (s d : Fin n) : uOf K s (Pt.zero d) = 0 := by
  unfold uOf Pt.zero
  have e : (1 : Fin n) - 1 = 0 := by grind
  simp only [e, K.inv0]; grind
theorem lad_lad {s d c k : Fin n} (L : Link s d c k) {P : Pt d} {x : Fin n} (hx : x * (1 - P.y) = s * (1 + P.y)) (hx0 : x ≠ 0) (zs bs : List Bool) (ha : numOfBits 0 zs % 2 = 0) :
    Lad K k (Lad K k x bs) zs = uOf K s (Pt.mul K L.hd (numOfBits 0 zs * numOfBits 0 bs) P) := by
  have hu := lad_u K L hx hx0 bs
  by_cases h0 : Lad K k x bs = 0
  · rw [h0, lad_zero]
    rw [hu] at h0
    have h2 := u_zero K L h0
    rw [show numOfBits 0 zs * numOfBits 0 bs = numOfBits 0 zs / 2 * (2 * numOfBits 0 bs) by rw [← Nat.mul_assoc, Nat.div_mul_cancel (Nat.dvd_of_mod_eq_zero ha)], ← Pt.mul_mul, ← Pt.mul_mul, h2, Pt.mul_zero, u_of_zero]
  · have hx' : Lad K k x bs * (1 - (Pt.mul K L.hd (numOfBits 0 bs) P).y) = s * (1 + (Pt.mul K L.hd (numOfBits 0 bs) P).y) := by
      rw [hu] at h0 ⊢
      unfold uOf at h0 ⊢
      have e : 1 - (Pt.mul K L.hd (numOfBits 0 bs) P).y ≠ 0 := fun e => h0 (by rw [e, K.inv0]; grind)
      have hi := K.mul_inv _ e
      generalize (Pt.mul K L.hd (numOfBits 0 bs) P).y = y at *
      generalize K.inv (1 - y) = i at *
      clear h0 hu hx
      grind
    rw [lad_u K L hx' h0 zs, Pt.mul_mul]
theorem lad_comm {s d c k : Fin n} (L : Link s d c k) {P : Pt d} {x : Fin n} (hx : x * (1 - P.y) = s * (1 + P.y)) (hx0 : x ≠ 0) (zs bs : List Bool) (ha : numOfBits 0 zs % 2 = 0) (hb : numOfBits 0 bs % 2 = 0) :
    Lad K k (Lad K k x bs) zs = Lad K k (Lad K k x zs) bs := by
  rw [lad_lad K L hx hx0 zs bs ha, lad_lad K L hx hx0 bs zs hb, Nat.mul_comm]
theorem lad_ne {s d c k : Fin n} (L : Link s d c k) {P : Pt d} {x : Fin n} (hx : x * (1 - P.y) = s * (1 + P.y)) {l N : Nat} (hl : Pt.mul K L.hd l P = Pt.zero d) (hN : ∃ i j, i * (2 * N) = j * l + 1) : uOf K s (Pt.mul K L.hd N P) ≠ 0 := by
  intro h
  have h2 := u_zero K L h
  obtain ⟨i, j, hij⟩ := hN
  have e1 : Pt.mul K L.hd (i * (2 * N)) P = Pt.zero d := by rw [← Pt.mul_mul, ← Pt.mul_mul, h2, Pt.mul_zero]
  rw [hij, Pt.mul_add, ← Pt.mul_mul, hl, Pt.mul_zero, Pt.mul_one, Pt.zero_add] at e1
  exact y_ne_one K L.s2 hx (by rw [e1]; simp only [Pt.zero]; grind)
theorem lad_order {s d c k : Fin n} (L : Link s d c k) {P : Pt d} {x : Fin n} (hx : x * (1 - P.y) = s * (1 + P.y)) (hx0 : x ≠ 0) (bs : List Bool) (hz : (Qd.run k x bs (Qd.start x)).Z = 0) : Pt.mul K L.hd (numOfBits 0 bs) P = Pt.zero d := by
  obtain ⟨l, hl, _, hZ⟩ := (Reps.run K L hx hx0 bs (Reps.start K L hx)).1
  generalize Pt.mul K L.hd (numOfBits 0 bs) P = Q at *
  rw [hz] at hZ
  have hy : 1 - Q.y = 0 := by
    rcases K.zero_or hZ.symm with h | h
    · exact absurd h (K.mul_ne (s_ne K L.s2) hl)
    · exact h
  have hy1 : Q.y = 1 := by grind -lia
  have hon := Q.on
  unfold On at hon
  apply Pt.eq
  · rcases K.zero_or (flat_x hon (by rw [hy1]; grind)) with h | h
    · rcases K.zero_or h with h | h <;> exact h
    · exact absurd h (nsq_one L.hd)
  · exact hy1
end
end Go.Proofs.YthghcjepdhkfdaaGreatDoor.Fld

/-
  Own text. Every element but 0 is the u of a point, on one of two curves; so the ladder's multiples commute for all elements.
-/
namespace Go.Proofs.YthghcjepdhkfdaaGreatDoor.Fld
section
variable {n : Nat} [NeZero n] (K : Fd n)
structure Good (k : Fin n) : Prop where
 nsq : Nsq (k * (k + 1))
 dich : ∀ w : Fin n, (∃ t : Fin n, t * t = w) ∨ (∃ t : Fin n, t * t = 2 * w)
theorem Good.k0 {k : Fin n} (G : Good k) : k ≠ 0 := fun e => G.nsq 0 (by rw [e]; grind)
theorem Good.k1 {k : Fin n} (G : Good k) : k + 1 ≠ 0 := fun e => G.nsq 0 (by rw [e]; grind)
theorem quot_sq {a b i t : Fin n} (hi : b * i = 1) (h : t * t = a * i) : (t * b) * (t * b) = a * b := by grind
include K in
theorem nsq_1 {k : Fin n} (G : Good k) : Nsq (k * K.inv (k + 1)) := fun t h => G.nsq (t * (k + 1)) (quot_sq (K.mul_inv _ G.k1) h)
include K in
theorem nsq_2 {k : Fin n} (G : Good k) : Nsq ((k + 1) * K.inv k) := fun t h => G.nsq (t * k) (by rw [quot_sq (K.mul_inv _ G.k0) h]; grind)
theorem link_1 {k i : Fin n} (hi : (k + 1) * i = 1) : (k + 1) * (1 - k * i) = 1 := by grind
theorem link_2 {k i : Fin n} (hi : k * i = 1) : (-k) * (1 - (k + 1) * i) = 1 := by grind
theorem Good.link1 {k : Fin n} (G : Good k) : Link 1 (k * K.inv (k + 1)) (k + 1) k := ⟨by grind, link_1 (K.mul_inv _ G.k1), by grind, nsq_1 K G⟩
theorem Good.link2 {k : Fin n} (G : Good k) : Link (-1) ((k + 1) * K.inv k) (-k) k := ⟨by grind, link_2 (K.mul_inv _ G.k0), by grind, nsq_2 K G⟩
theorem half_sq {k x h : Fin n} (hh : 2 * h = 1) (hg : x * x + (4 * k + 2) * x + 1 = 0) : ((x + (2 * k + 1)) * h) * ((x + (2 * k + 1)) * h) = k * (k + 1) := by
 have e : (x + (2 * k + 1)) * (x + (2 * k + 1)) = 4 * (k * (k + 1)) := by grind
 have e2 : ((x + (2 * k + 1)) * h) * ((x + (2 * k + 1)) * h) = ((x + (2 * k + 1)) * (x + (2 * k + 1))) * (h * h) := by grind
 rw [e2, e]; grind
include K in
theorem g_ne {k : Fin n} (G : Good k) (x : Fin n) : x * x + (4 * k + 2) * x + 1 ≠ 0 := fun h => G.nsq _ (half_sq (K.mul_inv 2 K.two) h)
theorem on_1 {k i x g j u a t : Fin n} (hi : (k + 1) * i = 1) (hg : g = x * x + (4 * k + 2) * x + 1) (hj : g * j = 1) (hu : (x + 1) * u = 1) (ha : a = k * i) (ht : t * t = (k + 1) * x * g) :
  On a (2 * t * j) ((x - 1) * u) := by
 unfold On
 have e1 : (2 * t * j) * (2 * t * j) = 4 * ((k + 1) * x) * j := by
  have : (2 * t * j) * (2 * t * j) = 4 * (t * t) * (j * j) := by grind
  rw [this, ht]; grind
 have e2 : a * (2 * t * j) * (2 * t * j) * ((x - 1) * u) * ((x - 1) * u) = a * ((2 * t * j) * (2 * t * j)) * (((x - 1) * u) * ((x - 1) * u)) := by grind
 have e3 : a * (4 * ((k + 1) * x) * j) = 4 * (k * x) * j := by rw [ha]; grind
 have e4 : a * ((2 * t * j) * (2 * t * j)) = 4 * (k * x) * j := by rw [e1, e3]
 rw [e2, e4, e1]
 clear e1 e2 e3 e4 ht ha hi
 have key : 4 * ((k + 1) * x) * ((x + 1) * (x + 1)) + (x - 1) * (x - 1) * g = (x + 1) * (x + 1) * g + 4 * (k * x) * ((x - 1) * (x - 1)) := by rw [hg]; grind
 clear hg
 grind
theorem on_2 {k i x g j u a t : Fin n} (hi : k * i = 1) (hg : g = x * x + (4 * k + 2) * x + 1) (hj : g * j = 1) (hu : (x - 1) * u = 1) (ha : a = (k + 1) * i) (ht : t * t = k * x * g) :
  On a (2 * t * j) ((x + 1) * u) := by
 unfold On
 have e1 : (2 * t * j) * (2 * t * j) = 4 * (k * x) * j := by
  have : (2 * t * j) * (2 * t * j) = 4 * (t * t) * (j * j) := by grind
  rw [this, ht]; grind
 have e2 : a * (2 * t * j) * (2 * t * j) * ((x + 1) * u) * ((x + 1) * u) = a * ((2 * t * j) * (2 * t * j)) * (((x + 1) * u) * ((x + 1) * u)) := by grind
 have e3 : a * (4 * (k * x) * j) = 4 * ((k + 1) * x) * j := by rw [ha]; grind
 have e4 : a * ((2 * t * j) * (2 * t * j)) = 4 * ((k + 1) * x) * j := by rw [e1, e3]
 rw [e2, e4, e1]
 clear e1 e2 e3 e4 ht ha hi
 have key : 4 * (k * x) * ((x - 1) * (x - 1)) + (x + 1) * (x + 1) * g = (x - 1) * (x - 1) * g + 4 * ((k + 1) * x) * ((x + 1) * (x + 1)) := by rw [hg]; grind
 clear hg
 grind
theorem u_1 {x u : Fin n} (hu : (x + 1) * u = 1) : x * (1 - (x - 1) * u) = 1 * (1 + (x - 1) * u) := by grind
theorem u_2 {x u : Fin n} (hu : (x - 1) * u = 1) : x * (1 - (x + 1) * u) = -1 * (1 + (x + 1) * u) := by grind
include K in
theorem ne_m1 {k x t : Fin n} (G : Good k) (ht : t * t = (k + 1) * x * (x * x + (4 * k + 2) * x + 1)) : x + 1 ≠ 0 := fun e => by
 have hx : x = -1 := by grind -lia
 have hi := K.mul_inv 2 K.two
 rw [hx] at ht
 have h4 : t * t = 4 * (k * (k + 1)) := by rw [ht]; grind
 exact G.nsq (t * K.inv 2) (by
  have e : (t * K.inv 2) * (t * K.inv 2) = (t * t) * (K.inv 2 * K.inv 2) := by grind
  rw [e, h4]
  clear h4 ht e hx
  grind)
include K in
theorem ne_1 {k x t : Fin n} (G : Good k) (ht : t * t = k * x * (x * x + (4 * k + 2) * x + 1)) : x - 1 ≠ 0 := fun e => by
 have hx : x = 1 := by grind -lia
 have hi := K.mul_inv 2 K.two
 rw [hx] at ht
 have h4 : t * t = 4 * (k * (k + 1)) := by rw [ht]; grind
 exact G.nsq (t * K.inv 2) (by
  have e : (t * K.inv 2) * (t * K.inv 2) = (t * t) * (K.inv 2 * K.inv 2) := by grind
  rw [e, h4]
  clear h4 ht e hx
  grind)
theorem both_sq {k x g s t q : Fin n} (hs : s * s = 2 * ((k + 1) * x * g)) (ht : t * t = 2 * (k * x * g)) (hq : 2 * (x * g) * q = 1) : (s * t * q) * (s * t * q) = k * (k + 1) := by
 have e : (s * t * q) * (s * t * q) = (s * s) * (t * t) * (q * q) := by grind
 rw [e, hs, ht]
 have e2 : 2 * ((k + 1) * x * g) * (2 * (k * x * g)) * (q * q) = (k * (k + 1)) * ((2 * (x * g) * q) * (2 * (x * g) * q)) := by grind
 rw [e2, hq]; grind
include K in
theorem exists_point {k : Fin n} (G : Good k) (x : Fin n) (hx : x ≠ 0) : ∃ s d c, ∃ _ : Link s d c k, ∃ P : Pt d, x * (1 - P.y) = s * (1 + P.y) := by
 have hg := g_ne K G x
 have hj := K.mul_inv _ hg
 have c1 : ∀ t : Fin n, t * t = (k + 1) * x * (x * x + (4 * k + 2) * x + 1) → ∃ s d c, ∃ _ : Link s d c k, ∃ P : Pt d, x * (1 - P.y) = s * (1 + P.y) := fun t ht =>
  have hu := K.mul_inv _ (ne_m1 K G ht)
  ⟨1, _, _, G.link1 K, ⟨_, _, on_1 (K.mul_inv _ G.k1) rfl hj hu rfl ht⟩, u_1 hu⟩
 have c2 : ∀ t : Fin n, t * t = k * x * (x * x + (4 * k + 2) * x + 1) → ∃ s d c, ∃ _ : Link s d c k, ∃ P : Pt d, x * (1 - P.y) = s * (1 + P.y) := fun t ht =>
  have hu := K.mul_inv _ (ne_1 K G ht)
  ⟨-1, _, _, G.link2 K, ⟨_, _, on_2 (K.mul_inv _ G.k0) rfl hj hu rfl ht⟩, u_2 hu⟩
 rcases G.dich ((k + 1) * x * (x * x + (4 * k + 2) * x + 1)) with ⟨t, ht⟩ | ⟨s, hs⟩
 ·exact c1 t ht
 ·rcases G.dich (k * x * (x * x + (4 * k + 2) * x + 1)) with ⟨t, ht⟩ | ⟨t, ht⟩
  ·exact c2 t ht
  ·exact absurd (both_sq hs ht (K.mul_inv _ (K.mul_ne K.two (K.mul_ne hx hg)))) (G.nsq _)
theorem lad_turns {k : Fin n} (G : Good k) (x : Fin n) (zs bs : List Bool) (ha : numOfBits 0 zs % 2 = 0) (hb : numOfBits 0 bs % 2 = 0) : Lad K k (Lad K k x bs) zs = Lad K k (Lad K k x zs) bs := by
 by_cases hx : x = 0
 ·subst hx
  simp only [lad_zero]
 ·obtain ⟨s, d, c, L, P, h⟩ := exists_point K G x hx
  exact lad_comm K L h hx zs bs ha hb
theorem lad_meets {k : Fin n} (G : Good k) (x : Fin n) (hx : x ≠ 0) (ls zs bs : List Bool) (hz : (Qd.run k x ls (Qd.start x)).Z = 0) (ha : numOfBits 0 zs % 2 = 0)
  (hN : ∃ i j, i * (2 * (numOfBits 0 zs * numOfBits 0 bs)) = j * numOfBits 0 ls + 1) : Lad K k (Lad K k x bs) zs ≠ 0 := by
 obtain ⟨s, d, c, L, P, h⟩ := exists_point K G x hx
 rw [lad_lad K L h hx zs bs ha]
 exact lad_ne K L h (lad_order K L h hx ls hz) hN
end
end Go.Proofs.YthghcjepdhkfdaaGreatDoor.Fld

/-
  Own text. The field of 2^255 - 19 as the numbers below p; roots; the ladder's number 121665 is as asked; the point of u = 9 is of prime order.
-/
namespace Go.Proofs.YthghcjepdhkfdaaGreatDoor.Fld
def pN : Nat := 57896044618658097711785492504343953926634992332820282019728792003956564819949
theorem pN_prime : IsPrime pN := prP
instance : NeZero pN := ⟨by decide⟩
theorem pN_int : (pN : Int) = P255 := rfl
abbrev Fp := Fin pN
def ofI (x : Int) : Fp := ⟨(x % P255).toNat, by
 have h0 := (mod_lt_P x).1
 have h1 := (mod_lt_P x).2
 have h2 := pN_int
 omega⟩
theorem ofI_val (x : Int) : ((ofI x).val : Int) = x % P255 := Int.toNat_of_nonneg (mod_lt_P x).1
theorem fp_ext {a b : Fp} (h : (a.val : Int) = (b.val : Int)) : a = b := Fin.ext (by omega)
theorem ofI_eq {x y : Int} : ofI x = ofI y ↔ x % P255 = y % P255 :=
 ⟨fun h => by have := congrArg (fun a : Fp => (a.val : Int)) h; simpa only [ofI_val] using this, fun h => fp_ext (by rw [ofI_val, ofI_val, h])⟩
theorem ofI_mod (x : Int) : ofI (x % P255) = ofI x := ofI_eq.2 (Int.emod_emod x P255)
theorem ofI_self (a : Fp) : ofI (a.val : Int) = a := fp_ext (by
 rw [ofI_val]
 exact Int.emod_eq_of_lt (by omega) (by have h := a.isLt; have h2 := pN_int; omega))
theorem ofI_add (x y : Int) : ofI (x + y) = ofI x + ofI y := fp_ext (by
 rw [Fin.val_add, Int.natCast_emod, Int.natCast_add, ofI_val, ofI_val, ofI_val, pN_int, ← Int.add_emod])
theorem ofI_mul (x y : Int) : ofI (x * y) = ofI x * ofI y := fp_ext (by
 rw [Fin.val_mul, Int.natCast_emod, Int.natCast_mul, ofI_val, ofI_val, ofI_val, pN_int, ← Int.mul_emod])
theorem ofI_zero : ofI 0 = 0 := rfl
theorem ofI_one : ofI 1 = 1 := fp_ext (by rw [ofI_val]; decide +kernel)
theorem ofI_sub (x y : Int) : ofI (x - y) = ofI x - ofI y := by
 have h : ofI (x - y) + ofI y = ofI x := by rw [← ofI_add, Int.sub_add_cancel]
 rw [← h]; grind
theorem ofI_ne {x : Int} : ofI x ≠ 0 ↔ x % P255 ≠ 0 := by
 rw [← ofI_zero, Ne, ofI_eq, Int.zero_emod]
def Kp : Fd pN where
 inv a := ofI (invN (a.val : Int))
 mul_inv a ha := by
  have h : (a.val : Int) % P255 ≠ 0 := by rw [← ofI_ne, ofI_self]; exact ha
  have e : a * ofI (invN (a.val : Int)) = ofI ((a.val : Int) * invN (a.val : Int)) := by rw [ofI_mul, ofI_self]
  rw [e, ← ofI_one, ofI_eq, inv_mul h]
  decide +kernel
 two := by
  have : (2 : Fp) = ofI 2 := fp_ext (by rw [ofI_val]; decide +kernel)
  rw [this, ofI_ne]
  decide +kernel
 inv0 := by
  show ofI (invN ((0 : Fp).val : Int)) = 0
  rw [invN_zero (by decide +kernel)]; rfl
theorem Kp_inv (x : Int) : Kp.inv (ofI x) = ofI (invN x) := by
 show ofI (invN ((ofI x).val : Int)) = _
 rw [ofI_val, ofI_eq]
 unfold invN
 rw [emod_pow]
def fpow (x : Fp) : Nat → Fp
 | 0 => 1
 | k + 1 => fpow x k * x
theorem fpow_add (x : Fp) (j k : Nat) : fpow x (j + k) = fpow x j * fpow x k := by
 induction k with
 | zero => show fpow x j = fpow x j * 1; grind
 | succ k ih => show fpow x (j + k) * x = fpow x j * (fpow x k * x); rw [ih]; grind
theorem fpow_mul (x y : Fp) (k : Nat) : fpow (x * y) k = fpow x k * fpow y k := by
 induction k with
 | zero => show (1 : Fp) = 1 * 1; grind
 | succ k ih => show fpow (x * y) k * (x * y) = fpow x k * x * (fpow y k * y); rw [ih]; grind
theorem fpow_val (x : Fp) (k : Nat) : (fpow x k).val = x.val ^ k % pN := by
 induction k with
 | zero => show (1 : Fp).val = 1 % pN; decide +kernel
 | succ k ih =>
  show (fpow x k * x).val = x.val ^ (k + 1) % pN
  rw [Fin.val_mul, ih, Nat.pow_succ, Nat.mul_mod, Nat.mod_mod, ← Nat.mul_mod]
theorem fpow_fermat {x : Fp} (hx : x ≠ 0) : fpow x (pN - 1) = 1 := by
 apply Fin.ext
 rw [fpow_val]
 have h1 : (1 : Fp).val = 1 := by decide +kernel
 rw [h1]
 refine fermat pN_prime (fun h => hx (Fin.ext ?_))
 have hlt := x.isLt
 obtain ⟨c, hc⟩ := h
 cases c with
 | zero => simpa using hc
 | succ c =>
  exfalso
  rw [hc, Nat.mul_succ] at hlt
  omega
def qN : Nat := 14474011154664524427946373126085988481658748083205070504932198000989141204987
def rN : Nat := 7237005577332262213973186563042994240829374041602535252466099000494570602494
theorem q4 : qN + qN + (qN + qN) = pN - 1 := by decide +kernel
theorem r2 : rN + rN = qN + 1 := by decide +kernel
theorem pow_at (b : Fp) (k f : Nat) (hk : k < 2 ^ f) (v : Nat) (h : powMod pN f b.val k = v) : (fpow b k).val = v := by rw [fpow_val, ← powMod_eq pN f b.val k hk, h]
theorem two_q : fpow 2 (qN + qN) = -1 := Fin.ext ((pow_at 2 (qN + qN) 256 (by decide +kernel) ((-1 : Fp).val) (by decide +kernel)))
theorem fp_two : (2 : Fp) ≠ 0 := Kp.two
theorem sq_of {a : Fp} (h : fpow a qN * fpow a qN = 1) : ∃ t : Fp, t * t = a := by
 have h2 : (fpow a qN - 1) * (fpow a qN + 1) = 0 := by grind -lia
 have hr : fpow a rN * fpow a rN = fpow a qN * a := by rw [← fpow_add, r2, fpow_add]; show fpow a qN * (1 * a) = _; grind
 have ht : fpow 2 qN * fpow 2 qN = -1 := by rw [← fpow_add, two_q]
 rcases Kp.zero_or h2 with h | h
 ·exact ⟨fpow a rN, by rw [hr]; generalize fpow a qN = b at *; grind -lia⟩
 ·refine ⟨fpow a rN * fpow 2 qN, ?_⟩
  have e : fpow a rN * fpow 2 qN * (fpow a rN * fpow 2 qN) = (fpow a rN * fpow a rN) * (fpow 2 qN * fpow 2 qN) := by grind
  rw [e, hr, ht]
  generalize fpow a qN = b at *
  grind -lia
theorem root_dich (w : Fp) : (∃ t : Fp, t * t = w) ∨ (∃ t : Fp, t * t = 2 * w) := by
 by_cases hw : w = 0
 ·exact .inl ⟨0, by rw [hw]; grind⟩
 ·have h4 : (fpow w qN * fpow w qN) * (fpow w qN * fpow w qN) = 1 := by rw [← fpow_add, ← fpow_add, q4, fpow_fermat hw]
  have h2 : (fpow w qN * fpow w qN - 1) * (fpow w qN * fpow w qN + 1) = 0 := by
   generalize fpow w qN * fpow w qN = b at *
   grind -lia
  rcases Kp.zero_or h2 with h | h
  ·exact .inl (sq_of (by generalize fpow w qN * fpow w qN = b at *; grind -lia))
  ·refine .inr (sq_of ?_)
   have ht : fpow 2 qN * fpow 2 qN = -1 := by rw [← fpow_add, two_q]
   rw [fpow_mul]
   have e : fpow 2 qN * fpow w qN * (fpow 2 qN * fpow w qN) = (fpow 2 qN * fpow 2 qN) * (fpow w qN * fpow w qN) := by grind
   rw [e, ht]
   generalize fpow w qN * fpow w qN = b at *
   grind -lia
theorem sub_same (a : Fp) : a - a = 0 := by grind
def kN : Fp := 121665
theorem kk_q : fpow (kN * (kN + 1)) (qN + qN) = -1 := Fin.ext ((pow_at (kN * (kN + 1)) (qN + qN) 256 (by decide +kernel) ((-1 : Fp).val) (by decide +kernel)))
theorem kN_good : Good kN where
 nsq t h := by
  have ht : t ≠ 0 := fun e => by
   have h0 := kk_q
   rw [← h, e] at h0
   have : fpow ((0 : Fp) * 0) (qN + qN) ≠ -1 := by
    have e0 : (0 : Fp) * 0 = 0 := by grind
    rw [e0]
    intro h
    have h3 := congrArg Fin.val h
    rw [fpow_val] at h3
    have h4 : (0 : Fp).val = 0 := rfl
    rw [h4, Nat.zero_pow (by decide +kernel)] at h3
    exact absurd h3 (by decide +kernel)
   exact this h0
  have h1 := kk_q
  rw [← h, fpow_mul, ← fpow_add, q4, fpow_fermat ht] at h1
  have e : (2 : Fp) = 1 - (-1) := by grind
  exact fp_two (by rw [e, ← h1]; exact sub_same 1)
 dich := root_dich
def lN : Nat := 7237005577332262213973186563042994240857116359379907606001950938285454250989
theorem pr1224481 : IsPrime 1224481 := trial (B := 1107) (by omega) (by omega) (by decide +kernel)
theorem pr531581 : IsPrime 531581 := trial (B := 730) (by omega) (by omega) (by decide +kernel)
theorem prG : IsPrime 1257559732178653 := pockC pr1224481 pr531581 (by decide +kernel)
theorem prH : IsPrime 4434155615661930479 := pockA prG (by decide +kernel)
theorem prI : IsPrime 172054593956031949258510691 := pockA prH (by decide +kernel)
theorem prJ : IsPrime 19757330305831588566944191468367130476339 := pockA prI (by decide +kernel)
theorem prK : IsPrime 276602624281642239937218680557139826668747 := pockA prJ (by decide +kernel)
theorem lN_prime : IsPrime lN := pockA prK (by decide +kernel)
def lBits : List Bool := (List.range 253).map fun i => lN.testBit (252 - i)
theorem lBits_num : numOfBits 0 lBits = lN := by decide +kernel
theorem nine_order : (Qd.run kN 9 lBits (Qd.start 9)).Z = 0 := by decide +kernel
end Go.Proofs.YthghcjepdhkfdaaGreatDoor.Fld

/-
  Own text. For keys as they are used (8 times a number below the order of the point of u = 9): the ladders commute, and of 9 no 0 comes.
-/
namespace Go.Proofs.YthghcjepdhkfdaaGreatDoor.Fld
theorem inv_mod {l N : Nat} (hl : IsPrime l) (h : ¬ l ∣ N) : ∃ i j, i * N = j * l + 1 := by
 have hf := fermat hl h
 have h2 := hl.1
 refine ⟨N ^ (l - 2), N ^ (l - 1) / l, ?_⟩
 rw [← Nat.pow_succ, show (l - 2).succ = l - 1 by omega]
 have := Nat.div_add_mod (N ^ (l - 1)) l
 rw [hf, Nat.mul_comm] at this
 omega
theorem small_not_dvd {l m : Nat} (h0 : 0 < m) (h1 : m < l) : ¬ l ∣ m := fun h => by
 have := Nat.le_of_dvd h0 h
 omega
def KeyN (N : Nat) : Prop := ∃ m, N = 8 * m ∧ 0 < m ∧ m < lN
theorem KeyN.even {N : Nat} (h : KeyN N) : N % 2 = 0 := by
 obtain ⟨m, rfl, _⟩ := h
 omega
theorem KeyN.not_dvd {N : Nat} (h : KeyN N) : ¬ lN ∣ N := by
 obtain ⟨m, rfl, h0, h1⟩ := h
 intro hd
 rcases prime_dvd_mul lN_prime hd with h | h
 ·exact small_not_dvd (by omega) (by decide +kernel) h
 ·exact small_not_dvd h0 h1 h
theorem curve_turns (x : Fp) {us vs : List Bool} (ha : KeyN (numOfBits 0 us)) (hb : KeyN (numOfBits 0 vs)) : Lad Kp kN (Lad Kp kN x vs) us = Lad Kp kN (Lad Kp kN x us) vs :=
 lad_turns Kp kN_good x us vs ha.even hb.even
theorem nine_ne : (9 : Fp) ≠ 0 := by decide +kernel
theorem curve_meets {us vs : List Bool} (ha : KeyN (numOfBits 0 us)) (hb : KeyN (numOfBits 0 vs)) : Lad Kp kN (Lad Kp kN 9 vs) us ≠ 0 := by
 refine lad_meets Kp kN_good 9 nine_ne lBits us vs nine_order ha.even ?_
 rw [lBits_num]
 refine inv_mod lN_prime (fun h => ?_)
 rcases prime_dvd_mul lN_prime h with h | h
 ·exact small_not_dvd (by omega) (by decide +kernel) h
 ·rcases prime_dvd_mul lN_prime h with h | h
  ·exact ha.not_dvd h
  ·exact hb.not_dvd h
end Go.Proofs.YthghcjepdhkfdaaGreatDoor.Fld

/-
  Own text. A key as it is used, as a number; its bits; what X25519 tells, as a number; and what follows.
-/
namespace Go.Proofs.YthghcjepdhkfdaaGreatDoor.Fld
def H254 : Int := 28948022309329048855892746252171976963317496166410141009864396001978282409984
def clampN (k : Int) : Int := k % H254 / 8 * 8 + H254
theorem clampN_range (k : Int) : H254 ≤ clampN k ∧ clampN k < W255 ∧ clampN k % 8 = 0 := by unfold clampN H254 W255; omega
theorem clampN_256 (k : Int) : N256 (clampN k) := by
 have h := clampN_range k
 unfold N256 W256
 unfold H254 W255 at h
 omega
theorem clampN_key (k : Int) : KeyN (clampN k).toNat := by
 have h := clampN_range k
 refine ⟨(clampN k).toNat / 8, by omega, ?_, ?_⟩
 ·unfold H254 at h; omega
 ·unfold W255 at h; unfold lN; omega
theorem byt_eights (m : Int) (i : Nat) (hi : 1 ≤ i) : byt (m / 8 * 8) i = byt m i := by
 obtain ⟨j, rfl⟩ : ∃ j, i = j + 1 := ⟨i - 1, by omega⟩
 unfold byt
 rw [Int.pow_succ, Int.mul_comm (256 ^ j) 256, ← Int.ediv_ediv_of_nonneg (show (0 : Int) ≤ 256 by decide), ← Int.ediv_ediv_of_nonneg (show (0 : Int) ≤ 256 by decide), show m / 8 * 8 / 256 = m / 256 by omega]
theorem clamp_mid (k : Int) (i : Nat) (h1 : 1 ≤ i) (h2 : i < 31) : byt (clampN k) i = byt k i := by
 have e : clampN k % 256 ^ 31 = k % 256 ^ 31 / 8 * 8 := by unfold clampN H254; omega
 rw [← byt_mod (clampN k) i 31 h2, e, byt_eights _ i h1, byt_mod k i 31 h2]
theorem BA_clamp (k : Int) (hk : N256 k) : ((BA k).setIfInBounds 0 (.int .u8 (byt k 0 / 8 * 8))).setIfInBounds 31 (.int .u8 (byt k 31 % 64 + 64)) = BA (clampN k) := by
 obtain ⟨h0, h1⟩ := hk
 unfold W256 at h1
 apply BA_ext
 ·simp [BA_size]
 ·intro i hi
  rw [Array.getElem?_setIfInBounds]
  by_cases e : 31 = i
  ·subst e
   simp only [if_true, Array.size_setIfInBounds, BA_size]
   rw [if_pos (by omega)]
   congr 2
   unfold byt clampN H254
   omega
  ·rw [if_neg e, Array.getElem?_setIfInBounds]
   by_cases e0 : 0 = i
   ·subst e0
    simp only [if_true, BA_size]
    rw [if_pos (by omega)]
    congr 2
    unfold byt clampN H254
    omega
   ·rw [if_neg e0, BA_get _ _ hi, clamp_mid k i (by omega) (by omega)]
def topList (N : Nat) (j : Nat) : List Bool := (List.range j).map fun i => N.testBit (254 - i)
theorem topList_succ (N j : Nat) : topList N (j + 1) = topList N j ++ [N.testBit (254 - j)] := by
 unfold topList; rw [List.range_succ, List.map_append]; rfl
theorem numOfBits_snoc (m : Nat) (bs : List Bool) (b : Bool) : numOfBits m (bs ++ [b]) = 2 * numOfBits m bs + b.toNat := by
 unfold numOfBits; rw [List.foldl_append]; rfl
theorem run_snoc (k x : Fp) (bs : List Bool) (b : Bool) (q : Qd pN) : Qd.run k x (bs ++ [b]) q = Qd.step k x b (Qd.run k x bs q) := by
 unfold Qd.run; rw [List.foldl_append]; rfl
theorem topList_num {N : Nat} (hN : N < 2 ^ 255) (j : Nat) (hj : j ≤ 255) : numOfBits 0 (topList N j) = N / 2 ^ (255 - j) := by
 induction j with
 | zero => rw [Nat.div_eq_of_lt (by simpa using hN)]; rfl
 | succ j ih =>
  rw [topList_succ, numOfBits_snoc, ih (by omega), Nat.testBit_eq_decide_div_mod_eq, show 255 - (j + 1) = 254 - j by omega, show 255 - j = (254 - j) + 1 by omega, Nat.pow_succ, ← Nat.div_div_eq_div_mul]
  generalize N / 2 ^ (254 - j) = G
  by_cases h : G % 2 = 1 <;> simp [h] <;> omega
theorem topList_all {N : Nat} (hN : N < 2 ^ 255) : numOfBits 0 (topList N 255) = N := by rw [topList_num hN 255 (Nat.le_refl _)]; simp
def keyBits (k : Int) : List Bool := topList (clampN k).toNat 255
theorem keyBits_num (k : Int) : numOfBits 0 (keyBits k) = (clampN k).toNat := topList_all (by have h := clampN_range k; unfold W255 at h; omega)
theorem keyBits_key (k : Int) : KeyN (numOfBits 0 (keyBits k)) := by rw [keyBits_num]; exact clampN_key k
def tN (k u : Int) : Int := ((Lad Kp kN (ofI (u % W255)) (keyBits k)).val : Int)
theorem tN_range (k u : Int) : 0 ≤ tN k u ∧ tN k u < P255 := by
 have h := (Lad Kp kN (ofI (u % W255)) (keyBits k)).isLt
 have h2 := pN_int
 unfold tN
 omega
theorem tN_256 (k u : Int) : N256 (tN k u) := by
 have h := tN_range k u
 unfold N256 W256
 unfold P255 at h
 omega
theorem tN_self (k u : Int) : ofI (tN k u % W255) = Lad Kp kN (ofI (u % W255)) (keyBits k) := by
 have h := tN_range k u
 rw [Int.emod_eq_of_lt h.1 (by unfold P255 at h; unfold W255; omega)]
 exact ofI_self _
theorem tN_turns (a b u : Int) : tN a (tN b u) = tN b (tN a u) := by
 show ((Lad Kp kN (ofI (tN b u % W255)) (keyBits a)).val : Int) = ((Lad Kp kN (ofI (tN a u % W255)) (keyBits b)).val : Int)
 rw [tN_self, tN_self, curve_turns _ (keyBits_key a) (keyBits_key b)]
theorem nine_of : ofI ((9 : Int) % W255) = 9 := fp_ext (by rw [ofI_val]; decide +kernel)
theorem tN_meets (a b : Int) : tN a (tN b 9) ≠ 0 := by
 show ((Lad Kp kN (ofI (tN b 9 % W255)) (keyBits a)).val : Int) ≠ 0
 rw [tN_self, nine_of]
 intro h
 exact curve_meets (keyBits_key a) (keyBits_key b) (fp_ext (by rw [h]; rfl))
def QI (x z v w : Int) : Qd pN := ⟨ofI x, ofI z, ofI v, ofI w⟩
theorem lad_end (k u X Z V W : Int) (h : Qd.run kN (ofI (u % W255)) (keyBits k) (Qd.start (ofI (u % W255))) = QI X Z V W) : (X * invN Z) % P255 = tN k u := by
 unfold tN Lad
 rw [h]
 show _ = ((ofI X * Kp.inv (ofI Z)).val : Int)
 rw [Kp_inv, ← ofI_mul, ofI_val]
end Go.Proofs.YthghcjepdhkfdaaGreatDoor.Fld

/-
  Own text. What the document's step (layer 2) gives: the ladder's step.
-/
namespace Go.Proofs.YthghcjepdhkfdaaGreatDoor.Fld
open Go.RowKit Go.Proofs
set_option maxRecDepth 100000
inductive Kn where
 | val (v : Value)
 | fresh (t : TypeId) (n : Nat)
def kn (B : Nat) (L : List Kn) (i : Nat) (v : Value) (w : World) : Prop :=
 match L.getD i (.val undef) with
 | .val u => v = u
 | .fresh t m => ∃ b, v = .pointer (some ⟨b, 0, none⟩) ∧ B ≤ b ∧ ∃ cs : Array Value, w.heap[b]? = some (.cells cs t (0, 0)) ∧ cs.size = m
theorem kN_ofI : kN = ofI 121665 := fp_ext (by rw [ofI_val]; decide +kernel)
theorem tb_256 {b : Bool} {p q : Int} (hp : N256 p) (hq : N256 q) : N256 (tb b p q) := by cases b <;> simp only [tb, Bool.false_eq_true, if_false, if_true] <;> assumption
end Go.Proofs.YthghcjepdhkfdaaGreatDoor.Fld

/-
  Own text. What Clamp and Times of the document's answer for layer 2 give.
-/
namespace Go.Proofs.YthghcjepdhkfdaaGreatDoor.Fld
open Go.RowKit Go.Proofs
set_option maxRecDepth 100000
theorem look_at {a : Act} {o : Oper} {x : Operand} {w : World} (ho : o.op = .load 22 x) (b off : Nat) (n : Int) (hx : a.eval x = .pointer (some ⟨b, off, none⟩)) (hc : w.rangeAt b off (BA n).toList) :
  (execOp a.eval o).run Tryz.prog w = .ok (.value (.agg (BA n))) w := by
 unfold execOp
 simp only [ho, hx, Instr.loadAt, Instr.sureAddr, Sem.run_bind, Sem.run_pure, Result.andThen_ok, run_loadVar_mid w b off 22 (BA n).toList _ hc Tryz.underlying22 rfl (by rw [Array.length_toList, BA_size]; exact info32), Array.toArray_toList]
theorem start_link (x : Int) : QI 1 0 x 1 = Qd.start (ofI x) := by unfold QI Qd.start; rw [ofI_one, ofI_zero]
theorem N256_1' : N256 1 := by unfold N256 W256; omega
theorem N256_0' : N256 0 := by unfold N256 W256; omega
end Go.Proofs.YthghcjepdhkfdaaGreatDoor.Fld

/-
  Own text. What Public of the document's answer for layer 2 gives.
-/
namespace Go.Proofs.YthghcjepdhkfdaaGreatDoor.Fld
open Go.RowKit Go.Proofs
set_option maxRecDepth 100000
theorem neq_bytes {a : Act} {o : Oper} {w : World} (x y : Operand) (t : TypeId) (ho : o.op = .binOp .neq 22 x y t) (m n : Int) (hx : a.eval x = .agg (BA m)) (hy : a.eval y = .agg (BA n))
  (hm : N256 m) (hn : N256 n) : (execOp a.eval o).run Tryz.prog w = .ok (.value (.bool (!(m == n)))) w := by
 unfold execOp
 simp only [ho, hx, hy, Sem.run_bind, run_eqGuard_agg w .neq 22 x y _ _ eqg24, Result.andThen_ok, run_neq_struct, equal_bytes m n 9998 w, all_beq hm.1 hm.2 hn.1 hn.2, Sem.run_pure]
end Go.Proofs.YthghcjepdhkfdaaGreatDoor.Fld

/-
  Own text. Steps for a region that leaves its order open: rows of 32 bytes and of four such rows, their fields, slices of them, calls.
-/
namespace Go.Proofs.YthghcjepdhkfdaaGreatDoor.Fld
open Go.RowKit Go.Proofs
set_option maxRecDepth 100000
def isOb (cs : Array Value) (t : TypeId) (ob : Obj) : Prop := ob = .cells cs t (0, 0)
def ptrTo (b : Nat) (v : Value) : Prop := v = .pointer (some ⟨b, 0, none⟩)
def slTo (n b : Nat) (v : Value) : Prop := v = .slice (some ⟨b, 0, none⟩) n n
def kv (x : Value) : Kw := .val (fun v => v = x)
def kp (cs : Array Value) (t : TypeId) (s : Nat) (cs' : Array Value) : Kw := .new ptrTo ⟨isOb cs t, [(s, isOb cs' t)]⟩
def ks (n : Nat) (cs : Array Value) (t : TypeId) : Kw := .new (slTo n) ⟨isOb cs t, []⟩
def fixd (cs : Array Value) (t : TypeId) : Cont := ⟨isOb cs t, []⟩
def once (cs : Array Value) (t : TypeId) (s : Nat) (cs' : Array Value) : Cont := ⟨isOb cs t, [(s, isOb cs' t)]⟩
theorem obAt {cs : Array Value} {t : TypeId} {w : World} {b : Nat} (h : ContOK (isOb cs t) w b) : w.heap[b]? = some (.cells cs t (0, 0)) := by
 obtain ⟨ob, h, rfl⟩ := h
 exact h
theorem obIn {cs : Array Value} {t : TypeId} {w : World} {b : Nat} (h : w.heap[b]? = some (.cells cs t (0, 0))) : ContOK (isOb cs t) w b := ⟨_, h, rfl⟩
theorem touch_below {w w' : World} (h : Below w.heap.size w w') : Touch (fun _ => False) w w' := ⟨h.os, h.tape, h.output, h.size, fun k hk _ => h.block k hk⟩
theorem touch_only {b : Nat} {w w' : World} (h : Only b w w') : Touch (fun k => k = b) w w' := ⟨h.os, h.tape, h.output, by rw [h.size]; exact Nat.le_refl _, fun k _ hn => h.block k hn⟩
def Keep (wd v : World) : Prop := Below wd.heap.size wd v ∧ PrimeAt v
theorem keep_touch {wd w w' : World} {T : Nat → Prop} (h0 : 0 < wd.heap.size) (h : Keep wd w) (ht : Touch T w w') (hT : ∀ k, T k → wd.heap.size ≤ k) : Keep wd w' := by
 have hb : Below wd.heap.size w w' := ⟨ht.os, ht.tape, ht.output, ht.size, fun k hk => ht.block k (Nat.lt_of_lt_of_le hk h.1.size) (fun e => by have := hT k e; omega)⟩
 exact ⟨h.1.trans hb, primeAt_below h.2 hb h0⟩
def GLow (B0 : Nat) : List (Nat × Cont) → Prop
 | [] => True
 | x :: l => B0 ≤ x.1 ∧ GLow B0 l
theorem GLow.at {B0 : Nat} : ∀ {l : List (Nat × Cont)}, GLow B0 l → ∀ k ∈ l.map (·.1), B0 ≤ k
 | [], _, _, h => by simp at h
 | x :: l, hl, k, h => by
  rw [List.map_cons] at h
  rcases List.mem_cons.1 h with rfl | h
  ·exact hl.1
  ·exact GLow.at hl.2 k h
theorem keep_G {wd : World} {G : List (Nat × Cont)} {B : Nat} (h0 : 0 < wd.heap.size) (hB : wd.heap.size ≤ B) (hG : GLow wd.heap.size G) (w w' : World) (h : Keep wd w) (ht : Touch (fun k => B ≤ k ∨ k ∈ G.map (·.1)) w w') : Keep wd w' :=
 keep_touch h0 h ht (fun k hk => hk.elim (fun hk => Nat.le_trans hB hk) (fun hk => hG.at k hk))
theorem keep_below {wd w w' : World} (h0 : 0 < wd.heap.size) (h : Keep wd w) (hb : Below wd.heap.size w w') : Keep wd w' := ⟨h.1.trans hb, primeAt_below h.2 hb h0⟩
theorem keep_drew {wd w : World} (h : Keep wd w) : Keep wd w.drew := ⟨Below.drew h.1, h.2⟩
theorem zero_bytes (w : World) : (zeroValue 22).run Tryz.prog w = .ok (.agg (BA 0)) w := by kernel_rfl
theorem zero_rungs (w : World) : (zeroValue 136).run Tryz.prog w = .ok (.agg (Q4 0 0 0 0)) w := by kernel_rfl
theorem act_alloc {o : Oper} {a : Act} {w : World} {K : Act → World → Prop} {Q : Exit → Act → World → Prop} {t : TypeId} {cs : Array Value} (hz : ∀ w, (zeroValue t).run Tryz.prog w = .ok (.agg cs) w) (ho : o.op = .alloc t)
  (h : ∀ w', Below w.heap.size w w' → w'.heap[w.heap.size]? = some (.cells cs t (0, 0)) → K (a.put o.dst (.pointer (some ⟨w.heap.size, 0, none⟩))) w') : o.wp Tryz.prog a w K Q := by
 have hz := hz w
 unfold Oper.wp execOp
 simp only [ho]
 simp [go_sem, hz]
 exact h _ ((Below.refl _ _).alloc (Nat.le_refl _) _) (heap_alloc_new w _)
theorem actb2 {o : Oper} {a : Act} {w : World} {K : Act → World → Prop} {Q : Exit → Act → World → Prop} {x y : Operand} (ho : o.op = .buildSlice 75 2 #[(0, x), (1, y)]) {m n : Int} (hx : a.eval x = .agg (BA m)) (hy : a.eval y = .agg (BA n))
  (h : ∀ v, v.heap[w.heap.size]? = some (.cells (BA m ++ BA n) 22 (0, 0)) → Below w.heap.size w v → K (a.put o.dst (.slice (some ⟨w.heap.size, 0, none⟩) 2 2)) v) : o.wp Tryz.prog a w K Q := by
 have hr := run_bs2 m n w
 unfold Oper.wp execOp
 simp only [ho, List.map_toArray, List.map_cons, List.map_nil, hx, hy, Sem.run_bind, hr, Result.andThen_ok, Sem.run_pure, Oper.upon]
 exact h _ (heap_alloc_new w _) ((Below.refl _ _).alloc (Nat.le_refl _) _)
theorem actb3 {o : Oper} {a : Act} {w : World} {K : Act → World → Prop} {Q : Exit → Act → World → Prop} {x y z : Operand} (ho : o.op = .buildSlice 75 3 #[(0, x), (1, y), (2, z)]) {m n k : Int} (hx : a.eval x = .agg (BA m)) (hy : a.eval y = .agg (BA n)) (hz : a.eval z = .agg (BA k))
  (h : ∀ v, v.heap[w.heap.size]? = some (.cells (BA m ++ BA n ++ BA k) 22 (0, 0)) → Below w.heap.size w v → K (a.put o.dst (.slice (some ⟨w.heap.size, 0, none⟩) 3 3)) v) : o.wp Tryz.prog a w K Q := by
 have hr := run_bs3 m n k w
 unfold Oper.wp execOp
 simp only [ho, List.map_toArray, List.map_cons, List.map_nil, hx, hy, hz, Sem.run_bind, hr, Result.andThen_ok, Sem.run_pure, Oper.upon]
 exact h _ (heap_alloc_new w _) ((Below.refl _ _).alloc (Nat.le_refl _) _)
theorem run_fa (b k : Nat) (w : World) (hk : k < 4) : (Instr.fieldAt 136 (.pointer (some ⟨b, 0, none⟩)) k).run Tryz.prog w = .ok (.pointer (some ⟨b, k * 32, none⟩)) w := by
 rcases k with _ | _ | _ | _ | k
 ·kernel_rfl
 ·kernel_rfl
 ·kernel_rfl
 ·kernel_rfl
 ·omega
theorem exec_fa {a : Act} {o : Oper} {w : World} {x : Operand} {k : Nat} (ho : o.op = .fieldAddr 136 x k) {b : Nat} (hx : a.eval x = .pointer (some ⟨b, 0, none⟩)) (hk : k < 4) : (execOp a.eval o).run Tryz.prog w = .ok (.value (.pointer (some ⟨b, k * 32, none⟩))) w := by
 have h := run_fa b k w hk
 unfold execOp
 simp only [ho, hx, Sem.run_bind, h, Result.andThen_ok, Sem.run_pure]
theorem range_in {wd : World} {b o : Nat} {n : Int} {cs : Array Value} {t : TypeId} (hg : wd.heap[b]? = some (.cells cs t (0, 0))) (h : ∀ j, j < 32 → cs[o + j]? = (BA n)[j]?) : wd.rangeAt b o (BA n).toList :=
 fun j v hv => by
  have hj : j < 32 := by have := (List.getElem?_eq_some_iff.1 hv).1; rwa [Array.length_toList, BA_size] at this
  rw [cell_of_row wd b (o + j) _ _ _ hg, h j hj]
  simpa using hv
theorem Q4_0' (x z v w : Int) (j : Nat) (hj : j < 32) : (Q4 x z v w)[0 * 32 + j]? = (BA x)[j]? := by rw [show 0 * 32 + j = j by omega]; exact Q4_0 x z v w j hj
theorem stepc1 {f : FuncId} (hc : ∀ args w, (callFunc f args).run Tryz.prog w = .ok (.enter f args) w) {x : Operand} {ts : Array TypeId} {o : Oper} {a : Act} {w : World} {K : Act → World → Prop} {Q : Exit → Act → World → Prop}
  (ho : o.op = .call { callee := .value (.func f), args := #[x], argTypes := ts }) {V v : Value} (hx : a.eval x = V) (hC : Calls Tryz.prog f #[V] w fun r w' => r = .returned v ∧ Below w.heap.size w w')
  (h : ∀ w', Below w.heap.size w w' → K (a.put o.dst v) w') : o.wp Tryz.prog a w K Q := call1 hc x ts ho V v hx hC h
theorem stepc2 {f : FuncId} (hc : ∀ args w, (callFunc f args).run Tryz.prog w = .ok (.enter f args) w) {x y : Operand} {ts : Array TypeId} {o : Oper} {a : Act} {w : World} {K : Act → World → Prop} {Q : Exit → Act → World → Prop}
  (ho : o.op = .call { callee := .value (.func f), args := #[x, y], argTypes := ts }) {V V2 v : Value} (hx : a.eval x = V) (hy : a.eval y = V2) (hC : Calls Tryz.prog f #[V, V2] w fun r w' => r = .returned v ∧ Below w.heap.size w w')
  (h : ∀ w', Below w.heap.size w w' → K (a.put o.dst v) w') : o.wp Tryz.prog a w K Q := call2 hc x y ts ho V V2 v hx hy hC h
theorem enterOf (args : Array Value) (w : World) : (callFunc 58 args).run Tryz.prog w = .ok (.enter 58 args) w := by kernel_rfl
theorem enterInv (args : Array Value) (w : World) : (callFunc 104 args).run Tryz.prog w = .ok (.enter 104 args) w := by kernel_rfl
theorem info128r : (Tryz.prog.info? 136).map (·.size) = some 128 := by kernel_rfl
theorem st_rungs {ops : Array Oper} {rest : List Oper} {d : Option Tmp} {X Y : Operand} {t : TypeId} {ps : String} {af : Array Edge} {a : Act} {wd : World} {Q : Exit → Act → World → Prop} {g : Nat} {x z v w : Int} {old : Array Value}
  (hx : a.eval X = .pointer (some ⟨g, 0, none⟩)) (hy : a.eval Y = .agg (Q4 x z v w)) (hg : wd.heap[g]? = some (.cells old 136 (0, 0))) (hold : old.size = 128)
  (h : ∀ w2, w2.heap[g]? = some (.cells (Q4 x z v w) 136 (0, 0)) → Only g wd w2 → wpList Tryz.prog ops Q rest (a.put d undef) w2) : wpList Tryz.prog ops Q ({ dst := d, op := .store 136 X Y, type := t, pos := ps, after := af, guard := none } :: rest) a wd :=
 st_row rfl 136 X Y rfl g _ hx hy 136 _ hg (by rw [Q4_size]; exact info128r) (by rw [Q4_size]; exact hold) (Q4_one x z v w) h
theorem act_rungs {a : Act} {o : Oper} {wd : World} {K : Act → World → Prop} {Q : Exit → Act → World → Prop} {X Y : Operand} (ho : o.op = .store 136 X Y)
  {g : Nat} {x z v w : Int} (hx : a.eval X = .pointer (some ⟨g, 0, none⟩)) (hy : a.eval Y = .agg (Q4 x z v w)) {old : Array Value} (hg : wd.heap[g]? = some (.cells old 136 (0, 0))) (hold : old.size = 128)
  (h : ∀ w2, w2.heap[g]? = some (.cells (Q4 x z v w) 136 (0, 0)) → Only g wd w2 → K (a.put o.dst undef) w2) : o.wp Tryz.prog a wd K Q :=
 wp_store_row 136 X Y ho g _ hx hy 136 old hg (by rw [Q4_size]; exact info128r) (by rw [Q4_size]; exact hold) (Q4_one x z v w) (h _ (setRow_heap wd g old _ 136 (0, 0) hg) (only_setRow wd g _))
theorem ld_rungs {ops : Array Oper} {rest : List Oper} {o : Oper} {a : Act} {wd : World} {Q : Exit → Act → World → Prop} (hgd : o.guard = none) (X : Operand) (ho : o.op = .load 136 X) (g : Nat) (x z v w : Int)
  (hx : a.eval X = .pointer (some ⟨g, 0, none⟩)) (hg : wd.heap[g]? = some (.cells (Q4 x z v w) 136 (0, 0)))
  (h : wpList Tryz.prog ops Q rest (a.put o.dst (.agg (Q4 x z v w))) wd) : wpList Tryz.prog ops Q (o :: rest) a wd :=
 wpList_load_row hgd 136 X ho g hx 136 _ (0, 0) _ hg Tryz.underlying136 rfl (by rw [Q4_size]; exact info128r) h
theorem look_rungs {a : Act} {o : Oper} {X : Operand} {wd : World} (ho : o.op = .load 136 X) {g : Nat} {x z v w : Int} (hx : a.eval X = .pointer (some ⟨g, 0, none⟩))
  (hg : wd.heap[g]? = some (.cells (Q4 x z v w) 136 (0, 0))) : (execOp a.eval o).run Tryz.prog wd = .ok (.value (.agg (Q4 x z v w))) wd := by
 unfold execOp
 simp only [ho, hx, Instr.loadAt, Instr.sureAddr, Sem.run_bind, Sem.run_pure, Result.andThen_ok, run_loadVar_row wd g 136 136 _ (0, 0) _ hg Tryz.underlying136 rfl (by rw [Q4_size]; exact info128r)]
theorem run_rung4 (x z v w : Int) (wd : World) : (Instr.build 136 #[(0, .agg (BA x)), (1, .agg (BA z)), (2, .agg (BA v)), (3, .agg (BA w))]).run Tryz.prog wd = .ok (.agg (Q4 x z v w)) wd := by kernel_rfl
theorem exec_rung4 {a : Act} {o : Oper} {wd : World} {A B C D : Operand} (ho : o.op = .build 136 #[(0, A), (1, B), (2, C), (3, D)]) {x z v w : Int} (hA : a.eval A = .agg (BA x)) (hB : a.eval B = .agg (BA z)) (hC : a.eval C = .agg (BA v)) (hD : a.eval D = .agg (BA w)) :
  (execOp a.eval o).run Tryz.prog wd = .ok (.value (.agg (Q4 x z v w))) wd := by
 have h := run_rung4 x z v w wd
 unfold execOp
 simp only [ho, List.map_toArray, List.map_cons, List.map_nil, hA, hB, hC, hD, Sem.run_bind, h, Result.andThen_ok, Sem.run_pure]
theorem lookb {a : Act} {o : Oper} {x : Operand} {w : World} (ho : o.op = .load 22 x) {g : Nat} {n : Int} (hx : a.eval x = .pointer (some ⟨g, 0, none⟩)) (hg : w.heap[g]? = some (.cells (BA n) 22 (0, 0))) :
  (execOp a.eval o).run Tryz.prog w = .ok (.value (.agg (BA n))) w := look_bytes ho g _ hx (BA_size _) hg
theorem lookf {a : Act} {o : Oper} {x : Operand} {w : World} (ho : o.op = .load 22 x) {b off : Nat} {n : Int} (hx : a.eval x = .pointer (some ⟨b, off, none⟩)) (hc : w.rangeAt b off (BA n).toList) :
  (execOp a.eval o).run Tryz.prog w = .ok (.value (.agg (BA n))) w := look_at ho b off n hx hc
theorem actbytes {a : Act} {o : Oper} {w : World} {K : Act → World → Prop} {Q : Exit → Act → World → Prop} {x y : Operand} (ho : o.op = .store 22 x y)
  {g : Nat} {n : Int} (hx : a.eval x = .pointer (some ⟨g, 0, none⟩)) (hy : a.eval y = .agg (BA n)) {m : Int} (hg : w.heap[g]? = some (.cells (BA m) 22 (0, 0)))
  (h : ∀ w2, w2.heap[g]? = some (.cells (BA n) 22 (0, 0)) → Only g w w2 → K (a.put o.dst undef) w2) : o.wp Tryz.prog a w K Q := act_bytes x y ho g n hx hy _ hg (BA_size _) h
end Go.Proofs.YthghcjepdhkfdaaGreatDoor.Fld

