/-
  Own text. What Mul of package field answers, for every slice of 32 bytes each that is not empty: a contract over the translation.
-/
import Derived.Test.YtgklkkjhoecdoaaDoorG4
import Derived.Test.YtgklkkjhoecdoaaDoorF8
namespace Go.Proofs.YtgklkkjhoecdoaaDoor
open Go.RowKit Go.Proofs
/-- The product of all. -/
def lprod : List Int → Int
  | [] => 1
  | x :: l => x * lprod l
theorem lprod_append (l m : List Int) : lprod (l ++ m) = lprod l * lprod m := by
  induction l with
  | nil => simp [lprod]
  | cons x l ih => simp only [List.cons_append, lprod, ih, Int.mul_assoc]
theorem take_prod (ns : List Int) (k : Nat) (h : k < ns.length) : lprod (ns.take (k + 1)) = lprod (ns.take k) * ns[k] := by
  rw [List.take_succ_eq_append_getElem h, lprod_append]; simp [lprod]
theorem mul_step {ns : List Int} {k : Nat} {Z Q c n : Int} (hz : ∃ c : Int, Z = lprod (ns.take k) + c * P255) (e : Q = Z * n + c * P255) (hs : lprod (ns.take (k + 1)) = lprod (ns.take k) * n) :
    ∃ c : Int, Q = lprod (ns.take (k + 1)) + c * P255 := by
  obtain ⟨d, rfl⟩ := hz
  exact ⟨d * n + c, by rw [e, hs, Int.add_mul, Int.add_mul, Int.mul_assoc, Int.mul_comm P255 n, ← Int.mul_assoc]; omega⟩
theorem mul_last {ns : List Int} {Z : Int} (hz : ∃ c : Int, Z = lprod (ns.take ns.length) + c * P255) : Z % P255 = lprod ns % P255 := by
  obtain ⟨d, rfl⟩ := hz
  rw [List.take_length, Int.mul_comm, Int.add_mul_emod_self_left]
set_option maxHeartbeats 1000000 in
theorem mul_walk (b off cap : Nat) (ns : List Int) (w : World) (hr : ∀ n ∈ ns, 0 ≤ n ∧ n < W256) (hrows : RowsAt w b off ns) (hb : b < w.heap.size) (hlen : ns.length ≤ 4611686018427387904) (hcap : ns.length ≤ cap) (h1 : 1 ≤ ns.length) :
    Calls Tryd.prog 11 #[.slice (some ⟨b, off, none⟩) ns.length cap] w fun e w' => e = .returned (.agg (BA (lprod ns % P255))) ∧ Below w.heap.size w w' := by
  have hz : ((ns.length : Int) == 0) = false := by simp; intro h; simp [h] at h1
  have hn0 := hr _ (List.getElem_mem (show 0 < ns.length by omega))
  have r0 := hrows 0 (by omega)
  have hgd : ns.getD 0 0 = ns[0] := by simp [show 0 < ns.length by omega]
  rw [hgd] at r0
  have E0 := Hid.mk (take_prod ns 0 (by omega))
  have HR := Hid.mk hr
  have HW := Hid.mk hrows
  clear hr hrows hgd
  simp only [Nat.zero_mul, Nat.add_zero] at r0
  generalize ns[0] = n0 at *
  have R0 : Hid (∀ v, Below w.heap.size w v → v.rangeAt b off (BA n0).toList) := fun v hB j x hx => (hB.cell hb).trans (r0 j x hx)
  clear r0
  rcases Nat.eq_or_lt_of_le (show 1 ≤ cap by omega) with hc | hc
  · subst hc
    go_enter Tryd.func11, Tryd.ntmps11
    go_wp2_with (refine ld_mid rfl _ rfl _ _ n0 rfl (R0.out _ ((Below.refl _ _).alloc (Nat.le_refl _) _)) ?_)
    refine (load_any n0 _).mono ?_
    rintro e v0 ⟨rfl, hb0⟩
    have gz := bheap hb0 (heap_alloc_new w _) (by simp <;> omega)
    have hB := Below.trans ((Below.refl _ w).alloc (Nat.le_refl _) _) (hb0.mono (by simp <;> omega))
    clear hb0
    go_wp2_with (refine st_limbs rfl _ _ rfl _ _ _ _ _ rfl rfl _ _ _ _ (heap_alloc_new v0 _) ?_; intro v1 g1 o1)
    have hsz : w.heap.size < v0.heap.size := heap_lt gz
    have gz1 := (o1.block _ (by omega)).trans ((Below.heap_alloc v0 _ _ hsz).trans gz)
    have hB1 : Below w.heap.size w v1 := Below.trans (hB.alloc (by omega) _) (Only.below (b := v0.heap.size) (B := w.heap.size) o1 (by omega))
    clear o1 gz hB
    generalize v0.heap.size = bs at *
    refine wp_loop_rounds 1 ?_
    rw [rounds_succ]
    have e1 : ns.length = 1 := by omega
    have Z1 : Hid (∃ c : Int, V4 (limb n0 0) (limb n0 8) (limb n0 16) (limb n0 24) = lprod (ns.take ns.length) + c * P255) := ⟨0, by rw [limb_V4 hn0.1 hn0.2, e1, E0.out]; simp [lprod]⟩
    have e2 : ((ns.length - 1 : Nat) : Int) = 0 := by omega
    clear e1
    go_wp2_with (refine ld_limbs rfl _ rfl _ _ _ _ _ rfl g1 ?_)
    refine (store_any _ _ _ _ _ (limb_u64 _ _) (limb_u64 _ _) (limb_u64 _ _) (limb_u64 _ _)).mono ?_
    rintro e v2 ⟨rfl, hb2⟩
    have gz2 := bheap hb2 gz1 (heap_lt gz1)
    have hB2 := Below.trans hB1 (hb2.mono hB1.size)
    clear hb2
    go_wp2_with (refine st_bytes rfl _ _ rfl _ _ rfl rfl _ gz2 rfl ?_; intro v3 g3 o3)
    rw [mul_last Z1.out] at g3
    exact bodyPost_ret (v := .agg (BA (lprod ns % P255))) (results_cell_row rfl _ _ _ _ _ _ _ rfl g3 Tryd.underlying24 rfl (by rw [BA_size]; exact info32)) rfl
      ⟨rfl, Below.trans hB2 (Only.below (b := w.heap.size) (B := w.heap.size) o3 (by omega))⟩
  · have hc' : ¬ cap = 1 := by omega
    go_enter Tryd.func11, Tryd.ntmps11
    go_wp2_with (refine ld_mid rfl _ rfl _ _ n0 rfl (R0.out _ ((Below.refl _ _).alloc (Nat.le_refl _) _)) ?_)
    refine (load_any n0 _).mono ?_
    rintro e v0 ⟨rfl, hb0⟩
    have gz := bheap hb0 (heap_alloc_new w _) (by simp <;> omega)
    have hB := Below.trans ((Below.refl _ w).alloc (Nat.le_refl _) _) (hb0.mono (by simp <;> omega))
    clear hb0
    go_wp2_with (refine st_limbs rfl _ _ rfl _ _ _ _ _ rfl rfl _ _ _ _ (heap_alloc_new v0 _) ?_; intro v1 g1 o1)
    have hsz : w.heap.size < v0.heap.size := heap_lt gz
    have gz1 := (o1.block _ (by omega)).trans ((Below.heap_alloc v0 _ _ hsz).trans gz)
    have hB1 : Below w.heap.size w v1 := Below.trans (hB.alloc (by omega) _) (Only.below (b := v0.heap.size) (B := w.heap.size) o1 (by omega))
    clear o1 gz hB
    generalize v0.heap.size = bs at *
    go_loopw [17] (fun i v => ∃ k : Nat, k + 1 ≤ ns.length ∧ i = .int .i64 k ∧ ∃ z0 z1 z2 z3, U64 z0 ∧ U64 z1 ∧ U64 z2 ∧ U64 z3 ∧ (∃ c : Int, V4 z0 z1 z2 z3 = lprod (ns.take (k + 1)) + c * P255) ∧
        v.heap[bs]? = some (.cells #[.int .u64 z0, .int .u64 z1, .int .u64 z2, .int .u64 z3] 38 (0, 0)) ∧ (∃ z : Array Value, v.heap[w.heap.size]? = some (.cells z 24 (0, 0)) ∧ z.size = 32) ∧ Below w.heap.size w v)
      (fun i _ => ns.length - (intOf i).toNat)
    case atStart =>
      exact ⟨0, h1, rfl, _, _, _, _, limb_u64 _ _, limb_u64 _ _, limb_u64 _ _, limb_u64 _ _, ⟨0, by rw [limb_V4 hn0.1 hn0.2, E0.out]; simp [lprod]⟩, g1, ⟨_, gz1, rfl⟩, hB1⟩
    case round =>
      clear g1 gz1 hB1
      obtain ⟨k, hk, rfl, z0, z1, z2, z3, hz0, hz1, hz2, hz3, hzz, gs, ⟨z, gz, sz⟩, hB⟩ := hrel
      have HZ := Hid.mk hzz
      clear hzz
      by_cases hlt : k + 1 < ns.length
      · have hn := HR.out _ (List.getElem_mem hlt)
        have hrow : wr.rangeAt b (off + 32 + k * 32) (BA (ns.getD (k + 1) 0)).toList := fun j v hv => by
          have h2 := HW.out (k + 1) hlt j v hv
          rw [show off + (k + 1) * 32 = off + 32 + k * 32 by omega] at h2
          exact (hB.cell hb).trans h2
        have hgd : ns.getD (k + 1) 0 = ns[k + 1] := by simp [hlt]
        rw [hgd] at hrow
        have hsn := Hid.mk (take_prod ns (k + 1) hlt)
        clear hgd
        generalize ns[k + 1] = n at *
        have HROW := Hid.mk hrow
        clear hrow
        have hlt2 : (k : Int) < ((ns.length - 1 : Nat) : Int) := by omega
        have hlt3 : k < ns.length - 1 := by omega
        go_wp2_with (first | (refine ld_mid rfl _ rfl _ _ n rfl HROW.out ?_) | (refine st_bytes rfl _ _ rfl _ n rfl rfl _ (heap_alloc_new wr _) rfl ?_; intro v1 g1 o1))
        have hsz2 : bs < wr.heap.size := heap_lt gs
        have gs1 := (o1.block _ (by omega)).trans ((Below.heap_alloc wr _ _ hsz2).trans gs)
        have gz1 := (o1.block _ (by omega)).trans ((Below.heap_alloc wr _ _ (by omega)).trans gz)
        have hB1 : Below w.heap.size w v1 := Below.trans (hB.alloc (by omega) _) (Only.below (b := wr.heap.size) (B := w.heap.size) o1 (by omega))
        clear o1 gs gz hB
        generalize wr.heap.size = bw at *
        refine wp_region_mixS (fun v => v.heap[bs]? = some (.cells #[.int .u64 z0, .int .u64 z1, .int .u64 z2, .int .u64 z3] 38 (0, 0)) ∧ v.heap[bw]? = some (.cells (BA n) 24 (0, 0)))
          addF addT [0, 1, 2, 3, 4] rfl (by kernel_rfl) (fun _ _ d _ _ h => by cases d <;> exact h) ⟨gs1, g1⟩ (fun HS => ?_)
        apply mix_look rfl rfl rfl HS
        focus exact fun v h => look_limbs rfl _ _ _ _ _ rfl h.1
        simp only [Act.put, List.setIfInBounds_toArray, List.set_cons_zero, List.set_cons_succ]
        apply mix_look rfl rfl rfl HS
        focus exact fun v h => look_bytes rfl _ _ rfl (BA_size _) h.2
        simp only [Act.put, List.setIfInBounds_toArray, List.set_cons_zero, List.set_cons_succ]
        clear HS g1
        refine mix_act rfl rfl rfl ?_
        intro K hK
        go_simp
        refine (load_any n _).mono ?_
        rintro e v2 ⟨rfl, hb2⟩
        have gs2 := bheap hb2 gs1 (heap_lt gs1)
        have gz2 := bheap hb2 gz1 (heap_lt gz1)
        have hB2 := Below.trans (Below.drew hB1) (hb2.mono hB1.size)
        refine hK _ _ (fun _ h => ⟨bheap hb2 h.1 (heap_lt h.1), bheap hb2 h.2 (heap_lt h.2)⟩) ?_
        clear hK K hb2 gs1 gz1 hB1
        refine mix_act rfl rfl rfl ?_
        intro K hK
        go_simp
        refine (times_any _ _ _ _ _ _ _ _ _ hz0 hz1 hz2 hz3 (limb_u64 _ _) (limb_u64 _ _) (limb_u64 _ _) (limb_u64 _ _)).mono ?_
        rintro e v3 ⟨q0, q1, q2, q3, hq0, hq1, hq2, hq3, ⟨c, ec⟩, rfl, hb3⟩
        rw [limb_V4 hn.1 hn.2] at ec
        have EC := Hid.mk ec
        clear ec
        have gs3 := bheap hb3 gs2 (heap_lt gs2)
        have gz3 := bheap hb3 gz2 (heap_lt gz2)
        have hB3 := Below.trans hB2 (hb3.mono hB2.size)
        refine hK _ _ (fun _ h => ⟨bheap hb3 h.1 (heap_lt h.1), bheap hb3 h.2 (heap_lt h.2)⟩) ?_
        clear hK K hb3 gs2 gz2 hB2
        refine mix_act rfl rfl rfl ?_
        intro K hK
        refine act_limbs _ _ rfl _ _ _ _ _ rfl rfl _ _ _ _ gs3 ?_
        intro v4 g4 o4
        refine hK _ _ (fun h => by cases h) ?_
        clear hK K
        refine mix_done ?_
        have gz4 := (o4.block _ (by omega)).trans gz3
        have hB4 : Below w.heap.size w v4 := Below.trans hB3 (Only.below (b := bs) (B := w.heap.size) o4 (by omega))
        clear o4 gs3 gz3 hB3
        go_wp2
        go_roundw
        case rel => exact ⟨k + 1, by omega, by go_num, q0, q1, q2, q3, hq0, hq1, hq2, hq3, mul_step HZ.out EC.out hsn.out, g4, ⟨z, gz4, sz⟩, hB4⟩
        case measure => simp [intOf]; omega
      · have hk2 : k + 1 = ns.length := by omega
        have HZ2 := HZ.out
        rw [hk2] at HZ2
        have HZ3 := Hid.mk HZ2
        have hk3 : ¬ (k : Int) < ((ns.length - 1 : Nat) : Int) := by omega
        clear hk2 HZ2
        go_wp2_with (refine ld_limbs rfl _ rfl _ _ _ _ _ rfl gs ?_)
        refine (store_any _ _ _ _ _ hz0 hz1 hz2 hz3).mono ?_
        rintro e v2 ⟨rfl, hb2⟩
        have gz2 := bheap hb2 gz (heap_lt gz)
        have hB2 := Below.trans hB (hb2.mono hB.size)
        clear hb2
        go_wp2_with (refine st_bytes rfl _ _ rfl _ _ rfl rfl _ gz2 sz ?_; intro v3 g3 o3)
        rw [mul_last HZ3.out] at g3
        exact bodyPost_ret (v := .agg (BA (lprod ns % P255))) (results_cell_row rfl _ _ _ _ _ _ _ rfl g3 Tryd.underlying24 rfl (by rw [BA_size]; exact info32)) rfl
          ⟨rfl, Below.trans hB2 (Only.below (b := w.heap.size) (B := w.heap.size) o3 (by omega))⟩
end Go.Proofs.YtgklkkjhoecdoaaDoor
