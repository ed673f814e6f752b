/-
  Own text. What Add of package field answers, for every slice of 32 bytes each that is not nil: a contract over the translation.
-/
import Derived.Test.YtgklkkjhoecdoaaDoorG3
import Derived.Deep.MidRow
namespace Go.Proofs.YtgklkkjhoecdoaaDoor
open Go.RowKit Go.Proofs
/-- The numbers ns lie in block b from off on, 32 cells each. -/
def RowsAt (w : World) (b off : Nat) (ns : List Int) : Prop := ∀ k, k < ns.length → w.rangeAt b (off + k * 32) (BA (ns.getD k 0)).toList
theorem ld_mid {ops : Array Oper} {rest : List Oper} {o : Oper} {a : Act} {w : World} {Q : Exit → Act → World → Prop} (hgd : o.guard = none) (x : Operand) (ho : o.op = .load 24 x)
    (b off : Nat) (n : Int) (hx : a.eval x = .pointer (some ⟨b, off, none⟩)) (hc : w.rangeAt b off (BA n).toList)
    (h : wpList Tryd.prog ops Q rest (a.put o.dst (.agg (BA n))) w) : wpList Tryd.prog ops Q (o :: rest) a w :=
  wpList_load_mid hgd 24 x ho b off hx _ _ hc Tryd.underlying24 rfl (by rw [Array.length_toList, BA_size]; exact info32) (by rw [Array.toArray_toList]; exact h)
theorem ld_limbs {ops : Array Oper} {rest : List Oper} {o : Oper} {a : Act} {w : World} {Q : Exit → Act → World → Prop} (hgd : o.guard = none) (x : Operand) (ho : o.op = .load 38 x)
    (g : Nat) (v0 v1 v2 v3 : Value) (hx : a.eval x = .pointer (some ⟨g, 0, none⟩)) (hg : w.heap[g]? = some (.cells #[v0, v1, v2, v3] 38 (0, 0)))
    (h : wpList Tryd.prog ops Q rest (a.put o.dst (.agg #[v0, v1, v2, v3])) w) : wpList Tryd.prog ops Q (o :: rest) a w :=
  wpList_load_row hgd 38 x ho g hx 38 _ (0, 0) _ hg Tryd.underlying38 rfl (by kernel_rfl) h
theorem take_sum (ns : List Int) (k : Nat) (h : k < ns.length) : (ns.take (k + 1)).sum = (ns.take k).sum + ns[k] := by
  rw [List.take_succ_eq_append_getElem h, List.sum_append]; simp
theorem add_step {ns : List Int} {k : Nat} {Z Q c n : Int} (hz : ∃ c : Int, Z = (ns.take k).sum + c * P255) (e : Q = Z + n + c * P255) (hs : (ns.take (k + 1)).sum = (ns.take k).sum + n) :
    ∃ c : Int, Q = (ns.take (k + 1)).sum + c * P255 := by
  obtain ⟨d, rfl⟩ := hz
  exact ⟨d + c, by rw [e, hs, Int.add_mul]; omega⟩
theorem add_last {ns : List Int} {Z : Int} (hz : ∃ c : Int, Z = (ns.take ns.length).sum + c * P255) : Z % P255 = ns.sum % P255 := by
  obtain ⟨d, rfl⟩ := hz
  rw [List.take_length, Int.mul_comm, Int.add_mul_emod_self_left]
def addF (i : Nat) : Nat := [1, 1].getD i 0
def addT (i : Nat) : Bool := i != 4
set_option maxHeartbeats 1000000 in
theorem add_walk (b off cap : Nat) (ns : List Int) (w : World) (hr : ∀ n ∈ ns, 0 ≤ n ∧ n < W256) (hrows : RowsAt w b off ns) (hb : b < w.heap.size) (hlen : ns.length ≤ 4611686018427387904) :
    Calls Tryd.prog 10 #[.slice (some ⟨b, off, none⟩) ns.length cap] w fun e w' => e = .returned (.agg (BA (ns.sum % P255))) ∧ Below w.heap.size w w' := by
  have HR := Hid.mk hr
  have HW := Hid.mk hrows
  clear hr hrows
  go_enter Tryd.func10, Tryd.ntmps10
  go_wp2
  go_loopw [8] (fun i v => ∃ k : Nat, k ≤ ns.length ∧ i = .int .i64 k ∧ ∃ z0 z1 z2 z3, U64 z0 ∧ U64 z1 ∧ U64 z2 ∧ U64 z3 ∧ (∃ c : Int, V4 z0 z1 z2 z3 = (ns.take k).sum + c * P255) ∧
      v.heap[w.heap.size + 1]? = some (.cells #[.int .u64 z0, .int .u64 z1, .int .u64 z2, .int .u64 z3] 38 (0, 0)) ∧ (∃ z : Array Value, v.heap[w.heap.size]? = some (.cells z 24 (0, 0)) ∧ z.size = 32) ∧ Below w.heap.size w v)
    (fun i _ => ns.length - (intOf i).toNat)
  case atStart =>
    exact ⟨0, Nat.zero_le _, rfl, 0, 0, 0, 0, u64_0, u64_0, u64_0, u64_0, ⟨0, by simp [V4]⟩, heap_alloc2_new w _ _, ⟨_, heap_alloc2_old w _ _, rfl⟩, by repeat first | exact Below.refl _ _ | refine Below.alloc ?_ (by simp <;> omega) _⟩
  case round =>
    obtain ⟨k, hk, rfl, z0, z1, z2, z3, hz0, hz1, hz2, hz3, hz, gs, ⟨z, gz, sz⟩, hB⟩ := hrel
    have HZ := Hid.mk hz
    clear hz
    by_cases hlt : k < ns.length
    · have hn := HR.out _ (List.getElem_mem hlt)
      have hrow : wr.rangeAt b (off + k * 32) (BA (ns.getD k 0)).toList := fun j v hv => (hB.cell hb).trans (HW.out k hlt j v hv)
      have hgd : ns.getD k 0 = ns[k] := by simp [hlt]
      rw [hgd] at hrow
      have hsn := Hid.mk (take_sum ns k hlt)
      clear hgd
      generalize ns[k] = n at *
      have HROW := Hid.mk hrow
      clear hrow
      go_wp2_with (first | (refine ld_mid rfl _ rfl _ _ n rfl HROW.out ?_) | (refine st_bytes rfl _ _ rfl _ n rfl rfl _ (heap_alloc_new wr _) rfl ?_; intro v1 g1 o1))
      have hsz : w.heap.size + 1 < wr.heap.size := heap_lt gs
      have gs1 := (o1.block _ (by omega)).trans ((Below.heap_alloc wr _ _ hsz).trans gs)
      have gz1 := (o1.block _ (by omega)).trans ((Below.heap_alloc wr _ _ (by omega)).trans gz)
      have hB1 : Below w.heap.size w v1 := Below.trans (hB.alloc (by omega) _) (Only.below (b := wr.heap.size) (B := w.heap.size) o1 (by omega))
      clear o1 gs gz hB
      generalize wr.heap.size = bw at *
      refine wp_region_mixS (fun v => v.heap[w.heap.size + 1]? = some (.cells #[.int .u64 z0, .int .u64 z1, .int .u64 z2, .int .u64 z3] 38 (0, 0)) ∧ v.heap[bw]? = some (.cells (BA n) 24 (0, 0)))
        addF addT [0, 1, 2, 3, 4] rfl (by kernel_rfl) (fun _ _ d _ _ h => by cases d <;> exact h) ⟨gs1, g1⟩ (fun HS => ?_)
      apply mix_look rfl rfl rfl HS
      focus exact fun v h => look_limbs rfl _ _ _ _ _ rfl h.1
      simp only [Act.put, List.setIfInBounds_toArray, List.set_cons_zero, List.set_cons_succ]
      apply mix_look rfl rfl rfl HS
      focus exact fun v h => look_bytes rfl _ _ rfl (BA_size _) h.2
      simp only [Act.put, List.setIfInBounds_toArray, List.set_cons_zero, List.set_cons_succ]
      clear HS g1
      refine mix_act rfl rfl rfl ?_
      intro K hK
      go_simp
      refine (load_any n _).mono ?_
      rintro e v2 ⟨rfl, hb2⟩
      have gs2 := bheap hb2 gs1 (heap_lt gs1)
      have gz2 := bheap hb2 gz1 (heap_lt gz1)
      have hB2 := Below.trans (Below.drew hB1) (hb2.mono hB1.size)
      refine hK _ _ (fun _ h => ⟨bheap hb2 h.1 (heap_lt h.1), bheap hb2 h.2 (heap_lt h.2)⟩) ?_
      clear hK K hb2 gs1 gz1 hB1
      refine mix_act rfl rfl rfl ?_
      intro K hK
      go_simp
      refine (plus_any _ _ _ _ _ _ _ _ _ hz0 hz1 hz2 hz3 (limb_u64 _ _) (limb_u64 _ _) (limb_u64 _ _) (limb_u64 _ _)).mono ?_
      rintro e v3 ⟨q0, q1, q2, q3, hq0, hq1, hq2, hq3, ⟨c, ec⟩, rfl, hb3⟩
      rw [limb_V4 hn.1 hn.2] at ec
      have EC := Hid.mk ec
      clear ec
      have gs3 := bheap hb3 gs2 (heap_lt gs2)
      have gz3 := bheap hb3 gz2 (heap_lt gz2)
      have hB3 := Below.trans hB2 (hb3.mono hB2.size)
      refine hK _ _ (fun _ h => ⟨bheap hb3 h.1 (heap_lt h.1), bheap hb3 h.2 (heap_lt h.2)⟩) ?_
      clear hK K hb3 gs2 gz2 hB2
      refine mix_act rfl rfl rfl ?_
      intro K hK
      refine act_limbs _ _ rfl _ _ _ _ _ rfl rfl _ _ _ _ gs3 ?_
      intro v4 g4 o4
      refine hK _ _ (fun h => by cases h) ?_
      clear hK K
      refine mix_done ?_
      have gz4 := (o4.block _ (by omega)).trans gz3
      have hB4 : Below w.heap.size w v4 := Below.trans hB3 (Only.below (b := w.heap.size + 1) (B := w.heap.size) o4 (by omega))
      clear o4 gs3 gz3 hB3
      go_wp2
      go_roundw
      case rel => exact ⟨k + 1, by omega, by go_num, q0, q1, q2, q3, hq0, hq1, hq2, hq3, add_step HZ.out EC.out hsn.out, g4, ⟨z, gz4, sz⟩, hB4⟩
      case measure => simp [intOf]; omega
    · have hk2 : k = ns.length := by omega
      subst hk2
      go_wp2_with (refine ld_limbs rfl _ rfl _ _ _ _ _ rfl gs ?_)
      refine (store_any _ _ _ _ _ hz0 hz1 hz2 hz3).mono ?_
      rintro e v2 ⟨rfl, hb2⟩
      have gz2 := bheap hb2 gz (heap_lt gz)
      have hB2 := Below.trans hB (hb2.mono hB.size)
      clear hb2
      go_wp2_with (refine st_bytes rfl _ _ rfl _ _ rfl rfl _ gz2 sz ?_; intro v3 g3 o3)
      rw [add_last HZ.out] at g3
      exact bodyPost_ret (v := .agg (BA (ns.sum % P255))) (results_cell_row rfl _ _ _ _ _ _ _ rfl g3 Tryd.underlying24 rfl (by rw [BA_size]; exact info32)) rfl
        ⟨rfl, Below.trans hB2 (Only.below (b := w.heap.size) (B := w.heap.size) o3 (by omega))⟩
end Go.Proofs.YtgklkkjhoecdoaaDoor
