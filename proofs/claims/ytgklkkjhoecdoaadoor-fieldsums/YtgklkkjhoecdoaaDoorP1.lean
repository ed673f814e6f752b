/-
  Own text. What Pow and Inv of the document's answer give.
-/
import Derived.Test.YtgklkkjhoecdoaaDoorK9
import Derived.Test.YtgklkkjhoecdoaaDoorI2
namespace Go.Proofs.YtgklkkjhoecdoaaDoor
open Go.RowKit Go.Proofs
theorem heap_a4r (w : World) (A B C D : Obj) : ((((w.alloc A).alloc B).alloc C).alloc D).heap[w.heap.size + 1 + 1 + 1]? = some D := by
  have h := heap_alloc_new (((w.alloc A).alloc B).alloc C) D
  have e : (((w.alloc A).alloc B).alloc C).heap.size = w.heap.size + 1 + 1 + 1 := by simp
  rwa [e] at h
/-- 32 bytes are stored: only where a store stands. -/
theorem st_bytesS {ops : Array Oper} {rest : List Oper} {d : Option Tmp} {x y : Operand} {t : TypeId} {ps : String} {af : Array Edge} {a : Act} {w : World} {Q : Exit → Act → World → Prop} {g : Nat} {n : Int} {old : Array Value}
    (hx : a.eval x = .pointer (some ⟨g, 0, none⟩)) (hy : a.eval y = .agg (BA n)) (hg : w.heap[g]? = some (.cells old 24 (0, 0))) (hold : old.size = 32)
    (h : ∀ w2, w2.heap[g]? = some (.cells (BA n) 24 (0, 0)) → Only g w w2 → wpList Tryd.prog ops Q rest (a.put d undef) w2) : wpList Tryd.prog ops Q ({ dst := d, op := .store 24 x y, type := t, pos := ps, after := af, guard := none } :: rest) a w :=
  st_bytes rfl x y rfl g n hx hy old hg hold h
theorem rpow_start {a e : Int} (h1 : e < W256) : a ^ topBits e 0 % P255 = 1 := by
  unfold topBits
  have : e.toNat / 2 ^ 256 = 0 := Nat.div_eq_of_lt (by unfold W256 at h1; omega)
  rw [show 256 - 0 = 256 from rfl, this, Int.pow_zero]
  decide +kernel
theorem rpow_sq (a : Int) (t : Nat) : (a ^ t % P255) * (a ^ t % P255) % P255 = a ^ (2 * t) % P255 := by
  rw [← Int.mul_emod, ← Int.pow_add, Nat.two_mul]
theorem rpow_odd (a : Int) (t : Nat) : a ^ (2 * t) % P255 * a % P255 = a ^ (2 * t + 1) % P255 := by
  rw [Int.pow_succ, Int.mul_emod, Int.emod_emod, ← Int.mul_emod]
theorem rpow_last (a e : Int) : a ^ topBits e 256 % P255 = a ^ e.toNat % P255 := by simp [topBits]
set_option maxHeartbeats 1000000 in
set_option maxRecDepth 100000 in
theorem rpow_any (a e : Int) (w : World) (ha : N256 a) (he : N256 e) :
    Calls Tryd.prog 24 #[.agg (BA a), .agg (BA e)] w fun r w' => r = .returned (.agg (BA (a ^ e.toNat % P255))) ∧ Below w.heap.size w w' := by
  have HA := Hid.mk ha
  have HE := Hid.mk he
  clear ha he
  go_enter Tryd.func24, Tryd.ntmps24
  go_wp2_with (first | (refine wl_value rfl (exec_build 0 1 rfl 1 (build1 _)) ?_) | (refine st_bytesS (n := 1) (by rfl) (by rfl) (heap_a4r w _ _ _ _) (by rfl) ?_; intro v1 g1 o1))
  have ga := (o1.block _ (by omega)).trans ((Below.heap_alloc _ _ _ (by simp <;> omega)).trans (heap_a31 w _ _ _))
  have ge := (o1.block _ (by omega)).trans ((Below.heap_alloc _ _ _ (by simp <;> omega)).trans (heap_a32 w _ _ _))
  have gz := (o1.block _ (by omega)).trans ((Below.heap_alloc _ _ _ (by simp <;> omega)).trans (heap_a3 w _ _ _))
  have hB : Below w.heap.size w v1 := by
    refine Below.trans ?_ (Only.below (b := w.heap.size + 1 + 1 + 1) (B := w.heap.size) o1 (by omega))
    repeat first | exact Below.refl _ _ | refine Below.alloc ?_ (by simp <;> omega) _
  clear o1
  go_loopg [6] 256 (fun m i v => ∃ k : Nat, Hid (m + k = 256) ∧ i = .int .i64 (255 - (k : Int)) ∧ v.heap[w.heap.size]? = some (.cells (BA a) 24 (0, 0)) ∧ v.heap[w.heap.size + 1]? = some (.cells (BA e) 24 (0, 0)) ∧ v.heap[w.heap.size + 1 + 1]? = some (.cells (BA 0) 24 (0, 0)) ∧
    v.heap[w.heap.size + 1 + 1 + 1]? = some (.cells (BA (a ^ topBits e k % P255)) 24 (0, 0)) ∧ Below w.heap.size w v)
  case atStart => exact ⟨0, Hid.mk rfl, rfl, ga, ge, gz, by rw [rpow_start HE.out.2]; exact g1, hB⟩
  case round =>
    clear g1 ga ge gz hB
    obtain ⟨k, HK, rfl, ga, ge, gz, go, hB⟩ := hrel
    have hk : k ≤ 256 := by have := HK.out; omega
    by_cases hlt : k < 256
    · have hbit := topBits_succ e k hlt HE.out.1
      have SQ := Hid.mk (rpow_sq a (topBits e k))
      have OD := Hid.mk (rpow_odd a (topBits e k))
      cases hbv : (bits BinOp.and IntKind.u8 (byt e ((255 - k) / 8) / 2 ^ ((255 - k) % 8)) 1 == 1)
      all_goals
        simp only [hbv, Bool.false_eq_true, if_false, if_true, Nat.add_zero] at hbit
        have HBIT := Hid.mk hbit
        clear hbit
        generalize hn1 : topBits e (k + 1) = t1 at *
        generalize hn0 : topBits e k = t0 at *
        have HN1 := Hid.mk hn1
        clear hn1 hn0
        go_wp2_with (refine ld_bytes rfl _ rfl _ _ rfl go (BA_size _) ?_)
        refine (rtimes_any _ _ _ (N256.mod _) (N256.mod _)).mono ?_
        rintro r v2 ⟨rfl, hb2⟩
        rw [SQ.out]
        have ga2 := bheap hb2 ga (heap_lt ga)
        have ge2 := bheap hb2 ge (heap_lt ge)
        have gz2 := bheap hb2 gz (heap_lt gz)
        have go2 := bheap hb2 go (heap_lt go)
        have hB2 := Below.trans hB (hb2.mono hB.size)
        clear hb2 ga ge gz go hB
        go_wp2_with (first | (refine st_bytes rfl _ _ rfl _ _ rfl rfl _ go2 (BA_size _) ?_; intro v3 go3 o3; have ga3 := (o3.block _ (by omega)).trans ga2; have ge3 := (o3.block _ (by omega)).trans ge2; have gz3 := (o3.block _ (by omega)).trans gz2; have hB3 := Below.trans hB2 (Only.below (b := w.heap.size + 1 + 1 + 1) (B := w.heap.size) o3 (by omega)); have ce := (cell_of_row v3 (w.heap.size + 1) ((255 - k) / 8) _ _ _ ge3).trans (BA_get e _ (by omega))) | (refine ld_bytes rfl _ rfl _ _ rfl go3 (BA_size _) ?_) | (refine ld_bytes rfl _ rfl _ _ rfl ga3 (BA_size _) ?_))
      · go_roundg (256 - (k + 1))
        case rel => exact ⟨k + 1, Hid.mk (by omega), by go_num, ga3, ge3, gz3, by rw [HN1.out, HBIT.out]; exact go3, hB3⟩
        case measure => have := HK.out; omega
      · refine (rtimes_any _ _ _ (N256.mod _) HA.out).mono ?_
        rintro r v4 ⟨rfl, hb4⟩
        rw [OD.out]
        have ga4 := bheap hb4 ga3 (heap_lt ga3)
        have ge4 := bheap hb4 ge3 (heap_lt ge3)
        have gz4 := bheap hb4 gz3 (heap_lt gz3)
        have go4 := bheap hb4 go3 (heap_lt go3)
        have hB4 := Below.trans hB3 (hb4.mono hB3.size)
        clear hb4 ga3 ge3 gz3 go3 hB3 ce
        go_wp2_with (refine st_bytesS (by rfl) (by rfl) go4 (BA_size _) ?_; intro v5 go5 o5)
        have ga5 := (o5.block _ (by omega)).trans ga4
        have ge5 := (o5.block _ (by omega)).trans ge4
        have gz5 := (o5.block _ (by omega)).trans gz4
        have hB5 := Below.trans hB4 (Only.below (b := w.heap.size + 1 + 1 + 1) (B := w.heap.size) o5 (by omega))
        go_roundg (256 - (k + 1))
        case rel => exact ⟨k + 1, Hid.mk (by omega), by go_num, ga5, ge5, gz5, by rw [HN1.out, HBIT.out]; exact go5, hB5⟩
        case measure => have := HK.out; omega
    · have hk2 : k = 256 := by omega
      subst hk2
      rw [rpow_last] at go
      go_wp2_with (first | (refine ld_bytes rfl _ rfl _ _ rfl go (BA_size _) ?_) | (refine st_bytesS (by rfl) (by rfl) gz (BA_size _) ?_; intro v6 g6 o6))
      exact bodyPost_ret (v := .agg (BA (a ^ e.toNat % P255))) (results_cell_row rfl _ _ _ _ _ _ _ rfl g6 Tryd.underlying24 rfl (by rw [BA_size]; exact info32)) rfl
        ⟨rfl, Below.trans hB (Only.below (b := w.heap.size + 1 + 1) (B := w.heap.size) o6 (by omega))⟩
theorem N256_P2 : N256 (P255 - 2) := by unfold N256 W256 P255; omega
theorem less_exp : (P255 - 2).toNat = invE := by decide +kernel
set_option maxHeartbeats 1000000 in
theorem rinv_any (a : Int) (w : World) (ha : N256 a) :
    Calls Tryd.prog 26 #[.agg (BA a)] w fun e w' => e = .returned (.agg (BA (invN a))) ∧ Below w.heap.size w w' := by
  go_enter Tryd.func26, Tryd.ntmps26
  go_wp2
  refine wp_gen (fun v => v.heap[w.heap.size]? = some (.cells (BA a) 24 (0, 0)) ∧
    (∃ z : Array Value, v.heap[w.heap.size + 1]? = some (.cells z 24 (0, 0)) ∧ z.size = 32) ∧ Below w.heap.size w v)
    ⟨heap_alloc2_old w _ _, ⟨_, heap_alloc2_new w _ _, rfl⟩, by repeat first | exact Below.refl _ _ | refine Below.alloc ?_ (by simp <;> omega) _⟩ ?_
  rintro v0 ⟨ga, ⟨z, gz, sz⟩, hB⟩
  refine wp_region_mixS (fun v => v.heap[w.heap.size]? = some (.cells (BA a) 24 (0, 0)))
    invF invT [0, 1, 2, 3] rfl (by kernel_rfl) (fun _ _ d _ _ h => by cases d <;> exact h) ga (fun HS => ?_)
  apply mix_look rfl rfl rfl HS
  focus exact fun v h => look_bytes rfl _ _ rfl (BA_size _) h
  simp only [Act.put, List.setIfInBounds_toArray, List.set_cons_zero, List.set_cons_succ]
  clear HS ga
  refine mix_act rfl rfl rfl ?_
  intro K hK
  go_simp
  refine (less_any _).mono ?_
  rintro e v1 ⟨rfl, hb⟩
  have gz := bheap hb gz (heap_lt gz)
  have hB := Below.trans (Below.drew hB) (hb.mono hB.size)
  refine hK _ _ (fun _ h => bheap hb h (heap_lt h)) ?_
  clear hK K hb
  have NE : N256 (P255 - 2) := N256_P2
  refine mix_act rfl rfl rfl ?_
  intro K hK
  go_simp
  refine (rpow_any a _ _ ha NE).mono ?_
  rintro e v2 ⟨rfl, hb⟩
  rw [less_exp]
  have gz := bheap hb gz (heap_lt gz)
  have hB := Below.trans hB (hb.mono hB.size)
  refine hK _ _ (fun _ h => bheap hb h (heap_lt h)) ?_
  clear hK K hb
  refine mix_act rfl rfl rfl ?_
  intro K hK
  refine act_bytes _ _ rfl _ _ rfl rfl _ gz sz ?_
  intro v7 g7 o7
  refine hK _ _ (fun h => by cases h) ?_
  clear hK K
  refine mix_done ?_
  go_wp2
  exact bodyPost_ret (v := .agg (BA (invN a))) (results_cell_row rfl _ _ _ _ _ _ _ rfl g7 Tryd.underlying24 rfl (by rw [BA_size]; exact info32)) rfl
    ⟨rfl, Below.trans hB (Only.below (b := w.heap.size + 1) (B := w.heap.size) o7 (by omega))⟩
end Go.Proofs.YtgklkkjhoecdoaaDoor
