/-
  Own text. What Canon, Plus and Times of the document's answer give.
-/
import Derived.Test.YtgklkkjhoecdoaaDoorK8
namespace Go.Proofs.YtgklkkjhoecdoaaDoor
open Go.RowKit Go.Proofs
theorem Rest_len {m : Nat} {B g cap : Nat} {ds : List Int} {w : World} (hl : ds.length = m) (hm : m ≤ 40) (hD : Dig w B g cap ds) (hd : Dgs 4398046511104 ds) :
    Calls Tryd.prog 34 #[.slice (some ⟨g, 0, none⟩) m cap] w fun e w' => e = .returned (.agg (BA (val ds % P255))) ∧ Below w.heap.size w w' := by
  have := Rest_any B g cap ds w hD hd (by omega) (val_44 hd (by omega))
  rwa [hl] at this
theorem LD_wide (n : Int) (i : Nat) : Dgs 4398046511104 (LD n i) := (LD_dgs n i).mono (by omega)
set_option maxHeartbeats 1000000 in
theorem rcanon_any (a : Int) (w : World) (ha : N256 a) :
    Calls Tryd.prog 17 #[.agg (BA a)] w fun e w' => e = .returned (.agg (BA (a % P255))) ∧ Below w.heap.size w w' := by
  have HV := Hid.mk (LD_val ha.1 ha.2)
  clear ha
  go_enter Tryd.func17, Tryd.ntmps17
  go_wp2_with (refine ld_bytes rfl _ rfl _ _ rfl (heap_alloc2_old w _ _) (BA_size _) ?_)
  refine (Load_any a _).mono ?_
  rintro e v1 ⟨g, rfl, hd, hb1⟩
  have gz := bheap hb1 (heap_alloc2_new w _ _) (by simp)
  have hB := Below.trans (((Below.refl _ w).alloc (Nat.le_refl _) _).alloc (by simp) _) (hb1.mono (by simp; omega))
  clear hb1
  go_wp2_with fail
  refine (Rest_len (LD_len a 16) (by omega) hd (LD_wide a 16)).mono ?_
  rintro e v2 ⟨rfl, hb2⟩
  rw [HV.out]
  have gz2 := bheap hb2 gz (heap_lt gz)
  have hB2 := Below.trans hB (hb2.mono hB.size)
  go_wp2_with (refine st_bytes rfl _ _ rfl _ _ rfl rfl _ gz2 (BA_size 0) ?_; intro v3 g3 o3)
  exact bodyPost_ret (v := .agg (BA (a % P255))) (results_cell_row rfl _ _ _ _ _ _ _ rfl g3 Tryd.underlying24 rfl (by rw [BA_size]; exact info32)) rfl
    ⟨rfl, Below.trans hB2 (Only.below (b := w.heap.size + 1) (B := w.heap.size) o3 (by omega))⟩
set_option maxHeartbeats 1000000 in
set_option maxRecDepth 100000 in
theorem rplus_any (a b : Int) (w : World) (ha : N256 a) (hb : N256 b) :
    Calls Tryd.prog 32 #[.agg (BA a), .agg (BA b)] w fun e w' => e = .returned (.agg (BA ((a + b) % P255))) ∧ Below w.heap.size w w' := by
  have HVA := Hid.mk (LD_val ha.1 ha.2)
  have HVB := Hid.mk (LD_val hb.1 hb.2)
  clear ha hb
  go_enter Tryd.func32, Tryd.ntmps32
  go_wp2_with (refine ld_bytes rfl _ rfl _ _ rfl (heap_a31 w _ _ _) (BA_size _) ?_)
  refine (Load_any a _).mono ?_
  rintro e v1 ⟨g1, rfl, hd1, hb1⟩
  have gb := bheap hb1 (heap_a32 w _ _ _) (by simp <;> omega)
  have gz := bheap hb1 (heap_a3 w _ _ _) (by simp <;> omega)
  have hB : Below w.heap.size w v1 := by
    refine Below.trans ?_ (hb1.mono (by simp <;> omega))
    repeat first | exact Below.refl _ _ | refine Below.alloc ?_ (by simp <;> omega) _
  have hd1 := hd1.any (C := w.heap.size + 1 + 1 + 1) (by have := hd1.raw.1; simp at this; omega)
  clear hb1
  have hdl := hd1.lt
  go_wp2_with (refine ld_bytes rfl _ rfl _ _ rfl gb (BA_size _) ?_)
  refine (Load_any b _).mono ?_
  rintro e v2 ⟨g2, rfl, hd2, hb2⟩
  have hd1 := hd1.below hb2 hd1.lt
  have gz := bheap hb2 gz (heap_lt gz)
  have hne : g1 ≠ g2 := by have := hd1.raw.1; have := hd2.raw.1; have := hb2.size; have h := hdl; omega
  have hB := Below.trans hB (hb2.mono hB.size)
  have hd2 := hd2.any (C := w.heap.size + 1 + 1 + 1) (by have := hd1.raw.1; have := hd2.raw.1; omega)
  clear hb2 hdl gb
  have s0 := Sum.start (Y := LD b 16) (LD_dgs a 16) (LD_len a 16)
  go_wp2
  go_loopw [7] (fun i v => ∃ (k : Nat) (ds : List Int), k ≤ 16 ∧ i = .int .i64 k ∧ Sum (LD a 16) (LD b 16) k ds ∧ Dig v (w.heap.size + 1 + 1 + 1) g1 16 ds ∧ Dig v (w.heap.size + 1 + 1 + 1) g2 16 (LD b 16) ∧ v.heap[w.heap.size + 1 + 1]? = some (.cells (BA 0) 24 (0, 0)) ∧ Below w.heap.size w v) (fun i _ => 16 - (intOf i).toNat)
  case atStart => exact ⟨0, _, by omega, rfl, s0, hd1, hd2, gz, hB⟩
  case round =>
    clear s0 hd1 hd2 gz hB
    obtain ⟨k, ds, hk, rfl, sm, hd1, hd2, gz, hB⟩ := hrel
    have hg1 := hd1.raw.1
    by_cases hlt : k < 16
    · have SS := Hid.mk (sm.step (LD_dgs b 16) (LD_len b 16) hlt)
      have cx := hd1.cell k (by have := sm.len; omega)
      have fx := hd1.free k
      have cy := hd2.cell k (by rw [LD_len]; exact hlt)
      have hx := sm.lo k
      have hy := (LD_dgs b 16).at (by omega) k
      have hx0 := hx.1
      have hx1 := hx.2
      have hy0 := hy.1
      have hy1 := hy.2
      clear hx hy sm
      generalize ds.getD k 0 = x at *
      generalize (LD b 16).getD k 0 = y at *
      go_wp2
      go_region
      go_wp2
      go_roundw
      case rel => exact ⟨k + 1, _, by omega, by go_num, SS.out, (hd1.set k _).drewN 1, (hd2.setOther _ (Ne.symm hne)).drewN 1, (heap_setCell_other _ _ _ _ (by simp; omega)).trans gz, Below.drew (Below.setCell hB (by simp; omega) _)⟩
      case measure => simp [intOf]; omega
    · have hk2 : k = 16 := by omega
      subst hk2
      have dn := sm.done (LD_len b 16)
      have NUM : Hid (val ds = a + b) := Hid.mk (by rw [dn.1, HVA.out, HVB.out])
      have DG := Hid.mk dn.2
      clear dn hlt
      go_wp2_with fail
      refine (Rest_len sm.len (by omega) hd1 DG.out).mono ?_
      rintro e v5 ⟨rfl, hb5⟩
      rw [NUM.out]
      have gz5 := bheap hb5 gz (heap_lt gz)
      have hB5 := Below.trans hB (hb5.mono hB.size)
      go_wp2_with (refine st_bytes rfl _ _ rfl _ _ rfl rfl _ gz5 (BA_size 0) ?_; intro v6 g6 o6)
      exact bodyPost_ret (v := .agg (BA ((a + b) % P255))) (results_cell_row rfl _ _ _ _ _ _ _ rfl g6 Tryd.underlying24 rfl (by rw [BA_size]; exact info32)) rfl
        ⟨rfl, Below.trans hB5 (Only.below (b := w.heap.size + 1 + 1) (B := w.heap.size) o6 (by omega))⟩
theorem mk31 (w : World) : (Instr.makeSlice 43 (.int .i64 31) (.int .i64 31)).run Tryd.prog w = .ok (.slice (some ⟨w.heap.size, 0, none⟩) 31 31) (w.alloc (.cells (madeCells #[.int .i64 0] 31) 3)) :=
  run_make_row' 43 3 (.int .i64 0) 8 Tryd.underlying43 infoInt rfl .i64 .i64 31 (by omega) (by omega) w
set_option maxHeartbeats 1000000 in
set_option maxRecDepth 100000 in
theorem rtimes_any (a b : Int) (w : World) (ha : N256 a) (hb : N256 b) :
    Calls Tryd.prog 33 #[.agg (BA a), .agg (BA b)] w fun e w' => e = .returned (.agg (BA (a * b % P255))) ∧ Below w.heap.size w w' := by
  have hmk := mk31
  have HVA := Hid.mk (LD_val ha.1 ha.2)
  have HVB := Hid.mk (LD_val hb.1 hb.2)
  clear ha hb
  go_enter Tryd.func33, Tryd.ntmps33
  go_wp2_with (refine ld_bytes rfl _ rfl _ _ rfl (heap_a31 w _ _ _) (BA_size _) ?_)
  refine (Load_any a _).mono ?_
  rintro e v1 ⟨g1, rfl, hd1, hb1⟩
  have gb := bheap hb1 (heap_a32 w _ _ _) (by simp <;> omega)
  have gz := bheap hb1 (heap_a3 w _ _ _) (by simp <;> omega)
  have hB : Below w.heap.size w v1 := by
    refine Below.trans ?_ (hb1.mono (by simp <;> omega))
    repeat first | exact Below.refl _ _ | refine Below.alloc ?_ (by simp <;> omega) _
  have hd1 := hd1.any (C := w.heap.size + 1 + 1 + 1) (by have := hd1.raw.1; simp at this; omega)
  clear hb1
  have hdl := hd1.lt
  go_wp2_with (refine ld_bytes rfl _ rfl _ _ rfl gb (BA_size _) ?_)
  refine (Load_any b _).mono ?_
  rintro e v2 ⟨g2, rfl, hd2, hb2⟩
  have hd1 := hd1.below hb2 hd1.lt
  have gz := bheap hb2 gz (heap_lt gz)
  have hne : g1 ≠ g2 := by have := hd1.raw.1; have := hd2.raw.1; have := hb2.size; have h := hdl; omega
  have hB := Below.trans hB (hb2.mono hB.size)
  have hd2 := hd2.any (C := w.heap.size + 1 + 1 + 1) (by have := hd1.raw.1; have := hd2.raw.1; omega)
  clear hb2 hdl gb
  have p0 := Prd.start (LD a 16) (LD b 16)
  go_wp2
  refine wp_gen (fun v => Dig v (w.heap.size + 1 + 1 + 1) g1 16 (LD a 16) ∧ Dig v (w.heap.size + 1 + 1 + 1) g2 16 (LD b 16) ∧ Dig v (w.heap.size + 1 + 1 + 1) v2.heap.size 31 (List.replicate 31 0) ∧ v.heap[w.heap.size + 1 + 1]? = some (.cells (BA 0) 24 (0, 0)) ∧ Below w.heap.size w v)
    ⟨hd1.alloc _, hd2.alloc _, (dig_made v2 31 (by omega)).any (by have := heap_lt gz; omega), (Below.heap_alloc _ _ _ (heap_lt gz)).trans gz, hB.alloc hB.size _⟩ ?_
  have hn1 := hd1.lt
  have hn2 := hd2.lt
  have hn3 := heap_lt gz
  clear hd1 hd2 gz hB
  generalize v2.heap.size = g3 at *
  rintro v3 ⟨hd1, hd2, hd3, gz, hB⟩
  go_loopw [8] (fun i v => ∃ (k : Nat) (ds : List Int), k ≤ 16 ∧ i = .int .i64 k ∧ Prd (LD a 16) (LD b 16) k 0 ds ∧ Dig v (w.heap.size + 1 + 1 + 1) g1 16 (LD a 16) ∧ Dig v (w.heap.size + 1 + 1 + 1) g2 16 (LD b 16) ∧ Dig v (w.heap.size + 1 + 1 + 1) g3 31 ds ∧ v.heap[w.heap.size + 1 + 1]? = some (.cells (BA 0) 24 (0, 0)) ∧ Below w.heap.size w v) (fun i _ => 16 - (intOf i).toNat)
  case atStart => exact ⟨0, _, by omega, rfl, p0, hd1, hd2, hd3, gz, hB⟩
  case round =>
    clear p0 hd1 hd2 hd3 gz hB
    obtain ⟨k, ds, hk, rfl, pr, hd1, hd2, hd3, gz, hB⟩ := hrel
    have hg3 := hd3.raw.1
    by_cases hlt : k < 16
    · go_wp2
      generalize Value.bool (decide ((k : Int) < 16)) = b16
      go_loopg [9] 16 (fun m i v => ∃ (j : Nat) (ds : List Int), Hid (m + j = 16) ∧ i = .int .i64 j ∧ Prd (LD a 16) (LD b 16) k j ds ∧ Dig v (w.heap.size + 1 + 1 + 1) g1 16 (LD a 16) ∧ Dig v (w.heap.size + 1 + 1 + 1) g2 16 (LD b 16) ∧ Dig v (w.heap.size + 1 + 1 + 1) g3 31 ds ∧ v.heap[w.heap.size + 1 + 1]? = some (.cells (BA 0) 24 (0, 0)) ∧ Below w.heap.size w v)
      case atStart => exact ⟨0, ds, Hid.mk rfl, rfl, pr, hd1, hd2, hd3, gz, hB⟩
      case round =>
        clear pr hd1 hd2 hd3 gz hB
        obtain ⟨j, ds, HJ, rfl, pr, hd1, hd2, hd3, gz, hB⟩ := hrel
        have hj16 : j ≤ 16 := by have := HJ.out; omega
        by_cases hj : j < 16
        · have PS := Hid.mk (pr.step (LD_dgs a 16) (LD_dgs b 16) (LD_len b 16) hlt hj)
          have cx := hd1.cell k (by rw [LD_len]; exact hlt)
          have cy := hd2.cell j (by rw [LD_len]; exact hj)
          have cz := hd3.cell (k + j) (by have := pr.len; omega)
          have fz := hd3.free (k + j)
          have hm := mul_lt32 ((LD_dgs a 16).at (by omega) k) ((LD_dgs b 16).at (by omega) j)
          have hm0 := hm.1
          have hm1 := hm.2
          have hz := pr.lo (k + j)
          have hz0 := hz.1
          have hz1 : ds.getD (k + j) 0 ≤ 73014444032 := by have := hz.2; omega
          clear hm hz pr
          generalize (LD a 16).getD k 0 = x at *
          generalize (LD b 16).getD j 0 = y at *
          generalize ds.getD (k + j) 0 = z at *
          go_wp2
          go_region
          go_wp2
          go_roundg (16 - (j + 1))
          case rel => exact ⟨j + 1, _, Hid.mk (by omega), by go_num, PS.out, (hd1.setOther _ (by omega)).drewN 1, (hd2.setOther _ (by omega)).drewN 1, (hd3.set (k + j) _).drewN 1, (heap_setCell_other _ _ _ _ (by simp; omega)).trans gz, Below.drew (Below.setCell hB (by simp; omega) _)⟩
          case measure => have := HJ.out; omega
        · have hj2 : j = 16 := by omega
          subst hj2
          have PN := Hid.mk (pr.next (LD_len b 16) (LD_len a 16) hlt)
          clear pr hj
          go_wp2
          go_roundw
          case rel => exact ⟨k + 1, ds, by omega, by go_num, PN.out, hd1, hd2, hd3, gz, hB⟩
          case measure => simp [intOf]; omega
    · have hk2 : k = 16 := by omega
      subst hk2
      have dn := pr.done (LD_len a 16)
      have NUM : Hid (val ds = a * b) := Hid.mk (by rw [dn.1, HVA.out, HVB.out])
      have DG := Hid.mk dn.2
      have LN := Hid.mk pr.len
      clear dn hlt pr
      go_wp2_with fail
      refine (Rest_len LN.out (by omega) hd3 DG.out).mono ?_
      rintro e v5 ⟨rfl, hb5⟩
      rw [NUM.out]
      have gz5 := bheap hb5 gz (heap_lt gz)
      have hB5 := Below.trans hB (hb5.mono hB.size)
      go_wp2_with (refine st_bytes rfl _ _ rfl _ _ rfl rfl _ gz5 (BA_size 0) ?_; intro v6 g6 o6)
      exact bodyPost_ret (v := .agg (BA ((a * b) % P255))) (results_cell_row rfl _ _ _ _ _ _ _ rfl g6 Tryd.underlying24 rfl (by rw [BA_size]; exact info32)) rfl
        ⟨rfl, Below.trans hB5 (Only.below (b := w.heap.size + 1 + 1) (B := w.heap.size) o6 (by omega))⟩
end Go.Proofs.YtgklkkjhoecdoaaDoor
