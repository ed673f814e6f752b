/-
  Own text. What Sub of the document's answer gives.
-/
import Derived.Test.YtgklkkjhoecdoaaDoorK9
namespace Go.Proofs.YtgklkkjhoecdoaaDoor
open Go.RowKit Go.Proofs
set_option maxHeartbeats 1000000 in
set_option maxRecDepth 100000 in
theorem rsub_any (a b : Int) (w : World) (ha : N256 a) (hb : N256 b) :
    Calls Tryd.prog 19 #[.agg (BA a), .agg (BA b)] w fun e w' => e = .returned (.agg (BA ((a - b) % P255))) ∧ Below w.heap.size w w' := by
  have HVA := Hid.mk (LD_val ha.1 ha.2)
  have hcb := N256.mod b
  have HVB := Hid.mk (LD_val hcb.1 hcb.2)
  have HB := Hid.mk hb
  have HP : Hid (val (LD (b % P255) 16) < P255) := Hid.mk (by rw [HVB.out]; exact (mod_lt_P b).2)
  clear ha hb hcb
  go_enter Tryd.func19, Tryd.ntmps19
  go_wp2_with (refine ld_bytes rfl _ rfl _ _ rfl (heap_a31 w _ _ _) (BA_size _) ?_)
  refine (Load_any a _).mono ?_
  rintro e v1 ⟨g1, rfl, hd1, hb1⟩
  have gb := bheap hb1 (heap_a32 w _ _ _) (by simp <;> omega)
  have gz := bheap hb1 (heap_a3 w _ _ _) (by simp <;> omega)
  have hB : Below w.heap.size w v1 := by
    refine Below.trans ?_ (hb1.mono (by simp <;> omega))
    repeat first | exact Below.refl _ _ | refine Below.alloc ?_ (by simp <;> omega) _
  have hd1 := hd1.any (C := w.heap.size + 1 + 1 + 1) (by have := hd1.raw.1; simp at this; omega)
  clear hb1
  go_wp2_with (refine ld_bytes rfl _ rfl _ _ rfl gb (BA_size _) ?_)
  refine (rcanon_any b _ HB.out).mono ?_
  rintro e v2 ⟨rfl, hb2⟩
  have hd1 := hd1.below hb2 hd1.lt
  have gz := bheap hb2 gz (heap_lt gz)
  have hB := Below.trans hB (hb2.mono hB.size)
  clear hb2 gb
  have hdl := hd1.lt
  go_wp2_with fail
  refine (Load_any (b % P255) _).mono ?_
  rintro e v3 ⟨g2, rfl, hd2, hb3⟩
  have hd1 := hd1.below hb3 hd1.lt
  have gz := bheap hb3 gz (heap_lt gz)
  have hne : g1 ≠ g2 := by have := hd1.raw.1; have := hd2.raw.1; have := hb3.size; have h := hdl; omega
  have hB := Below.trans hB (hb3.mono hB.size)
  have hd2 := hd2.any (C := w.heap.size + 1 + 1 + 1) (by have := hd1.raw.1; have := hd2.raw.1; omega)
  clear hb3 hdl
  rw [← Dif_zero (X := LD a 16) (Y := LD (b % P255) 16) (LD_len a 16)] at hd1
  have XD := Hid.mk (LD_dgs a 16)
  have XL := Hid.mk (LD_len a 16)
  have YD := Hid.mk (LD_dgs (b % P255) 16)
  have YL := Hid.mk (LD_len (b % P255) 16)
  generalize LD a 16 = X at *
  generalize LD (b % P255) 16 = Y at *
  go_wp2
  go_loopw [7] (fun i v => ∃ k : Nat, k ≤ 16 ∧ i = .int .i64 k ∧ Dig v (w.heap.size + 1 + 1 + 1) g1 16 (Dif X Y k) ∧ Dig v (w.heap.size + 1 + 1 + 1) g2 16 Y ∧ v.heap[w.heap.size + 1 + 1]? = some (.cells (BA 0) 24 (0, 0)) ∧ Below w.heap.size w v) (fun i _ => 16 - (intOf i).toNat)
  case atStart => exact ⟨0, by omega, rfl, hd1, hd2, gz, hB⟩
  case round =>
    clear hd1 hd2 gz hB
    obtain ⟨k, hk, rfl, hd1, hd2, gz, hB⟩ := hrel
    have hg1 := hd1.raw.1
    by_cases hlt : k < 16
    · have DS := Hid.mk (Dif_set X Y hlt)
      have cx := hd1.cell k (by rw [Dif_len]; exact hlt)
      have fx := hd1.free k
      rw [Dif_get X Y hlt] at cx
      have cy := hd2.cell k (by have := YL.out; omega)
      have hx := XD.out.at (by omega) k
      have hy := YD.out.at (by omega) k
      have hx0 := hx.1
      have hx1 := hx.2
      have hy0 := hy.1
      have hy1 := hy.2
      clear hx hy
      rcases (show k = 0 ∨ k = 15 ∨ (k ≠ 0 ∧ k ≠ 15) by omega) with hk0 | hk0 | ⟨hk0, hk15⟩
      · subst hk0
        have DS : Hid ((Dif X Y 0).set 0 (X.getD 0 0 + 65517 - Y.getD 0 0) = Dif X Y 1) := DS
        generalize X.getD 0 0 = x at *
        generalize Y.getD 0 0 = y at *
        go_wp2
        go_region
        go_wp2
        go_roundw
        case rel => exact ⟨1, by omega, by go_num, by rw [← DS.out]; exact (hd1.set 0 _).drewN 1, (hd2.setOther _ (Ne.symm hne)).drewN 1, (heap_setCell_other _ _ _ _ (by simp; omega)).trans gz, Below.drew (Below.setCell hB (by simp; omega) _)⟩
        case measure => simp [intOf]
      · subst hk0
        have DS : Hid ((Dif X Y 15).set 15 (X.getD 15 0 + 32767 - Y.getD 15 0) = Dif X Y 16) := DS
        generalize X.getD 15 0 = x at *
        generalize Y.getD 15 0 = y at *
        go_wp2
        go_region
        go_wp2
        go_roundw
        case rel => exact ⟨16, by omega, by go_num, by rw [← DS.out]; exact (hd1.set 15 _).drewN 1, (hd2.setOther _ (Ne.symm hne)).drewN 1, (heap_setCell_other _ _ _ _ (by simp; omega)).trans gz, Below.drew (Below.setCell hB (by simp; omega) _)⟩
        case measure => simp [intOf]
      · have DS : Hid ((Dif X Y k).set k (X.getD k 0 + 65535 - Y.getD k 0) = Dif X Y (k + 1)) := Hid.mk (by have := DS.out; unfold pd at this; rwa [if_neg hk15, if_neg hk0] at this)
        generalize X.getD k 0 = x at *
        generalize Y.getD k 0 = y at *
        go_wp2
        go_region
        go_wp2
        go_roundw
        case rel => exact ⟨k + 1, by omega, by go_num, by rw [← DS.out]; exact (hd1.set k _).drewN 1, (hd2.setOther _ (Ne.symm hne)).drewN 1, (heap_setCell_other _ _ _ _ (by simp; omega)).trans gz, Below.drew (Below.setCell hB (by simp; omega) _)⟩
        case measure => simp [intOf]; omega
    · have hk2 : k = 16 := by omega
      subst hk2
      have b0 := Bor.start XL.out YL.out
      clear hlt hd2
      go_wp2
      go_loopg [9] 15 (fun m i v => ∃ (k : Nat) (t : Int) (ds : List Int), Hid (m + k = 15) ∧ i = .int .i64 k ∧ Bor X Y k t ds ∧ Dig v (w.heap.size + 1 + 1 + 1) g1 16 ds ∧ v.heap[w.heap.size + 1 + 1]? = some (.cells (BA 0) 24 (0, 0)) ∧ Below w.heap.size w v)
      case atStart => exact ⟨0, 0, _, Hid.mk rfl, rfl, b0, hd1, gz, hB⟩
      case round =>
        clear b0 hd1 gz hB
        obtain ⟨k, t, ds, HK, rfl, bo, hd1, gz, hB⟩ := hrel
        have hk : k ≤ 15 := by have := HK.out; omega
        by_cases hlt : k < 15
        · have cx := hd1.cell k (by have := bo.len; omega)
          have cx1 := hd1.cell (k + 1) (by have := bo.len; omega)
          have fx := hd1.free k
          have fx1 := hd1.free (k + 1)
          by_cases hneg : ds.getD k 0 < 0
          · have BL := Hid.mk (bo.lend XD.out YD.out hlt hneg)
            have hge := BL.out.1
            have hr1 : 0 ≤ ds.getD (k + 1) 0 + 200000 ∧ ds.getD (k + 1) 0 < 200000 := by
              have h1 := bo.hi (k + 1) (by omega) (by omega)
              have h2 := XD.out.at (by omega) (k + 1)
              have h3 := YD.out.at (by omega) (k + 1)
              have h4 : pd (k + 1) ≤ 65535 ∧ 0 ≤ pd (k + 1) := by unfold pd; split <;> (try split) <;> omega
              omega
            have hr10 := hr1.1
            have hr11 := hr1.2
            clear hr1 bo
            generalize ds.getD (k + 1) 0 = z at *
            generalize ds.getD k 0 = y at *
            go_wp2
            refine wp_loop_rounds 2 ?_
            rw [rounds_succ]
            go_wp2
            rw [rounds_succ]
            go_wp2
            go_roundg (15 - (k + 1))
            case rel => exact ⟨k + 1, _, _, Hid.mk (by omega), by go_num, BL.out.2, (hd1.set k _).set (k + 1) _, (heap_setCell_other _ _ _ _ (by simp; omega)).trans ((heap_setCell_other _ _ _ _ (by simp; omega)).trans gz), Below.setCell (Below.setCell hB (by simp; omega) _) (by simp; omega) _⟩
            case measure => have := HK.out; omega
          · have BK := Hid.mk (bo.keep XD.out YD.out hlt (by omega))
            clear bo
            generalize ds.getD k 0 = y at *
            go_wp2
            refine wp_loop_rounds 1 ?_
            rw [rounds_succ]
            go_wp2
            go_roundg (15 - (k + 1))
            case rel => exact ⟨k + 1, _, _, Hid.mk (by omega), by go_num, BK.out, hd1, gz, hB⟩
            case measure => have := HK.out; omega
        · have hk2 : k = 15 := by omega
          subst hk2
          have dn := bo.done XD.out YD.out YL.out HP.out
          have LN := Hid.mk bo.len
          have NUM : Hid (val ds = a + P255 - b % P255) := Hid.mk (by rw [dn.1, HVA.out, HVB.out])
          have DG := Hid.mk dn.2
          have RES : Hid ((a + P255 - b % P255) % P255 = (a - b) % P255) := Hid.mk (by rw [show a + P255 - b % P255 = (a - b % P255) + P255 by omega, Int.add_emod_right, Int.sub_emod a (b % P255), Int.emod_emod, ← Int.sub_emod])
          clear dn hlt bo
          go_wp2_with fail
          refine (Rest_len LN.out (by omega) hd1 DG.out).mono ?_
          rintro e v5 ⟨rfl, hb5⟩
          rw [NUM.out, RES.out]
          have gz5 := bheap hb5 gz (heap_lt gz)
          have hB5 := Below.trans hB (hb5.mono hB.size)
          go_wp2_with (refine st_bytes rfl _ _ rfl _ _ rfl rfl _ gz5 (BA_size 0) ?_; intro v6 g6 o6)
          exact bodyPost_ret (v := .agg (BA ((a - b) % P255))) (results_cell_row rfl _ _ _ _ _ _ _ rfl g6 Tryd.underlying24 rfl (by rw [BA_size]; exact info32)) rfl
            ⟨rfl, Below.trans hB5 (Only.below (b := w.heap.size + 1 + 1) (B := w.heap.size) o6 (by omega))⟩
end Go.Proofs.YtgklkkjhoecdoaaDoor
