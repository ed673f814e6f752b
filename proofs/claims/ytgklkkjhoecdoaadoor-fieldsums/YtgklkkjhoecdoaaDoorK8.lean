/-
  Own text. What Rest of the document's answer gives: the rest by p of the number of any digits that are not too great.
-/
import Derived.Test.YtgklkkjhoecdoaaDoorK7
namespace Go.Proofs.YtgklkkjhoecdoaaDoor
open Go.RowKit Go.Proofs
theorem carried16 {B g cap : Nat} {ds : List Int} {w : World} (hl : ds.length = 16) (hD : Dig w B g cap ds) (hd : Dgs 4398046511104 ds) (hv : val ds < 65536 ^ 44) :
    Calls Tryd.prog 43 #[.slice (some ⟨g, 0, none⟩) 16 cap] w fun e w' => ∃ g c es, e = .returned (.slice (some ⟨g, 0, none⟩) es.length c) ∧ Cared ds es ∧ Dig w' w.heap.size g c es ∧ Below w.heap.size w w' := by
  have := carried_any B g cap ds w hD hd (by omega) hv
  rwa [hl] at this
set_option maxHeartbeats 2000000 in
set_option maxRecDepth 100000 in
theorem Rest_any (B b cap : Nat) (ds : List Int) (w : World) (hD : Dig w B b cap ds) (hd : Dgs 4398046511104 ds) (hl : ds.length ≤ 44) (hv : val ds < 65536 ^ 44) :
    Calls Tryd.prog 34 #[.slice (some ⟨b, 0, none⟩) ds.length cap] w fun e w' => e = .returned (.agg (BA (val ds % P255))) ∧ Below w.heap.size w w' := by
  have hmk := mk1640
  obtain ⟨n, hn⟩ : ∃ n, n = val ds := ⟨_, rfl⟩
  rw [← hn]
  have HN := Hid.mk hn
  clear hn
  have HD := Hid.mk hD
  have HDG := Hid.mk hd
  have HL := Hid.mk hl
  have HV := Hid.mk hv
  clear hD hd hl hv
  go_enter Tryd.func34, Tryd.ntmps34
  go_wp2_with fail
  refine (carried_any B b cap ds _ (HD.out.alloc _) HDG.out HL.out HV.out).mono ?_
  rintro e v1 ⟨g, cp, es, rfl, hc, hdg0, hb1⟩
  have gz := bheap hb1 (heap_alloc_new w _) (by simp)
  have hB := Below.trans ((Below.refl _ w).alloc (Nat.le_refl _) _) (hb1.mono (by simp))
  have rst := Rst.start hc
  rw [← HN.out] at rst
  have hdg := hdg0.any (C := w.heap.size + 1) (by have := hdg0.raw.1; simp at this; omega)
  clear hb1 hc hdg0
  go_wp2_with fail
  go_loopg [0] ((val es).toNat * 100 + es.length) (fun m x v => ∃ (X : List Int) (g cp : Nat), m = (val X).toNat * 100 + X.length ∧ x = .slice (some ⟨g, 0, none⟩) X.length cp ∧ Rst n X ∧ Dig v (w.heap.size + 1) g cp X ∧ v.heap[w.heap.size]? = some (.cells (BA 0) 24 (0, 0)) ∧ Below w.heap.size w v)
  case atStart => exact ⟨es, g, cp, rfl, rfl, rst, hdg, gz, hB⟩
  case round =>
    clear rst hdg gz hB
    obtain ⟨X, g, cp, hm, rfl, rst, hdg, gz, hB⟩ := hrel
    have HM := Hid.mk hm
    clear hm
    have h16 := rst.l16
    have h44 := rst.l44
    have hcp := hdg.raw.2.1
    by_cases hlt : 16 < X.length
    · have hsz := hdg.lt
      go_wp2_with (refine cp_dig rfl (.tmp 15) (.tmp 17) rfl (w.heap.size + 1) g cp _ wr.heap.size X rfl rfl (hdg.alloc _) (by omega) (heap_alloc_new wr _) ?_; intro v2 hy hoy)
      have hbw : Below wr.heap.size wr v2 := Below.trans ((Below.refl _ wr).alloc (Nat.le_refl _) _) (hoy.below (Nat.le_refl _))
      clear hoy
      have f0 := Fold.start rst.dgs h16
      generalize hbs : wr.heap.size = bs at *
      generalize wr = wo at *
      generalize gk = m1 at *
      go_loopg [3, 4] (X.length - 16) (fun m y i v => ∃ (j : Nat) (ys : List Int) (yg yc : Nat), Hid (m + j + 16 = X.length) ∧ y = .slice (some ⟨yg, 0, none⟩) ys.length yc ∧ i = .int .i64 ((j : Int) + 16) ∧ Fold X j j ys ∧ Dig v bs yg yc ys ∧ Below bs wo v)
      case atStart => exact ⟨0, _, _, _, Hid.mk (by omega), by rw [List.length_take, Nat.min_eq_left h16], rfl, f0, hy, hbw⟩
      case round =>
        clear f0 hy hbw
        obtain ⟨j, ys, yg, yc, HJ, rfl, rfl, fo, hy, hbw⟩ := hrel
        have hj16 : j + 16 ≤ X.length := by have := HJ.out; omega
        by_cases hj : j + 16 < X.length
        · generalize gk = m2 at *
          go_wp2
          generalize Value.bool (decide ((j : Int) + 16 < (X.length : Int))) = b22
          go_loopg [3] (j + 1 - ys.length) (fun m y v => ∃ (ys : List Int) (yg yc : Nat), Hid (m = j + 1 - ys.length) ∧ y = .slice (some ⟨yg, 0, none⟩) ys.length yc ∧ Fold X j (j + 1) ys ∧ Dig v bs yg yc ys ∧ Below bs wo v)
          case atStart => exact ⟨ys, yg, yc, Hid.mk rfl, rfl, fo.wide, hy, hbw⟩
          case round =>
            clear fo hy hbw
            obtain ⟨ys, yg, yc, HG, rfl, fo, hy, hbw⟩ := hrel
            by_cases hle : ys.length ≤ j
            · have FZ := Hid.mk (fo.zero hle)
              clear fo
              go_wp2_with (at_builtin; refine ap_dig rfl (.tmp 31) (.tmp 32) rfl rfl (hy.alloc _) wr.heap.size 0 rfl (cell_one _ _) (by omega) (szb hy) ?_; intro g' cp' w2 hdg' hb2)
              go_roundg (j + 1 - (ys.length + 1))
              case rel => exact ⟨_, g', cp', Hid.mk (by simp), by simp, FZ.out, hdg', Below.trans (hbw.alloc (by have := hy.lt; have := hy.raw.1; omega) _) hb2⟩
              case measure => have := HG.out; omega
            · have FS := Hid.mk (fo.step rst.dgs (by omega) hj)
              have hylo := fo.lo j
              have hyl := hylo.1
              have hyh := hylo.2
              have hxr := rst.dgs.at (by omega) (16 + j)
              have hx0 := hxr.1
              have hx1 := hxr.2
              clear hylo hxr fo
              have cx : wr.cell? ⟨g, j + 16, none⟩ = some (.int .i64 (X.getD (16 + j) 0)) := by rw [Nat.add_comm j 16]; exact (hdg.below hbw (by omega)).cell (16 + j) (by omega)
              have cy := hy.cell j (by omega)
              have fy := hy.free j
              generalize X.getD (16 + j) 0 = x at *
              generalize ys.getD j 0 = z at *
              go_wp2
              go_region
              go_wp2
              go_roundg (X.length - 16 - (j + 1))
              case rel => exact ⟨j + 1, _, yg, yc, Hid.mk (by omega), by simp, by go_num, FS.out, (hy.set j _).drewN 1, Below.drew (Below.setCell hbw (by exact hy.raw.1) _)⟩
              case measure => have := HJ.out; omega
        · have hs0 := heap_lt gz
          have e16 : j = X.length - 16 := by omega
          have FP := Hid.mk (rst.fold_pre (e16 ▸ fo))
          have FF := Hid.mk (fun es c => rst.fold (es := es) hlt (e16 ▸ fo) c)
          clear fo e16
          go_wp2_with fail
          refine (carried_any bs yg yc ys _ hy FP.out.1 FP.out.2.1 FP.out.2.2).mono ?_
          rintro e v3 ⟨g3, c3, es3, rfl, hc3, hd3, hb3⟩
          have hB3 : Below w.heap.size w v3 := Below.trans hB (Below.trans (hbw.mono (by omega)) (hb3.mono (by have := hbw.size; omega)))
          have gz3 : v3.heap[w.heap.size]? = some (.cells (BA 0) 24 (0, 0)) := bheap hb3 (bheap hbw gz (by omega)) (by have := hbw.size; omega)
          have hr3 := FF.out es3 hc3
          have hd3 := hd3.any (C := w.heap.size + 1) (by have := hd3.raw.1; have := hbw.size; omega)
          clear hb3 hc3 hbw hy
          go_wp2
          go_roundg ((val es3).toNat * 100 + es3.length)
          case rel => exact ⟨es3, g3, c3, rfl, rfl, hr3.1, hd3, gz3, hB3⟩
          case measure => have := HM.out; omega
    · have hx16 : X.length = 16 := by omega
      clear h16 h44 hlt HM
      go_wp2_with fail
      go_loopg [0] (val X).toNat (fun m x v => ∃ (X : List Int) (g cp : Nat), Hid (m = (val X).toNat) ∧ Hid (X.length = 16) ∧ x = .slice (some ⟨g, 0, none⟩) 16 cp ∧ Rst n X ∧ Dig v (w.heap.size + 1) g cp X ∧ v.heap[w.heap.size]? = some (.cells (BA 0) 24 (0, 0)) ∧ Below w.heap.size w v)
      case atStart => exact ⟨X, g, cp, Hid.mk rfl, Hid.mk hx16, by rw [hx16], rst, hdg, gz, hB⟩
      case round =>
        clear rst hdg gz hB hcp hx16
        obtain ⟨X, g, cp, HM, HX, rfl, rst, hdg, gz, hB⟩ := hrel
        have hx15 := rst.dgs.at (by omega) 15
        have c15 := hdg.cell 15 (by have := HX.out; omega)
        have c0 := hdg.cell 0 (by have := HX.out; omega)
        have f15 := hdg.free 15
        have f0 := hdg.free 0
        have hs1 := hdg.lt
        have hs2 := hdg.raw.1
        by_cases hge : 32768 ≤ X.getD 15 0
        · have FP := Hid.mk (fold15_pre rst HX.out hge)
          have FF := Hid.mk (fun es c => rst.fold15 (es := es) HX.out hge c)
          have hx00 := rst.dgs.at (by omega) 0
          have hd5 : Dig (((wr.setCell ⟨g, 0, none⟩ (.int .i64 (X.getD 0 0 + 19 * (X.getD 15 0 / 32768)))).drew).setCell ⟨g, 15, none⟩ (.int .i64 (X.getD 15 0 % 32768))) (w.heap.size + 1) g cp (fold15 X) := ((hdg.set 0 _).drewN 1).set 15 _
          have HD5 := Hid.mk hd5
          clear hd5
          have h150 := hx15.1
          have h151 := hx15.2
          have h000 := hx00.1
          have h001 := hx00.2
          clear hx15 hx00 rst
          generalize X.getD 15 0 = x15 at *
          generalize X.getD 0 0 = x0 at *
          go_wp2
          go_region
          go_wp2_with fail
          refine (carried16 (by rw [fold15_len]; exact HX.out) HD5.out FP.out.1 FP.out.2).mono ?_
          rintro e v3 ⟨g3, c3, es3, rfl, hc3, hd3, hb3⟩
          have hr3 := FF.out es3 hc3
          have hs3 : w.heap.size < wr.heap.size := by omega
          have hB3 : Below w.heap.size w v3 := Below.trans (Below.setCell (Below.drew (Below.setCell hB (by simp; omega) _)) (by simp; omega) _) (hb3.mono (by simp; omega))
          have gz3 : v3.heap[w.heap.size]? = some (.cells (BA 0) 24 (0, 0)) := bheap hb3 ((heap_setCell_other _ _ _ _ (by simp; omega)).trans ((heap_setCell_other _ _ _ _ (by simp; omega)).trans gz)) (by simp; omega)
          have hd3 := hd3.any (C := w.heap.size + 1) (by have := hd3.raw.1; simp at this; omega)
          have e3 : es3.length = 16 := hr3.2.1
          clear hb3 hc3
          go_wp2
          go_roundg (val es3).toNat
          case rel => exact ⟨es3, g3, c3, Hid.mk rfl, Hid.mk e3, by simp, hr3.1, hd3, gz3, hB3⟩
          case measure => have := HM.out; have := hr3.2.2; omega
        · have h15 : X.getD 15 0 < 32768 := by omega
          have BP := Hid.mk (below_p rst.dgs HX.out h15)
          have RN := Hid.mk rst.num
          have AL := Hid.mk (atLeast_any (w.heap.size + 1) g cp X wr hdg HX.out rst.dgs h15)
          have ME := Hid.mk (fun h => minus_end rst.dgs HX.out h15 h)
          have XD := Hid.mk rst.dgs
          clear hx15 rst f15 f0 c0
          generalize hx15e : X.getD 15 0 = x15 at *
          clear hx15e
          go_wp2_with fail
          refine AL.out.mono ?_
          rintro e w' ⟨rfl, hw⟩
          have hw := hw.symm
          subst hw
          clear c15
          by_cases hp : P255 ≤ val X
          · have M := Hid.mk (ME.out hp)
            have hm0 := minus_zero HX.out
            have HYL := Hid.mk (minus_len X 16)
            have HYD := Hid.mk M.out.2
            have HYV : Hid (val (minus X 16) = n % P255) := Hid.mk (by
              rw [M.out.1, ← RN.out]
              have := BP.out
              rw [← Int.sub_emod_right, Int.emod_eq_of_lt (by omega) (by unfold P255 at *; omega)])
            rw [← hm0] at hdg
            clear hm0
            simp only [hp, decide_true]
            go_wp2
            go_loopw [6] (fun i v => ∃ k : Nat, k ≤ 16 ∧ i = .int .i64 k ∧ Dig v (w.heap.size + 1) g cp (minus X k) ∧ v.heap[w.heap.size]? = some (.cells (BA 0) 24 (0, 0)) ∧ Below w.heap.size w v) (fun i _ => 16 - (intOf i).toNat)
            case atStart => exact ⟨0, by omega, rfl, hdg, gz, hB⟩
            case round =>
              clear hdg gz hB
              obtain ⟨k, hk, rfl, hdg, gz, hB⟩ := hrel
              by_cases hlt : k < 16
              · have MS := Hid.mk (minus_set X hlt)
                have cx := hdg.cell k (by rw [minus_len]; exact hlt)
                have fx := hdg.free k
                have hxr := XD.out.at (by omega) k
                rw [minus_get X hlt] at cx
                by_cases hk0 : k = 0
                · subst hk0
                  have hxr0 := hxr.1
                  have hxr1 := hxr.2
                  have MS := Hid.mk MS.out
                  simp only [if_true] at MS
                  clear hxr
                  generalize X.getD 0 0 = x at *
                  go_wp2
                  go_roundw
                  case rel => exact ⟨1, by omega, by go_num, by rw [← MS.out]; exact hdg.set 0 _, (heap_setCell_other _ _ _ _ (by simp; omega)).trans gz, Below.setCell hB (by simp; omega) _⟩
                  case measure => simp [intOf]
                · have MS2 : Hid ((minus X k).set k 0 = minus X (k + 1)) := Hid.mk (by have := MS.out; rwa [if_neg hk0] at this)
                  clear MS hxr
                  generalize X.getD k 0 = x at *
                  go_wp2
                  go_roundw
                  case rel => exact ⟨k + 1, by omega, by go_num, by rw [← MS2.out]; exact hdg.set k _, (heap_setCell_other _ _ _ _ (by simp; omega)).trans gz, Below.setCell hB (by simp; omega) _⟩
                  case measure => simp [intOf]; omega
              · have hk2 : k = 16 := by omega
                subst hk2
                clear hlt
                go_wp2
                refine wp_gen (fun v => Dig v (w.heap.size + 1) g cp (minus X 16) ∧ v.heap[w.heap.size]? = some (.cells (BA 0) 24 (0, 0)) ∧ v.heap[wr.heap.size]? = some (.cells (BA (val ((minus X 16).take 0))) 24 (0, 0)) ∧ Below w.heap.size w v)
                  ⟨hdg.alloc _, (Below.heap_alloc _ _ _ (heap_lt gz)).trans gz, heap_alloc_new _ _, hB.alloc hB.size _⟩ ?_
                have hs0 := heap_lt gz
                have hs1 := hdg.lt
                generalize wr.heap.size = bo at *
                clear hdg gz hB
                rintro v5 ⟨hdg, gz, go, hB⟩
                go_loopw [8] (fun i v => ∃ k : Nat, k ≤ 16 ∧ i = .int .i64 k ∧ Dig v (w.heap.size + 1) g cp (minus X 16) ∧ v.heap[w.heap.size]? = some (.cells (BA 0) 24 (0, 0)) ∧ v.heap[bo]? = some (.cells (BA (val ((minus X 16).take k))) 24 (0, 0)) ∧ Below w.heap.size w v) (fun i _ => 16 - (intOf i).toNat)
                case atStart => exact ⟨0, by omega, rfl, hdg, gz, go, hB⟩
                case round =>
                  clear hdg gz go hB
                  obtain ⟨k, hk, rfl, hdg, gz, go, hB⟩ := hrel
                  by_cases hlt : k < 16
                  · have cx := hdg.cell k (by have := HYL.out; omega)
                    have hx := HYD.out.at (by omega) k
                    have hx0 := hx.1
                    have hx1 := hx.2
                    clear hx
                    have BS := Hid.mk (bytes_step HYD.out HYL.out hlt)
                    generalize val ((minus X 16).take k) = V0 at *
                    generalize (minus X 16).getD k 0 = x at *
                    have c0 := (cell_of_row wr _ (2 * k) _ _ _ go).trans (BA_get _ (2 * k) (by omega))
                    have c1 := (cell_of_row wr _ (2 * k + 1) _ _ _ go).trans (BA_get _ (2 * k + 1) (by omega))
                    have f0 := frozen_of_row wr _ (2 * k) _ _ go
                    have f1 := frozen_of_row wr _ (2 * k + 1) _ _ go
                    have hne : ¬ g = bo := by omega
                    go_wp2
                    go_roundw
                    case rel => exact ⟨k + 1, by omega, by go_num, (hdg.setOther _ (by omega)).setOther _ (by omega), (heap_setCell_other _ _ _ _ (by simp; omega)).trans ((heap_setCell_other _ _ _ _ (by simp; omega)).trans gz), by rw [← BS.out]; exact heap_setCell_same _ _ _ _ _ _ (heap_setCell_same _ _ _ _ _ _ go), Below.setCell (Below.setCell hB (by simp; omega) _) (by simp; omega) _⟩
                    case measure => simp [intOf]; omega
                  · have hk2 : k = 16 := by omega
                    subst hk2
                    rw [List.take_of_length_le (by have := HYL.out; omega), HYV.out] at go
                    go_wp2_with (first | (refine ld_bytes rfl _ rfl _ _ rfl go (BA_size _) ?_) | (refine st_bytes rfl _ _ rfl _ _ rfl rfl _ gz (BA_size _) ?_; intro v6 g6 o6))
                    exact bodyPost_ret (v := .agg (BA (n % P255))) (results_cell_row rfl _ _ _ _ _ _ _ rfl g6 Tryd.underlying24 rfl (by rw [BA_size]; exact info32)) rfl
                      ⟨rfl, Below.trans hB (Only.below (b := w.heap.size) (B := w.heap.size) o6 (by omega))⟩
          · have HYL := HX
            have HYD := XD
            have HYV : Hid (val X = n % P255) := Hid.mk (by
              rw [← RN.out]
              have := XD.out.nonneg
              rw [Int.emod_eq_of_lt (by omega) (by omega)])
            simp only [hp, decide_false]
            go_wp2
            refine wp_gen (fun v => Dig v (w.heap.size + 1) g cp X ∧ v.heap[w.heap.size]? = some (.cells (BA 0) 24 (0, 0)) ∧ v.heap[wr.heap.size]? = some (.cells (BA (val (X.take 0))) 24 (0, 0)) ∧ Below w.heap.size w v)
              ⟨hdg.alloc _, (Below.heap_alloc _ _ _ (heap_lt gz)).trans gz, heap_alloc_new _ _, hB.alloc hB.size _⟩ ?_
            have hs0 := heap_lt gz
            have hs1 := hdg.lt
            generalize wr.heap.size = bo at *
            clear hdg gz hB
            rintro v5 ⟨hdg, gz, go, hB⟩
            go_loopw [8] (fun i v => ∃ k : Nat, k ≤ 16 ∧ i = .int .i64 k ∧ Dig v (w.heap.size + 1) g cp X ∧ v.heap[w.heap.size]? = some (.cells (BA 0) 24 (0, 0)) ∧ v.heap[bo]? = some (.cells (BA (val (X.take k))) 24 (0, 0)) ∧ Below w.heap.size w v) (fun i _ => 16 - (intOf i).toNat)
            case atStart => exact ⟨0, by omega, rfl, hdg, gz, go, hB⟩
            case round =>
              clear hdg gz go hB
              obtain ⟨k, hk, rfl, hdg, gz, go, hB⟩ := hrel
              by_cases hlt : k < 16
              · have cx := hdg.cell k (by have := HYL.out; omega)
                have hx := HYD.out.at (by omega) k
                have hx0 := hx.1
                have hx1 := hx.2
                clear hx
                have BS := Hid.mk (bytes_step HYD.out HYL.out hlt)
                generalize val (X.take k) = V0 at *
                generalize X.getD k 0 = x at *
                have c0 := (cell_of_row wr _ (2 * k) _ _ _ go).trans (BA_get _ (2 * k) (by omega))
                have c1 := (cell_of_row wr _ (2 * k + 1) _ _ _ go).trans (BA_get _ (2 * k + 1) (by omega))
                have f0 := frozen_of_row wr _ (2 * k) _ _ go
                have f1 := frozen_of_row wr _ (2 * k + 1) _ _ go
                have hne : ¬ g = bo := by omega
                go_wp2
                go_roundw
                case rel => exact ⟨k + 1, by omega, by go_num, (hdg.setOther _ (by omega)).setOther _ (by omega), (heap_setCell_other _ _ _ _ (by simp; omega)).trans ((heap_setCell_other _ _ _ _ (by simp; omega)).trans gz), by rw [← BS.out]; exact heap_setCell_same _ _ _ _ _ _ (heap_setCell_same _ _ _ _ _ _ go), Below.setCell (Below.setCell hB (by simp; omega) _) (by simp; omega) _⟩
                case measure => simp [intOf]; omega
              · have hk2 : k = 16 := by omega
                subst hk2
                rw [List.take_of_length_le (by have := HYL.out; omega), HYV.out] at go
                go_wp2_with (first | (refine ld_bytes rfl _ rfl _ _ rfl go (BA_size _) ?_) | (refine st_bytes rfl _ _ rfl _ _ rfl rfl _ gz (BA_size _) ?_; intro v6 g6 o6))
                exact bodyPost_ret (v := .agg (BA (n % P255))) (results_cell_row rfl _ _ _ _ _ _ _ rfl g6 Tryd.underlying24 rfl (by rw [BA_size]; exact info32)) rfl
                  ⟨rfl, Below.trans hB (Only.below (b := w.heap.size) (B := w.heap.size) o6 (by omega))⟩
end Go.Proofs.YtgklkkjhoecdoaaDoor
