/-
  Own text. What atLeast of the document's answer gives: is a number below 2^255 p at least? And laws for the copy and the making of slices in Rest.
-/
import Derived.Test.YtpcpcgfljffkeaaDoorJ2
import Derived.Laws.CopyOwn
import Derived.Test.YtpcpcgfljffkeaaDoorJ1
namespace Go.Proofs.YtpcpcgfljffkeaaDoor
open Go.RowKit Go.Proofs
set_option maxHeartbeats 1000000 in
set_option maxRecDepth 100000 in
theorem atLeast_any (B g cap : Nat) (X : List Int) (w : World) (hD : Dig w B g cap X) (hl : X.length = 16) (hd : Dgs 65536 X) (h15 : X.getD 15 0 < 32768) :
    Calls Tryd.prog 36 #[.slice (some ⟨g, 0, none⟩) 16 cap] w fun e w' => e = .returned (.bool (decide (P255 ≤ val X))) ∧ w' = w := by
  have HL := Hid.mk hl
  have HN := Hid.mk (least_no hd hl h15)
  have HY := Hid.mk (least_yes hd hl h15)
  have HDD := Hid.mk hD
  have c0 := hD.cell 0 (by omega)
  have c15 := hD.cell 15 (by omega)
  clear hl hd h15 hD
  go_enter Tryd.func36, Tryd.ntmps36
  go_wp2
  go_loopw [3] (fun i v => ∃ k : Nat, 1 ≤ k ∧ k ≤ 15 ∧ i = .int .i64 k ∧ Hid (∀ j, 1 ≤ j → j < k → X.getD j 0 = 65535) ∧ v = w) (fun i _ => 15 - (intOf i).toNat)
  case atStart => exact ⟨1, by omega, by omega, rfl, Hid.mk (fun j h1 h2 => by omega), rfl⟩
  case round =>
    obtain ⟨k, hk1, hk, rfl, HA, rfl⟩ := hrel
    by_cases hlt : k < 15
    · have cx := HDD.out.cell k (by have := HL.out; omega)
      by_cases hx : X.getD k 0 = 65535
      · have HX := Hid.mk hx
        rw [hx] at cx
        clear hx
        go_wp2
        go_roundw
        case rel => exact ⟨k + 1, by omega, by omega, by go_num, Hid.mk (fun j h1 h2 => by by_cases e : j = k; exact e ▸ HX.out; exact HA.out j h1 (by omega)), by first | trivial | rfl⟩
        case measure => simp [intOf]; omega
      · have e : decide (P255 ≤ val X) = false := by
          have := HN.out k hk1 hlt hx
          simp; omega
        generalize X.getD k 0 = x at *
        have E := Hid.mk e
        clear e
        go_wp2
        go_ret
        exact ⟨by rw [E.out]; rfl, rfl⟩
    · have hk2 : k = 15 := by omega
      subst hk2
      have hy := HY.out (fun j h1 h2 => HA.out j h1 h2)
      by_cases h1 : X.getD 15 0 = 32767
      · by_cases h2 : 65517 ≤ X.getD 0 0
        · have e : decide (P255 ≤ val X) = true := by simpa using hy.1 ⟨h1, h2⟩
          have E := Hid.mk e
          rw [h1] at c15
          clear hy e
          generalize X.getD 0 0 = x at *
          go_wp2
          go_ret
          exact ⟨by rw [E.out]; rfl, rfl⟩
        · have e : decide (P255 ≤ val X) = false := by simp only [decide_eq_false_iff_not]; exact fun h => h2 (hy.2 h).2
          have E := Hid.mk e
          rw [h1] at c15
          clear hy e
          generalize X.getD 0 0 = x at *
          go_wp2
          go_ret
          exact ⟨by rw [E.out]; rfl, rfl⟩
      · have e : decide (P255 ≤ val X) = false := by simp only [decide_eq_false_iff_not]; exact fun h => h1 (hy.2 h).1
        have E := Hid.mk e
        clear hy e
        generalize X.getD 15 0 = x at *
        go_wp2
        go_ret
        exact ⟨by rw [E.out]; rfl, rfl⟩
theorem info1 : (Tryd.prog.info? 3).map (·.size) = some 1 := by kernel_rfl
theorem mk1640 (w : World) : (Instr.makeSlice 38 (.int .i64 16) (.int .i64 40)).run Tryd.prog w = .ok (.slice (some ⟨w.heap.size, 0, none⟩) 16 40) (w.alloc (.cells (madeCells #[.int .i64 0] 40) 3)) := by kernel_rfl
/-- 'copy(y, x[:16])', y made for it. -/
theorem cp_dig {ops : Array Oper} {rest : List Oper} {o : Oper} {a : Act} {w : World} {Q : Exit → Act → World → Prop} (hgd : o.guard = none) (d s : Operand)
    (ho : o.op = .call { callee := .builtin .copy, args := #[d, s], argTypes := #[38, 38] })
    (B g cp c y : Nat) (X : List Int) (hd : a.eval d = .slice (some ⟨y, 0, none⟩) 16 40) (hs : a.eval s = .slice (some ⟨g, 0, none⟩) 16 c) (hX : Dig w B g cp X) (h16 : 16 ≤ X.length)
    (hy : w.heap[y]? = some (.cells (madeCells #[.int .i64 0] 40) 3 (0, 0)))
    (h : ∀ w', Dig w' y y 40 (X.take 16) → Only y w w' → wpList Tryd.prog ops Q rest (a.put o.dst (.int .i64 16)) w') : wpList Tryd.prog ops Q (o :: rest) a w := by
  have hcl : ((X.take 16).map (Value.int .i64)).length = 16 := by simp; omega
  have hms : (madeCells #[Value.int .i64 0] 40).size = 40 := by rw [← Array.length_toList, toList_madeCells_one]; simp
  refine wpList_copy_own hgd d s 38 38 ho 3 Tryd.underlying38 info1 y 0 16 40 ⟨g, 0, none⟩ 16 c hd hs (madeCells #[.int .i64 0] 40) 3 hy ((X.take 16).map (Value.int .i64)) (by rw [hcl]; rfl) ?_ (by rw [hcl, hms]; omega) (ints_oneCell .i64 _) ?_
  · intro j v hj
    have hj16 : j < 16 := by have := (List.getElem?_eq_some_iff.1 hj).1; omega
    have hc := hX.cell j (by omega)
    have e : ((X.take 16).map (Value.int .i64))[j]? = some (.int .i64 (X.getD j 0)) := by
      simp [hj16, List.getD, show j < X.length by omega]
    rw [e] at hj
    rw [Addr.add_lit, Nat.zero_add, hc, ← Option.some.inj hj]
  · rw [hcl]
    refine h _ ?_ (only_setRow w y _)
    have hlen : (X.take 16).length = 16 := by simp; omega
    refine ⟨by simp, .inr ⟨y, 40, _, rfl, Nat.le_refl _, setRow_heap w y _ _ 3 (0, 0) hy, by rw [hlen]; omega, by unfold maxLen; omega, ?_, ?_⟩⟩
    · rw [← Array.length_toList, List.toList_toArray]
      simp only [List.take_zero, List.nil_append, List.length_append, List.length_drop, hcl, Array.length_toList, hms]
    · rw [List.toList_toArray, List.take_zero, List.nil_append, Nat.mul_one, hlen, List.take_append_of_le_length (by rw [hcl]; omega), List.take_of_length_le (by rw [hcl]; omega)]
end Go.Proofs.YtpcpcgfljffkeaaDoor
/-
  Own text. What Rest of the document's answer gives: the rest by p of the number of any digits that are not too great.
-/
namespace Go.Proofs.YtpcpcgfljffkeaaDoor
open Go.RowKit Go.Proofs
theorem carried16 {B g cap : Nat} {ds : List Int} {w : World} (hl : ds.length = 16) (hD : Dig w B g cap ds) (hd : Dgs 4398046511104 ds) (hv : val ds < 65536 ^ 44) :
    Calls Tryd.prog 35 #[.slice (some ⟨g, 0, none⟩) 16 cap] w fun e w' => ∃ g c es, e = .returned (.slice (some ⟨g, 0, none⟩) es.length c) ∧ Cared ds es ∧ Dig w' w.heap.size g c es ∧ Below w.heap.size w w' := by
  have := carried_any B g cap ds w hD hd (by omega) hv
  rwa [hl] at this
set_option maxHeartbeats 2000000 in
set_option maxRecDepth 100000 in
theorem Rest_any (B b cap : Nat) (ds : List Int) (w : World) (hD : Dig w B b cap ds) (hd : Dgs 4398046511104 ds) (hl : ds.length ≤ 44) (hv : val ds < 65536 ^ 44) :
    Calls Tryd.prog 23 #[.slice (some ⟨b, 0, none⟩) ds.length cap] w fun e w' => e = .returned (.agg (BA (val ds % P255))) ∧ Below w.heap.size w w' := by
  have hmk := mk1640
  obtain ⟨n, hn⟩ : ∃ n, n = val ds := ⟨_, rfl⟩
  rw [← hn]
  have HN := Hid.mk hn
  clear hn
  have HD := Hid.mk hD
  have HDG := Hid.mk hd
  have HL := Hid.mk hl
  have HV := Hid.mk hv
  clear hD hd hl hv
  go_enter Tryd.func23, Tryd.ntmps23
  go_wp2_with fail
  refine (carried_any B b cap ds _ (HD.out.alloc _) HDG.out HL.out HV.out).mono ?_
  rintro e v1 ⟨g, cp, es, rfl, hc, hdg0, hb1⟩
  have gz := bheap hb1 (heap_alloc_new w _) (by simp)
  have hB := Below.trans ((Below.refl _ w).alloc (Nat.le_refl _) _) (hb1.mono (by simp))
  have rst := Rst.start hc
  rw [← HN.out] at rst
  have hdg := hdg0.any (C := w.heap.size + 1) (by have := hdg0.raw.1; simp at this; omega)
  clear hb1 hc hdg0
  go_wp2_with fail
  go_loopg [0] ((val es).toNat * 100 + es.length) (fun m x v => ∃ (X : List Int) (g cp : Nat), m = (val X).toNat * 100 + X.length ∧ x = .slice (some ⟨g, 0, none⟩) X.length cp ∧ Rst n X ∧ Dig v (w.heap.size + 1) g cp X ∧ v.heap[w.heap.size]? = some (.cells (BA 0) 22 (0, 0)) ∧ Below w.heap.size w v)
  case atStart => exact ⟨es, g, cp, rfl, rfl, rst, hdg, gz, hB⟩
  case round =>
    clear rst hdg gz hB
    obtain ⟨X, g, cp, hm, rfl, rst, hdg, gz, hB⟩ := hrel
    have HM := Hid.mk hm
    clear hm
    have h16 := rst.l16
    have h44 := rst.l44
    have hcp := hdg.raw.2.1
    by_cases hlt : 16 < X.length
    · have hsz := hdg.lt
      go_wp2_with (refine cp_dig rfl (.tmp 15) (.tmp 17) rfl (w.heap.size + 1) g cp _ wr.heap.size X rfl rfl (hdg.alloc _) (by omega) (heap_alloc_new wr _) ?_; intro v2 hy hoy)
      have hbw : Below wr.heap.size wr v2 := Below.trans ((Below.refl _ wr).alloc (Nat.le_refl _) _) (hoy.below (Nat.le_refl _))
      clear hoy
      have f0 := Fold.start rst.dgs h16
      generalize hbs : wr.heap.size = bs at *
      generalize wr = wo at *
      generalize gk = m1 at *
      go_loopg [3, 4] (X.length - 16) (fun m y i v => ∃ (j : Nat) (ys : List Int) (yg yc : Nat), Hid (m + j + 16 = X.length) ∧ y = .slice (some ⟨yg, 0, none⟩) ys.length yc ∧ i = .int .i64 ((j : Int) + 16) ∧ Fold X j j ys ∧ Dig v bs yg yc ys ∧ Below bs wo v)
      case atStart => exact ⟨0, _, _, _, Hid.mk (by omega), by rw [List.length_take, Nat.min_eq_left h16], rfl, f0, hy, hbw⟩
      case round =>
        clear f0 hy hbw
        obtain ⟨j, ys, yg, yc, HJ, rfl, rfl, fo, hy, hbw⟩ := hrel
        have hj16 : j + 16 ≤ X.length := by have := HJ.out; omega
        by_cases hj : j + 16 < X.length
        · generalize gk = m2 at *
          go_wp2
          generalize Value.bool (decide ((j : Int) + 16 < (X.length : Int))) = b22
          go_loopg [3] (j + 1 - ys.length) (fun m y v => ∃ (ys : List Int) (yg yc : Nat), Hid (m = j + 1 - ys.length) ∧ y = .slice (some ⟨yg, 0, none⟩) ys.length yc ∧ Fold X j (j + 1) ys ∧ Dig v bs yg yc ys ∧ Below bs wo v)
          case atStart => exact ⟨ys, yg, yc, Hid.mk rfl, rfl, fo.wide, hy, hbw⟩
          case round =>
            clear fo hy hbw
            obtain ⟨ys, yg, yc, HG, rfl, fo, hy, hbw⟩ := hrel
            by_cases hle : ys.length ≤ j
            · have FZ := Hid.mk (fo.zero hle)
              clear fo
              go_wp2_with (at_builtin; refine ap_dig rfl (.tmp 31) (.tmp 32) rfl rfl (hy.alloc _) wr.heap.size 0 rfl (cell_one _ _) (by omega) (szb hy) ?_; intro g' cp' w2 hdg' hb2)
              go_roundg (j + 1 - (ys.length + 1))
              case rel => exact ⟨_, g', cp', Hid.mk (by simp), by simp, FZ.out, hdg', Below.trans (hbw.alloc (by have := hy.lt; have := hy.raw.1; omega) _) hb2⟩
              case measure => have := HG.out; omega
            · have FS := Hid.mk (fo.step rst.dgs (by omega) hj)
              have hylo := fo.lo j
              have hyl := hylo.1
              have hyh := hylo.2
              have hxr := rst.dgs.at (by omega) (16 + j)
              have hx0 := hxr.1
              have hx1 := hxr.2
              clear hylo hxr fo
              have cx : wr.cell? ⟨g, j + 16, none⟩ = some (.int .i64 (X.getD (16 + j) 0)) := by rw [Nat.add_comm j 16]; exact (hdg.below hbw (by omega)).cell (16 + j) (by omega)
              have cy := hy.cell j (by omega)
              have fy := hy.free j
              generalize X.getD (16 + j) 0 = x at *
              generalize ys.getD j 0 = z at *
              go_wp2
              go_region
              go_wp2
              go_roundg (X.length - 16 - (j + 1))
              case rel => exact ⟨j + 1, _, yg, yc, Hid.mk (by omega), by simp, by go_num, FS.out, (hy.set j _).drewN 1, Below.drew (Below.setCell hbw (by exact hy.raw.1) _)⟩
              case measure => have := HJ.out; omega
        · have hs0 := heap_lt gz
          have e16 : j = X.length - 16 := by omega
          have FP := Hid.mk (rst.fold_pre (e16 ▸ fo))
          have FF := Hid.mk (fun es c => rst.fold (es := es) hlt (e16 ▸ fo) c)
          clear fo e16
          go_wp2_with fail
          refine (carried_any bs yg yc ys _ hy FP.out.1 FP.out.2.1 FP.out.2.2).mono ?_
          rintro e v3 ⟨g3, c3, es3, rfl, hc3, hd3, hb3⟩
          have hB3 : Below w.heap.size w v3 := Below.trans hB (Below.trans (hbw.mono (by omega)) (hb3.mono (by have := hbw.size; omega)))
          have gz3 : v3.heap[w.heap.size]? = some (.cells (BA 0) 22 (0, 0)) := bheap hb3 (bheap hbw gz (by omega)) (by have := hbw.size; omega)
          have hr3 := FF.out es3 hc3
          have hd3 := hd3.any (C := w.heap.size + 1) (by have := hd3.raw.1; have := hbw.size; omega)
          clear hb3 hc3 hbw hy
          go_wp2
          go_roundg ((val es3).toNat * 100 + es3.length)
          case rel => exact ⟨es3, g3, c3, rfl, rfl, hr3.1, hd3, gz3, hB3⟩
          case measure => have := HM.out; omega
    · have hx16 : X.length = 16 := by omega
      clear h16 h44 hlt HM
      go_wp2_with fail
      go_loopg [0] (val X).toNat (fun m x v => ∃ (X : List Int) (g cp : Nat), Hid (m = (val X).toNat) ∧ Hid (X.length = 16) ∧ x = .slice (some ⟨g, 0, none⟩) 16 cp ∧ Rst n X ∧ Dig v (w.heap.size + 1) g cp X ∧ v.heap[w.heap.size]? = some (.cells (BA 0) 22 (0, 0)) ∧ Below w.heap.size w v)
      case atStart => exact ⟨X, g, cp, Hid.mk rfl, Hid.mk hx16, by rw [hx16], rst, hdg, gz, hB⟩
      case round =>
        clear rst hdg gz hB hcp hx16
        obtain ⟨X, g, cp, HM, HX, rfl, rst, hdg, gz, hB⟩ := hrel
        have hx15 := rst.dgs.at (by omega) 15
        have c15 := hdg.cell 15 (by have := HX.out; omega)
        have c0 := hdg.cell 0 (by have := HX.out; omega)
        have f15 := hdg.free 15
        have f0 := hdg.free 0
        have hs1 := hdg.lt
        have hs2 := hdg.raw.1
        by_cases hge : 32768 ≤ X.getD 15 0
        · have FP := Hid.mk (fold15_pre rst HX.out hge)
          have FF := Hid.mk (fun es c => rst.fold15 (es := es) HX.out hge c)
          have hx00 := rst.dgs.at (by omega) 0
          have hd5 : Dig (((wr.setCell ⟨g, 0, none⟩ (.int .i64 (X.getD 0 0 + 19 * (X.getD 15 0 / 32768)))).drew).setCell ⟨g, 15, none⟩ (.int .i64 (X.getD 15 0 % 32768))) (w.heap.size + 1) g cp (fold15 X) := ((hdg.set 0 _).drewN 1).set 15 _
          have HD5 := Hid.mk hd5
          clear hd5
          have h150 := hx15.1
          have h151 := hx15.2
          have h000 := hx00.1
          have h001 := hx00.2
          clear hx15 hx00 rst
          generalize X.getD 15 0 = x15 at *
          generalize X.getD 0 0 = x0 at *
          go_wp2
          go_region
          go_wp2_with fail
          refine (carried16 (by rw [fold15_len]; exact HX.out) HD5.out FP.out.1 FP.out.2).mono ?_
          rintro e v3 ⟨g3, c3, es3, rfl, hc3, hd3, hb3⟩
          have hr3 := FF.out es3 hc3
          have hs3 : w.heap.size < wr.heap.size := by omega
          have hB3 : Below w.heap.size w v3 := Below.trans (Below.setCell (Below.drew (Below.setCell hB (by simp; omega) _)) (by simp; omega) _) (hb3.mono (by simp; omega))
          have gz3 : v3.heap[w.heap.size]? = some (.cells (BA 0) 22 (0, 0)) := bheap hb3 ((heap_setCell_other _ _ _ _ (by simp; omega)).trans ((heap_setCell_other _ _ _ _ (by simp; omega)).trans gz)) (by simp; omega)
          have hd3 := hd3.any (C := w.heap.size + 1) (by have := hd3.raw.1; simp at this; omega)
          have e3 : es3.length = 16 := hr3.2.1
          clear hb3 hc3
          go_wp2
          go_roundg (val es3).toNat
          case rel => exact ⟨es3, g3, c3, Hid.mk rfl, Hid.mk e3, by simp, hr3.1, hd3, gz3, hB3⟩
          case measure => have := HM.out; have := hr3.2.2; omega
        · have h15 : X.getD 15 0 < 32768 := by omega
          have BP := Hid.mk (below_p rst.dgs HX.out h15)
          have RN := Hid.mk rst.num
          have AL := Hid.mk (atLeast_any (w.heap.size + 1) g cp X wr hdg HX.out rst.dgs h15)
          have ME := Hid.mk (fun h => minus_end rst.dgs HX.out h15 h)
          have XD := Hid.mk rst.dgs
          clear hx15 rst f15 f0 c0
          generalize hx15e : X.getD 15 0 = x15 at *
          clear hx15e
          go_wp2_with fail
          refine AL.out.mono ?_
          rintro e w' ⟨rfl, hw⟩
          have hw := hw.symm
          subst hw
          clear c15
          by_cases hp : P255 ≤ val X
          · have M := Hid.mk (ME.out hp)
            have hm0 := minus_zero HX.out
            have HYL := Hid.mk (minus_len X 16)
            have HYD := Hid.mk M.out.2
            have HYV : Hid (val (minus X 16) = n % P255) := Hid.mk (by
              rw [M.out.1, ← RN.out]
              have := BP.out
              rw [← Int.sub_emod_right, Int.emod_eq_of_lt (by omega) (by unfold P255 at *; omega)])
            rw [← hm0] at hdg
            clear hm0
            simp only [hp, decide_true]
            go_wp2
            go_loopw [6] (fun i v => ∃ k : Nat, k ≤ 16 ∧ i = .int .i64 k ∧ Dig v (w.heap.size + 1) g cp (minus X k) ∧ v.heap[w.heap.size]? = some (.cells (BA 0) 22 (0, 0)) ∧ Below w.heap.size w v) (fun i _ => 16 - (intOf i).toNat)
            case atStart => exact ⟨0, by omega, rfl, hdg, gz, hB⟩
            case round =>
              clear hdg gz hB
              obtain ⟨k, hk, rfl, hdg, gz, hB⟩ := hrel
              by_cases hlt : k < 16
              · have MS := Hid.mk (minus_set X hlt)
                have cx := hdg.cell k (by rw [minus_len]; exact hlt)
                have fx := hdg.free k
                have hxr := XD.out.at (by omega) k
                rw [minus_get X hlt] at cx
                by_cases hk0 : k = 0
                · subst hk0
                  have hxr0 := hxr.1
                  have hxr1 := hxr.2
                  have MS := Hid.mk MS.out
                  simp only [if_true] at MS
                  clear hxr
                  generalize X.getD 0 0 = x at *
                  go_wp2
                  go_roundw
                  case rel => exact ⟨1, by omega, by go_num, by rw [← MS.out]; exact hdg.set 0 _, (heap_setCell_other _ _ _ _ (by simp; omega)).trans gz, Below.setCell hB (by simp; omega) _⟩
                  case measure => simp [intOf]
                · have MS2 : Hid ((minus X k).set k 0 = minus X (k + 1)) := Hid.mk (by have := MS.out; rwa [if_neg hk0] at this)
                  clear MS hxr
                  generalize X.getD k 0 = x at *
                  go_wp2
                  go_roundw
                  case rel => exact ⟨k + 1, by omega, by go_num, by rw [← MS2.out]; exact hdg.set k _, (heap_setCell_other _ _ _ _ (by simp; omega)).trans gz, Below.setCell hB (by simp; omega) _⟩
                  case measure => simp [intOf]; omega
              · have hk2 : k = 16 := by omega
                subst hk2
                clear hlt
                go_wp2
                refine wp_gen (fun v => Dig v (w.heap.size + 1) g cp (minus X 16) ∧ v.heap[w.heap.size]? = some (.cells (BA 0) 22 (0, 0)) ∧ v.heap[wr.heap.size]? = some (.cells (BA (val ((minus X 16).take 0))) 22 (0, 0)) ∧ Below w.heap.size w v)
                  ⟨hdg.alloc _, (Below.heap_alloc _ _ _ (heap_lt gz)).trans gz, heap_alloc_new _ _, hB.alloc hB.size _⟩ ?_
                have hs0 := heap_lt gz
                have hs1 := hdg.lt
                generalize wr.heap.size = bo at *
                clear hdg gz hB
                rintro v5 ⟨hdg, gz, go, hB⟩
                go_loopw [8] (fun i v => ∃ k : Nat, k ≤ 16 ∧ i = .int .i64 k ∧ Dig v (w.heap.size + 1) g cp (minus X 16) ∧ v.heap[w.heap.size]? = some (.cells (BA 0) 22 (0, 0)) ∧ v.heap[bo]? = some (.cells (BA (val ((minus X 16).take k))) 22 (0, 0)) ∧ Below w.heap.size w v) (fun i _ => 16 - (intOf i).toNat)
                case atStart => exact ⟨0, by omega, rfl, hdg, gz, go, hB⟩
                case round =>
                  clear hdg gz go hB
                  obtain ⟨k, hk, rfl, hdg, gz, go, hB⟩ := hrel
                  by_cases hlt : k < 16
                  · have cx := hdg.cell k (by have := HYL.out; omega)
                    have hx := HYD.out.at (by omega) k
                    have hx0 := hx.1
                    have hx1 := hx.2
                    clear hx
                    have BS := Hid.mk (bytes_step HYD.out HYL.out hlt)
                    generalize val ((minus X 16).take k) = V0 at *
                    generalize (minus X 16).getD k 0 = x at *
                    have c0 := (cell_of_row wr _ (2 * k) _ _ _ go).trans (BA_get _ (2 * k) (by omega))
                    have c1 := (cell_of_row wr _ (2 * k + 1) _ _ _ go).trans (BA_get _ (2 * k + 1) (by omega))
                    have f0 := frozen_of_row wr _ (2 * k) _ _ go
                    have f1 := frozen_of_row wr _ (2 * k + 1) _ _ go
                    have hne : ¬ g = bo := by omega
                    go_wp2
                    go_roundw
                    case rel => exact ⟨k + 1, by omega, by go_num, (hdg.setOther _ (by omega)).setOther _ (by omega), (heap_setCell_other _ _ _ _ (by simp; omega)).trans ((heap_setCell_other _ _ _ _ (by simp; omega)).trans gz), by rw [← BS.out]; exact heap_setCell_same _ _ _ _ _ _ (heap_setCell_same _ _ _ _ _ _ go), Below.setCell (Below.setCell hB (by simp; omega) _) (by simp; omega) _⟩
                    case measure => simp [intOf]; omega
                  · have hk2 : k = 16 := by omega
                    subst hk2
                    rw [List.take_of_length_le (by have := HYL.out; omega), HYV.out] at go
                    go_wp2_with (first | (refine ld_bytes rfl _ rfl _ _ rfl go (BA_size _) ?_) | (refine st_bytes rfl _ _ rfl _ _ rfl rfl _ gz (BA_size _) ?_; intro v6 g6 o6))
                    exact bodyPost_ret (v := .agg (BA (n % P255))) (results_cell_row rfl _ _ _ _ _ _ _ rfl g6 Tryd.underlying22 rfl (by rw [BA_size]; exact info32)) rfl
                      ⟨rfl, Below.trans hB (Only.below (b := w.heap.size) (B := w.heap.size) o6 (by omega))⟩
          · have HYL := HX
            have HYD := XD
            have HYV : Hid (val X = n % P255) := Hid.mk (by
              rw [← RN.out]
              have := XD.out.nonneg
              rw [Int.emod_eq_of_lt (by omega) (by omega)])
            simp only [hp, decide_false]
            go_wp2
            refine wp_gen (fun v => Dig v (w.heap.size + 1) g cp X ∧ v.heap[w.heap.size]? = some (.cells (BA 0) 22 (0, 0)) ∧ v.heap[wr.heap.size]? = some (.cells (BA (val (X.take 0))) 22 (0, 0)) ∧ Below w.heap.size w v)
              ⟨hdg.alloc _, (Below.heap_alloc _ _ _ (heap_lt gz)).trans gz, heap_alloc_new _ _, hB.alloc hB.size _⟩ ?_
            have hs0 := heap_lt gz
            have hs1 := hdg.lt
            generalize wr.heap.size = bo at *
            clear hdg gz hB
            rintro v5 ⟨hdg, gz, go, hB⟩
            go_loopw [8] (fun i v => ∃ k : Nat, k ≤ 16 ∧ i = .int .i64 k ∧ Dig v (w.heap.size + 1) g cp X ∧ v.heap[w.heap.size]? = some (.cells (BA 0) 22 (0, 0)) ∧ v.heap[bo]? = some (.cells (BA (val (X.take k))) 22 (0, 0)) ∧ Below w.heap.size w v) (fun i _ => 16 - (intOf i).toNat)
            case atStart => exact ⟨0, by omega, rfl, hdg, gz, go, hB⟩
            case round =>
              clear hdg gz go hB
              obtain ⟨k, hk, rfl, hdg, gz, go, hB⟩ := hrel
              by_cases hlt : k < 16
              · have cx := hdg.cell k (by have := HYL.out; omega)
                have hx := HYD.out.at (by omega) k
                have hx0 := hx.1
                have hx1 := hx.2
                clear hx
                have BS := Hid.mk (bytes_step HYD.out HYL.out hlt)
                generalize val (X.take k) = V0 at *
                generalize X.getD k 0 = x at *
                have c0 := (cell_of_row wr _ (2 * k) _ _ _ go).trans (BA_get _ (2 * k) (by omega))
                have c1 := (cell_of_row wr _ (2 * k + 1) _ _ _ go).trans (BA_get _ (2 * k + 1) (by omega))
                have f0 := frozen_of_row wr _ (2 * k) _ _ go
                have f1 := frozen_of_row wr _ (2 * k + 1) _ _ go
                have hne : ¬ g = bo := by omega
                go_wp2
                go_roundw
                case rel => exact ⟨k + 1, by omega, by go_num, (hdg.setOther _ (by omega)).setOther _ (by omega), (heap_setCell_other _ _ _ _ (by simp; omega)).trans ((heap_setCell_other _ _ _ _ (by simp; omega)).trans gz), by rw [← BS.out]; exact heap_setCell_same _ _ _ _ _ _ (heap_setCell_same _ _ _ _ _ _ go), Below.setCell (Below.setCell hB (by simp; omega) _) (by simp; omega) _⟩
                case measure => simp [intOf]; omega
              · have hk2 : k = 16 := by omega
                subst hk2
                rw [List.take_of_length_le (by have := HYL.out; omega), HYV.out] at go
                go_wp2_with (first | (refine ld_bytes rfl _ rfl _ _ rfl go (BA_size _) ?_) | (refine st_bytes rfl _ _ rfl _ _ rfl rfl _ gz (BA_size _) ?_; intro v6 g6 o6))
                exact bodyPost_ret (v := .agg (BA (n % P255))) (results_cell_row rfl _ _ _ _ _ _ _ rfl g6 Tryd.underlying22 rfl (by rw [BA_size]; exact info32)) rfl
                  ⟨rfl, Below.trans hB (Only.below (b := w.heap.size) (B := w.heap.size) o6 (by omega))⟩
end Go.Proofs.YtpcpcgfljffkeaaDoor
/-
  Own text. What Canon, Plus and Times of the document's answer give.
-/
namespace Go.Proofs.YtpcpcgfljffkeaaDoor
open Go.RowKit Go.Proofs
theorem Rest_len {m : Nat} {B g cap : Nat} {ds : List Int} {w : World} (hl : ds.length = m) (hm : m ≤ 40) (hD : Dig w B g cap ds) (hd : Dgs 4398046511104 ds) :
    Calls Tryd.prog 23 #[.slice (some ⟨g, 0, none⟩) m cap] w fun e w' => e = .returned (.agg (BA (val ds % P255))) ∧ Below w.heap.size w w' := by
  have := Rest_any B g cap ds w hD hd (by omega) (val_44 hd (by omega))
  rwa [hl] at this
theorem LD_wide (n : Int) (i : Nat) : Dgs 4398046511104 (LD n i) := (LD_dgs n i).mono (by omega)
set_option maxHeartbeats 1000000 in
theorem rcanon_any (a : Int) (w : World) (ha : N256 a) :
    Calls Tryd.prog 15 #[.agg (BA a)] w fun e w' => e = .returned (.agg (BA (a % P255))) ∧ Below w.heap.size w w' := by
  have HV := Hid.mk (LD_val ha.1 ha.2)
  clear ha
  go_enter Tryd.func15, Tryd.ntmps15
  go_wp2_with (refine ld_bytes rfl _ rfl _ _ rfl (heap_alloc2_old w _ _) (BA_size _) ?_)
  refine (Load_any a _).mono ?_
  rintro e v1 ⟨g, rfl, hd, hb1⟩
  have gz := bheap hb1 (heap_alloc2_new w _ _) (by simp)
  have hB := Below.trans (((Below.refl _ w).alloc (Nat.le_refl _) _).alloc (by simp) _) (hb1.mono (by simp; omega))
  clear hb1
  go_wp2_with fail
  refine (Rest_len (LD_len a 16) (by omega) hd (LD_wide a 16)).mono ?_
  rintro e v2 ⟨rfl, hb2⟩
  rw [HV.out]
  have gz2 := bheap hb2 gz (heap_lt gz)
  have hB2 := Below.trans hB (hb2.mono hB.size)
  go_wp2_with (refine st_bytes rfl _ _ rfl _ _ rfl rfl _ gz2 (BA_size 0) ?_; intro v3 g3 o3)
  exact bodyPost_ret (v := .agg (BA (a % P255))) (results_cell_row rfl _ _ _ _ _ _ _ rfl g3 Tryd.underlying22 rfl (by rw [BA_size]; exact info32)) rfl
    ⟨rfl, Below.trans hB2 (Only.below (b := w.heap.size + 1) (B := w.heap.size) o3 (by omega))⟩
set_option maxHeartbeats 1000000 in
set_option maxRecDepth 100000 in
theorem rplus_any (a b : Int) (w : World) (ha : N256 a) (hb : N256 b) :
    Calls Tryd.prog 41 #[.agg (BA a), .agg (BA b)] w fun e w' => e = .returned (.agg (BA ((a + b) % P255))) ∧ Below w.heap.size w w' := by
  have HVA := Hid.mk (LD_val ha.1 ha.2)
  have HVB := Hid.mk (LD_val hb.1 hb.2)
  clear ha hb
  go_enter Tryd.func41, Tryd.ntmps41
  go_wp2_with (refine ld_bytes rfl _ rfl _ _ rfl (heap_a31 w _ _ _) (BA_size _) ?_)
  refine (Load_any a _).mono ?_
  rintro e v1 ⟨g1, rfl, hd1, hb1⟩
  have gb := bheap hb1 (heap_a32 w _ _ _) (by simp <;> omega)
  have gz := bheap hb1 (heap_a3 w _ _ _) (by simp <;> omega)
  have hB : Below w.heap.size w v1 := by
    refine Below.trans ?_ (hb1.mono (by simp <;> omega))
    repeat first | exact Below.refl _ _ | refine Below.alloc ?_ (by simp <;> omega) _
  have hd1 := hd1.any (C := w.heap.size + 1 + 1 + 1) (by have := hd1.raw.1; simp at this; omega)
  clear hb1
  have hdl := hd1.lt
  go_wp2_with (refine ld_bytes rfl _ rfl _ _ rfl gb (BA_size _) ?_)
  refine (Load_any b _).mono ?_
  rintro e v2 ⟨g2, rfl, hd2, hb2⟩
  have hd1 := hd1.below hb2 hd1.lt
  have gz := bheap hb2 gz (heap_lt gz)
  have hne : g1 ≠ g2 := by have := hd1.raw.1; have := hd2.raw.1; have := hb2.size; have h := hdl; omega
  have hB := Below.trans hB (hb2.mono hB.size)
  have hd2 := hd2.any (C := w.heap.size + 1 + 1 + 1) (by have := hd1.raw.1; have := hd2.raw.1; omega)
  clear hb2 hdl gb
  have s0 := Sum.start (Y := LD b 16) (LD_dgs a 16) (LD_len a 16)
  go_wp2
  go_loopw [7] (fun i v => ∃ (k : Nat) (ds : List Int), k ≤ 16 ∧ i = .int .i64 k ∧ Sum (LD a 16) (LD b 16) k ds ∧ Dig v (w.heap.size + 1 + 1 + 1) g1 16 ds ∧ Dig v (w.heap.size + 1 + 1 + 1) g2 16 (LD b 16) ∧ v.heap[w.heap.size + 1 + 1]? = some (.cells (BA 0) 22 (0, 0)) ∧ Below w.heap.size w v) (fun i _ => 16 - (intOf i).toNat)
  case atStart => exact ⟨0, _, by omega, rfl, s0, hd1, hd2, gz, hB⟩
  case round =>
    clear s0 hd1 hd2 gz hB
    obtain ⟨k, ds, hk, rfl, sm, hd1, hd2, gz, hB⟩ := hrel
    have hg1 := hd1.raw.1
    by_cases hlt : k < 16
    · have SS := Hid.mk (sm.step (LD_dgs b 16) (LD_len b 16) hlt)
      have cx := hd1.cell k (by have := sm.len; omega)
      have fx := hd1.free k
      have cy := hd2.cell k (by rw [LD_len]; exact hlt)
      have hx := sm.lo k
      have hy := (LD_dgs b 16).at (by omega) k
      have hx0 := hx.1
      have hx1 := hx.2
      have hy0 := hy.1
      have hy1 := hy.2
      clear hx hy sm
      generalize ds.getD k 0 = x at *
      generalize (LD b 16).getD k 0 = y at *
      go_wp2
      go_region
      go_wp2
      go_roundw
      case rel => exact ⟨k + 1, _, by omega, by go_num, SS.out, (hd1.set k _).drewN 1, (hd2.setOther _ (Ne.symm hne)).drewN 1, (heap_setCell_other _ _ _ _ (by simp; omega)).trans gz, Below.drew (Below.setCell hB (by simp; omega) _)⟩
      case measure => simp [intOf]; omega
    · have hk2 : k = 16 := by omega
      subst hk2
      have dn := sm.done (LD_len b 16)
      have NUM : Hid (val ds = a + b) := Hid.mk (by rw [dn.1, HVA.out, HVB.out])
      have DG := Hid.mk dn.2
      clear dn hlt
      go_wp2_with fail
      refine (Rest_len sm.len (by omega) hd1 DG.out).mono ?_
      rintro e v5 ⟨rfl, hb5⟩
      rw [NUM.out]
      have gz5 := bheap hb5 gz (heap_lt gz)
      have hB5 := Below.trans hB (hb5.mono hB.size)
      go_wp2_with (refine st_bytes rfl _ _ rfl _ _ rfl rfl _ gz5 (BA_size 0) ?_; intro v6 g6 o6)
      exact bodyPost_ret (v := .agg (BA ((a + b) % P255))) (results_cell_row rfl _ _ _ _ _ _ _ rfl g6 Tryd.underlying22 rfl (by rw [BA_size]; exact info32)) rfl
        ⟨rfl, Below.trans hB5 (Only.below (b := w.heap.size + 1 + 1) (B := w.heap.size) o6 (by omega))⟩
theorem mk31 (w : World) : (Instr.makeSlice 38 (.int .i64 31) (.int .i64 31)).run Tryd.prog w = .ok (.slice (some ⟨w.heap.size, 0, none⟩) 31 31) (w.alloc (.cells (madeCells #[.int .i64 0] 31) 3)) :=
  run_make_row' 38 3 (.int .i64 0) 8 Tryd.underlying38 infoInt rfl .i64 .i64 31 (by omega) (by omega) w
set_option maxHeartbeats 1000000 in
set_option maxRecDepth 100000 in
theorem rtimes_any (a b : Int) (w : World) (ha : N256 a) (hb : N256 b) :
    Calls Tryd.prog 28 #[.agg (BA a), .agg (BA b)] w fun e w' => e = .returned (.agg (BA (a * b % P255))) ∧ Below w.heap.size w w' := by
  have hmk := mk31
  have HVA := Hid.mk (LD_val ha.1 ha.2)
  have HVB := Hid.mk (LD_val hb.1 hb.2)
  clear ha hb
  go_enter Tryd.func28, Tryd.ntmps28
  go_wp2_with (refine ld_bytes rfl _ rfl _ _ rfl (heap_a31 w _ _ _) (BA_size _) ?_)
  refine (Load_any a _).mono ?_
  rintro e v1 ⟨g1, rfl, hd1, hb1⟩
  have gb := bheap hb1 (heap_a32 w _ _ _) (by simp <;> omega)
  have gz := bheap hb1 (heap_a3 w _ _ _) (by simp <;> omega)
  have hB : Below w.heap.size w v1 := by
    refine Below.trans ?_ (hb1.mono (by simp <;> omega))
    repeat first | exact Below.refl _ _ | refine Below.alloc ?_ (by simp <;> omega) _
  have hd1 := hd1.any (C := w.heap.size + 1 + 1 + 1) (by have := hd1.raw.1; simp at this; omega)
  clear hb1
  have hdl := hd1.lt
  go_wp2_with (refine ld_bytes rfl _ rfl _ _ rfl gb (BA_size _) ?_)
  refine (Load_any b _).mono ?_
  rintro e v2 ⟨g2, rfl, hd2, hb2⟩
  have hd1 := hd1.below hb2 hd1.lt
  have gz := bheap hb2 gz (heap_lt gz)
  have hne : g1 ≠ g2 := by have := hd1.raw.1; have := hd2.raw.1; have := hb2.size; have h := hdl; omega
  have hB := Below.trans hB (hb2.mono hB.size)
  have hd2 := hd2.any (C := w.heap.size + 1 + 1 + 1) (by have := hd1.raw.1; have := hd2.raw.1; omega)
  clear hb2 hdl gb
  have p0 := Prd.start (LD a 16) (LD b 16)
  go_wp2
  refine wp_gen (fun v => Dig v (w.heap.size + 1 + 1 + 1) g1 16 (LD a 16) ∧ Dig v (w.heap.size + 1 + 1 + 1) g2 16 (LD b 16) ∧ Dig v (w.heap.size + 1 + 1 + 1) v2.heap.size 31 (List.replicate 31 0) ∧ v.heap[w.heap.size + 1 + 1]? = some (.cells (BA 0) 22 (0, 0)) ∧ Below w.heap.size w v)
    ⟨hd1.alloc _, hd2.alloc _, (dig_made v2 31 (by omega)).any (by have := heap_lt gz; omega), (Below.heap_alloc _ _ _ (heap_lt gz)).trans gz, hB.alloc hB.size _⟩ ?_
  have hn1 := hd1.lt
  have hn2 := hd2.lt
  have hn3 := heap_lt gz
  clear hd1 hd2 gz hB
  generalize v2.heap.size = g3 at *
  rintro v3 ⟨hd1, hd2, hd3, gz, hB⟩
  go_loopw [8] (fun i v => ∃ (k : Nat) (ds : List Int), k ≤ 16 ∧ i = .int .i64 k ∧ Prd (LD a 16) (LD b 16) k 0 ds ∧ Dig v (w.heap.size + 1 + 1 + 1) g1 16 (LD a 16) ∧ Dig v (w.heap.size + 1 + 1 + 1) g2 16 (LD b 16) ∧ Dig v (w.heap.size + 1 + 1 + 1) g3 31 ds ∧ v.heap[w.heap.size + 1 + 1]? = some (.cells (BA 0) 22 (0, 0)) ∧ Below w.heap.size w v) (fun i _ => 16 - (intOf i).toNat)
  case atStart => exact ⟨0, _, by omega, rfl, p0, hd1, hd2, hd3, gz, hB⟩
  case round =>
    clear p0 hd1 hd2 hd3 gz hB
    obtain ⟨k, ds, hk, rfl, pr, hd1, hd2, hd3, gz, hB⟩ := hrel
    have hg3 := hd3.raw.1
    by_cases hlt : k < 16
    · go_wp2
      generalize Value.bool (decide ((k : Int) < 16)) = b16
      go_loopg [9] 16 (fun m i v => ∃ (j : Nat) (ds : List Int), Hid (m + j = 16) ∧ i = .int .i64 j ∧ Prd (LD a 16) (LD b 16) k j ds ∧ Dig v (w.heap.size + 1 + 1 + 1) g1 16 (LD a 16) ∧ Dig v (w.heap.size + 1 + 1 + 1) g2 16 (LD b 16) ∧ Dig v (w.heap.size + 1 + 1 + 1) g3 31 ds ∧ v.heap[w.heap.size + 1 + 1]? = some (.cells (BA 0) 22 (0, 0)) ∧ Below w.heap.size w v)
      case atStart => exact ⟨0, ds, Hid.mk rfl, rfl, pr, hd1, hd2, hd3, gz, hB⟩
      case round =>
        clear pr hd1 hd2 hd3 gz hB
        obtain ⟨j, ds, HJ, rfl, pr, hd1, hd2, hd3, gz, hB⟩ := hrel
        have hj16 : j ≤ 16 := by have := HJ.out; omega
        by_cases hj : j < 16
        · have PS := Hid.mk (pr.step (LD_dgs a 16) (LD_dgs b 16) (LD_len b 16) hlt hj)
          have cx := hd1.cell k (by rw [LD_len]; exact hlt)
          have cy := hd2.cell j (by rw [LD_len]; exact hj)
          have cz := hd3.cell (k + j) (by have := pr.len; omega)
          have fz := hd3.free (k + j)
          have hm := mul_lt32 ((LD_dgs a 16).at (by omega) k) ((LD_dgs b 16).at (by omega) j)
          have hm0 := hm.1
          have hm1 := hm.2
          have hz := pr.lo (k + j)
          have hz0 := hz.1
          have hz1 : ds.getD (k + j) 0 ≤ 73014444032 := by have := hz.2; omega
          clear hm hz pr
          generalize (LD a 16).getD k 0 = x at *
          generalize (LD b 16).getD j 0 = y at *
          generalize ds.getD (k + j) 0 = z at *
          go_wp2
          go_region
          go_wp2
          go_roundg (16 - (j + 1))
          case rel => exact ⟨j + 1, _, Hid.mk (by omega), by go_num, PS.out, (hd1.setOther _ (by omega)).drewN 1, (hd2.setOther _ (by omega)).drewN 1, (hd3.set (k + j) _).drewN 1, (heap_setCell_other _ _ _ _ (by simp; omega)).trans gz, Below.drew (Below.setCell hB (by simp; omega) _)⟩
          case measure => have := HJ.out; omega
        · have hj2 : j = 16 := by omega
          subst hj2
          have PN := Hid.mk (pr.next (LD_len b 16) (LD_len a 16) hlt)
          clear pr hj
          go_wp2
          go_roundw
          case rel => exact ⟨k + 1, ds, by omega, by go_num, PN.out, hd1, hd2, hd3, gz, hB⟩
          case measure => simp [intOf]; omega
    · have hk2 : k = 16 := by omega
      subst hk2
      have dn := pr.done (LD_len a 16)
      have NUM : Hid (val ds = a * b) := Hid.mk (by rw [dn.1, HVA.out, HVB.out])
      have DG := Hid.mk dn.2
      have LN := Hid.mk pr.len
      clear dn hlt pr
      go_wp2_with fail
      refine (Rest_len LN.out (by omega) hd3 DG.out).mono ?_
      rintro e v5 ⟨rfl, hb5⟩
      rw [NUM.out]
      have gz5 := bheap hb5 gz (heap_lt gz)
      have hB5 := Below.trans hB (hb5.mono hB.size)
      go_wp2_with (refine st_bytes rfl _ _ rfl _ _ rfl rfl _ gz5 (BA_size 0) ?_; intro v6 g6 o6)
      exact bodyPost_ret (v := .agg (BA ((a * b) % P255))) (results_cell_row rfl _ _ _ _ _ _ _ rfl g6 Tryd.underlying22 rfl (by rw [BA_size]; exact info32)) rfl
        ⟨rfl, Below.trans hB5 (Only.below (b := w.heap.size + 1 + 1) (B := w.heap.size) o6 (by omega))⟩
end Go.Proofs.YtpcpcgfljffkeaaDoor
/-
  Own text. What Sub of the document's answer gives.
-/
namespace Go.Proofs.YtpcpcgfljffkeaaDoor
open Go.RowKit Go.Proofs
set_option maxHeartbeats 1000000 in
set_option maxRecDepth 100000 in
theorem rsub_any (a b : Int) (w : World) (ha : N256 a) (hb : N256 b) :
    Calls Tryd.prog 42 #[.agg (BA a), .agg (BA b)] w fun e w' => e = .returned (.agg (BA ((a - b) % P255))) ∧ Below w.heap.size w w' := by
  have HVA := Hid.mk (LD_val ha.1 ha.2)
  have hcb := N256.mod b
  have HVB := Hid.mk (LD_val hcb.1 hcb.2)
  have HB := Hid.mk hb
  have HP : Hid (val (LD (b % P255) 16) < P255) := Hid.mk (by rw [HVB.out]; exact (mod_lt_P b).2)
  clear ha hb hcb
  go_enter Tryd.func42, Tryd.ntmps42
  go_wp2_with (refine ld_bytes rfl _ rfl _ _ rfl (heap_a31 w _ _ _) (BA_size _) ?_)
  refine (Load_any a _).mono ?_
  rintro e v1 ⟨g1, rfl, hd1, hb1⟩
  have gb := bheap hb1 (heap_a32 w _ _ _) (by simp <;> omega)
  have gz := bheap hb1 (heap_a3 w _ _ _) (by simp <;> omega)
  have hB : Below w.heap.size w v1 := by
    refine Below.trans ?_ (hb1.mono (by simp <;> omega))
    repeat first | exact Below.refl _ _ | refine Below.alloc ?_ (by simp <;> omega) _
  have hd1 := hd1.any (C := w.heap.size + 1 + 1 + 1) (by have := hd1.raw.1; simp at this; omega)
  clear hb1
  go_wp2_with (refine ld_bytes rfl _ rfl _ _ rfl gb (BA_size _) ?_)
  refine (rcanon_any b _ HB.out).mono ?_
  rintro e v2 ⟨rfl, hb2⟩
  have hd1 := hd1.below hb2 hd1.lt
  have gz := bheap hb2 gz (heap_lt gz)
  have hB := Below.trans hB (hb2.mono hB.size)
  clear hb2 gb
  have hdl := hd1.lt
  go_wp2_with fail
  refine (Load_any (b % P255) _).mono ?_
  rintro e v3 ⟨g2, rfl, hd2, hb3⟩
  have hd1 := hd1.below hb3 hd1.lt
  have gz := bheap hb3 gz (heap_lt gz)
  have hne : g1 ≠ g2 := by have := hd1.raw.1; have := hd2.raw.1; have := hb3.size; have h := hdl; omega
  have hB := Below.trans hB (hb3.mono hB.size)
  have hd2 := hd2.any (C := w.heap.size + 1 + 1 + 1) (by have := hd1.raw.1; have := hd2.raw.1; omega)
  clear hb3 hdl
  rw [← Dif_zero (X := LD a 16) (Y := LD (b % P255) 16) (LD_len a 16)] at hd1
  have XD := Hid.mk (LD_dgs a 16)
  have XL := Hid.mk (LD_len a 16)
  have YD := Hid.mk (LD_dgs (b % P255) 16)
  have YL := Hid.mk (LD_len (b % P255) 16)
  generalize LD a 16 = X at *
  generalize LD (b % P255) 16 = Y at *
  go_wp2
  go_loopw [7] (fun i v => ∃ k : Nat, k ≤ 16 ∧ i = .int .i64 k ∧ Dig v (w.heap.size + 1 + 1 + 1) g1 16 (Dif X Y k) ∧ Dig v (w.heap.size + 1 + 1 + 1) g2 16 Y ∧ v.heap[w.heap.size + 1 + 1]? = some (.cells (BA 0) 22 (0, 0)) ∧ Below w.heap.size w v) (fun i _ => 16 - (intOf i).toNat)
  case atStart => exact ⟨0, by omega, rfl, hd1, hd2, gz, hB⟩
  case round =>
    clear hd1 hd2 gz hB
    obtain ⟨k, hk, rfl, hd1, hd2, gz, hB⟩ := hrel
    have hg1 := hd1.raw.1
    by_cases hlt : k < 16
    · have DS := Hid.mk (Dif_set X Y hlt)
      have cx := hd1.cell k (by rw [Dif_len]; exact hlt)
      have fx := hd1.free k
      rw [Dif_get X Y hlt] at cx
      have cy := hd2.cell k (by have := YL.out; omega)
      have hx := XD.out.at (by omega) k
      have hy := YD.out.at (by omega) k
      have hx0 := hx.1
      have hx1 := hx.2
      have hy0 := hy.1
      have hy1 := hy.2
      clear hx hy
      rcases (show k = 0 ∨ k = 15 ∨ (k ≠ 0 ∧ k ≠ 15) by omega) with hk0 | hk0 | ⟨hk0, hk15⟩
      · subst hk0
        have DS : Hid ((Dif X Y 0).set 0 (X.getD 0 0 + 65517 - Y.getD 0 0) = Dif X Y 1) := DS
        generalize X.getD 0 0 = x at *
        generalize Y.getD 0 0 = y at *
        go_wp2
        go_region
        go_wp2
        go_roundw
        case rel => exact ⟨1, by omega, by go_num, by rw [← DS.out]; exact (hd1.set 0 _).drewN 1, (hd2.setOther _ (Ne.symm hne)).drewN 1, (heap_setCell_other _ _ _ _ (by simp; omega)).trans gz, Below.drew (Below.setCell hB (by simp; omega) _)⟩
        case measure => simp [intOf]
      · subst hk0
        have DS : Hid ((Dif X Y 15).set 15 (X.getD 15 0 + 32767 - Y.getD 15 0) = Dif X Y 16) := DS
        generalize X.getD 15 0 = x at *
        generalize Y.getD 15 0 = y at *
        go_wp2
        go_region
        go_wp2
        go_roundw
        case rel => exact ⟨16, by omega, by go_num, by rw [← DS.out]; exact (hd1.set 15 _).drewN 1, (hd2.setOther _ (Ne.symm hne)).drewN 1, (heap_setCell_other _ _ _ _ (by simp; omega)).trans gz, Below.drew (Below.setCell hB (by simp; omega) _)⟩
        case measure => simp [intOf]
      · have DS : Hid ((Dif X Y k).set k (X.getD k 0 + 65535 - Y.getD k 0) = Dif X Y (k + 1)) := Hid.mk (by have := DS.out; unfold pd at this; rwa [if_neg hk15, if_neg hk0] at this)
        generalize X.getD k 0 = x at *
        generalize Y.getD k 0 = y at *
        go_wp2
        go_region
        go_wp2
        go_roundw
        case rel => exact ⟨k + 1, by omega, by go_num, by rw [← DS.out]; exact (hd1.set k _).drewN 1, (hd2.setOther _ (Ne.symm hne)).drewN 1, (heap_setCell_other _ _ _ _ (by simp; omega)).trans gz, Below.drew (Below.setCell hB (by simp; omega) _)⟩
        case measure => simp [intOf]; omega
    · have hk2 : k = 16 := by omega
      subst hk2
      have b0 := Bor.start XL.out YL.out
      clear hlt hd2
      go_wp2
      go_loopg [9] 15 (fun m i v => ∃ (k : Nat) (t : Int) (ds : List Int), Hid (m + k = 15) ∧ i = .int .i64 k ∧ Bor X Y k t ds ∧ Dig v (w.heap.size + 1 + 1 + 1) g1 16 ds ∧ v.heap[w.heap.size + 1 + 1]? = some (.cells (BA 0) 22 (0, 0)) ∧ Below w.heap.size w v)
      case atStart => exact ⟨0, 0, _, Hid.mk rfl, rfl, b0, hd1, gz, hB⟩
      case round =>
        clear b0 hd1 gz hB
        obtain ⟨k, t, ds, HK, rfl, bo, hd1, gz, hB⟩ := hrel
        have hk : k ≤ 15 := by have := HK.out; omega
        by_cases hlt : k < 15
        · have cx := hd1.cell k (by have := bo.len; omega)
          have cx1 := hd1.cell (k + 1) (by have := bo.len; omega)
          have fx := hd1.free k
          have fx1 := hd1.free (k + 1)
          by_cases hneg : ds.getD k 0 < 0
          · have BL := Hid.mk (bo.lend XD.out YD.out hlt hneg)
            have hge := BL.out.1
            have hr1 : 0 ≤ ds.getD (k + 1) 0 + 200000 ∧ ds.getD (k + 1) 0 < 200000 := by
              have h1 := bo.hi (k + 1) (by omega) (by omega)
              have h2 := XD.out.at (by omega) (k + 1)
              have h3 := YD.out.at (by omega) (k + 1)
              have h4 : pd (k + 1) ≤ 65535 ∧ 0 ≤ pd (k + 1) := by unfold pd; split <;> (try split) <;> omega
              omega
            have hr10 := hr1.1
            have hr11 := hr1.2
            clear hr1 bo
            generalize ds.getD (k + 1) 0 = z at *
            generalize ds.getD k 0 = y at *
            go_wp2
            refine wp_loop_rounds 2 ?_
            rw [rounds_succ]
            go_wp2
            rw [rounds_succ]
            go_wp2
            go_roundg (15 - (k + 1))
            case rel => exact ⟨k + 1, _, _, Hid.mk (by omega), by go_num, BL.out.2, (hd1.set k _).set (k + 1) _, (heap_setCell_other _ _ _ _ (by simp; omega)).trans ((heap_setCell_other _ _ _ _ (by simp; omega)).trans gz), Below.setCell (Below.setCell hB (by simp; omega) _) (by simp; omega) _⟩
            case measure => have := HK.out; omega
          · have BK := Hid.mk (bo.keep XD.out YD.out hlt (by omega))
            clear bo
            generalize ds.getD k 0 = y at *
            go_wp2
            refine wp_loop_rounds 1 ?_
            rw [rounds_succ]
            go_wp2
            go_roundg (15 - (k + 1))
            case rel => exact ⟨k + 1, _, _, Hid.mk (by omega), by go_num, BK.out, hd1, gz, hB⟩
            case measure => have := HK.out; omega
        · have hk2 : k = 15 := by omega
          subst hk2
          have dn := bo.done XD.out YD.out YL.out HP.out
          have LN := Hid.mk bo.len
          have NUM : Hid (val ds = a + P255 - b % P255) := Hid.mk (by rw [dn.1, HVA.out, HVB.out])
          have DG := Hid.mk dn.2
          have RES : Hid ((a + P255 - b % P255) % P255 = (a - b) % P255) := Hid.mk (by rw [show a + P255 - b % P255 = (a - b % P255) + P255 by omega, Int.add_emod_right, Int.sub_emod a (b % P255), Int.emod_emod, ← Int.sub_emod])
          clear dn hlt bo
          go_wp2_with fail
          refine (Rest_len LN.out (by omega) hd1 DG.out).mono ?_
          rintro e v5 ⟨rfl, hb5⟩
          rw [NUM.out, RES.out]
          have gz5 := bheap hb5 gz (heap_lt gz)
          have hB5 := Below.trans hB (hb5.mono hB.size)
          go_wp2_with (refine st_bytes rfl _ _ rfl _ _ rfl rfl _ gz5 (BA_size 0) ?_; intro v6 g6 o6)
          exact bodyPost_ret (v := .agg (BA ((a - b) % P255))) (results_cell_row rfl _ _ _ _ _ _ _ rfl g6 Tryd.underlying22 rfl (by rw [BA_size]; exact info32)) rfl
            ⟨rfl, Below.trans hB5 (Only.below (b := w.heap.size + 1 + 1) (B := w.heap.size) o6 (by omega))⟩
end Go.Proofs.YtpcpcgfljffkeaaDoor
/-
  Own text. 2^255 - 19 is a prime, and so a power by p - 1 leaves 1: by Fermat's little theorem and Pocklington's criterion, down a chain of eight primes. No program is named here.
-/
namespace Go.Proofs.YtpcpcgfljffkeaaDoor
def IsPrime (p : Nat) : Prop := 2 ≤ p ∧ ∀ d, d ∣ p → d = 1 ∨ d = p
theorem exists_prime_dvd : ∀ (m n : Nat), n ≤ m → 2 ≤ n → ∃ r, IsPrime r ∧ r ∣ n
  | 0, n, h, h2 => by omega
  | m + 1, n, h, h2 => by
    by_cases hp : ∀ d, d ∣ n → d = 1 ∨ d = n
    · exact ⟨n, ⟨h2, hp⟩, Nat.dvd_refl n⟩
    · have : ∃ d, d ∣ n ∧ d ≠ 1 ∧ d ≠ n := by
        apply Classical.byContradiction
        intro hn
        apply hp
        intro d hd
        by_cases h1 : d = 1
        · exact Or.inl h1
        · by_cases h3 : d = n
          · exact Or.inr h3
          · exact absurd ⟨d, hd, h1, h3⟩ hn
      obtain ⟨d, hd, h1, h3⟩ := this
      have hle := Nat.le_of_dvd (by omega) hd
      have hpos : d ≠ 0 := fun h0 => by subst h0; have := Nat.eq_zero_of_zero_dvd hd; omega
      obtain ⟨r, hr, hrd⟩ := exists_prime_dvd m d (by omega) (by omega)
      exact ⟨r, hr, Nat.dvd_trans hrd hd⟩
theorem prime_coprime {p a : Nat} (hp : IsPrime p) (h : ¬ p ∣ a) : Nat.Coprime p a := by
  rcases hp.2 (Nat.gcd p a) (Nat.gcd_dvd_left p a) with h1 | h1
  · exact h1
  · exact absurd (h1 ▸ Nat.gcd_dvd_right p a) h
theorem prime_dvd_mul {p a b : Nat} (hp : IsPrime p) (h : p ∣ a * b) : p ∣ a ∨ p ∣ b := by
  by_cases ha : p ∣ a
  · exact Or.inl ha
  · exact Or.inr (Nat.Coprime.dvd_of_dvd_mul_left (prime_coprime hp ha) h)
/-- Binomial coefficients. -/
def ch : Nat → Nat → Nat
  | _, 0 => 1
  | 0, _ + 1 => 0
  | n + 1, k + 1 => ch n k + ch n (k + 1)
theorem ch_zero (n : Nat) : ch n 0 = 1 := by cases n <;> rfl
theorem ch_succ (n k : Nat) : ch (n + 1) (k + 1) = ch n k + ch n (k + 1) := rfl
theorem ch_big : ∀ (n k : Nat), n < k → ch n k = 0
  | 0, 0, h => by omega
  | 0, k + 1, _ => rfl
  | n + 1, 0, h => by omega
  | n + 1, k + 1, h => by rw [ch_succ, ch_big n k (by omega), ch_big n (k + 1) (by omega)]
theorem ch_self : ∀ n : Nat, ch n n = 1
  | 0 => rfl
  | n + 1 => by rw [ch_succ, ch_self n, ch_big n (n + 1) (by omega)]
theorem ch_absorb : ∀ (n k : Nat), (k + 1) * ch (n + 1) (k + 1) = (n + 1) * ch n k
  | 0, 0 => rfl
  | 0, k + 1 => by rw [ch_succ, ch_big 0 (k + 1) (by omega), ch_big 0 (k + 2) (by omega)]; simp
  | n + 1, 0 => by
    have h1 := ch_absorb n 0
    rw [ch_zero] at h1
    rw [ch_succ, ch_zero]
    omega
  | n + 1, k + 1 => by
    have h1 := ch_absorb n k
    have h2 := ch_absorb n (k + 1)
    rw [ch_succ (n + 1) (k + 1), Nat.mul_add, h2]
    have h3 : (k + 1 + 1) * ch (n + 1) (k + 1) = (n + 1) * ch n k + ch (n + 1) (k + 1) := by rw [← h1, Nat.add_mul (k + 1) 1, Nat.one_mul]
    rw [h3]
    have h4 : (n + 1 + 1) * ch (n + 1) (k + 1) = (n + 1) * ch (n + 1) (k + 1) + ch (n + 1) (k + 1) := by rw [Nat.add_mul (n + 1) 1, Nat.one_mul]
    rw [h4, ch_succ n k, Nat.mul_add]
    omega
def sumN (f : Nat → Nat) : Nat → Nat
  | 0 => 0
  | m + 1 => sumN f m + f m
theorem pascal_sum (x n : Nat) : ∀ m, sumN (fun k => ch (n + 1) k * x ^ k) (m + 1) = sumN (fun k => ch n k * x ^ k) (m + 1) + x * sumN (fun k => ch n k * x ^ k) m
  | 0 => by simp [sumN, ch_zero]
  | m + 1 => by
    have ih := pascal_sum x n m
    have e1 : sumN (fun k => ch (n + 1) k * x ^ k) (m + 1 + 1) = sumN (fun k => ch (n + 1) k * x ^ k) (m + 1) + ch (n + 1) (m + 1) * x ^ (m + 1) := rfl
    have e2 : sumN (fun k => ch n k * x ^ k) (m + 1 + 1) = sumN (fun k => ch n k * x ^ k) (m + 1) + ch n (m + 1) * x ^ (m + 1) := rfl
    have e3 : sumN (fun k => ch n k * x ^ k) (m + 1) = sumN (fun k => ch n k * x ^ k) m + ch n m * x ^ m := rfl
    rw [e1, ih, e2, ch_succ, Nat.add_mul]
    have e4 : x * sumN (fun k => ch n k * x ^ k) (m + 1) = x * sumN (fun k => ch n k * x ^ k) m + ch n m * x ^ (m + 1) := by
      rw [e3, Nat.mul_add, Nat.pow_succ]
      have : x * (ch n m * x ^ m) = ch n m * (x ^ m * x) := by rw [Nat.mul_comm x, Nat.mul_assoc]
      rw [this]
    rw [e4]
    omega
theorem binom (x : Nat) : ∀ n, sumN (fun k => ch n k * x ^ k) (n + 1) = (x + 1) ^ n
  | 0 => by simp [sumN, ch_zero]
  | n + 1 => by
    rw [pascal_sum, binom x n]
    have e : sumN (fun k => ch n k * x ^ k) (n + 1 + 1) = sumN (fun k => ch n k * x ^ k) (n + 1) + ch n (n + 1) * x ^ (n + 1) := rfl
    have e2 : (x + 1) ^ (n + 1) = (x + 1) ^ n * (x + 1) := Nat.pow_succ (x + 1) n
    rw [e, ch_big n (n + 1) (by omega), binom x n, Nat.zero_mul, Nat.add_zero, e2, Nat.mul_add, Nat.mul_one, Nat.mul_comm x]
    omega
theorem prime_dvd_ch {p k : Nat} (hp : IsPrime p) (h0 : 0 < k) (h1 : k < p) : p ∣ ch p k := by
  obtain ⟨n, rfl⟩ : ∃ n, p = n + 1 := ⟨p - 1, by have := hp.1; omega⟩
  obtain ⟨j, rfl⟩ : ∃ j, k = j + 1 := ⟨k - 1, by omega⟩
  have h := ch_absorb n j
  have hd : n + 1 ∣ (j + 1) * ch (n + 1) (j + 1) := ⟨ch n j, h⟩
  rcases prime_dvd_mul hp hd with h2 | h2
  · have := Nat.le_of_dvd (by omega) h2; omega
  · exact h2
theorem low_sum {p : Nat} (hp : IsPrime p) (x : Nat) : ∀ m, m < p → sumN (fun k => ch p k * x ^ k) (m + 1) % p = 1 % p
  | 0, _ => by simp [sumN, ch_zero]
  | m + 1, h => by
    have ih := low_sum hp x m (by omega)
    have e : sumN (fun k => ch p k * x ^ k) (m + 1 + 1) = sumN (fun k => ch p k * x ^ k) (m + 1) + ch p (m + 1) * x ^ (m + 1) := rfl
    have hz : ch p (m + 1) * x ^ (m + 1) % p = 0 := Nat.mod_eq_zero_of_dvd (Nat.dvd_trans (prime_dvd_ch hp (by omega) h) (Nat.dvd_mul_right _ _))
    rw [e, Nat.add_mod, ih, hz, Nat.add_zero, Nat.mod_mod]
theorem freshman {p : Nat} (hp : IsPrime p) (x : Nat) : (x + 1) ^ p % p = (x ^ p + 1) % p := by
  obtain ⟨n, rfl⟩ : ∃ n, p = n + 1 := ⟨p - 1, by have := hp.1; omega⟩
  have e : sumN (fun k => ch (n + 1) k * x ^ k) (n + 1 + 1) = sumN (fun k => ch (n + 1) k * x ^ k) (n + 1) + ch (n + 1) (n + 1) * x ^ (n + 1) := rfl
  rw [← binom, e, ch_self, Nat.one_mul, Nat.add_mod, low_sum hp x n (by omega), ← Nat.add_mod, Nat.add_comm]
theorem fermat1 {p : Nat} (hp : IsPrime p) : ∀ x, x ^ p % p = x % p
  | 0 => by have := hp.1; rw [Nat.zero_pow (by omega)]
  | x + 1 => by rw [freshman hp, Nat.add_mod, fermat1 hp x, ← Nat.add_mod]
theorem mod_eq_one_of_dvd {p y : Nat} (hp : 2 ≤ p) (hy : 1 ≤ y) (h : p ∣ y - 1) : y % p = 1 := by
  obtain ⟨k, hk⟩ := h
  have : y = 1 + p * k := by omega
  rw [this, Nat.add_mul_mod_self_left, Nat.mod_eq_of_lt (by omega)]
theorem fermat {p a : Nat} (hp : IsPrime p) (h : ¬ p ∣ a) : a ^ (p - 1) % p = 1 := by
  have h2 := hp.1
  have ha : 0 < a := Nat.pos_of_ne_zero (fun h0 => by subst h0; exact h (Nat.dvd_zero p))
  have hpos : 1 ≤ a ^ (p - 1) := Nat.pow_pos ha
  apply mod_eq_one_of_dvd h2 hpos
  have h1 := fermat1 hp a
  have e : a ^ p = a * a ^ (p - 1) := by
    obtain ⟨n, rfl⟩ : ∃ n, p = n + 1 := ⟨p - 1, by omega⟩
    rw [Nat.pow_succ, Nat.mul_comm]; rfl
  have hd : p ∣ a * (a ^ (p - 1) - 1) := by
    have h3 : a * (a ^ (p - 1) - 1) = a ^ p - a := by rw [Nat.mul_sub, Nat.mul_one, e]
    rw [h3]
    exact Nat.dvd_of_mod_eq_zero (Nat.sub_mod_eq_zero_of_mod_eq h1)
  rcases prime_dvd_mul hp hd with h4 | h4
  · exact absurd h4 h
  · exact h4
theorem pow_mod_one {b r m : Nat} (h : b ^ m % r = 1 % r) (k : Nat) : b ^ (m * k) % r = 1 % r := by
  rw [Nat.pow_mul, Nat.pow_mod, h, ← Nat.pow_mod, Nat.one_pow]
theorem pow_gcd {b r : Nat} (m n : Nat) : b ^ m % r = 1 % r → b ^ n % r = 1 % r → b ^ Nat.gcd m n % r = 1 % r := by
  induction m, n using Nat.gcd.induction with
  | H0 n => intro _ h; simpa using h
  | H1 m n hm ih =>
    intro h1 h2
    rw [Nat.gcd_rec]
    refine ih ?_ h1
    have e : b ^ n = b ^ (m * (n / m)) * b ^ (n % m) := by rw [← Nat.pow_add, Nat.div_add_mod]
    rw [e, Nat.mul_mod, pow_mod_one h1, ← Nat.mul_mod, Nat.one_mul] at h2
    exact h2
/-- One prime q of n - 1: every prime of n leaves 1 by q. -/
theorem pock_one {n q a r : Nat} (hn : 2 ≤ n) (hq : IsPrime q) (hqn : q ∣ n - 1) (h1 : a ^ (n - 1) % n = 1) (hg : Nat.gcd (a ^ ((n - 1) / q) % n + n - 1) n = 1) (hr : IsPrime r) (hrn : r ∣ n) : q ∣ r - 1 := by
  have hr2 := hr.1
  apply Classical.byContradiction
  intro hnd
  have hc : Nat.gcd q (r - 1) = 1 := prime_coprime hq hnd
  have hb1 : (a ^ ((n - 1) / q)) ^ q % r = 1 % r := by
    rw [← Nat.pow_mul, Nat.div_mul_cancel hqn]
    have h2 : a ^ (n - 1) % n % r = 1 % r := by rw [h1]
    rwa [Nat.mod_mod_of_dvd _ hrn] at h2
  have hrb : ¬ r ∣ a ^ ((n - 1) / q) := fun hd => by
    have h3 : r ∣ (a ^ ((n - 1) / q)) ^ q := by
      obtain ⟨k, hk⟩ : ∃ k, q = k + 1 := ⟨q - 1, by have := hq.1; omega⟩
      rw [show (a ^ ((n - 1) / q)) ^ q = (a ^ ((n - 1) / q)) ^ (k + 1) by rw [← hk], Nat.pow_succ]
      exact Nat.dvd_trans hd (Nat.dvd_mul_left _ _)
    rw [Nat.mod_eq_zero_of_dvd h3, Nat.mod_eq_of_lt (show 1 < r by omega)] at hb1
    omega
  have hb2 : (a ^ ((n - 1) / q)) ^ (r - 1) % r = 1 % r := by rw [fermat hr hrb, Nat.mod_eq_of_lt (show 1 < r by omega)]
  have hb3 := pow_gcd q (r - 1) hb1 hb2
  rw [hc, Nat.pow_one, Nat.mod_eq_of_lt (show 1 < r by omega)] at hb3
  have hd : r ∣ a ^ ((n - 1) / q) % n + n - 1 := by
    have h4 : a ^ ((n - 1) / q) % n % r = 1 := by rw [Nat.mod_mod_of_dvd _ hrn]; exact hb3
    obtain ⟨k, hk⟩ := hrn
    have h5 := Nat.div_add_mod (a ^ ((n - 1) / q) % n) r
    rw [h4] at h5
    refine ⟨a ^ ((n - 1) / q) % n / r + k, ?_⟩
    rw [Nat.mul_add, ← hk]
    omega
  have h6 : r ∣ 1 := hg ▸ Nat.dvd_gcd hd hrn
  have := Nat.le_of_dvd (by omega) h6
  omega
/-- Every prime of n is above its root: n is one. -/
theorem prime_of_big {n F : Nat} (hn : 2 ≤ n) (hF : n < F * F) (h : ∀ r, IsPrime r → r ∣ n → F ∣ r - 1) : IsPrime n := by
  have big : ∀ r, IsPrime r → r ∣ n → F < r := fun r hr hd => by
    have h1 := Nat.le_of_dvd (by have := hr.1; omega) (h r hr hd)
    have := hr.1
    omega
  obtain ⟨r, hr, m, hm⟩ := exists_prime_dvd n n (Nat.le_refl n) hn
  have hrF := big r hr ⟨m, hm⟩
  by_cases hm1 : m = 1
  · rw [hm1, Nat.mul_one] at hm; rw [hm]; exact hr
  · exfalso
    have hm0 : m ≠ 0 := fun h0 => by rw [h0] at hm; omega
    obtain ⟨s, hs, t, ht⟩ := exists_prime_dvd m m (Nat.le_refl m) (by omega)
    have hsF := big s hs ⟨r * t, by rw [hm, ht, Nat.mul_left_comm]⟩
    have ht0 : t ≠ 0 := fun h0 => by rw [h0] at ht; omega
    have hsm : s ≤ m := by rw [ht]; exact Nat.le_mul_of_pos_right s (by omega)
    have h2 : F * F ≤ r * m := Nat.mul_le_mul (by omega) (by omega)
    omega
theorem pock1 {n q a : Nat} (hn : 2 ≤ n) (hq : IsPrime q) (hqn : q ∣ n - 1) (h1 : a ^ (n - 1) % n = 1) (hg : Nat.gcd (a ^ ((n - 1) / q) % n + n - 1) n = 1) (hF : n < q * q) : IsPrime n :=
  prime_of_big hn hF (fun _ hr hd => pock_one hn hq hqn h1 hg hr hd)
theorem pock2 {n q s a : Nat} (hn : 2 ≤ n) (hq : IsPrime q) (hs : IsPrime s) (hqs : Nat.gcd q s = 1) (hqn : q ∣ n - 1) (hsn : s ∣ n - 1) (h1 : a ^ (n - 1) % n = 1) (hg : Nat.gcd (a ^ ((n - 1) / q) % n + n - 1) n = 1)
    (hg2 : Nat.gcd (a ^ ((n - 1) / s) % n + n - 1) n = 1) (hF : n < (q * s) * (q * s)) : IsPrime n :=
  prime_of_big hn hF (fun _ hr hd => Nat.Coprime.mul_dvd_of_dvd_of_dvd hqs (pock_one hn hq hqn h1 hg hr hd) (pock_one hn hs hsn h1 hg2 hr hd))
/-- A power's rest, by squaring. -/
def powMod (m : Nat) : Nat → Nat → Nat → Nat
  | 0, _, _ => 1 % m
  | f + 1, a, n => if n = 0 then 1 % m else if n % 2 = 1 then a * powMod m f (a * a % m) (n / 2) % m else powMod m f (a * a % m) (n / 2)
theorem powMod_eq (m : Nat) : ∀ (f a n : Nat), n < 2 ^ f → powMod m f a n = a ^ n % m
  | 0, a, n, h => by simp at h; subst h; simp [powMod]
  | f + 1, a, n, h => by
    have hf : n / 2 < 2 ^ f := by rw [Nat.pow_succ] at h; omega
    have ih := powMod_eq m f (a * a % m) (n / 2) hf
    have e : (a * a % m) ^ (n / 2) % m = a ^ (2 * (n / 2)) % m := by rw [← Nat.pow_mod, ← Nat.pow_two, ← Nat.pow_mul]
    unfold powMod
    by_cases h0 : n = 0
    · subst h0; simp
    · rw [if_neg h0, ih, e]
      by_cases h1 : n % 2 = 1
      · rw [if_pos h1, Nat.mul_mod_mod]
        congr 1
        have hn : n = 2 * (n / 2) + 1 := by omega
        rw [show a ^ n = a ^ (2 * (n / 2) + 1) by rw [← hn], Nat.pow_succ, Nat.mul_comm]
      · rw [if_neg h1]
        congr 2
        omega
theorem trial {n B : Nat} (hn : 2 ≤ n) (hB : n < B * B) (h : (List.range B).all (fun d => decide (d < 2) || n % d != 0) = true) : IsPrime n := by
  obtain ⟨r, hr, m, hm⟩ := exists_prime_dvd n n (Nat.le_refl n) hn
  have key : ∀ d, 2 ≤ d → d ∣ n → B ≤ d := fun d h2 hd => by
    rcases Nat.lt_or_ge d B with hlt | hge
    · have h1 := List.all_eq_true.1 h d (List.mem_range.2 hlt)
      rw [Nat.mod_eq_zero_of_dvd hd] at h1
      simp at h1
      omega
    · exact hge
  by_cases hm1 : m = 1
  · rw [hm1, Nat.mul_one] at hm; rw [hm]; exact hr
  · exfalso
    have hm0 : m ≠ 0 := fun h0 => by rw [h0] at hm; omega
    have h1 := key r hr.1 ⟨m, hm⟩
    have h2 := key m (by omega) ⟨r, by rw [hm, Nat.mul_comm]⟩
    have h3 : B * B ≤ r * m := Nat.mul_le_mul h1 h2
    omega
theorem pr127 : IsPrime 127 := trial (B := 12) (by omega) (by omega) (by decide +kernel)
theorem pr103 : IsPrime 103 := trial (B := 11) (by omega) (by omega) (by decide +kernel)
theorem pr991 : IsPrime 991 := trial (B := 32) (by omega) (by omega) (by decide +kernel)
theorem pr4153 : IsPrime 4153 := trial (B := 65) (by omega) (by omega) (by decide +kernel)
theorem pr430751 : IsPrime 430751 := trial (B := 657) (by omega) (by omega) (by decide +kernel)
theorem pr569003 : IsPrime 569003 := trial (B := 755) (by omega) (by omega) (by decide +kernel)
/-- The criterion's numbers, reckoned. -/
def pockB (n q : Nat) : Bool := decide ((n - 1) % q = 0) && decide (powMod n 260 2 (n - 1) = 1) && decide (Nat.gcd (powMod n 260 2 ((n - 1) / q) + n - 1) n = 1)
theorem pockB_spec {n q : Nat} (hn : n < 2 ^ 260) (h : pockB n q = true) : q ∣ n - 1 ∧ 2 ^ (n - 1) % n = 1 ∧ Nat.gcd (2 ^ ((n - 1) / q) % n + n - 1) n = 1 := by
  simp only [pockB, Bool.and_eq_true, decide_eq_true_eq] at h
  obtain ⟨⟨h1, h2⟩, h3⟩ := h
  rw [powMod_eq n 260 2 (n - 1) (by omega)] at h2
  rw [powMod_eq n 260 2 ((n - 1) / q) (by have := Nat.div_le_self (n - 1) q; omega)] at h3
  exact ⟨Nat.dvd_of_mod_eq_zero h1, h2, h3⟩
theorem pockA {n q : Nat} (hq : IsPrime q) (hn : (decide (2 ≤ n) && decide (n < 2 ^ 260) && decide (n < q * q) && pockB n q) = true) : IsPrime n := by
  simp only [Bool.and_eq_true, decide_eq_true_eq] at hn
  obtain ⟨⟨⟨h2, h3⟩, h4⟩, h5⟩ := hn
  obtain ⟨a, b, c⟩ := pockB_spec h3 h5
  exact pock1 h2 hq a b c h4
theorem pockC {n q s : Nat} (hq : IsPrime q) (hs : IsPrime s) (hn : (decide (2 ≤ n) && decide (n < 2 ^ 260) && decide (n < (q * s) * (q * s)) && decide (Nat.gcd q s = 1) && pockB n q && pockB n s) = true) : IsPrime n := by
  simp only [Bool.and_eq_true, decide_eq_true_eq] at hn
  obtain ⟨⟨⟨⟨⟨h2, h3⟩, h4⟩, h5⟩, h6⟩, h7⟩ := hn
  obtain ⟨a, b, c⟩ := pockB_spec h3 h6
  obtain ⟨a', _, c'⟩ := pockB_spec h3 h7
  exact pock2 h2 hq hs h5 a a' b c c' h4
theorem pr8574133 : IsPrime 8574133 := pockC pr991 pr103 (by decide +kernel)
theorem prA : IsPrime 1919519569386763 := pockC pr8574133 pr127 (by decide +kernel)
theorem prB : IsPrime 2773320623 := pockA pr569003 (by decide +kernel)
theorem prC : IsPrime 72106336199 := pockA prB (by decide +kernel)
theorem prD : IsPrime 75445702479781427272750846543864801 := pockC prA prC (by decide +kernel)
theorem prE : IsPrime 31757755568855353 := pockC pr430751 pr4153 (by decide +kernel)
theorem prF : IsPrime 74058212732561358302231226437062788676166966415465897661863160754340907 := pockC prD prE (by decide +kernel)
/-- 2^255 - 19 is a prime. -/
theorem prP : IsPrime 57896044618658097711785492504343953926634992332820282019728792003956564819949 := pockA prF (by decide +kernel)
end Go.Proofs.YtpcpcgfljffkeaaDoor
/-
  Own text. Inverses modulo 2^255 - 19; what Inv of package field and Less of the document's answer give: contracts over the translation.
-/
namespace Go.Proofs.YtpcpcgfljffkeaaDoor
open Go.RowKit Go.Proofs
theorem emod_pow (a : Int) (n : Nat) : (a % P255) ^ n % P255 = a ^ n % P255 := by
  induction n with
  | zero => simp
  | succ n ih => rw [Int.pow_succ, Int.pow_succ, Int.mul_emod, ih, Int.emod_emod, ← Int.mul_emod]
/-- The exponent of Inv: p - 2. -/
def invE : Nat := ((-2 : Int) % P255).toNat
theorem invE_two : invE + 2 = 57896044618658097711785492504343953926634992332820282019728792003956564819949 := by decide +kernel
/-- What Inv answers. -/
def invN (a : Int) : Int := a ^ invE % P255
theorem invN_range (a : Int) : 0 ≤ invN a ∧ invN a < P255 := mod_lt_P _
theorem invN_256 (a : Int) : N256 (invN a) := N256.mod _
theorem invN_zero {a : Int} (h : a % P255 = 0) : invN a = 0 := by
  unfold invN
  rw [← emod_pow, h]
  obtain ⟨k, hk⟩ : ∃ k, invE = k + 1 := ⟨invE - 1, by have := invE_two; omega⟩
  rw [hk, Int.pow_succ, Int.mul_zero]
  rfl
theorem nat_pow_mod (m n : Nat) : ((m : Int) ^ n) % P255 = ((m ^ n % 57896044618658097711785492504343953926634992332820282019728792003956564819949 : Nat) : Int) := by
  rw [Int.natCast_emod, Int.natCast_pow]
  rfl
theorem fermat_int {a : Int} (h : a % P255 ≠ 0) : a ^ (invE + 1) % P255 = 1 := by
  have hr := mod_lt_P a
  rw [← emod_pow]
  obtain ⟨m, hm⟩ : ∃ m : Nat, a % P255 = (m : Int) := ⟨(a % P255).toNat, by omega⟩
  rw [hm] at h hr ⊢
  have hnd : ¬ 57896044618658097711785492504343953926634992332820282019728792003956564819949 ∣ m := fun hd => by
    have := Nat.le_of_dvd (by omega) hd
    unfold P255 at hr
    omega
  have hf := fermat prP hnd
  rw [show 57896044618658097711785492504343953926634992332820282019728792003956564819949 - 1 = invE + 1 by have := invE_two; omega] at hf
  rw [nat_pow_mod, hf]
  rfl
theorem inv_mul {a : Int} (h : a % P255 ≠ 0) : (a * invN a) % P255 = 1 := by
  have := fermat_int h
  unfold invN
  rw [Int.mul_emod, Int.emod_emod, ← Int.mul_emod, Int.mul_comm, ← Int.pow_succ]
  exact this
theorem inv_inv {a : Int} (h : a % P255 ≠ 0) : invN (invN a) = a % P255 := by
  have h1 := inv_mul h
  have h2 : invN a % P255 ≠ 0 := fun h0 => by
    rw [Int.mul_emod, h0, Int.mul_zero] at h1
    cases h1
  have h3 := inv_mul h2
  have hr := invN_range (invN a)
  generalize invN (invN a) = y at *
  generalize invN a = x at *
  have e1 : y % P255 = a % P255 := by
    have e2 : (a * x * y) % P255 = y % P255 := by rw [Int.mul_emod, h1, Int.one_mul, Int.emod_emod]
    have e3 : (a * x * y) % P255 = a % P255 := by rw [Int.mul_assoc, Int.mul_emod, h3, Int.mul_one, Int.emod_emod]
    rw [← e2, e3]
  rw [← e1, Int.emod_eq_of_lt hr.1 hr.2]
theorem inv_prod (a b : Int) : (invN a * invN b) % P255 = invN ((a * b) % P255) := by
  unfold invN
  rw [← Int.mul_emod, emod_pow, Int.mul_pow]
theorem pow_less (a : Int) {E : Int} (hE : E = P255 - 1) (h : a % P255 ≠ 0) : a ^ E.toNat % P255 = 1 := by
  have e : E.toNat = invE + 1 := by
    have h2 := invE_two
    rw [hE]
    unfold P255
    omega
  rw [e]
  exact fermat_int h
theorem of_invE : (-2 : Int) % P255 = P255 - 2 := by decide +kernel
def invF (i : Nat) : Nat := [1].getD i 0
def invT (i : Nat) : Bool := i != 3
set_option maxHeartbeats 1000000 in
theorem inv_any (a : Int) (w : World) (hP : PrimeAt w) (ha : N256 a) :
    Calls Tryd.prog 22 #[.agg (BA a)] w fun e w' => e = .returned (.agg (BA (invN a))) ∧ Below w.heap.size w w' := by
  have hp0 := primeAt_pos hP
  have HP := Hid.mk hP
  clear hP
  go_enter Tryd.func22, Tryd.ntmps22
  go_wp2
  refine wp_gen (fun v => v.heap[w.heap.size]? = some (.cells (BA a) 22 (0, 0)) ∧
    (∃ z : Array Value, v.heap[w.heap.size + 1]? = some (.cells z 22 (0, 0)) ∧ z.size = 32) ∧ Below w.heap.size w v)
    ⟨heap_alloc2_old w _ _, ⟨_, heap_alloc2_new w _ _, rfl⟩, by repeat first | exact Below.refl _ _ | refine Below.alloc ?_ (by simp <;> omega) _⟩ ?_
  rintro v0 ⟨ga, ⟨z, gz, sz⟩, hB⟩
  refine wp_region_mixS (fun v => v.heap[w.heap.size]? = some (.cells (BA a) 22 (0, 0)))
    invF invT [0, 1, 2, 3] rfl (by kernel_rfl) (fun _ _ d _ _ h => by cases d <;> exact h) ga (fun HS => ?_)
  apply mix_look rfl rfl rfl HS
  focus exact fun v h => look_bytes rfl _ _ rfl (BA_size _) h
  simp only [Act.put, List.setIfInBounds_toArray, List.set_cons_zero, List.set_cons_succ]
  clear HS ga
  refine mix_act rfl rfl rfl ?_
  intro K hK
  go_simp
  refine (of_any (-2) _ (primeAt_below HP.out (Below.drew hB) hp0) (by omega) (by omega)).mono ?_
  rintro e v1 ⟨rfl, hb⟩
  have gz := bheap hb gz (heap_lt gz)
  have hB := Below.trans (Below.drew hB) (hb.mono hB.size)
  refine hK _ _ (fun _ h => bheap hb h (heap_lt h)) ?_
  clear hK K hb
  have NE := N256.mod (-2)
  refine mix_act rfl rfl rfl ?_
  intro K hK
  go_simp
  refine (pow_any a _ _ ha.1 ha.2 NE.1 NE.2).mono ?_
  rintro e v2 ⟨rfl, hb⟩
  have gz := bheap hb gz (heap_lt gz)
  have hB := Below.trans hB (hb.mono hB.size)
  refine hK _ _ (fun _ h => bheap hb h (heap_lt h)) ?_
  clear hK K hb
  refine mix_act rfl rfl rfl ?_
  intro K hK
  refine act_bytes _ _ rfl _ _ rfl rfl _ gz sz ?_
  intro v7 g7 o7
  refine hK _ _ (fun h => by cases h) ?_
  clear hK K
  refine mix_done ?_
  go_wp2
  exact bodyPost_ret (v := .agg (BA (invN a))) (results_cell_row rfl _ _ _ _ _ _ _ rfl g7 Tryd.underlying22 rfl (by rw [BA_size]; exact info32)) rfl
    ⟨rfl, Below.trans hB (Only.below (b := w.heap.size + 1) (B := w.heap.size) o7 (by omega))⟩
end Go.Proofs.YtpcpcgfljffkeaaDoor
/-
  Own text. What Less of the document's answer gives: p - 2, as 32 bytes.
-/
namespace Go.Proofs.YtpcpcgfljffkeaaDoor
open Go.RowKit Go.Proofs
theorem ones_step (k : Nat) (hk : k < 32) : (BA (256 ^ k - 1)).setIfInBounds k (.int .u8 255) = BA (256 ^ (k + 1) - 1) := by
  have hp : (0 : Int) < 256 ^ k := Int.pow_pos (by decide)
  rw [BA_set (by omega) (by omega) (by unfold Byte; omega) hk]
  congr 1
  rw [Int.pow_succ]
  omega
theorem less_end : ((BA (256 ^ 32 - 1)).setIfInBounds 0 (.int .u8 235)).setIfInBounds 31 (.int .u8 127) = BA (P255 - 2) := by kernel_rfl
set_option maxHeartbeats 1000000 in
set_option maxRecDepth 100000 in
theorem less_any (w : World) :
    Calls Tryd.prog 45 #[] w fun e w' => e = .returned (.agg (BA (P255 - 2))) ∧ Below w.heap.size w w' := by
  go_enter Tryd.func45, Tryd.ntmps45
  go_wp2
  refine wp_gen (fun v => v.heap[w.heap.size]? = some (.cells (BA 0) 22 (0, 0)) ∧ v.heap[w.heap.size + 1]? = some (.cells (BA 0) 22 (0, 0)) ∧ Below w.heap.size w v)
    ⟨heap_alloc2_old w _ _, heap_alloc2_new w _ _, by repeat first | exact Below.refl _ _ | refine Below.alloc ?_ (by simp <;> omega) _⟩ ?_
  rintro v0 ⟨gz, ge, hB⟩
  go_loopw [2] (fun i v => ∃ k : Nat, k ≤ 32 ∧ i = .int .i64 k ∧ v.heap[w.heap.size]? = some (.cells (BA 0) 22 (0, 0)) ∧ v.heap[w.heap.size + 1]? = some (.cells (BA (256 ^ k - 1)) 22 (0, 0)) ∧ Below w.heap.size w v) (fun i _ => 32 - (intOf i).toNat)
  case atStart => exact ⟨0, by omega, rfl, gz, ge, hB⟩
  case round =>
    clear gz ge hB
    obtain ⟨k, hk, rfl, gz, ge, hB⟩ := hrel
    by_cases hlt : k < 32
    · have cs := (cell_of_row wr _ k _ _ _ ge).trans (BA_get _ k hlt)
      have fs := frozen_of_row wr _ k _ _ ge
      go_wp2
      exact ⟨⟨k + 1, by omega, by go_num, (heap_setCell_other _ _ _ _ (by simp <;> omega)).trans gz, by rw [← ones_step k hlt]; exact heap_setCell_same _ _ _ _ _ _ ge,
        Below.setCell hB (by simp) _⟩, by simp [intOf]; omega⟩
    · have hk2 : k = 32 := by omega
      subst hk2
      have cs := (cell_of_row wr _ 0 _ _ _ ge).trans (BA_get _ 0 (by omega))
      have fs := frozen_of_row wr _ 0 _ _ ge
      have cs2 := (cell_of_row wr _ 31 _ _ _ ge).trans (BA_get _ 31 (by omega))
      have fs2 := frozen_of_row wr _ 31 _ _ ge
      go_wp2_with (first | (refine ld_bytes rfl _ rfl _ _ rfl (heap_setCell_same _ _ _ _ _ _ (heap_setCell_same _ _ _ _ _ _ ge)) (by simp [BA_size]) ?_; rw [less_end]) | (refine st_bytes rfl _ _ rfl _ _ rfl rfl _ ((heap_setCell_other _ _ _ _ (by simp)).trans ((heap_setCell_other _ _ _ _ (by simp)).trans gz)) (BA_size _) ?_; intro v3 g3 o3))
      exact bodyPost_ret (v := .agg (BA (P255 - 2))) (results_cell_row rfl _ _ _ _ _ _ _ rfl g3 Tryd.underlying22 rfl (by rw [BA_size]; exact info32)) rfl
        ⟨rfl, Below.trans (Below.setCell (Below.setCell hB (by simp) _) (by simp) _) (Only.below (b := w.heap.size) (B := w.heap.size) o3 (by omega))⟩
end Go.Proofs.YtpcpcgfljffkeaaDoor
/-
  Own text. What Pow and Inv of the document's answer give.
-/
namespace Go.Proofs.YtpcpcgfljffkeaaDoor
open Go.RowKit Go.Proofs
theorem heap_a4r (w : World) (A B C D : Obj) : ((((w.alloc A).alloc B).alloc C).alloc D).heap[w.heap.size + 1 + 1 + 1]? = some D := by
  have h := heap_alloc_new (((w.alloc A).alloc B).alloc C) D
  have e : (((w.alloc A).alloc B).alloc C).heap.size = w.heap.size + 1 + 1 + 1 := by simp
  rwa [e] at h
/-- 32 bytes are stored: only where a store stands. -/
theorem st_bytesS {ops : Array Oper} {rest : List Oper} {d : Option Tmp} {x y : Operand} {t : TypeId} {ps : String} {af : Array Edge} {a : Act} {w : World} {Q : Exit → Act → World → Prop} {g : Nat} {n : Int} {old : Array Value}
    (hx : a.eval x = .pointer (some ⟨g, 0, none⟩)) (hy : a.eval y = .agg (BA n)) (hg : w.heap[g]? = some (.cells old 22 (0, 0))) (hold : old.size = 32)
    (h : ∀ w2, w2.heap[g]? = some (.cells (BA n) 22 (0, 0)) → Only g w w2 → wpList Tryd.prog ops Q rest (a.put d undef) w2) : wpList Tryd.prog ops Q ({ dst := d, op := .store 22 x y, type := t, pos := ps, after := af, guard := none } :: rest) a w :=
  st_bytes rfl x y rfl g n hx hy old hg hold h
theorem rpow_start {a e : Int} (h1 : e < W256) : a ^ topBits e 0 % P255 = 1 := by
  unfold topBits
  have : e.toNat / 2 ^ 256 = 0 := Nat.div_eq_of_lt (by unfold W256 at h1; omega)
  rw [show 256 - 0 = 256 from rfl, this, Int.pow_zero]
  decide +kernel
theorem rpow_sq (a : Int) (t : Nat) : (a ^ t % P255) * (a ^ t % P255) % P255 = a ^ (2 * t) % P255 := by
  rw [← Int.mul_emod, ← Int.pow_add, Nat.two_mul]
theorem rpow_odd (a : Int) (t : Nat) : a ^ (2 * t) % P255 * a % P255 = a ^ (2 * t + 1) % P255 := by
  rw [Int.pow_succ, Int.mul_emod, Int.emod_emod, ← Int.mul_emod]
theorem rpow_last (a e : Int) : a ^ topBits e 256 % P255 = a ^ e.toNat % P255 := by simp [topBits]
set_option maxHeartbeats 1000000 in
set_option maxRecDepth 100000 in
theorem rpow_any (a e : Int) (w : World) (ha : N256 a) (he : N256 e) :
    Calls Tryd.prog 44 #[.agg (BA a), .agg (BA e)] w fun r w' => r = .returned (.agg (BA (a ^ e.toNat % P255))) ∧ Below w.heap.size w w' := by
  have HA := Hid.mk ha
  have HE := Hid.mk he
  clear ha he
  go_enter Tryd.func44, Tryd.ntmps44
  go_wp2_with (first | (refine wl_value rfl (exec_build 0 1 rfl 1 (build1 _)) ?_) | (refine st_bytesS (n := 1) (by rfl) (by rfl) (heap_a4r w _ _ _ _) (by rfl) ?_; intro v1 g1 o1))
  have ga := (o1.block _ (by omega)).trans ((Below.heap_alloc _ _ _ (by simp <;> omega)).trans (heap_a31 w _ _ _))
  have ge := (o1.block _ (by omega)).trans ((Below.heap_alloc _ _ _ (by simp <;> omega)).trans (heap_a32 w _ _ _))
  have gz := (o1.block _ (by omega)).trans ((Below.heap_alloc _ _ _ (by simp <;> omega)).trans (heap_a3 w _ _ _))
  have hB : Below w.heap.size w v1 := by
    refine Below.trans ?_ (Only.below (b := w.heap.size + 1 + 1 + 1) (B := w.heap.size) o1 (by omega))
    repeat first | exact Below.refl _ _ | refine Below.alloc ?_ (by simp <;> omega) _
  clear o1
  go_loopg [6] 256 (fun m i v => ∃ k : Nat, Hid (m + k = 256) ∧ i = .int .i64 (255 - (k : Int)) ∧ v.heap[w.heap.size]? = some (.cells (BA a) 22 (0, 0)) ∧ v.heap[w.heap.size + 1]? = some (.cells (BA e) 22 (0, 0)) ∧ v.heap[w.heap.size + 1 + 1]? = some (.cells (BA 0) 22 (0, 0)) ∧
    v.heap[w.heap.size + 1 + 1 + 1]? = some (.cells (BA (a ^ topBits e k % P255)) 22 (0, 0)) ∧ Below w.heap.size w v)
  case atStart => exact ⟨0, Hid.mk rfl, rfl, ga, ge, gz, by rw [rpow_start HE.out.2]; exact g1, hB⟩
  case round =>
    clear g1 ga ge gz hB
    obtain ⟨k, HK, rfl, ga, ge, gz, go, hB⟩ := hrel
    have hk : k ≤ 256 := by have := HK.out; omega
    by_cases hlt : k < 256
    · have hbit := topBits_succ e k hlt HE.out.1
      have SQ := Hid.mk (rpow_sq a (topBits e k))
      have OD := Hid.mk (rpow_odd a (topBits e k))
      cases hbv : (bits BinOp.and IntKind.u8 (byt e ((255 - k) / 8) / 2 ^ ((255 - k) % 8)) 1 == 1)
      all_goals
        simp only [hbv, Bool.false_eq_true, if_false, if_true, Nat.add_zero] at hbit
        have HBIT := Hid.mk hbit
        clear hbit
        generalize hn1 : topBits e (k + 1) = t1 at *
        generalize hn0 : topBits e k = t0 at *
        have HN1 := Hid.mk hn1
        clear hn1 hn0
        go_wp2_with (refine ld_bytes rfl _ rfl _ _ rfl go (BA_size _) ?_)
        refine (rtimes_any _ _ _ (N256.mod _) (N256.mod _)).mono ?_
        rintro r v2 ⟨rfl, hb2⟩
        rw [SQ.out]
        have ga2 := bheap hb2 ga (heap_lt ga)
        have ge2 := bheap hb2 ge (heap_lt ge)
        have gz2 := bheap hb2 gz (heap_lt gz)
        have go2 := bheap hb2 go (heap_lt go)
        have hB2 := Below.trans hB (hb2.mono hB.size)
        clear hb2 ga ge gz go hB
        go_wp2_with (first | (refine st_bytes rfl _ _ rfl _ _ rfl rfl _ go2 (BA_size _) ?_; intro v3 go3 o3; have ga3 := (o3.block _ (by omega)).trans ga2; have ge3 := (o3.block _ (by omega)).trans ge2; have gz3 := (o3.block _ (by omega)).trans gz2; have hB3 := Below.trans hB2 (Only.below (b := w.heap.size + 1 + 1 + 1) (B := w.heap.size) o3 (by omega)); have ce := (cell_of_row v3 (w.heap.size + 1) ((255 - k) / 8) _ _ _ ge3).trans (BA_get e _ (by omega))) | (refine ld_bytes rfl _ rfl _ _ rfl go3 (BA_size _) ?_) | (refine ld_bytes rfl _ rfl _ _ rfl ga3 (BA_size _) ?_))
      · go_roundg (256 - (k + 1))
        case rel => exact ⟨k + 1, Hid.mk (by omega), by go_num, ga3, ge3, gz3, by rw [HN1.out, HBIT.out]; exact go3, hB3⟩
        case measure => have := HK.out; omega
      · refine (rtimes_any _ _ _ (N256.mod _) HA.out).mono ?_
        rintro r v4 ⟨rfl, hb4⟩
        rw [OD.out]
        have ga4 := bheap hb4 ga3 (heap_lt ga3)
        have ge4 := bheap hb4 ge3 (heap_lt ge3)
        have gz4 := bheap hb4 gz3 (heap_lt gz3)
        have go4 := bheap hb4 go3 (heap_lt go3)
        have hB4 := Below.trans hB3 (hb4.mono hB3.size)
        clear hb4 ga3 ge3 gz3 go3 hB3 ce
        go_wp2_with (refine st_bytesS (by rfl) (by rfl) go4 (BA_size _) ?_; intro v5 go5 o5)
        have ga5 := (o5.block _ (by omega)).trans ga4
        have ge5 := (o5.block _ (by omega)).trans ge4
        have gz5 := (o5.block _ (by omega)).trans gz4
        have hB5 := Below.trans hB4 (Only.below (b := w.heap.size + 1 + 1 + 1) (B := w.heap.size) o5 (by omega))
        go_roundg (256 - (k + 1))
        case rel => exact ⟨k + 1, Hid.mk (by omega), by go_num, ga5, ge5, gz5, by rw [HN1.out, HBIT.out]; exact go5, hB5⟩
        case measure => have := HK.out; omega
    · have hk2 : k = 256 := by omega
      subst hk2
      rw [rpow_last] at go
      go_wp2_with (first | (refine ld_bytes rfl _ rfl _ _ rfl go (BA_size _) ?_) | (refine st_bytesS (by rfl) (by rfl) gz (BA_size _) ?_; intro v6 g6 o6))
      exact bodyPost_ret (v := .agg (BA (a ^ e.toNat % P255))) (results_cell_row rfl _ _ _ _ _ _ _ rfl g6 Tryd.underlying22 rfl (by rw [BA_size]; exact info32)) rfl
        ⟨rfl, Below.trans hB (Only.below (b := w.heap.size + 1 + 1) (B := w.heap.size) o6 (by omega))⟩
theorem N256_P2 : N256 (P255 - 2) := by unfold N256 W256 P255; omega
theorem less_exp : (P255 - 2).toNat = invE := by decide +kernel
set_option maxHeartbeats 1000000 in
theorem rinv_any (a : Int) (w : World) (ha : N256 a) :
    Calls Tryd.prog 29 #[.agg (BA a)] w fun e w' => e = .returned (.agg (BA (invN a))) ∧ Below w.heap.size w w' := by
  go_enter Tryd.func29, Tryd.ntmps29
  go_wp2
  refine wp_gen (fun v => v.heap[w.heap.size]? = some (.cells (BA a) 22 (0, 0)) ∧
    (∃ z : Array Value, v.heap[w.heap.size + 1]? = some (.cells z 22 (0, 0)) ∧ z.size = 32) ∧ Below w.heap.size w v)
    ⟨heap_alloc2_old w _ _, ⟨_, heap_alloc2_new w _ _, rfl⟩, by repeat first | exact Below.refl _ _ | refine Below.alloc ?_ (by simp <;> omega) _⟩ ?_
  rintro v0 ⟨ga, ⟨z, gz, sz⟩, hB⟩
  refine wp_region_mixS (fun v => v.heap[w.heap.size]? = some (.cells (BA a) 22 (0, 0)))
    invF invT [0, 1, 2, 3] rfl (by kernel_rfl) (fun _ _ d _ _ h => by cases d <;> exact h) ga (fun HS => ?_)
  apply mix_look rfl rfl rfl HS
  focus exact fun v h => look_bytes rfl _ _ rfl (BA_size _) h
  simp only [Act.put, List.setIfInBounds_toArray, List.set_cons_zero, List.set_cons_succ]
  clear HS ga
  refine mix_act rfl rfl rfl ?_
  intro K hK
  go_simp
  refine (less_any _).mono ?_
  rintro e v1 ⟨rfl, hb⟩
  have gz := bheap hb gz (heap_lt gz)
  have hB := Below.trans (Below.drew hB) (hb.mono hB.size)
  refine hK _ _ (fun _ h => bheap hb h (heap_lt h)) ?_
  clear hK K hb
  have NE : N256 (P255 - 2) := N256_P2
  refine mix_act rfl rfl rfl ?_
  intro K hK
  go_simp
  refine (rpow_any a _ _ ha NE).mono ?_
  rintro e v2 ⟨rfl, hb⟩
  rw [less_exp]
  have gz := bheap hb gz (heap_lt gz)
  have hB := Below.trans hB (hb.mono hB.size)
  refine hK _ _ (fun _ h => bheap hb h (heap_lt h)) ?_
  clear hK K hb
  refine mix_act rfl rfl rfl ?_
  intro K hK
  refine act_bytes _ _ rfl _ _ rfl rfl _ gz sz ?_
  intro v7 g7 o7
  refine hK _ _ (fun h => by cases h) ?_
  clear hK K
  refine mix_done ?_
  go_wp2
  exact bodyPost_ret (v := .agg (BA (invN a))) (results_cell_row rfl _ _ _ _ _ _ _ rfl g7 Tryd.underlying22 rfl (by rw [BA_size]; exact info32)) rfl
    ⟨rfl, Below.trans hB (Only.below (b := w.heap.size + 1) (B := w.heap.size) o7 (by omega))⟩
end Go.Proofs.YtpcpcgfljffkeaaDoor
/-
  Own text. Calls, picks and copies in a region that leaves its order open; what is known of its slots; what Same of package field answers.
-/
namespace Go.Proofs.YtpcpcgfljffkeaaDoor
open Go.RowKit Go.Proofs
theorem enterAdd (args : Array Value) (w : World) : (callFunc 48 args).run Tryd.prog w = .ok (.enter 48 args) w := by kernel_rfl
theorem enterMul (args : Array Value) (w : World) : (callFunc 21 args).run Tryd.prog w = .ok (.enter 21 args) w := by kernel_rfl
theorem enterCanon (args : Array Value) (w : World) : (callFunc 16 args).run Tryd.prog w = .ok (.enter 16 args) w := by kernel_rfl
theorem enterSub (args : Array Value) (w : World) : (callFunc 49 args).run Tryd.prog w = .ok (.enter 49 args) w := by kernel_rfl
theorem exec_call {f : FuncId} (hc : ∀ args w, (callFunc f args).run Tryd.prog w = .ok (.enter f args) w) (xs : Array Operand) (ts : Array TypeId) {o : Oper} {a : Act} {w : World} (ho : o.op = .call { callee := .value (.func f), args := xs, argTypes := ts }) :
    (execOp a.eval o).run Tryd.prog w = .ok (.enter f (xs.map a.eval)) w := by
  unfold execOp
  rw [ho]
  simp only [resolve, Sem.run_bind]
  generalize xs.map a.eval = args
  simp [Act.eval, Deferred.ofValue, invoke, go_sem, hc]
theorem call1 {f : FuncId} (hc : ∀ args w, (callFunc f args).run Tryd.prog w = .ok (.enter f args) w) (x : Operand) (ts : Array TypeId) {o : Oper} {a : Act} {w : World} {K : Act → World → Prop} {Q : Exit → Act → World → Prop}
    (ho : o.op = .call { callee := .value (.func f), args := #[x], argTypes := ts }) (V v : Value) (hx : a.eval x = V) (hC : Calls Tryd.prog f #[V] w fun r w' => r = .returned v ∧ Below w.heap.size w w')
    (h : ∀ w', Below w.heap.size w w' → K (a.put o.dst v) w') : o.wp Tryd.prog a w K Q := by
  refine wp_enter (exec_call hc #[x] ts ho) ?_
  simp only [List.map_toArray, List.map_cons, List.map_nil, hx]
  exact hC.mono (fun e w' ⟨he, hb⟩ => ⟨v, he, h w' hb⟩)
theorem call2 {f : FuncId} (hc : ∀ args w, (callFunc f args).run Tryd.prog w = .ok (.enter f args) w) (x y : Operand) (ts : Array TypeId) {o : Oper} {a : Act} {w : World} {K : Act → World → Prop} {Q : Exit → Act → World → Prop}
    (ho : o.op = .call { callee := .value (.func f), args := #[x, y], argTypes := ts }) (V V2 v : Value) (hx : a.eval x = V) (hy : a.eval y = V2) (hC : Calls Tryd.prog f #[V, V2] w fun r w' => r = .returned v ∧ Below w.heap.size w w')
    (h : ∀ w', Below w.heap.size w w' → K (a.put o.dst v) w') : o.wp Tryd.prog a w K Q := by
  refine wp_enter (exec_call hc #[x, y] ts ho) ?_
  simp only [List.map_toArray, List.map_cons, List.map_nil, hx, hy]
  exact hC.mono (fun e w' ⟨he, hb⟩ => ⟨v, he, h w' hb⟩)
/-- What is known of a slot: a value; or a slice of its own of these numbers. -/
def known (L : List (Option (List Int) × Value)) (i : Nat) (v : Value) (w : World) : Prop :=
  match (L.getD i (none, undef)).1 with
  | some ns => ∃ b, v = .slice (some ⟨b, 0, none⟩) ns.length ns.length ∧ RowsAt w b 0 ns ∧ b < w.heap.size
  | none => v = (L.getD i (none, undef)).2
theorem known_keeps (L : List (Option (List Int) × Value)) (i : Nat) (v : Value) (w w' : World) (h : known L i v w) (hb : Below w.heap.size w w') : known L i v w' := by
  unfold known at *
  split at h
  · obtain ⟨b, e, hr, hl⟩ := h
    exact ⟨b, e, rows_below hr hb hl, Nat.lt_of_lt_of_le hl hb.size⟩
  · exact h
theorem exec_move {a : Act} {o : Oper} {w : World} (x : Operand) (ho : o.op = .move x) : (execOp a.eval o).run Tryd.prog w = .ok (.value (a.eval x)) w := by unfold execOp; simp only [ho, Sem.run_pure]
theorem exec_assign {a : Act} {o : Oper} {w : World} (x : Operand) (ho : o.op = .assign x) : (execOp a.eval o).run Tryd.prog w = .ok (.value (a.eval x)) w := by unfold execOp; simp only [ho, Sem.run_pure]
theorem exec_pick {a : Act} {o : Oper} {w : World} (c x y : Operand) (ho : o.op = .pick c x y) (hc : a.eval c = .bool true) : (execOp a.eval o).run Tryd.prog w = .ok (.value (a.eval x)) w := by
  unfold execOp; simp [ho, hc, asBool, Sem.run_pure]
theorem run_build0 (w : World) : (Instr.build 22 #[]).run Tryd.prog w = .ok (.agg (BA 0)) w := by kernel_rfl
theorem exec_build0 {a : Act} {o : Oper} {w : World} (ho : o.op = .build 22 #[]) : (execOp a.eval o).run Tryd.prog w = .ok (.value (.agg (BA 0))) w := by
  unfold execOp
  simp only [ho, List.map_toArray, List.map_nil, Sem.run_bind, run_build0, Result.andThen_ok, Sem.run_pure]
theorem run_at31 (b : Nat) (w : World) : (Instr.indexAt 22 (.pointer (some ⟨b, 0, none⟩)) (.int .i64 31)).run Tryd.prog w = .ok (.pointer (some ⟨b, 31, none⟩)) w := by kernel_rfl
theorem exec_at31 {a : Act} {o : Oper} {w : World} {x : Operand} (ho : o.op = .indexAddr 22 x (.const (.int .i64 31))) (b : Nat) (hx : a.eval x = .pointer (some ⟨b, 0, none⟩)) : (execOp a.eval o).run Tryd.prog w = .ok (.value (.pointer (some ⟨b, 31, none⟩))) w := by
  have h := run_at31 b w
  unfold execOp
  simp only [ho, hx, Sem.run_bind]
  simp only [Act.eval, h, Result.andThen_ok, Sem.run_pure]
theorem exec_ld5 {a : Act} {o : Oper} {w : World} (x : Operand) (ho : o.op = .load 5 x) (b i : Nat) (hx : a.eval x = .pointer (some ⟨b, i, none⟩)) (v : Value) (hc : w.cell? ⟨b, i, none⟩ = some v) : (execOp a.eval o).run Tryd.prog w = .ok (.value v) w := by
  unfold execOp
  simp only [ho, hx]
  simp [go_sem, hc]
theorem exec_lss128 {a : Act} {o : Oper} {w : World} (x : Operand) (ho : o.op = .binOp .lss 5 x (.const (.int .u8 128)) 5) (n : Int) (hx : a.eval x = .int .u8 n) (h : n < 128) : (execOp a.eval o).run Tryd.prog w = .ok (.value (.bool true)) w := by
  unfold execOp
  simp only [ho, hx]
  simp [Act.eval, go_sem, h]
end Go.Proofs.YtpcpcgfljffkeaaDoor
/-
  Own text. The same as in Inv, where the region's last operation waits for all the others and stores: it is walked behind them. No program is named here.
-/
namespace Go.Proofs.YtpcpcgfljffkeaaDoor
open Go
section
variable {P : Program} {ops : Array Oper} {Q : Exit → Act → World → Prop}
/-- Each operation but the last one writes a slot of its own, and waits for earlier ones alone; the last one writes none, has no guard and waits for all. -/
def invB2 (ops : Array Oper) (m : Nat) : Bool :=
  decide (ops.size = m + 1) && (ops.toList.take m).all (fun o => o.dst.isSome) && decide (dsts ops).Nodup &&
  (List.range ops.size).all (fun i => match ops[i]? with
    | some o => o.after.all (fun e => !Region.binds .any e || decide (e.on < i))
    | none => true) &&
  (match ops[m]? with | some o => o.guard.isNone && (List.range m).all (fun j => predOf o j) | none => false)
/-- THE LAW. -/
theorem wp_region_last {id : Nat} {a0 : Act} {w0 : World} (m : Nat) (ol : Oper) (S : World → Prop) (R : World → World → Prop) (φ : Nat → Value → World → Prop) (hm : P.follows .mixedOrders = true) (hB : invB2 ops m = true) (hol : ops[m]? = some ol)
    (hS0 : S w0.drew) (hSR : ∀ w w', S w → R w w' → S w') (hφ : ∀ i v w w', φ i v w → R w w' → φ i v w')
    (step : ∀ (i : Nat) (o : Oper), i < m → ops[i]? = some o → ∀ (a : Act) (w : World), S w → (∀ t : Nat, (∀ (j : Nat) (oj : Oper), ops[j]? = some oj → oj.dst = some t → predOf oj i = true) → a.tmps[t]? = a0.tmps[t]?) →
      (∀ (j : Nat) (oj : Oper) (d : Nat), ops[j]? = some oj → oj.dst = some d → predOf o j = true → φ j (a.tmps.getD d undef) w) →
      wpOp P ops Q i (fun a' w' => ∃ v, a' = a.put o.dst v ∧ φ i v w' ∧ R w w') a w)
    (fin : ∀ (vs : Nat → Value) (w : World), S w → (∀ (i : Nat) (o : Oper) (d : Nat), i < m → ops[i]? = some o → o.dst = some d → φ i (vs d) w) → ol.wp P (putAll a0 vs (dsts ops)) w (fun a' w' => Q .normal a' w') Q)
    (hsz : ∀ d ∈ dsts ops, d < a0.tmps.size) : (Code.region id ops true).wp P Q a0 w0 := by
  simp only [invB2, Bool.and_eq_true, decide_eq_true_eq, hol] at hB
  obtain ⟨⟨⟨⟨hsize, hsome⟩, hnd⟩, hord⟩, hgn, hwait⟩ := hB
  refine wp_region_any hm (wpAny_inv (fun listed a w => (Mid ops a0 S φ listed a w ∧ listed.getD m false = false) ∨ ((∀ i, i < ops.size → listed.getD i true = true) ∧ Q .normal a w)) ?_ ?_ ops.size _ a0 _ ?_ ?_)
  · intro listed a w i inv hi
    obtain ⟨hun, oi, hoi, hall⟩ := mem_ready.1 hi
    have hils : i < listed.size := by
      rcases Nat.lt_or_ge i listed.size with h | h
      · exact h
      · simp [Array.getElem?_eq_none h] at hun
    have hilt : i < ops.size := (Array.getElem?_eq_some_iff.1 hoi).1
    have hunf : listed.getD i false = false := by simp [hils] at hun ⊢; exact hun
    rcases inv with ⟨mid, hnl⟩ | ⟨hdone, _⟩
    · by_cases him : i = m
      · subst him
        obtain rfl : oi = ol := Option.some.inj (hoi.symm.trans hol)
        have hlist : ∀ j, j < i → listed.getD j false = true := fun j hj => by
          have h1 := List.all_eq_true.1 hwait j (List.mem_range.2 hj)
          obtain ⟨e, he, hb⟩ := Array.any_eq_true'.1 h1
          simp only [Bool.and_eq_true, beq_iff_eq] at hb
          have h2 := hall e he hb.1
          rwa [hb.2] at h2
        have hq := fin (fun d => a.tmps.getD d undef) w mid.world (fun j o d hj ho hd => mid.known j o d ho hd (hlist j hj))
        have ha : putAll a0 (fun d => a.tmps.getD d undef) (dsts ops) = a := by
          have h1 := putAll_defers (fun d => a.tmps.getD d undef) (dsts ops) a0
          have h2 : (putAll a0 (fun d => a.tmps.getD d undef) (dsts ops)).tmps = a.tmps := by
            apply Array.ext_getElem?
            intro t
            by_cases ht : t < a0.tmps.size
            · rw [putAll_get _ _ _ _ ht]
              by_cases hm2 : t ∈ dsts ops
              · rw [if_pos hm2]
                have : t < a.tmps.size := by rw [mid.size]; exact ht
                simp [this]
              · rw [if_neg hm2]
                exact (mid.frame t (fun i o hi _ hd => hm2 (List.mem_filterMap.2 ⟨o, by simpa using Array.mem_of_getElem? hi, hd⟩))).symm
            · rw [Array.getElem?_eq_none (by rw [putAll_size]; omega), Array.getElem?_eq_none (by rw [mid.size]; omega)]
          rw [← mid.defers] at h1
          generalize putAll a0 (fun d => a.tmps.getD d undef) (dsts ops) = b at h1 h2
          cases a; cases b
          simp only at h1 h2
          rw [h1, h2]
        rw [ha] at hq
        have hw : Region.wanted oi (yielded ops a.tmps) = true := by
          unfold Region.wanted
          cases hgd : oi.guard with
          | none => rfl
          | some x => rw [hgd] at hgn; simp at hgn
        have hlsz : listed.size = ops.size := mid.lsize
        unfold wpOp
        simp only [hoi, hw, if_true]
        refine .inl (Oper.wp_mono (fun a' w' h => .inr ⟨fun j hj => ?_, h⟩) hq)
        by_cases hji : i = j
        · subst hji; simp [hils]
        · rw [getD_set_ne true hji]
          have h1 := hlist j (by omega)
          have hjl : j < listed.size := by omega
          simp [hjl] at h1 ⊢; exact h1
      · have hlt : i < m := by omega
        have hst := step i oi hlt hoi a w mid.world
          (fun t ht => mid.frame t (fun j oj hj hl hd => by
            obtain ⟨e, he, hb⟩ := Array.any_eq_true'.1 (ht j oj hj hd)
            simp only [Bool.and_eq_true, beq_iff_eq] at hb
            have := mid.closed j oj hj hl e he hb.1
            rw [hb.2, hunf] at this
            cases this))
          (fun j oj d hj hd hp => by
            obtain ⟨e, he, hb⟩ := Array.any_eq_true'.1 hp
            simp only [Bool.and_eq_true, beq_iff_eq] at hb
            have := hall e he hb.1
            rw [hb.2] at this
            exact mid.known j oj d hj hd this)
        refine wpOp_mono (fun a' w' h' => ?_) hst
        obtain ⟨v, rfl, hv, hR⟩ := h'
        have hsi : oi.dst.isSome = true := List.all_eq_true.1 hsome oi (List.mem_of_getElem? (i := i) (by rw [List.getElem?_take, if_pos hlt]; simpa using hoi))
        obtain ⟨di, hdi⟩ := Option.isSome_iff_exists.1 hsi
        have hmem : di ∈ dsts ops := List.mem_filterMap.2 ⟨oi, by simpa using Array.mem_of_getElem? hoi, hdi⟩
        have hdlt : di < a.tmps.size := by rw [mid.size]; exact hsz di hmem
        have hself : (listed.setIfInBounds i true).getD i false = true := by simp [hils]
        rw [hdi]
        refine .inl ⟨⟨by simp [mid.lsize], fun j oj hj hl e he hb => ?_, by simpa [Act.put] using mid.size, mid.defers, hSR w w' mid.world hR, fun t ht => ?_, fun j oj d hj hd hl => ?_⟩, by rw [getD_set_ne false him]; exact hnl⟩
        · rcases getD_set_false hl with rfl | hl
          · obtain rfl : oj = oi := Option.some.inj (hj.symm.trans hoi)
            have h1 := hall e he hb
            by_cases hie : j = e.on
            · rw [hie]; rw [hie] at hself; exact hself
            · rw [getD_set_ne false hie]; exact h1
          · have h1 := mid.closed j oj hj hl e he hb
            by_cases hie : i = e.on
            · rw [← hie]; exact hself
            · rw [getD_set_ne false hie]; exact h1
        · have hne : di ≠ t := fun h => ht i oi hoi hself (by rw [hdi, h])
          rw [show (a.put (some di) v).tmps[t]? = a.tmps[t]? from by simp [Act.put, hne]]
          exact mid.frame t (fun j oj hj hl => ht j oj hj (by
            by_cases hij : i = j
            · subst hij; exact hself
            · rw [getD_set_ne false hij]; exact hl))
        · rcases getD_set_false hl with rfl | hl
          · obtain rfl : oj = oi := Option.some.inj (hj.symm.trans hoi)
            obtain rfl : d = di := Option.some.inj (hd.symm.trans hdi)
            rw [show (a.put (some d) v).tmps.getD d undef = v from by simp [Act.put, hdlt]]
            exact hv
          · have hne : di ≠ d := fun h => by
              subst h
              have := nodup_dst hnd hoi hj hdi hd
              subst this
              rw [hunf] at hl
              cases hl
            rw [show (a.put (some di) v).tmps.getD d undef = a.tmps.getD d undef from by simp [Act.put, hne]]
            exact hφ j _ w w' (mid.known j oj d hj hd hl) hR
    · have := hdone i hilt
      rw [hun] at this
      cases this
  · intro listed a w inv hr
    rcases inv with ⟨mid, hnl⟩ | ⟨_, hq⟩
    · exfalso
      have hall : ∀ n i, i < n → i < ops.size → listed.getD i false = true := by
        intro n
        induction n with
        | zero => intro i h; cases h
        | succ n ih =>
          intro i hin hil
          by_cases hlt : i < n
          · exact ih i hlt hil
          · have hin' : i = n := by omega
            subst hin'
            cases hg : listed.getD i false with
            | true => rfl
            | false =>
              have ho : ops[i]? = some ops[i] := Array.getElem?_eq_getElem hil
              have h1 := List.all_eq_true.1 hord i (List.mem_range.2 hil)
              simp only [ho] at h1
              have hin2 : i ∈ Region.ready .any ops listed := mem_ready.2 ⟨by
                have : i < listed.size := by rw [mid.lsize]; exact hil
                simp [this] at hg ⊢; exact hg, _, ho, fun e he hb => by
                have h2 := Array.all_eq_true'.1 h1 e he
                simp only [hb, Bool.not_true, Bool.false_or, decide_eq_true_eq] at h2
                exact ih e.on h2 (by omega)⟩
              rw [hr] at hin2
              cases hin2
      have h1 := hall (m + 1) m (by omega) (by omega)
      rw [hnl] at h1
      cases h1
    · exact hq
  · unfold leftOf
    exact Nat.le_trans (List.length_filter_le _ _) (by simp)
  · exact .inl ⟨⟨by simp, fun j oj _ hl => (by rw [getD_replicate_f] at hl; cases hl), rfl, rfl, hS0, fun _ _ => rfl, fun i o d _ _ hl => (by rw [getD_replicate_f] at hl; cases hl)⟩, getD_replicate_f _ _⟩
/-- The last operation's walk, behind a name that is not looked through. -/
structure Last (P : Program) (Q : Exit → Act → World → Prop) (ol : Oper) (a : Act) (w : World) : Prop where
  out : ol.wp P a w (fun a' w' => Q .normal a' w') Q
theorem eval_putAll {a : Act} {vs : Nat → Value} {l : List Nat} {t : Nat} (ht : t ∈ l) (hs : t < a.tmps.size) : (putAll a vs l).eval (.tmp t) = vs t := by
  simp only [Act.eval]
  rw [Array.getD_eq_getD_getElem?, putAll_get vs l a t hs, if_pos ht]
  rfl
/-- Do the tables fit the region, but for its last operation? -/
def tabB2 (ops : Array Oper) (m : Nat) (ds : List Nat) (base : List Nat) (p : List (List Nat)) : Bool :=
  ((ops.toList.take m).map (·.dst) == ds.map some) && base.all (fun t => !ds.contains t) &&
  (List.range m).all (fun k => match ops[k]? with
    | some o => (p.getD k []).all (fun j => predOf o j && decide (j < m)) && (match o.guard with | some (g, _) => decide (g < m) | none => true)
    | none => true) && (match ops[m]? with | some o => o.dst.isNone | none => false)
/-- THE LAW, operation by operation. -/
theorem wp_region_steps2 {id : Nat} {a0 : Act} {w0 : World} (m : Nat) (ol : Oper) (S : World → Prop) (R : World → World → Prop) (φ : Nat → Value → World → Prop) (ds : List Nat) (base : List (Nat × Value)) (p : List (List Nat))
    (hm : P.follows .mixedOrders = true) (hB : (invB2 ops m && tabB2 ops m ds (base.map (·.1)) p && ds.all (fun d => decide (d < a0.tmps.size))) = true) (hdrop : ops.toList.drop m = [ol])
    (hb0 : Holds a0 base) (hS0 : S w0.drew) (hSR : ∀ w w', S w → R w w' → S w') (hφ : ∀ i v w w', φ i v w → R w w' → φ i v w')
    (steps : AllSteps P S R φ ds base p 0 (ops.toList.take m))
    (fin : ∀ (vs : Nat → Value) (w : World), S w → (∀ j : Nat, j < ds.length → φ j (vs (ds.getD j 0)) w) → Last P Q ol (putAll a0 vs ds) w) : (Code.region id ops true).wp P Q a0 w0 := by
  have hol : ops[m]? = some ol := by
    rw [← Array.getElem?_toList]
    have h := congrArg (fun l => l[0]?) hdrop
    simpa [List.getElem?_drop] using h
  simp only [Bool.and_eq_true] at hB
  obtain ⟨⟨hI, hT⟩, hsz⟩ := hB
  have hsize : ops.size = m + 1 := by
    simp only [invB2, Bool.and_eq_true, decide_eq_true_eq] at hI
    exact hI.1.1.1.1
  simp only [tabB2, Bool.and_eq_true, beq_iff_eq, hol] at hT
  obtain ⟨⟨⟨hds, hbase⟩, htab⟩, hnone⟩ := hT
  have hnone' : ol.dst = none := by simpa using hnone
  have hm1 : m < ops.size := by omega
  have hat : ∀ (j : Nat) (oj : Oper), j < m → ops[j]? = some oj → (ops.toList.take m)[j]? = some oj := fun j oj hj ho => by
    rw [List.getElem?_take, if_pos hj]; simpa using ho
  have hdst : ∀ (j : Nat) (oj : Oper), j < m → ops[j]? = some oj → oj.dst = some (ds.getD j 0) ∧ j < ds.length := fun j oj hjm hj => by
    have h1 : ((ops.toList.take m).map (·.dst))[j]? = some oj.dst := by rw [List.getElem?_map, hat j oj hjm hj]; rfl
    rw [hds, List.getElem?_map] at h1
    cases hq : ds[j]? with
    | none => rw [hq] at h1; simp at h1
    | some d =>
      rw [hq] at h1
      have hl : j < ds.length := (List.getElem?_eq_some_iff.1 hq).1
      refine ⟨?_, hl⟩
      rw [List.getD_eq_getElem?_getD, hq]
      simpa using h1.symm
  have hlt : ∀ (j : Nat) (oj : Oper) (d : Nat), ops[j]? = some oj → oj.dst = some d → j < m := fun j oj d hj hd => by
    have h1 : j < ops.size := (Array.getElem?_eq_some_iff.1 hj).1
    by_cases e : j = m
    · subst e
      obtain rfl : oj = ol := Option.some.inj (hj.symm.trans hol)
      rw [hnone'] at hd
      cases hd
    · omega
  have hdsts : dsts ops = ds := by
    unfold dsts
    have hsplit : ops.toList = ops.toList.take m ++ [ol] := by
      have h1 := (List.take_append_drop m ops.toList).symm
      have h2 : ops.toList.drop m = [ol] := by
        have hl : m < ops.toList.length := by simpa using hm1
        rw [List.drop_eq_getElem_cons hl, List.drop_of_length_le (by rw [Array.length_toList]; omega)]
        have h3 : ops.toList[m]? = some ol := by simpa using hol
        rw [List.getElem?_eq_getElem hl] at h3
        rw [Option.some.inj h3]
      rw [h2] at h1
      exact h1
    rw [hsplit, List.filterMap_append]
    have h1 : (ops.toList.take m).filterMap (·.dst) = ((ops.toList.take m).map (·.dst)).filterMap (fun x => x) := by rw [List.filterMap_map]; rfl
    rw [h1, hds, List.filterMap_map]
    have h4 : ([ol].filterMap fun o => o.dst) = [] := by simp [hnone']
    rw [h4, List.append_nil]
    exact List.filterMap_some
  refine wp_region_last m ol S R φ hm hI hol hS0 hSR hφ (fun i o him hi a w hS hfr hkn => ?_) (fun vs w hS h => ?_) (fun d hd => by rw [hdsts] at hd; simpa using List.all_eq_true.1 hsz d hd)
  · have hil : i < ops.size := (Array.getElem?_eq_some_iff.1 hi).1
    have ht := List.all_eq_true.1 htab i (List.mem_range.2 him)
    simp only [hi, Bool.and_eq_true] at ht
    have st := AllSteps.at (ops.toList.take m) p 0 steps i o (hat i o him hi)
    rw [Nat.zero_add] at st
    obtain ⟨hg, hk⟩ := st Q a w hS
      (holds_of base (fun t htm => eval_tmp_of (hfr t (fun j oj hj hd => by
        exfalso
        have h1 := List.all_eq_true.1 hbase t htm
        have h2 := (hdst j oj (hlt j oj t hj hd) hj).1
        rw [hd] at h2
        have h3 : t = ds.getD j 0 := Option.some.inj h2
        have h4 : t ∈ ds := by
          rw [h3, List.getD_eq_getElem?_getD, List.getElem?_eq_getElem (hdst j oj (hlt j oj t hj hd) hj).2]
          simp
        simp [h4] at h1))) hb0)
      (knows_of _ (fun j hj => by
        have h1 := List.all_eq_true.1 ht.1 j hj
        simp only [Bool.and_eq_true, decide_eq_true_eq] at h1
        have hoj : ops[j]? = some (ops[j]'(by omega)) := Array.getElem?_eq_getElem (by omega)
        have h2 := hkn j _ _ hoj (hdst j _ h1.2 hoj).1 h1.1
        simpa [Act.eval] using h2))
    have hw : Region.wanted o (yielded ops a.tmps) = true := by
      unfold Region.wanted
      cases hgd : o.guard with
      | none => rfl
      | some x =>
        obtain ⟨g, b⟩ := x
        rw [hgd] at hg
        have h2 := ht.2
        rw [hgd] at h2
        simp only [decide_eq_true_eq] at h2
        have hog : ops[g]? = some (ops[g]'(by omega)) := Array.getElem?_eq_getElem (by omega)
        have hd := (hdst g _ h2 hog).1
        have h4 : a.tmps[ds.getD g 0]? = some (.bool b) := by
          simp only [Act.eval] at hg
          rw [Array.getD_eq_getD_getElem?] at hg
          cases hq : a.tmps[ds.getD g 0]? with
          | none => rw [hq] at hg; simp [undef] at hg
          | some v => rw [hq] at hg; simpa using hg
        have hy : yielded ops a.tmps g = some b := by
          unfold yielded
          rw [hog]
          simp only [Option.bind_some, hd, h4]
        simp [hy]
    unfold wpOp
    simp only [hi, hw, if_true]
    exact .inl (hk _ (fun v w' h1 h2 => ⟨v, rfl, h1, h2⟩))
  · rw [hdsts]
    refine (fin vs w hS (fun j hj => ?_)).out
    have hlen : (ops.toList.take m).length = ds.length := by have := congrArg List.length hds; simpa using this
    have hjm : j < m := by rw [← hlen, List.length_take] at hj; omega
    have hoj : ops[j]? = some (ops[j]'(by omega)) := Array.getElem?_eq_getElem (by omega)
    exact h j _ _ hjm hoj (hdst j _ hjm hoj).1
end
end Go.Proofs.YtpcpcgfljffkeaaDoor
/-
  Own text. Four elements in a row, as the document's answer for layer 2 keeps them: laws for the row; what square and turned give.
-/
namespace Go.Proofs.YtpcpcgfljffkeaaDoor
open Go.RowKit Go.Proofs
/-- Four numbers of 32 bytes in a row. -/
def Q4 (x z v w : Int) : Array Value := BA x ++ BA z ++ BA v ++ BA w
theorem Q4_size (x z v w : Int) : (Q4 x z v w).size = 128 := by simp [Q4, BA_size]
theorem Q4_one (x z v w : Int) : (Q4 x z v w).all (·.oneCell') = true := by
  simp only [Q4, Array.all_append, BA_one, Bool.and_self]
theorem Q4_0 (x z v w : Int) (j : Nat) (hj : j < 32) : (Q4 x z v w)[j]? = (BA x)[j]? := by
  unfold Q4
  rw [Array.getElem?_append_left (by simp [BA_size]; omega), Array.getElem?_append_left (by simp [BA_size]; omega), Array.getElem?_append_left (by simp [BA_size]; omega)]
theorem Q4_1 (x z v w : Int) (j : Nat) (hj : j < 32) : (Q4 x z v w)[32 + j]? = (BA z)[j]? := by
  unfold Q4
  rw [Array.getElem?_append_left (by simp [BA_size]; omega), Array.getElem?_append_left (by simp [BA_size]; omega), Array.getElem?_append_right (by simp [BA_size])]
  simp [BA_size]
theorem Q4_2 (x z v w : Int) (j : Nat) (hj : j < 32) : (Q4 x z v w)[64 + j]? = (BA v)[j]? := by
  unfold Q4
  rw [Array.getElem?_append_left (by simp [BA_size]; omega), Array.getElem?_append_right (by simp [BA_size])]
  simp [BA_size]
theorem Q4_3 (x z v w : Int) (j : Nat) (_hj : j < 32) : (Q4 x z v w)[96 + j]? = (BA w)[j]? := by
  unfold Q4
  rw [Array.getElem?_append_right (by simp [BA_size])]
  simp [BA_size]
theorem range_of {wd : World} {b o : Nat} {n : Int} {cs : Array Value} (hg : wd.heap[b]? = some (.cells cs 46 (0, 0))) (h : ∀ j, j < 32 → cs[o + j]? = (BA n)[j]?) : wd.rangeAt b o (BA n).toList :=
  fun j v hv => by
    have hj : j < 32 := by have := (List.getElem?_eq_some_iff.1 hv).1; rwa [Array.length_toList, BA_size] at this
    rw [cell_of_row wd b (o + j) _ _ _ hg, h j hj]
    simpa using hv
theorem info128 : (Tryd.prog.info? 46).map (·.size) = some 128 := by kernel_rfl
theorem st_point {ops : Array Oper} {rest : List Oper} {d : Option Tmp} {X Y : Operand} {t : TypeId} {ps : String} {af : Array Edge} {a : Act} {wd : World} {Q : Exit → Act → World → Prop} {g : Nat} {x z v w : Int} {old : Array Value}
    (hx : a.eval X = .pointer (some ⟨g, 0, none⟩)) (hy : a.eval Y = .agg (Q4 x z v w)) (hg : wd.heap[g]? = some (.cells old 46 (0, 0))) (hold : old.size = 128)
    (h : ∀ w2, w2.heap[g]? = some (.cells (Q4 x z v w) 46 (0, 0)) → Only g wd w2 → wpList Tryd.prog ops Q rest (a.put d undef) w2) : wpList Tryd.prog ops Q ({ dst := d, op := .store 46 X Y, type := t, pos := ps, after := af, guard := none } :: rest) a wd :=
  st_row rfl 46 X Y rfl g _ hx hy 46 _ hg (by rw [Q4_size]; exact info128) (by rw [Q4_size]; exact hold) (Q4_one x z v w) h
theorem act_point {a : Act} {o : Oper} {wd : World} {K : Act → World → Prop} {Q : Exit → Act → World → Prop} (X Y : Operand) (ho : o.op = .store 46 X Y)
    (g : Nat) (x z v w : Int) (hx : a.eval X = .pointer (some ⟨g, 0, none⟩)) (hy : a.eval Y = .agg (Q4 x z v w)) (old : Array Value) (hg : wd.heap[g]? = some (.cells old 46 (0, 0))) (hold : old.size = 128)
    (h : ∀ w2, w2.heap[g]? = some (.cells (Q4 x z v w) 46 (0, 0)) → Only g wd w2 → K (a.put o.dst undef) w2) : o.wp Tryd.prog a wd K Q :=
  wp_store_row 46 X Y ho g _ hx hy 46 old hg (by rw [Q4_size]; exact info128) (by rw [Q4_size]; exact hold) (Q4_one x z v w) (h _ (setRow_heap wd g old _ 46 (0, 0) hg) (only_setRow wd g _))
theorem last_point {a : Act} {o : Oper} {wd : World} {Q : Exit → Act → World → Prop} (X Y : Operand) (ho : o.op = .store 46 X Y)
    (g : Nat) (x z v w : Int) (hx : a.eval X = .pointer (some ⟨g, 0, none⟩)) (hy : a.eval Y = .agg (Q4 x z v w)) (old : Array Value) (hg : wd.heap[g]? = some (.cells old 46 (0, 0))) (hold : old.size = 128)
    (h : ∀ w2, w2.heap[g]? = some (.cells (Q4 x z v w) 46 (0, 0)) → Only g wd w2 → Q .normal (a.put o.dst undef) w2) : Last Tryd.prog Q o a wd :=
  ⟨act_point X Y ho g x z v w hx hy old hg hold h⟩
theorem ld_point {ops : Array Oper} {rest : List Oper} {o : Oper} {a : Act} {wd : World} {Q : Exit → Act → World → Prop} (hgd : o.guard = none) (X : Operand) (ho : o.op = .load 46 X) (g : Nat) (x z v w : Int)
    (hx : a.eval X = .pointer (some ⟨g, 0, none⟩)) (hg : wd.heap[g]? = some (.cells (Q4 x z v w) 46 (0, 0)))
    (h : wpList Tryd.prog ops Q rest (a.put o.dst (.agg (Q4 x z v w))) wd) : wpList Tryd.prog ops Q (o :: rest) a wd :=
  wpList_load_row hgd 46 X ho g hx 46 _ (0, 0) _ hg Tryd.underlying46 rfl (by rw [Q4_size]; exact info128) h
theorem look_point {a : Act} {o : Oper} {X : Operand} {wd : World} (ho : o.op = .load 46 X) (g : Nat) (x z v w : Int) (hx : a.eval X = .pointer (some ⟨g, 0, none⟩))
    (hg : wd.heap[g]? = some (.cells (Q4 x z v w) 46 (0, 0))) : (execOp a.eval o).run Tryd.prog wd = .ok (.value (.agg (Q4 x z v w))) wd := by
  unfold execOp
  simp only [ho, hx, Instr.loadAt, Instr.sureAddr, Sem.run_bind, Sem.run_pure, Result.andThen_ok, run_loadVar_row wd g 46 46 _ (0, 0) _ hg Tryd.underlying46 rfl (by rw [Q4_size]; exact info128)]
theorem run_build4 (x z v w : Int) (wd : World) : (Instr.build 46 #[(0, .agg (BA x)), (1, .agg (BA z)), (2, .agg (BA v)), (3, .agg (BA w))]).run Tryd.prog wd = .ok (.agg (Q4 x z v w)) wd := by kernel_rfl
theorem exec_build4 {a : Act} {o : Oper} {wd : World} {A B C D : Operand} (ho : o.op = .build 46 #[(0, A), (1, B), (2, C), (3, D)]) (x z v w : Int) (hA : a.eval A = .agg (BA x)) (hB : a.eval B = .agg (BA z)) (hC : a.eval C = .agg (BA v)) (hD : a.eval D = .agg (BA w)) :
    (execOp a.eval o).run Tryd.prog wd = .ok (.value (.agg (Q4 x z v w))) wd := by
  have h := run_build4 x z v w wd
  unfold execOp
  simp only [ho, List.map_toArray, List.map_cons, List.map_nil, hA, hB, hC, hD, Sem.run_bind, h, Result.andThen_ok, Sem.run_pure]
set_option maxHeartbeats 1000000 in
theorem square_any (a : Int) (w : World) (ha : N256 a) :
    Calls Tryd.prog 43 #[.agg (BA a)] w fun e w' => e = .returned (.agg (BA (a * a % P255))) ∧ Below w.heap.size w w' := by
  have HA := Hid.mk ha
  clear ha
  go_enter Tryd.func43, Tryd.ntmps43
  go_wp2_with (refine ld_bytes rfl _ rfl _ _ rfl (heap_alloc2_old w _ _) (BA_size _) ?_)
  refine (rtimes_any a a _ HA.out HA.out).mono ?_
  rintro e v2 ⟨rfl, hb2⟩
  have gz := bheap hb2 (heap_alloc2_new w _ _) (by simp)
  have hB := Below.trans (((Below.refl _ w).alloc (Nat.le_refl _) _).alloc (by simp) _) (hb2.mono (by simp; omega))
  clear hb2
  go_wp2_with (refine st_bytesS (by rfl) (by rfl) gz (by rfl) ?_; intro v3 g3 o3)
  exact bodyPost_ret (v := .agg (BA (a * a % P255))) (results_cell_row rfl _ _ _ _ _ _ _ rfl g3 Tryd.underlying22 rfl (by rw [BA_size]; exact info32)) rfl
    ⟨rfl, Below.trans hB (Only.below (b := w.heap.size + 1) (B := w.heap.size) o3 (by omega))⟩
def tb (b : Bool) (p q : Int) : Int := if b then q else p
theorem zero_point (w : World) : (zeroValue 46).run Tryd.prog w = .ok (.agg (Q4 0 0 0 0)) w := by kernel_rfl
set_option maxHeartbeats 1000000 in
set_option maxRecDepth 100000 in
theorem turned_any (x z v w : Int) (b : Bool) (wd : World) :
    Calls Tryd.prog 40 #[.agg (Q4 x z v w), .bool b] wd fun e w' => e = .returned (.agg (Q4 (tb b x v) (tb b z w) (tb b v x) (tb b w z))) ∧ Below wd.heap.size wd w' := by
  have hsz := Q4_size x z v w
  have hz := zero_point
  cases b with
  | true =>
    go_enter Tryd.func40, Tryd.ntmps40
    go_wp2_with (first
      | (refine ld_mid rfl _ rfl wd.heap.size 0 x rfl (range_of (heap_alloc2_old wd _ _) (fun j hj => by rw [Nat.zero_add]; exact Q4_0 x z v w j hj)) ?_)
      | (refine ld_mid rfl _ rfl wd.heap.size 32 z rfl (range_of (heap_alloc2_old wd _ _) (Q4_1 x z v w)) ?_)
      | (refine ld_mid rfl _ rfl wd.heap.size 64 v rfl (range_of (heap_alloc2_old wd _ _) (Q4_2 x z v w)) ?_)
      | (refine ld_mid rfl _ rfl wd.heap.size 96 w rfl (range_of (heap_alloc2_old wd _ _) (Q4_3 x z v w)) ?_)
      | (refine wl_value rfl (exec_build4 rfl v w x z rfl rfl rfl rfl) ?_)
      | (refine st_point (by rfl) (by rfl) (heap_alloc2_new wd _ _) (Q4_size 0 0 0 0) ?_; intro w3 g3 o3))
    exact bodyPost_ret (v := .agg (Q4 v w x z)) (results_cell_row rfl _ _ _ _ _ _ _ rfl g3 Tryd.underlying46 rfl (by rw [Q4_size]; exact info128)) rfl
      ⟨rfl, Below.trans (((Below.refl _ wd).alloc (Nat.le_refl _) _).alloc (by simp) _) (Only.below (b := wd.heap.size + 1) (B := wd.heap.size) o3 (by omega))⟩
  | false =>
    go_enter Tryd.func40, Tryd.ntmps40
    go_wp2_with (first
      | (refine ld_point rfl _ rfl wd.heap.size x z v w rfl (heap_alloc2_old wd _ _) ?_)
      | (refine st_point (g := wd.heap.size + 1) (x := x) (z := z) (v := v) (w := w) (old := Q4 0 0 0 0) (by rfl) (by rfl) (by exact heap_alloc2_new wd _ _) (Q4_size 0 0 0 0) ?_; intro w3 g3 o3))
    exact bodyPost_ret (v := .agg (Q4 x z v w)) (results_cell_row rfl _ _ _ _ _ _ _ rfl g3 Tryd.underlying46 rfl (by rw [Q4_size]; exact info128)) rfl
      ⟨rfl, Below.trans (((Below.refl _ wd).alloc (Nat.le_refl _) _).alloc (by simp) _) (Only.below (b := wd.heap.size + 1) (B := wd.heap.size) o3 (by omega))⟩
end Go.Proofs.YtpcpcgfljffkeaaDoor
/-
  Own text. The curve x^2 + y^2 = 1 + d x^2 y^2 over a field of n elements, d no square: its points are a group.
-/
namespace Go.Proofs.YtpcpcgfljffkeaaDoor
section
variable {n : Nat} [NeZero n]
/-- What makes the numbers below n a field: an inverse; and 2 is not 0. -/
structure Fd (n : Nat) [NeZero n] where
  inv : Fin n → Fin n
  mul_inv : ∀ a, a ≠ 0 → a * inv a = 1
  two : (2 : Fin n) ≠ 0
  inv0 : inv 0 = 0
variable (K : Fd n)
include K in
theorem Fd.one : (1 : Fin n) ≠ 0 := fun h => K.two (by grind)
include K in
theorem Fd.mul_ne {a b : Fin n} (ha : a ≠ 0) (hb : b ≠ 0) : a * b ≠ 0 := fun h => by
  have h1 := K.mul_inv b hb
  exact ha (by grind)
include K in
theorem Fd.zero_or {a b : Fin n} (h : a * b = 0) : a = 0 ∨ b = 0 := by
  by_cases ha : a = 0
  · exact .inl ha
  · by_cases hb : b = 0
    · exact .inr hb
    · exact absurd h (K.mul_ne ha hb)
include K in
theorem Fd.cancel {a b c : Fin n} (hc : c ≠ 0) (h : a * c = b * c) : a = b := by
  have h1 := K.mul_inv c hc
  grind
theorem sq_div {p q i d : Fin n} (k : p * p = d * q * q) (hi : q * i = 1) : (p * i) * (p * i) = d := by grind
/-- On the curve. -/
def On (d x y : Fin n) : Prop := x * x + y * y = 1 + d * x * x * y * y
/-- d is no square. -/
def Nsq (d : Fin n) : Prop := ∀ t : Fin n, t * t ≠ d
include K in
theorem complete {d x1 y1 x2 y2 : Fin n} (hd : Nsq d) (h1 : On d x1 y1) (h2 : On d x2 y2) (e : Fin n) (he : e * e = 1) : d * x1 * x2 * y1 * y2 ≠ e := by
  intro h
  unfold On at h1 h2
  have k1 : (x1 + e * y1) * (x1 + e * y1) = d * (x1 * y1 * (x2 + y2)) * (x1 * y1 * (x2 + y2)) := by grind
  have k2 : (x1 - e * y1) * (x1 - e * y1) = d * (x1 * y1 * (x2 - y2)) * (x1 * y1 * (x2 - y2)) := by grind
  have hz : x1 * y1 ≠ 0 := fun hz => K.one (by grind)
  have hzz : x2 ≠ 0 := fun hz => K.one (by grind)
  by_cases hs : x2 + y2 = 0
  · have hm : x2 - y2 ≠ 0 := fun hm => by
      have : 2 * x2 = 0 := by grind
      rcases K.zero_or this with h | h
      · exact K.two h
      · exact hzz h
    have hq := K.mul_ne hz hm
    have hi := K.mul_inv _ hq
    exact hd ((x1 - e * y1) * K.inv (x1 * y1 * (x2 - y2))) (sq_div k2 hi)
  · have hq := K.mul_ne hz hs
    have hi := K.mul_inv _ hq
    exact hd ((x1 + e * y1) * K.inv (x1 * y1 * (x2 + y2))) (sq_div k1 hi)
include K in
theorem den_plus {d x1 y1 x2 y2 : Fin n} (hd : Nsq d) (h1 : On d x1 y1) (h2 : On d x2 y2) : 1 + d * x1 * x2 * y1 * y2 ≠ 0 := fun h =>
  complete K hd h1 h2 (-1) (by grind) (by grind)
include K in
theorem den_minus {d x1 y1 x2 y2 : Fin n} (hd : Nsq d) (h1 : On d x1 y1) (h2 : On d x2 y2) : 1 - d * x1 * x2 * y1 * y2 ≠ 0 := fun h =>
  complete K hd h1 h2 1 (by grind) (by grind)
/-- A point. -/
structure Pt (d : Fin n) where
  x : Fin n
  y : Fin n
  on : On d x y
theorem Pt.eq {d : Fin n} {P Q : Pt d} (hx : P.x = Q.x) (hy : P.y = Q.y) : P = Q := by
  cases P; cases Q; simp only at hx hy; subst hx hy; rfl
/-- The sum's two coordinates, without division. -/
structure IsSum {d : Fin n} (P Q R : Pt d) : Prop where
  x : R.x * (1 + d * P.x * Q.x * P.y * Q.y) = P.x * Q.y + P.y * Q.x
  y : R.y * (1 - d * P.x * Q.x * P.y * Q.y) = P.y * Q.y - P.x * Q.x
theorem sum_on {d x1 y1 x2 y2 ip im : Fin n} (h1 : On d x1 y1) (h2 : On d x2 y2) (hp : (1 + d * x1 * x2 * y1 * y2) * ip = 1) (hm : (1 - d * x1 * x2 * y1 * y2) * im = 1) :
    On d ((x1 * y2 + y1 * x2) * ip) ((y1 * y2 - x1 * x2) * im) := by
  unfold On at *
  have key : (x1 * y2 + y1 * x2) * (x1 * y2 + y1 * x2) * ((1 - d * x1 * x2 * y1 * y2) * (1 - d * x1 * x2 * y1 * y2)) + (y1 * y2 - x1 * x2) * (y1 * y2 - x1 * x2) * ((1 + d * x1 * x2 * y1 * y2) * (1 + d * x1 * x2 * y1 * y2))
      = (1 - d * x1 * x2 * y1 * y2) * (1 - d * x1 * x2 * y1 * y2) * ((1 + d * x1 * x2 * y1 * y2) * (1 + d * x1 * x2 * y1 * y2)) + d * (x1 * y2 + y1 * x2) * (x1 * y2 + y1 * x2) * (y1 * y2 - x1 * x2) * (y1 * y2 - x1 * x2) := by grind
  generalize x1 * y2 + y1 * x2 = a at *
  generalize y1 * y2 - x1 * x2 = b at *
  generalize 1 + d * x1 * x2 * y1 * y2 = p at *
  generalize 1 - d * x1 * x2 * y1 * y2 = m at *
  have e1 : (p * ip) * (p * ip) * ((m * im) * (m * im)) = 1 := by rw [hp, hm]; grind
  grind
def Pt.add {d : Fin n} (hd : Nsq d) (P Q : Pt d) : Pt d :=
  ⟨(P.x * Q.y + P.y * Q.x) * K.inv (1 + d * P.x * Q.x * P.y * Q.y), (P.y * Q.y - P.x * Q.x) * K.inv (1 - d * P.x * Q.x * P.y * Q.y),
    sum_on P.on Q.on (K.mul_inv _ (den_plus K hd P.on Q.on)) (K.mul_inv _ (den_minus K hd P.on Q.on))⟩
theorem Pt.add_is {d : Fin n} (hd : Nsq d) (P Q : Pt d) : IsSum P Q (Pt.add K hd P Q) := by
  have hp := K.mul_inv _ (den_plus K hd P.on Q.on)
  have hm := K.mul_inv _ (den_minus K hd P.on Q.on)
  refine ⟨?_, ?_⟩
  · simp only [Pt.add]
    generalize K.inv (1 + d * P.x * Q.x * P.y * Q.y) = ip at *
    generalize 1 + d * P.x * Q.x * P.y * Q.y = p at *
    grind
  · simp only [Pt.add]
    generalize K.inv (1 - d * P.x * Q.x * P.y * Q.y) = ip at *
    generalize 1 - d * P.x * Q.x * P.y * Q.y = p at *
    grind
include K in
theorem IsSum.unique {d : Fin n} (hd : Nsq d) {P Q R S : Pt d} (h1 : IsSum P Q R) (h2 : IsSum P Q S) : R = S :=
  Pt.eq (K.cancel (den_plus K hd P.on Q.on) (h1.x.trans h2.x.symm)) (K.cancel (den_minus K hd P.on Q.on) (h1.y.trans h2.y.symm))
def Pt.zero (d : Fin n) : Pt d := ⟨0, 1, by unfold On; grind⟩
def Pt.neg {d : Fin n} (P : Pt d) : Pt d := ⟨-P.x, P.y, by have := P.on; unfold On at *; grind⟩
theorem Pt.add_zero {d : Fin n} (hd : Nsq d) (P : Pt d) : Pt.add K hd P (Pt.zero d) = P :=
  (Pt.add_is K hd P (Pt.zero d)).unique K hd ⟨by simp only [Pt.zero]; grind, by simp only [Pt.zero]; grind⟩
theorem Pt.add_comm {d : Fin n} (hd : Nsq d) (P Q : Pt d) : Pt.add K hd P Q = Pt.add K hd Q P := by
  have h := Pt.add_is K hd Q P
  exact (Pt.add_is K hd P Q).unique K hd ⟨by have := h.x; grind, by have := h.y; grind⟩
theorem Pt.zero_add {d : Fin n} (hd : Nsq d) (P : Pt d) : Pt.add K hd (Pt.zero d) P = P := by rw [Pt.add_comm, Pt.add_zero]
theorem Pt.add_neg {d : Fin n} (hd : Nsq d) (P : Pt d) : Pt.add K hd P P.neg = Pt.zero d :=
  (Pt.add_is K hd P P.neg).unique K hd ⟨by simp only [Pt.zero, Pt.neg]; grind, by have := P.on; unfold On at this; simp only [Pt.zero, Pt.neg]; grind⟩
theorem assoc_x {d x1 y1 x2 y2 x3 y3 : Fin n} (h1 : On d x1 y1) (h2 : On d x2 y2) (h3 : On d x3 y3) :
    ((x1*y2+y1*x2)*(1 - d*x1*x2*y1*y2)*y3 + (y1*y2-x1*x2)*(1 + d*x1*x2*y1*y2)*x3) * ((1 - d*x2*x3*y2*y3)*(1 + d*x2*x3*y2*y3) + d*(x2*y3+y2*x3)*(y2*y3-x2*x3)*x1*y1)
    = (x1*(y2*y3-x2*x3)*(1 + d*x2*x3*y2*y3) + y1*(x2*y3+y2*x3)*(1 - d*x2*x3*y2*y3)) * ((1 - d*x1*x2*y1*y2)*(1 + d*x1*x2*y1*y2) + d*(x1*y2+y1*x2)*(y1*y2-x1*x2)*x3*y3) := by
  unfold On at *
  grind
theorem assoc_y {d x1 y1 x2 y2 x3 y3 : Fin n} (h1 : On d x1 y1) (h2 : On d x2 y2) (h3 : On d x3 y3) :
    ((y1*y2-x1*x2)*(1 + d*x1*x2*y1*y2)*y3 - (x1*y2+y1*x2)*(1 - d*x1*x2*y1*y2)*x3) * ((1 - d*x2*x3*y2*y3)*(1 + d*x2*x3*y2*y3) - d*(x2*y3+y2*x3)*(y2*y3-x2*x3)*x1*y1)
    = (y1*(y2*y3-x2*x3)*(1 + d*x2*x3*y2*y3) - x1*(x2*y3+y2*x3)*(1 - d*x2*x3*y2*y3)) * ((1 - d*x1*x2*y1*y2)*(1 + d*x1*x2*y1*y2) - d*(x1*y2+y1*x2)*(y1*y2-x1*x2)*x3*y3) := by
  unfold On at *
  grind
end
end Go.Proofs.YtpcpcgfljffkeaaDoor
/-
  Own text. The group's laws; multiples of a point; what the second coordinate of a sum, of a difference and of a double is.
-/
namespace Go.Proofs.YtpcpcgfljffkeaaDoor
section
variable {n : Nat} [NeZero n] (K : Fd n)
theorem frac_x {d p m a b sx sy c e X : Fin n} (h1 : sx * p = a) (h2 : sy * m = b) (h : X * (1 + d * sx * c * sy * e) = sx * e + sy * c) : X * (m * p + d * a * b * c * e) = a * m * e + b * p * c := by grind
theorem frac_y {d p m a b sx sy c e Y : Fin n} (h1 : sx * p = a) (h2 : sy * m = b) (h : Y * (1 - d * sx * c * sy * e) = sy * e - sx * c) : Y * (m * p - d * a * b * c * e) = b * p * e - a * m * c := by grind
theorem den_x {d p m a b sx sy c e : Fin n} (h1 : sx * p = a) (h2 : sy * m = b) : m * p + d * a * b * c * e = m * p * (1 + d * sx * c * sy * e) := by grind
theorem den_y {d p m a b sx sy c e : Fin n} (h1 : sx * p = a) (h2 : sy * m = b) : m * p - d * a * b * c * e = m * p * (1 - d * sx * c * sy * e) := by grind
theorem swp_x {d X p t q s : Fin n} (h : X * (1 + d * p * t * q * s) = p * s + q * t) : X * (1 + d * t * p * s * q) = t * q + s * p := by grind
theorem swp_y {d X p t q s : Fin n} (h : X * (1 - d * p * t * q * s) = q * s - p * t) : X * (1 - d * t * p * s * q) = s * q - t * p := by grind
theorem swp_p {d p t q s : Fin n} (h : 1 + d * p * t * q * s ≠ 0) : 1 + d * t * p * s * q ≠ 0 := fun e => h (by grind)
theorem swp_m {d p t q s : Fin n} (h : 1 - d * p * t * q * s ≠ 0) : 1 - d * t * p * s * q ≠ 0 := fun e => h (by grind)
include K in
theorem cross {X Y D1 D2 N1 N2 : Fin n} (h1 : X * D1 = N1) (h2 : Y * D2 = N2) (hd1 : D1 ≠ 0) (hd2 : D2 ≠ 0) (h : N1 * D2 = N2 * D1) : X = Y :=
  K.cancel (K.mul_ne hd1 hd2) (by grind)
theorem Pt.add_assoc {d : Fin n} (hd : Nsq d) (P Q R : Pt d) : Pt.add K hd (Pt.add K hd P Q) R = Pt.add K hd P (Pt.add K hd Q R) := by
  have hS := Pt.add_is K hd P Q
  have hT := Pt.add_is K hd Q R
  have hU := Pt.add_is K hd (Pt.add K hd P Q) R
  have hV := Pt.add_is K hd P (Pt.add K hd Q R)
  have p1 := den_plus K hd P.on Q.on
  have m1 := den_minus K hd P.on Q.on
  have p2 := den_plus K hd Q.on R.on
  have m2 := den_minus K hd Q.on R.on
  have pu := den_plus K hd (Pt.add K hd P Q).on R.on
  have mu := den_minus K hd (Pt.add K hd P Q).on R.on
  have pv := den_plus K hd P.on (Pt.add K hd Q R).on
  have mv := den_minus K hd P.on (Pt.add K hd Q R).on
  have ax := assoc_x P.on Q.on R.on
  have ay := assoc_y P.on Q.on R.on
  apply Pt.eq
  · refine cross K (frac_x hS.x hS.y hU.x) (frac_x (d := d) (c := P.x) (e := P.y) hT.x hT.y (swp_x hV.x)) ?_ ?_ ?_
    · rw [den_x hS.x hS.y]; exact K.mul_ne (K.mul_ne m1 p1) pu
    · rw [den_x hT.x hT.y]
      exact K.mul_ne (K.mul_ne m2 p2) (swp_p pv)
    · clear hS hT hU hV p1 m1 p2 m2 pu mu pv mv ay
      grind
  · refine cross K (frac_y hS.x hS.y hU.y) (frac_y (d := d) (c := P.x) (e := P.y) hT.x hT.y (swp_y hV.y)) ?_ ?_ ?_
    · rw [den_y hS.x hS.y]; exact K.mul_ne (K.mul_ne m1 p1) mu
    · rw [den_y hT.x hT.y]
      exact K.mul_ne (K.mul_ne m2 p2) (swp_m mv)
    · clear hS hT hU hV p1 m1 p2 m2 pu mu pv mv ax
      grind
/-- A point, k times. -/
def Pt.mul {d : Fin n} (hd : Nsq d) (k : Nat) (P : Pt d) : Pt d := match k with
  | 0 => Pt.zero d
  | k + 1 => Pt.add K hd (Pt.mul hd k P) P
theorem Pt.mul_add {d : Fin n} (hd : Nsq d) (j k : Nat) (P : Pt d) : Pt.mul K hd (j + k) P = Pt.add K hd (Pt.mul K hd j P) (Pt.mul K hd k P) := by
  induction k with
  | zero => simp only [Nat.add_zero, Pt.mul, Pt.add_zero]
  | succ k ih => rw [← Nat.add_assoc]; simp only [Pt.mul]; rw [ih, Pt.add_assoc]
theorem Pt.mul_one {d : Fin n} (hd : Nsq d) (P : Pt d) : Pt.mul K hd 1 P = P := by simp only [Pt.mul, Pt.zero_add]
theorem Pt.mul_zero {d : Fin n} (hd : Nsq d) (k : Nat) : Pt.mul K hd k (Pt.zero d) = Pt.zero d := by
  induction k with
  | zero => rfl
  | succ k ih => simp only [Pt.mul, ih, Pt.add_zero]
theorem Pt.mul_mul {d : Fin n} (hd : Nsq d) (j k : Nat) (P : Pt d) : Pt.mul K hd j (Pt.mul K hd k P) = Pt.mul K hd (j * k) P := by
  induction j with
  | zero => simp only [Nat.zero_mul, Pt.mul]
  | succ j ih =>
    show Pt.add K hd (Pt.mul K hd j (Pt.mul K hd k P)) (Pt.mul K hd k P) = _
    rw [ih, Nat.succ_mul, Pt.mul_add]
theorem Pt.sub_add {d : Fin n} (hd : Nsq d) (P Q : Pt d) : Pt.add K hd (Pt.add K hd P Q) P.neg = Q := by
  rw [Pt.add_comm K hd P Q, Pt.add_assoc, Pt.add_neg, Pt.add_zero]
theorem y_key {d x1 y1 x2 y2 : Fin n} (h1 : On d x1 y1) (h2 : On d x2 y2) :
    (1 - d*x1*x2*y1*y2 + (y1*y2 - x1*x2)) * (1 + d*x1*x2*y1*y2 + (y1*y2 + x1*x2)) * ((y1 - y2) * (y1 - y2)) = (1 - d*x1*x2*y1*y2 - (y1*y2 - x1*x2)) * (1 + d*x1*x2*y1*y2 - (y1*y2 + x1*x2)) * ((y1 + y2) * (y1 + y2)) := by
  unfold On at *
  grind
theorem y_frac {s m p q a b u v : Fin n} (hs : s * p = a) (hm : m * q = b) (h : (p + a) * (q + b) * u = (p - a) * (q - b) * v) : ((1 + s) * (1 + m) * u) * (p * q) = ((1 - s) * (1 - m) * v) * (p * q) := by grind
/-- Of a sum and a difference. -/
theorem y_both {d : Fin n} (hd : Nsq d) (P Q : Pt d) :
    (1 + (Pt.add K hd P Q).y) * (1 + (Pt.add K hd P Q.neg).y) * ((P.y - Q.y) * (P.y - Q.y)) = (1 - (Pt.add K hd P Q).y) * (1 - (Pt.add K hd P Q.neg).y) * ((P.y + Q.y) * (P.y + Q.y)) := by
  have hS := (Pt.add_is K hd P Q).y
  have hM := (Pt.add_is K hd P Q.neg).y
  have hM2 : (Pt.add K hd P Q.neg).y * (1 + d * P.x * Q.x * P.y * Q.y) = P.y * Q.y + P.x * Q.x := by
    simp only [Pt.neg] at hM ⊢
    grind
  exact K.cancel (K.mul_ne (den_minus K hd P.on Q.on) (den_plus K hd P.on Q.on)) (y_frac hS hM2 (y_key P.on Q.on))
/-- Of a double. -/
theorem y_dbl {d : Fin n} (hd : Nsq d) (P : Pt d) : ∃ D : Fin n, D ≠ 0 ∧ (1 + (Pt.add K hd P P).y) * D = 2 * (1 - P.x * P.x) ∧ (1 - (Pt.add K hd P P).y) * D = 2 * (1 - P.y * P.y) := by
  have hS := (Pt.add_is K hd P P).y
  have hon := P.on
  unfold On at hon
  exact ⟨1 - d * P.x * P.x * P.y * P.y, den_minus K hd P.on P.on, by grind, by grind⟩
end
end Go.Proofs.YtpcpcgfljffkeaaDoor
/-
  Own text. The ladder: elements X : Z that stand for a point's multiple, V : W for the next one; what it tells is the point's u.
-/
namespace Go.Proofs.YtpcpcgfljffkeaaDoor
section
variable {n : Nat} [NeZero n] (K : Fd n)
/-- How the ladder's number k and the sign s hang on the curve's d. -/
structure Link (s d c k : Fin n) : Prop where
  s2 : s * s = 1
  cd : c * (1 - d) = 1
  hk : 2 * k + 1 = s * (2 * c - 1)
  hd : Nsq d
/-- X : Z stands for P. -/
def Rep (s : Fin n) {d : Fin n} (P : Pt d) (X Z : Fin n) : Prop := ∃ l, l ≠ 0 ∧ X = l * (1 + P.y) ∧ Z = s * l * (1 - P.y)
include K in
theorem dy_ne {d : Fin n} (hd : Nsq d) (y : Fin n) : 1 - d * y * y ≠ 0 := by
  intro h
  have hy : y ≠ 0 := fun e => K.one (by rw [e] at h; grind)
  have hi := K.mul_inv y hy
  exact hd (K.inv y) (by grind)
include K in
theorem eight_ne : (8 : Fin n) ≠ 0 := by
  have h := K.mul_ne (K.mul_ne K.two K.two) K.two
  have e8 : (8 : Fin n) = 2 * 2 * 2 := by grind
  rw [e8]; exact h
theorem curve_y {d x y : Fin n} (hon : x * x + y * y = 1 + d * x * x * y * y) : (1 - x * x) * (1 - d * y * y) = y * y * (1 - d) := by grind
theorem curve_c {s c d l y : Fin n} (hs : s * s = 1) (hc : c * (1 - d) = 1) : l * l * (2 + 2 * (y * y) + 2 * s * (s * (2 * c - 1)) * (1 - y * y)) = 4 * (l * l) * (c * (1 - d * y * y)) := by grind
theorem turn_y {a b c d e f : Fin n} (h : a * b * ((c - d) * (c - d)) = e * f * ((c + d) * (c + d))) : a * b * ((d - c) * (d - c)) = e * f * ((d + c) * (d + c)) := by grind
theorem dbl_x {s d c l x y D y2 X Z : Fin n} (hs : s * s = 1) (hc : c * (1 - d) = 1) (hon : On d x y) (hX : X = l * (1 + y)) (hZ : Z = s * l * (1 - y)) (h1 : (1 + y2) * D = 2 * (1 - x * x)) :
    (X + Z) * (X + Z) * ((X - Z) * (X - Z)) = 8 * (l * l * l * l) * D * c * (1 - d * y * y) * (1 + y2) := by
  unfold On at hon
  have e1 : (X + Z) * (X - Z) = 4 * (l * l) * y := by subst hX hZ; grind
  have e2 : (1 - x * x) * (1 - d * y * y) = y * y * (1 - d) := curve_y hon
  have e3 : (X + Z) * (X + Z) * ((X - Z) * (X - Z)) = 16 * (l * l * l * l) * (y * y) := by
    have : (X + Z) * (X + Z) * ((X - Z) * (X - Z)) = ((X + Z) * (X - Z)) * ((X + Z) * (X - Z)) := by grind
    rw [this, e1]; grind
  rw [e3]
  have e4 : 8 * (l * l * l * l) * D * c * (1 - d * y * y) * (1 + y2) = 8 * (l * l * l * l) * c * (1 - d * y * y) * ((1 + y2) * D) := by grind
  rw [e4, h1]
  have e5 : 8 * (l * l * l * l) * c * (1 - d * y * y) * (2 * (1 - x * x)) = 16 * (l * l * l * l) * c * ((1 - x * x) * (1 - d * y * y)) := by grind
  rw [e5, e2]
  have e6 : 16 * (l * l * l * l) * c * (y * y * (1 - d)) = 16 * (l * l * l * l) * (y * y) * (c * (1 - d)) := by grind
  rw [e6, hc]; grind
theorem dbl_z {s d c k l y D y2 X Z : Fin n} (hs : s * s = 1) (hc : c * (1 - d) = 1) (hk : 2 * k + 1 = s * (2 * c - 1)) (hX : X = l * (1 + y)) (hZ : Z = s * l * (1 - y)) (h1 : (1 - y2) * D = 2 * (1 - y * y)) :
    ((X + Z) * (X + Z) - (X - Z) * (X - Z)) * ((X + Z) * (X + Z) + k * ((X + Z) * (X + Z) - (X - Z) * (X - Z))) = s * (8 * (l * l * l * l) * D * c * (1 - d * y * y)) * (1 - y2) := by
  have e1 : (X + Z) * (X + Z) - (X - Z) * (X - Z) = 4 * s * (l * l) * (1 - y * y) := by subst hX hZ; grind
  have e2 : (X + Z) * (X + Z) + k * (4 * s * (l * l) * (1 - y * y)) = l * l * (2 + 2 * (y * y) + 2 * s * (2 * k + 1) * (1 - y * y)) := by subst hX hZ; grind
  have e3 : l * l * (2 + 2 * (y * y) + 2 * s * (2 * k + 1) * (1 - y * y)) = 4 * (l * l) * (c * (1 - d * y * y)) := by rw [hk]; exact curve_c hs hc
  rw [e1, e2, e3]
  have e4 : s * (8 * (l * l * l * l) * D * c * (1 - d * y * y)) * (1 - y2) = s * (8 * (l * l * l * l) * c * (1 - d * y * y)) * ((1 - y2) * D) := by grind
  rw [e4, h1]; grind
theorem Rep.dbl {s d c k : Fin n} (L : Link s d c k) {P : Pt d} {X Z : Fin n} (h : Rep s P X Z) :
    Rep s (Pt.add K L.hd P P) ((X + Z) * (X + Z) * ((X - Z) * (X - Z))) (((X + Z) * (X + Z) - (X - Z) * (X - Z)) * ((X + Z) * (X + Z) + k * ((X + Z) * (X + Z) - (X - Z) * (X - Z)))) := by
  obtain ⟨l, hl, hX, hZ⟩ := h
  obtain ⟨D, hD, h1, h2⟩ := y_dbl K L.hd P
  have hc : c ≠ 0 := fun e => K.one (by have := L.cd; rw [e] at this; grind)
  exact ⟨8 * (l * l * l * l) * D * c * (1 - d * P.y * P.y), K.mul_ne (K.mul_ne (K.mul_ne (K.mul_ne (eight_ne K) (K.mul_ne (K.mul_ne (K.mul_ne hl hl) hl) hl)) hD) hc) (dy_ne K L.hd P.y),
    dbl_x L.s2 L.cd P.on hX hZ h1, dbl_z L.s2 L.cd L.hk hX hZ h2⟩
theorem diff_m {s x t y1 y2 r : Fin n} (hb : (1 + t) * (1 + r) * ((y1 - y2) * (y1 - y2)) = (1 - t) * (1 - r) * ((y1 + y2) * (y1 + y2))) (hs : s * s = 1) (hx : x * (1 - r) = s * (1 + r)) :
    (s * x * ((y1 - y2) * (y1 - y2)) * (1 + t)) * (1 - r) = ((y1 + y2) * (y1 + y2) * (1 - t)) * (1 - r) := by
  have e : (s * x * ((y1 - y2) * (y1 - y2)) * (1 + t)) * (1 - r) = s * (x * (1 - r)) * ((y1 - y2) * (y1 - y2)) * (1 + t) := by grind
  rw [e, hx]
  have e2 : s * (s * (1 + r)) * ((y1 - y2) * (y1 - y2)) * (1 + t) = (s * s) * ((1 + t) * (1 + r) * ((y1 - y2) * (y1 - y2))) := by grind
  rw [e2, hs, hb]
  grind
theorem diff_1 {s x t L y1 y2 : Fin n} (h : s * x * ((y1 - y2) * (y1 - y2)) * (1 + t) = (y1 + y2) * (y1 + y2) * (1 - t)) :
    4 * L * (y1 + y2) * (4 * L * (y1 + y2)) = 8 * (L * L) * ((y1 + y2) * (y1 + y2) + s * x * ((y1 - y2) * (y1 - y2))) * (1 + t) := by
  have e : 8 * (L * L) * ((y1 + y2) * (y1 + y2) + s * x * ((y1 - y2) * (y1 - y2))) * (1 + t) = 8 * (L * L) * ((y1 + y2) * (y1 + y2) * (1 + t) + s * x * ((y1 - y2) * (y1 - y2)) * (1 + t)) := by grind
  rw [e, h]; grind
theorem diff_2 {s x t L y1 y2 : Fin n} (hs : s * s = 1) (h : s * x * ((y1 - y2) * (y1 - y2)) * (1 + t) = (y1 + y2) * (y1 + y2) * (1 - t)) :
    x * (4 * s * L * (y2 - y1) * (4 * s * L * (y2 - y1))) = s * (8 * (L * L) * ((y1 + y2) * (y1 + y2) + s * x * ((y1 - y2) * (y1 - y2)))) * (1 - t) := by
  have e : s * (8 * (L * L) * ((y1 + y2) * (y1 + y2) + s * x * ((y1 - y2) * (y1 - y2)))) * (1 - t) = s * (8 * (L * L)) * ((y1 + y2) * (y1 + y2) * (1 - t) + s * x * ((y1 - y2) * (y1 - y2)) * (1 - t)) := by grind
  rw [e, ← h]
  have e2 : s * (8 * (L * L)) * (s * x * ((y1 - y2) * (y1 - y2)) * (1 + t) + s * x * ((y1 - y2) * (y1 - y2)) * (1 - t)) = (s * s) * (16 * (L * L) * x * ((y1 - y2) * (y1 - y2))) := by grind
  have e3 : x * (4 * s * L * (y2 - y1) * (4 * s * L * (y2 - y1))) = (s * s) * (16 * (L * L) * x * ((y1 - y2) * (y1 - y2))) := by grind
  rw [e2, e3]
theorem two_sum {a b t : Fin n} (h : b * (1 + t) = a * (1 - t)) : a * 2 = (a + b) * (1 + t) := by grind
theorem zero_sum {b : Fin n} (h : 0 * 0 + b = 0) : b = 0 := by grind
theorem zero_mul' {b : Fin n} : 0 * b = 0 := by grind
theorem dif_v {s l m y1 y2 X Z V W : Fin n} (hs : s * s = 1) (hX : X = l * (1 + y1)) (hZ : Z = s * l * (1 - y1)) (hV : V = m * (1 + y2)) (hW : W = s * m * (1 - y2)) :
    (V - W) * (X + Z) + (V + W) * (X - Z) = 4 * (l * m) * (y1 + y2) ∧ (V - W) * (X + Z) - (V + W) * (X - Z) = 4 * s * (l * m) * (y2 - y1) := by
  subst hX hZ hV hW
  constructor <;> grind
include K in
theorem Rep.diff {s d c k : Fin n} (L : Link s d c k) {P Q R : Pt d} {X Z V W x : Fin n} (h1 : Rep s P X Z) (h2 : Rep s Q V W) (hR : Pt.add K L.hd P Q.neg = R ∨ Pt.add K L.hd Q P.neg = R)
    (hx : x * (1 - R.y) = s * (1 + R.y)) (hx0 : x ≠ 0) :
    Rep s (Pt.add K L.hd P Q) (((V - W) * (X + Z) + (V + W) * (X - Z)) * ((V - W) * (X + Z) + (V + W) * (X - Z))) (x * (((V - W) * (X + Z) - (V + W) * (X - Z)) * ((V - W) * (X + Z) - (V + W) * (X - Z)))) := by
  obtain ⟨l, hl, hX, hZ⟩ := h1
  obtain ⟨m, hm, hV, hW⟩ := h2
  obtain ⟨eV, eW⟩ := dif_v L.s2 hX hZ hV hW
  rw [eV, eW]
  have hs0 : s ≠ 0 := fun e => K.one (by have := L.s2; rw [e] at this; grind)
  have hy0 : 1 - R.y ≠ 0 := fun e => by
    rw [e] at hx
    have h2 : s * 2 = 0 := by grind
    rcases K.zero_or h2 with h | h
    · exact hs0 h
    · exact K.two h
  have hb : (1 + (Pt.add K L.hd P Q).y) * (1 + R.y) * ((P.y - Q.y) * (P.y - Q.y)) = (1 - (Pt.add K L.hd P Q).y) * (1 - R.y) * ((P.y + Q.y) * (P.y + Q.y)) := by
    rcases hR with h | h
    · have := y_both K L.hd P Q
      rwa [h] at this
    · have := y_both K L.hd Q P
      rw [h, Pt.add_comm K L.hd Q P] at this
      exact turn_y this
  have hy := K.cancel hy0 (diff_m hb L.s2 hx)
  have hm2 := K.mul_ne hl hm
  refine ⟨8 * ((l * m) * (l * m)) * ((P.y + Q.y) * (P.y + Q.y) + s * x * ((P.y - Q.y) * (P.y - Q.y))), K.mul_ne (K.mul_ne (eight_ne K) (K.mul_ne hm2 hm2)) ?_, diff_1 hy, diff_2 L.s2 hy⟩
  intro h0
  have ha : (P.y + Q.y) * (P.y + Q.y) * 2 = 0 := by
    rw [two_sum hy, h0]; exact zero_mul'
  have hsum : P.y + Q.y = 0 := by
    rcases K.zero_or ha with h | h
    · rcases K.zero_or h with h | h <;> exact h
    · exact absurd h K.two
  have hdif : P.y - Q.y = 0 := by
    have e : s * x * ((P.y - Q.y) * (P.y - Q.y)) = 0 := by rw [hsum] at h0; exact zero_sum h0
    rcases K.zero_or e with h | h
    · exact absurd h (K.mul_ne hs0 hx0)
    · rcases K.zero_or h with h | h <;> exact h
  have hP : P.y = 0 := by
    have : 2 * P.y = 0 := by grind -lia
    rcases K.zero_or this with h | h
    · exact absurd h K.two
    · exact h
  have hQ : Q.y = 0 := by grind -lia
  have hRy : R.y * R.y = 1 := by
    have oP := P.on
    have oQ := Q.on
    unfold On at oP oQ
    have hd1 : P.x * P.x = 1 := by rw [hP] at oP; grind -lia
    have hd2 : Q.x * Q.x = 1 := by rw [hQ] at oQ; grind -lia
    rcases hR with h | h
    · have h3 := (Pt.add_is K L.hd P Q.neg).y
      rw [h] at h3
      simp only [Pt.neg, hP, hQ] at h3
      have h4 : R.y = P.x * Q.x := by grind -lia
      rw [h4]; grind -lia
    · have h3 := (Pt.add_is K L.hd Q P.neg).y
      rw [h] at h3
      simp only [Pt.neg, hP, hQ] at h3
      have h4 : R.y = Q.x * P.x := by grind -lia
      rw [h4]; grind -lia
  have h5 : (1 - R.y) * (1 + R.y) = 0 := by grind -lia
  rcases K.zero_or h5 with h | h
  · exact hy0 h
  · rw [h] at hx
    have h6 : x * (1 - R.y) = 0 := by rw [hx]; grind
    rcases K.zero_or h6 with h | h
    · exact hx0 h
    · exact hy0 h
end
end Go.Proofs.YtpcpcgfljffkeaaDoor
/-
  Own text. The whole ladder: it tells the u of a multiple; it does not matter which of two multiples is taken first.
-/
namespace Go.Proofs.YtpcpcgfljffkeaaDoor
section
variable {n : Nat} [NeZero n] (K : Fd n)
/-- Four elements, on the way. -/
structure Qd (n : Nat) where
  X : Fin n
  Z : Fin n
  V : Fin n
  W : Fin n
def Qd.turn (b : Bool) (q : Qd n) : Qd n := if b then ⟨q.V, q.W, q.X, q.Z⟩ else q
def Qd.core (k x : Fin n) (q : Qd n) : Qd n :=
  ⟨(q.X + q.Z) * (q.X + q.Z) * ((q.X - q.Z) * (q.X - q.Z)),
   ((q.X + q.Z) * (q.X + q.Z) - (q.X - q.Z) * (q.X - q.Z)) * ((q.X + q.Z) * (q.X + q.Z) + k * ((q.X + q.Z) * (q.X + q.Z) - (q.X - q.Z) * (q.X - q.Z))),
   ((q.V - q.W) * (q.X + q.Z) + (q.V + q.W) * (q.X - q.Z)) * ((q.V - q.W) * (q.X + q.Z) + (q.V + q.W) * (q.X - q.Z)),
   x * (((q.V - q.W) * (q.X + q.Z) - (q.V + q.W) * (q.X - q.Z)) * ((q.V - q.W) * (q.X + q.Z) - (q.V + q.W) * (q.X - q.Z)))⟩
def Qd.step (k x : Fin n) (b : Bool) (q : Qd n) : Qd n := ((q.turn b).core k x).turn b
def Qd.run (k x : Fin n) (bs : List Bool) (q : Qd n) : Qd n := bs.foldl (fun q b => Qd.step k x b q) q
def Qd.start (x : Fin n) : Qd n := ⟨1, 0, x, 1⟩
def numOfBits (m : Nat) (bs : List Bool) : Nat := bs.foldl (fun m b => 2 * m + b.toNat) m
/-- q stands for m times P and m + 1 times P. -/
def Reps (s : Fin n) {d : Fin n} (hd : Nsq d) (P : Pt d) (m : Nat) (q : Qd n) : Prop := Rep s (Pt.mul K hd m P) q.X q.Z ∧ Rep s (Pt.mul K hd (m + 1) P) q.V q.W
theorem Reps.step {s d c k : Fin n} (L : Link s d c k) {P : Pt d} {x : Fin n} (hx : x * (1 - P.y) = s * (1 + P.y)) (hx0 : x ≠ 0) {m : Nat} {q : Qd n} (h : Reps K s L.hd P m q) (b : Bool) :
    Reps K s L.hd P (2 * m + b.toNat) (Qd.step k x b q) := by
  obtain ⟨h1, h2⟩ := h
  have hdif : Pt.add K L.hd (Pt.mul K L.hd (m + 1) P) (Pt.mul K L.hd m P).neg = P := by
    show Pt.add K L.hd (Pt.add K L.hd (Pt.mul K L.hd m P) P) (Pt.mul K L.hd m P).neg = P
    exact Pt.sub_add K L.hd _ _
  cases b with
  | false =>
    refine ⟨?_, ?_⟩
    · have := h1.dbl K L
      rw [← Pt.mul_add, ← Nat.two_mul] at this
      exact this
    · have := Rep.diff K L h1 h2 (.inr hdif) hx hx0
      rw [← Pt.mul_add, show m + (m + 1) = 2 * m + 0 + 1 by omega] at this
      exact this
  | true =>
    refine ⟨?_, ?_⟩
    · have := Rep.diff K L h2 h1 (.inl hdif) hx hx0
      rw [← Pt.mul_add, show m + 1 + m = 2 * m + 1 by omega] at this
      exact this
    · have := h2.dbl K L
      rw [← Pt.mul_add, show m + 1 + (m + 1) = 2 * m + 1 + 1 by omega] at this
      exact this
theorem Reps.run {s d c k : Fin n} (L : Link s d c k) {P : Pt d} {x : Fin n} (hx : x * (1 - P.y) = s * (1 + P.y)) (hx0 : x ≠ 0) (bs : List Bool) {m : Nat} {q : Qd n} (h : Reps K s L.hd P m q) :
    Reps K s L.hd P (numOfBits m bs) (Qd.run k x bs q) := by
  induction bs generalizing m q with
  | nil => exact h
  | cons b bs ih => exact ih (h.step K L hx hx0 b)
include K in
theorem s_ne {s : Fin n} (hs : s * s = 1) : s ≠ 0 := fun e => K.one (by rw [e] at hs; grind)
include K in
theorem y_ne_one {s x y : Fin n} (hs : s * s = 1) (hx : x * (1 - y) = s * (1 + y)) : 1 - y ≠ 0 := fun e => by
  rw [e] at hx
  have h2 : s * 2 = 0 := by grind -lia
  rcases K.zero_or h2 with h | h
  · exact s_ne K hs h
  · exact K.two h
theorem start_x {s x y i : Fin n} (hx : x * (1 - y) = s * (1 + y)) (hi : (1 - y) * i = 1) : x = s * i * (1 + y) := by grind
theorem start_w {s y i : Fin n} (hs : s * s = 1) (hi : (1 - y) * i = 1) : 1 = s * (s * i) * (1 - y) := by grind
theorem start_1 {i : Fin n} (hi : 2 * i = 1) : 1 = i * (1 + 1) := by grind
theorem start_0 {s i : Fin n} : 0 = s * i * (1 - 1) := by grind
theorem Reps.start {s d c k : Fin n} (L : Link s d c k) {P : Pt d} {x : Fin n} (hx : x * (1 - P.y) = s * (1 + P.y)) : Reps K s L.hd P 0 (Qd.start x) := by
  have h2 := K.mul_inv 2 K.two
  have hy := y_ne_one K L.s2 hx
  have hi := K.mul_inv _ hy
  have hin : K.inv (1 - P.y) ≠ 0 := fun e => K.one (by rw [e] at hi; grind)
  refine ⟨⟨K.inv 2, fun e => K.one (by rw [e] at h2; grind), start_1 h2, start_0⟩, ?_⟩
  rw [show (0 : Nat) + 1 = 1 from rfl, Pt.mul_one]
  exact ⟨s * K.inv (1 - P.y), K.mul_ne (s_ne K L.s2) hin, start_x hx hi, start_w L.s2 hi⟩
/-- A point's u; 0 for the point at no end. -/
def uOf (s : Fin n) {d : Fin n} (P : Pt d) : Fin n := s * (1 + P.y) * K.inv (1 - P.y)
theorem tell_1 {s l y X Z i j : Fin n} (hs : s * s = 1) (hX : X = l * (1 + y)) (hZ : Z = s * l * (1 - y)) (hi : (1 - y) * i = 1) (hj : Z * j = 1) : X * j = s * (1 + y) * i := by
  have e : X = Z * (s * (1 + y) * i) := by subst hX hZ; grind
  rw [e]; grind
theorem Rep.tell {s d c k : Fin n} (L : Link s d c k) {P : Pt d} {X Z : Fin n} (h : Rep s P X Z) : X * K.inv Z = uOf K s P := by
  obtain ⟨l, hl, hX, hZ⟩ := h
  unfold uOf
  by_cases hy : 1 - P.y = 0
  · have hz : Z = 0 := by rw [hZ, hy]; grind
    rw [hz, hy, K.inv0]; grind
  · have hz : Z ≠ 0 := by rw [hZ]; exact K.mul_ne (K.mul_ne (s_ne K L.s2) hl) hy
    exact tell_1 L.s2 hX hZ (K.mul_inv _ hy) (K.mul_inv _ hz)
/-- What the ladder tells. -/
def Lad (k x : Fin n) (bs : List Bool) : Fin n := (Qd.run k x bs (Qd.start x)).X * K.inv (Qd.run k x bs (Qd.start x)).Z
theorem lad_u {s d c k : Fin n} (L : Link s d c k) {P : Pt d} {x : Fin n} (hx : x * (1 - P.y) = s * (1 + P.y)) (hx0 : x ≠ 0) (bs : List Bool) : Lad K k x bs = uOf K s (Pt.mul K L.hd (numOfBits 0 bs) P) :=
  Rep.tell K L (Reps.run K L hx hx0 bs (Reps.start K L hx)).1
/-- Of 0 it tells 0. -/
def Flat0 (q : Qd n) : Prop := q.Z = 0 ∧ (q.W = 0 ∨ (q.X = 1 ∧ q.V = 0 ∧ q.W = 1))
theorem flat_step (k : Fin n) (b : Bool) {q : Qd n} (h : Flat0 q) : Flat0 (Qd.step k 0 b q) := by
  obtain ⟨hz, hw⟩ := h
  cases b with
  | false =>
    refine ⟨?_, .inl ?_⟩
    · show ((q.X + q.Z) * (q.X + q.Z) - (q.X - q.Z) * (q.X - q.Z)) * ((q.X + q.Z) * (q.X + q.Z) + k * ((q.X + q.Z) * (q.X + q.Z) - (q.X - q.Z) * (q.X - q.Z))) = 0
      rw [hz]; grind
    · show 0 * (((q.V - q.W) * (q.X + q.Z) - (q.V + q.W) * (q.X - q.Z)) * ((q.V - q.W) * (q.X + q.Z) - (q.V + q.W) * (q.X - q.Z))) = 0
      grind
  | true =>
    refine ⟨?_, .inl ?_⟩
    · show 0 * (((q.X - q.Z) * (q.V + q.W) - (q.X + q.Z) * (q.V - q.W)) * ((q.X - q.Z) * (q.V + q.W) - (q.X + q.Z) * (q.V - q.W))) = 0
      grind
    · show ((q.V + q.W) * (q.V + q.W) - (q.V - q.W) * (q.V - q.W)) * ((q.V + q.W) * (q.V + q.W) + k * ((q.V + q.W) * (q.V + q.W) - (q.V - q.W) * (q.V - q.W))) = 0
      rcases hw with h | ⟨_, h1, h2⟩
      · rw [h]; grind
      · rw [h1, h2]; grind
theorem flat_run (k : Fin n) (bs : List Bool) {q : Qd n} (h : Flat0 q) : Flat0 (Qd.run k 0 bs q) := by
  induction bs generalizing q with
  | nil => exact h
  | cons b bs ih => exact ih (flat_step k b h)
theorem lad_zero (k : Fin n) (bs : List Bool) : Lad K k 0 bs = 0 := by
  have h := (flat_run k bs (q := Qd.start 0) ⟨rfl, .inr ⟨rfl, rfl, rfl⟩⟩).1
  unfold Lad
  rw [h, K.inv0]; grind
theorem nsq_one {d : Fin n} (hd : Nsq d) : 1 - d ≠ 0 := fun e => hd 1 (by grind)
theorem flat_x {d x y : Fin n} (hon : x * x + y * y = 1 + d * x * x * y * y) (hy : y * y = 1) : x * x * (1 - d) = 0 := by grind
/-- Where it tells 0, twice the point is none. -/
theorem u_zero {s d c k : Fin n} (L : Link s d c k) {P : Pt d} (h : uOf K s P = 0) : Pt.mul K L.hd 2 P = Pt.zero d := by
  have hy : P.y * P.y = 1 := by
    by_cases e : 1 - P.y = 0
    · have : P.y = 1 := by grind -lia
      rw [this]; grind
    · have hi := K.mul_inv _ e
      unfold uOf at h
      have hin : K.inv (1 - P.y) ≠ 0 := fun e => K.one (by rw [e] at hi; grind)
      rcases K.zero_or h with h | h
      · rcases K.zero_or h with h | h
        · exact absurd h (s_ne K L.s2)
        · have : P.y = -1 := by grind -lia
          rw [this]; grind
      · exact absurd h hin
  have hon := P.on
  unfold On at hon
  have hx : P.x = 0 := by
    rcases K.zero_or (flat_x hon hy) with h | h
    · rcases K.zero_or h with h | h <;> exact h
    · exact absurd h (nsq_one L.hd)
  show Pt.add K L.hd (Pt.add K L.hd (Pt.zero d) P) P = Pt.zero d
  rw [Pt.zero_add]
  refine (Pt.add_is K L.hd P P).unique K L.hd ⟨?_, ?_⟩
  · simp only [Pt.zero, hx]; grind
  · simp only [Pt.zero, hx]; grind
theorem u_of_zero (s d : Fin n) : uOf K s (Pt.zero d) = 0 := by
  unfold uOf Pt.zero
  have e : (1 : Fin n) - 1 = 0 := by grind
  simp only [e, K.inv0]; grind
/-- Two ladders, one behind the other. -/
theorem lad_lad {s d c k : Fin n} (L : Link s d c k) {P : Pt d} {x : Fin n} (hx : x * (1 - P.y) = s * (1 + P.y)) (hx0 : x ≠ 0) (zs bs : List Bool) (ha : numOfBits 0 zs % 2 = 0) :
    Lad K k (Lad K k x bs) zs = uOf K s (Pt.mul K L.hd (numOfBits 0 zs * numOfBits 0 bs) P) := by
  have hu := lad_u K L hx hx0 bs
  by_cases h0 : Lad K k x bs = 0
  · rw [h0, lad_zero]
    rw [hu] at h0
    have h2 := u_zero K L h0
    rw [show numOfBits 0 zs * numOfBits 0 bs = numOfBits 0 zs / 2 * (2 * numOfBits 0 bs) by rw [← Nat.mul_assoc, Nat.div_mul_cancel (Nat.dvd_of_mod_eq_zero ha)], ← Pt.mul_mul, ← Pt.mul_mul, h2, Pt.mul_zero, u_of_zero]
  · have hx' : Lad K k x bs * (1 - (Pt.mul K L.hd (numOfBits 0 bs) P).y) = s * (1 + (Pt.mul K L.hd (numOfBits 0 bs) P).y) := by
      rw [hu] at h0 ⊢
      unfold uOf at h0 ⊢
      have e : 1 - (Pt.mul K L.hd (numOfBits 0 bs) P).y ≠ 0 := fun e => h0 (by rw [e, K.inv0]; grind)
      have hi := K.mul_inv _ e
      generalize (Pt.mul K L.hd (numOfBits 0 bs) P).y = y at *
      generalize K.inv (1 - y) = i at *
      clear h0 hu hx
      grind
    rw [lad_u K L hx' h0 zs, Pt.mul_mul]
theorem lad_comm {s d c k : Fin n} (L : Link s d c k) {P : Pt d} {x : Fin n} (hx : x * (1 - P.y) = s * (1 + P.y)) (hx0 : x ≠ 0) (zs bs : List Bool) (ha : numOfBits 0 zs % 2 = 0) (hb : numOfBits 0 bs % 2 = 0) :
    Lad K k (Lad K k x bs) zs = Lad K k (Lad K k x zs) bs := by
  rw [lad_lad K L hx hx0 zs bs ha, lad_lad K L hx hx0 bs zs hb, Nat.mul_comm]
/-- A point that l times is none, l a prime, and not none itself: a multiple by what l does not divide tells no 0. -/
theorem lad_ne {s d c k : Fin n} (L : Link s d c k) {P : Pt d} {x : Fin n} (hx : x * (1 - P.y) = s * (1 + P.y)) {l N : Nat} (hl : Pt.mul K L.hd l P = Pt.zero d) (hN : ∃ i j, i * (2 * N) = j * l + 1) : uOf K s (Pt.mul K L.hd N P) ≠ 0 := by
  intro h
  have h2 := u_zero K L h
  obtain ⟨i, j, hij⟩ := hN
  have e1 : Pt.mul K L.hd (i * (2 * N)) P = Pt.zero d := by rw [← Pt.mul_mul, ← Pt.mul_mul, h2, Pt.mul_zero]
  rw [hij, Pt.mul_add, ← Pt.mul_mul, hl, Pt.mul_zero, Pt.mul_one, Pt.zero_add] at e1
  exact y_ne_one K L.s2 hx (by rw [e1]; simp only [Pt.zero]; grind)
/-- Where the ladder's Z is 0, the multiple is none. -/
theorem lad_order {s d c k : Fin n} (L : Link s d c k) {P : Pt d} {x : Fin n} (hx : x * (1 - P.y) = s * (1 + P.y)) (hx0 : x ≠ 0) (bs : List Bool) (hz : (Qd.run k x bs (Qd.start x)).Z = 0) : Pt.mul K L.hd (numOfBits 0 bs) P = Pt.zero d := by
  obtain ⟨l, hl, _, hZ⟩ := (Reps.run K L hx hx0 bs (Reps.start K L hx)).1
  generalize Pt.mul K L.hd (numOfBits 0 bs) P = Q at *
  rw [hz] at hZ
  have hy : 1 - Q.y = 0 := by
    rcases K.zero_or hZ.symm with h | h
    · exact absurd h (K.mul_ne (s_ne K L.s2) hl)
    · exact h
  have hy1 : Q.y = 1 := by grind -lia
  have hon := Q.on
  unfold On at hon
  apply Pt.eq
  · rcases K.zero_or (flat_x hon (by rw [hy1]; grind)) with h | h
    · rcases K.zero_or h with h | h <;> exact h
    · exact absurd h (nsq_one L.hd)
  · exact hy1
end
end Go.Proofs.YtpcpcgfljffkeaaDoor
