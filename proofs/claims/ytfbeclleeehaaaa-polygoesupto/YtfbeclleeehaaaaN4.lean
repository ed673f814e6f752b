/-
  Own text. What times of package poly answers: a contract over the translation.
-/
import Derived.Test.YtfbeclleeehaaaaN2
namespace Go.Proofs.Ytfbeclleeehaaaa
open Go.RowKit Go.Proofs
/-- A product of digits, as it comes together. -/
structure Wide (x y : Nat → Int) (i j : Nat) (z : Nat → Int) : Prop where
  b : ∀ k, k < 10 → 0 ≤ z k ∧ z k ≤ ((5 * i + j : Nat) : Int) * 18014398509481984
  num : qv z 10 = qv x i * qv y 5 + 67108864 ^ i * (x i * qv y j)
theorem Wide.step {x y : Nat → Int} {i j : Nat} {z : Nat → Int} (h : Wide x y i j z) (hx : Dg 268435456 5 x) (hy : Dg 67108864 5 y) (hi : i < 5) (hj : j < 5) : Wide x y i (j + 1) (upd z (i + j) (z (i + j) + x i * y j)) ∧ 0 ≤ x i * y j ∧ x i * y j ≤ 18014398509481984 := by
  have h1 := hx i hi
  have h2 := hy j hj
  have p0 : 0 ≤ x i * y j := Int.mul_nonneg h1.1 h2.1
  have p1 : x i * y j ≤ 268435456 * 67108864 := Int.mul_le_mul (by omega) (by omega) h2.1 (by omega)
  refine ⟨⟨fun k hk => ?_, qprod_step z x y _ i j (by omega) h.num⟩, p0, by omega⟩
  have hb := h.b k hk
  unfold upd
  split
  · rename_i e; subst e; omega
  · omega
theorem Wide.row {x y : Nat → Int} {i : Nat} {z : Nat → Int} (h : Wide x y i 5 z) : Wide x y (i + 1) 0 z := by
  refine ⟨fun k hk => ?_, ?_⟩
  · have := h.b k hk; omega
  · rw [h.num, qprod_row]; simp [qv]
theorem wide_z (w : World) : (zeroValue 59).run Try.prog w = .ok (.agg (WA .u64 10 fun _ => 0)) w := by kernel_rfl
set_option maxHeartbeats 8000000 in
theorem ptimes_run (x y : Nat → Int) (w : World) (hx : Dg 268435456 5 x) (hy : Dg 67108864 5 y) :
    Calls Try.prog 22 #[.agg (WA .u64 5 x), .agg (WA .u64 5 y)] w fun e w' => ∃ z, Sm z ∧ (∃ q, qv x 5 * qv y 5 = qv z 5 + P130 * q) ∧ e = .returned (.agg (WA .u64 5 z)) ∧ Below w.heap.size w w' := by
  have g0 : ArrAt ((((w.alloc (.cells (WA .u64 5 x) 40)).alloc (.cells (WA .u64 5 y) 40)).alloc (.cells (WA .u64 5 fun _ => 0) 40)).alloc (.cells (WA .u64 10 fun _ => 0) 59)) w.heap.size .u64 40 5 x := (show ArrAt (((w.alloc (.cells (WA .u64 5 x) 40)).alloc (.cells (WA .u64 5 y) 40)).alloc (.cells (WA .u64 5 fun _ => 0) 40)) w.heap.size .u64 40 5 x from heap_a31 w _ _ _).alloc _
  have g1 : ArrAt ((((w.alloc (.cells (WA .u64 5 x) 40)).alloc (.cells (WA .u64 5 y) 40)).alloc (.cells (WA .u64 5 fun _ => 0) 40)).alloc (.cells (WA .u64 10 fun _ => 0) 59)) (w.heap.size + 1) .u64 40 5 y := (show ArrAt (((w.alloc (.cells (WA .u64 5 x) 40)).alloc (.cells (WA .u64 5 y) 40)).alloc (.cells (WA .u64 5 fun _ => 0) 40)) (w.heap.size + 1) .u64 40 5 y from heap_a32 w _ _ _).alloc _
  have g2 : ArrAt ((((w.alloc (.cells (WA .u64 5 x) 40)).alloc (.cells (WA .u64 5 y) 40)).alloc (.cells (WA .u64 5 fun _ => 0) 40)).alloc (.cells (WA .u64 10 fun _ => 0) 59)) (w.heap.size + 1 + 1) .u64 40 5 (fun _ => 0) := (show ArrAt (((w.alloc (.cells (WA .u64 5 x) 40)).alloc (.cells (WA .u64 5 y) 40)).alloc (.cells (WA .u64 5 fun _ => 0) 40)) (w.heap.size + 1 + 1) .u64 40 5 (fun _ => 0) from heap_a3 w _ _ _).alloc _
  have g3 : ArrAt ((((w.alloc (.cells (WA .u64 5 x) 40)).alloc (.cells (WA .u64 5 y) 40)).alloc (.cells (WA .u64 5 fun _ => 0) 40)).alloc (.cells (WA .u64 10 fun _ => 0) 59)) (w.heap.size + 1 + 1 + 1) .u64 59 10 (fun _ => 0) := heap_a4 w _ _ _ _
  have hB : Below w.heap.size w ((((w.alloc (.cells (WA .u64 5 x) 40)).alloc (.cells (WA .u64 5 y) 40)).alloc (.cells (WA .u64 5 fun _ => 0) 40)).alloc (.cells (WA .u64 10 fun _ => 0) 59)) := ((((Below.refl _ w).alloc (by simp) _).alloc (by simp) _).alloc (by simp; omega) _).alloc (by simp; omega) _
  have HX := Hid.mk hx
  have HY := Hid.mk hy
  clear hx hy
  go_enter Try.func22, Try.ntmps22
  go_wp2_with fail
  go_loopg [11] 5 (fun gm iv v => ∃ (i : Nat) (z : Nat → Int), Hid (gm + i = 5) ∧ iv = .int .i64 (i : Int) ∧ Hid (Wide x y i 0 z) ∧ ArrAt v (w.heap.size + 1 + 1 + 1) .u64 59 10 z ∧ ArrAt v w.heap.size .u64 40 5 x ∧ ArrAt v (w.heap.size + 1) .u64 40 5 y ∧ ArrAt v (w.heap.size + 1 + 1) .u64 40 5 (fun _ => 0) ∧ Below w.heap.size w v)
  case atStart => exact ⟨0, fun _ => 0, Hid.mk rfl, rfl, Hid.mk ⟨fun k _ => by show 0 ≤ (0 : Int) ∧ (0 : Int) ≤ _; omega, by simp [qv]⟩, g3, g0, g1, g2, hB⟩
  case round =>
    clear g0 g1 g2 g3 hB
    obtain ⟨i, z, HI, rfl, HW, g3, g0, g1, g2, hB⟩ := hrel
    have hi5 : i ≤ 5 := by have := HI.out; omega
    by_cases hil : i < 5
    · have hdi : decide ((i : Int) < 5) = true := decide_eq_true (by omega)
      go_wp2_with fail
      generalize wr = wy at *
      generalize gk = gy at *
      go_loopg [14] 5 (fun gm jv v => ∃ (j : Nat) (z : Nat → Int), Hid (gm + j = 5) ∧ jv = .int .i64 (j : Int) ∧ Hid (Wide x y i j z) ∧ ArrAt v (w.heap.size + 1 + 1 + 1) .u64 59 10 z ∧ ArrAt v w.heap.size .u64 40 5 x ∧ ArrAt v (w.heap.size + 1) .u64 40 5 y ∧ ArrAt v (w.heap.size + 1 + 1) .u64 40 5 (fun _ => 0) ∧ Below w.heap.size w v)
      case atStart => exact ⟨0, z, Hid.mk rfl, rfl, HW, g3, g0, g1, g2, hB⟩
      case round =>
        clear g0 g1 g2 g3 hB HW
        obtain ⟨j, z, HJ, rfl, HW, g3, g0, g1, g2, hB⟩ := hrel
        have hj5 : j ≤ 5 := by have := HJ.out; omega
        by_cases hjl : j < 5
        · have cz := g3.cell (i + j) (by omega)
          have fz := g3.free (i + j)
          have cx := g0.cell i hil
          have cy := g1.cell j hjl
          obtain ⟨hst, hp0, hp1⟩ := HW.out.step HX.out HY.out hil hjl
          have HST := Hid.mk hst
          clear hst
          have hzb := HW.out.b (i + j) (by omega)
          have g32 := Hid.mk (g3.set (i + j) (z (i + j) + x i * y j) (by omega))
          obtain ⟨pr, hpr2⟩ : ∃ pr, x i * y j = pr := ⟨_, rfl⟩
          rw [hpr2] at HST hp0 hp1 g32
          generalize hx1 : z (i + j) = x1 at *
          generalize hx2 : x i = x2 at *
          generalize hx3 : y j = x3 at *
          have hw1 := w64 (z := pr) (by omega) (by omega)
          have hw2 := w64 (z := x1 + pr) (by omega) (by omega)
          have hijb : (i : Int) + (j : Int) < 10 := by omega
          clear hzb
          go_wp2_with fail
          go_region
          go_wp2_with fail
          go_roundg (5 - (j + 1))
          case rel => exact ⟨j + 1, _, Hid.mk (by omega), by go_num, HST, g32.out, g0.other _ (by omega), g1.other _ (by omega), g2.other _ (by omega), (Below.setCell hB (p := ⟨w.heap.size + 1 + 1 + 1, i + j, none⟩) (by simp; omega) _).drew⟩
          case measure => have := HJ.out; omega
        · have hj2 : j = 5 := by omega
          subst hj2
          have HW2 := Hid.mk HW.out.row
          clear HW HJ hjl hj5
          go_wp2_with fail
          go_roundg (5 - (i + 1))
          case rel => exact ⟨i + 1, z, Hid.mk (by omega), by go_num, HW2, g3, g0, g1, g2, hB⟩
          case measure => have := HI.out; omega
    · have hi2 : i = 5 := by omega
      subst hi2
      have HZB : Hid (∀ k, k < 10 → 0 ≤ z k ∧ z k ≤ 450359962737049600) := Hid.mk (fun k hk => by have := HW.out.b k hk; omega)
      have HN : Hid (qv x 5 * qv y 5 = qv z 10) := Hid.mk (by rw [HW.out.num]; simp [qv])
      clear HW HI hil hi5
      have gn : ∀ o, o = Obj.cells (WA .u64 5 fun _ => 0) 40 (0, 0) → ArrAt (wr.alloc o) wr.heap.size .u64 40 5 (fun _ => 0) := fun o ho => by rw [ho]; exact heap_alloc_new wr _
      have hz3 := g3.lt
      have hBS := hB.size
      generalize gk = gz at *
      generalize wr = wz at *
      go_wp2_with fail
      go_loopg [33] 5 (fun gm iv v => ∃ i : Nat, Hid (gm + i = 5) ∧ iv = .int .i64 (i : Int) ∧ ArrAt v wz.heap.size .u64 40 5 (fold5 z i) ∧ ArrAt v (w.heap.size + 1 + 1 + 1) .u64 59 10 z ∧ ArrAt v (w.heap.size + 1 + 1) .u64 40 5 (fun _ => 0) ∧ Below w.heap.size w v)
      case atStart => exact ⟨0, Hid.mk rfl, rfl, (gn _ rfl).congr (fun j _ => by unfold fold5; rw [if_neg (by omega)]), g3.alloc _, g2.alloc _, hB.alloc (by omega) _⟩
      case round =>
        clear g0 g1 g2 g3 hB gn
        obtain ⟨i, HI, rfl, g4, g3, g2, hB⟩ := hrel
        have hi5 : i ≤ 5 := by have := HI.out; omega
        by_cases hil : i < 5
        · have c0 := g3.cell i (by omega)
          have c5 := g3.cell (i + 5) (by omega)
          have c4 := g4.cell i hil
          have f4 := g4.free i
          have hb0 := HZB.out i (by omega)
          have hb5 := HZB.out (i + 5) (by omega)
          have g42 := Hid.mk (g4.set i (z i + 5 * z (i + 5)) hil)
          rw [fold5_step] at g42
          have hi10 : (i : Int) + 5 < 10 := by omega
          have hi10' : (i : Int) < 10 := by omega
          generalize hx1 : z i = x1 at *
          generalize hx2 : z (i + 5) = x2 at *
          have hw1 := w64 (z := 5 * x2) (by omega) (by omega)
          have hw2 := w64 (z := x1 + 5 * x2) (by omega) (by omega)
          go_wp2_with fail
          go_region
          go_wp2_with fail
          go_roundg (5 - (i + 1))
          case rel => exact ⟨i + 1, Hid.mk (by omega), by go_num, g42.out, g3.other _ (by omega), g2.other _ (by omega), (Below.setCell hB (p := ⟨wz.heap.size, i, none⟩) (by simp; omega) _).drew⟩
          case measure => have := HI.out; omega
        · have hi2 : i = 5 := by omega
          subst hi2
          have HF : Hid (Dg 9223372036854775808 5 (fold5 z 5)) := Hid.mk (fun k hk => by
            have h1 := HZB.out k (by omega)
            have h2 := HZB.out (k + 5) (by omega)
            unfold fold5
            rw [if_pos hk]
            omega)
          have HQ := Hid.mk (And.intro (fold5_num z) (back5_num (x := fold5 z 5)))
          generalize fold5 z 5 = f at *
          clear HI hil hi5
          go_wp2_with (refine ld_arr isL g4 (by rfl) ?_)
          refine (pcarried_run f wr HF.out).mono ?_
          rintro e v5 ⟨rfl, hb5⟩
          have hz4 := g4.lt
          replace g4 := g4.kept hb5
          replace g2 := g2.kept hb5
          replace hB := hB.trans (hb5.mono hB.size)
          clear g3 hb5
          go_wp2_with (refine st_arr isL g4 (by rfl) (by rfl) ?_; intro w6 g5 o5; refine Hid.out ?_)
          replace g2 := g2.only o5 (by omega)
          replace hB := hB.trans (o5.below (by omega))
          clear o5 g4
          have hc := cc_b HF.out 5 (Nat.le_refl _)
          have h0 := cd_b f 0
          have h1 := cd_b f 1
          have c0 := g5.cell 0 (by decide)
          have c1 := g5.cell 1 (by decide)
          have f0 := g5.free 0
          have f1 := g5.free 1
          have gF := (((g5.set 0 (cd f 0 + 5 * cc f 5) (by decide)).set 1 (cd f 1 + (cd f 0 + 5 * cc f 5) / 67108864) (by decide)).set 0 ((cd f 0 + 5 * cc f 5) % 67108864) (by decide)).congr (s' := back5 f) (fun i _ => back5_upd f i)
          have hBF := Below.setCell (p := ⟨wz.heap.size, 0, none⟩) (Below.setCell (p := ⟨wz.heap.size, 1, none⟩) (Below.setCell (p := ⟨wz.heap.size, 0, none⟩) hB (by simp; omega) (.int .u64 (cd f 0 + 5 * cc f 5))) (by simp; omega) (.int .u64 (cd f 1 + (cd f 0 + 5 * cc f 5) / 67108864))) (by simp; omega) (.int .u64 ((cd f 0 + 5 * cc f 5) % 67108864))
          have gR := ((g2.other (g := wz.heap.size) (i := 0) (.int .u64 (cd f 0 + 5 * cc f 5)) (by omega)).other (g := wz.heap.size) (i := 1) (.int .u64 (cd f 1 + (cd f 0 + 5 * cc f 5) / 67108864)) (by omega)).other (g := wz.heap.size) (i := 0) (.int .u64 ((cd f 0 + 5 * cc f 5) % 67108864)) (by omega)
          have hF := back5_sm HF.out
          clear g2 hB g5
          generalize cd f 0 = d0 at *
          generalize cd f 1 = d1 at *
          generalize cc f 5 = c5 at *
          have hw1 := w64 (z := 5 * c5) (by omega) (by omega)
          have hw2 := w64 (z := d0 + 5 * c5) (by omega) (by omega)
          have hw3 := w64 (z := d1 + (d0 + 5 * c5) / 67108864) (by omega) (by omega)
          have ha := and26 (z := d0 + 5 * c5) (by omega) (by omega)
          refine Hid.mk ?_
          go_wp2_with (first | refine ld_arr isL gF (by rfl) ?_ | (refine st_arr isL gR (by rfl) (by rfl) ?_; intro w7 g7 o7; refine Hid.out ?_))
          refine Hid.mk ?_
          go_wp2_with fail
          refine bodyPost_ret (v := .agg (WA .u64 5 (back5 f))) (res_arr Try.results22 isL g7 (by rfl)) rfl ⟨back5 f, hF, ?_, rfl, hBF.trans (o7.below (by omega))⟩
          obtain ⟨q, hq⟩ := HQ.out.2
          refine ⟨q + qv (fun j => z (5 + j)) 5, ?_⟩
          rw [HN.out, HQ.out.1, hq, Int.mul_add]
          omega
end Go.Proofs.Ytfbeclleeehaaaa
