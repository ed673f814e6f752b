/-
  Own text. What least of package poly answers: a contract over the translation.
-/
import Derived.Test.YtfbeclleeehaaaaN2
namespace Go.Proofs.Ytfbeclleeehaaaa
open Go.RowKit Go.Proofs
set_option maxHeartbeats 8000000 in
theorem pleast_run (x : Nat → Int) (w : World) (hx : Sm x) :
    Calls Try.prog 25 #[.agg (WA .u64 5 x)] w fun e w' => ∃ z, Dg 67108864 5 z ∧ qv z 5 = qv x 5 % P130 ∧ e = .returned (.agg (WA .u64 5 z)) ∧ Below w.heap.size w w' := by
  have g0 : ArrAt ((w.alloc (.cells (WA .u64 5 x) 40)).alloc (.cells (WA .u64 5 fun _ => 0) 40)) w.heap.size .u64 40 5 x := heap_alloc2_old w _ _
  have g1 : ArrAt ((w.alloc (.cells (WA .u64 5 x) 40)).alloc (.cells (WA .u64 5 fun _ => 0) 40)) (w.heap.size + 1) .u64 40 5 (fun _ => 0) := heap_alloc2_new w _ _
  have hB : Below w.heap.size w ((w.alloc (.cells (WA .u64 5 x) 40)).alloc (.cells (WA .u64 5 fun _ => 0) 40)) := ((Below.refl _ w).alloc (by simp) _).alloc (by simp) _
  obtain ⟨x1, h1⟩ : ∃ x1, x1 = upd (cd x) 0 (cd x 0 + 5 * cc x 5) := ⟨_, rfl⟩
  obtain ⟨rc, hr⟩ : ∃ rc, rc = upd (cd x1) 0 (cd x1 0 + 5) := ⟨_, rfl⟩
  obtain ⟨x3, h3⟩ : ∃ x3, x3 = upd (cd x1) 0 (cd x1 0 + 5 * cc rc 5) := ⟨_, rfl⟩
  have HN := Hid.mk (least_num hx h1 hr h3)
  have dx : Dg 9223372036854775808 5 x := fun i hi => by have := hx.dg i hi; omega
  have hcx := cc_b dx 5 (Nat.le_refl _)
  have hd := cd_b x 0
  have d1 : Dg 9223372036854775808 5 x1 := by rw [h1]; exact cd0_dg (by omega) (by omega)
  have hd1 := cd_b x1 0
  have dr : Dg 9223372036854775808 5 rc := by rw [hr]; exact cd0_dg (by omega) (by omega)
  have hcr := cc_b dr 5 (Nat.le_refl _)
  have d3 : Dg 9223372036854775808 5 x3 := by rw [h3]; exact cd0_dg (by omega) (by omega)
  have hw1 := w64 (z := 5 * cc x 5) (by omega) (by omega)
  have hw2 := w64 (z := cd x 0 + 5 * cc x 5) (by omega) (by omega)
  have hw3 := w64 (z := cd x1 0 + 5) (by omega) (by omega)
  have hw4 := w64 (z := 5 * cc rc 5) (by omega) (by omega)
  have hw5 := w64 (z := cd x1 0 + 5 * cc rc 5) (by omega) (by omega)
  have HD := Hid.mk (And.intro dx (And.intro d1 (And.intro dr d3)))
  have H1 := Hid.mk h1
  have HR := Hid.mk hr
  have H3 := Hid.mk h3
  clear dx d1 dr d3 hd hd1 hcx hcr h1 hr h3 hx
  go_enter Try.func25, Try.ntmps25
  go_wp2_with (refine ld_arr isL g0 (by rfl) ?_)
  refine (pcarried_run x _ HD.out.1).mono ?_
  rintro e v1 ⟨rfl, hb⟩
  replace g0 := g0.kept hb
  replace g1 := g1.kept hb
  replace hB := hB.trans (hb.mono hB.size)
  clear hb
  go_wp2_with (refine st_arr isL g0 (by rfl) (by rfl) ?_; intro v2 g2 o2; refine Hid.out ?_)
  replace g0 := g2
  replace g1 := g1.only o2 (by omega)
  replace hB := hB.trans (o2.below (Nat.le_refl _))
  clear o2 g2
  have c0 := g0.cell 0 (by decide)
  have f0 := g0.free 0
  replace g0 := g0.set 0 (cd x 0 + 5 * cc x 5) (by decide)
  rw [← H1.out] at g0
  replace g1 := g1.other (g := w.heap.size) (i := 0) (.int .u64 (cd x 0 + 5 * cc x 5)) (by omega)
  replace hB := Below.setCell (p := ⟨w.heap.size, 0, none⟩) hB (by simp) (.int .u64 (cd x 0 + 5 * cc x 5))
  refine Hid.mk ?_
  go_wp2_with (refine ld_arr isL g0 (by rfl) ?_)
  refine (pcarried_run x1 _ HD.out.2.1).mono ?_
  rintro e v3 ⟨rfl, hb⟩
  clear c0 f0
  replace g0 := g0.kept hb
  replace g1 := g1.kept hb
  replace hB := hB.trans (hb.mono hB.size)
  clear hb
  go_wp2_with (refine st_arr isL g0 (by rfl) (by rfl) ?_; intro v4 g2 o2; refine Hid.out ?_)
  replace g0 := g2
  replace g1 := g1.only o2 (by omega)
  replace hB := hB.trans (o2.below (Nat.le_refl _))
  clear o2 g2
  have gn : ∀ o, o = Obj.cells (WA .u64 5 fun _ => 0) 40 (0, 0) → ArrAt (v4.alloc o) v4.heap.size .u64 40 5 (fun _ => 0) := fun o ho => by rw [ho]; exact heap_alloc_new v4 _
  have hz := g1.lt
  refine Hid.mk ?_
  go_wp2_with (first | refine ld_arr isL g0 (by rfl) ?_ | (refine st_arr isL (gn _ rfl) (by rfl) (by rfl) ?_; intro v5 g2 o2; refine Hid.out ?_))
  replace g0 := (g0.alloc _).only o2 (by omega)
  replace g1 := (g1.alloc _).only o2 (by omega)
  have hz2 := hB.size
  replace hB := (hB.alloc (by omega) _).trans (o2.below (by omega))
  clear o2
  clear gn
  have c0 := g2.cell 0 (by decide)
  have f0 := g2.free 0
  replace g2 := g2.set 0 (cd x1 0 + 5) (by decide)
  rw [← HR.out] at g2
  replace g0 := g0.other (g := v4.heap.size) (i := 0) (.int .u64 (cd x1 0 + 5)) (by omega)
  replace g1 := g1.other (g := v4.heap.size) (i := 0) (.int .u64 (cd x1 0 + 5)) (by omega)
  replace hB := Below.setCell (p := ⟨v4.heap.size, 0, none⟩) hB (by simp; omega) (.int .u64 (cd x1 0 + 5))
  refine Hid.mk ?_
  go_wp2_with (refine ld_arr isL g2 (by rfl) ?_)
  refine (pcarried_run rc _ HD.out.2.2.1).mono ?_
  rintro e v6 ⟨rfl, hb⟩
  clear c0 f0 g2
  replace g0 := g0.kept hb
  replace g1 := g1.kept hb
  replace hB := hB.trans (hb.mono hB.size)
  clear hb
  have c0 := g0.cell 0 (by decide)
  have f0 := g0.free 0
  replace g0 := g0.set 0 (cd x1 0 + 5 * cc rc 5) (by decide)
  rw [← H3.out] at g0
  replace g1 := g1.other (g := w.heap.size) (i := 0) (.int .u64 (cd x1 0 + 5 * cc rc 5)) (by omega)
  replace hB := Below.setCell (p := ⟨w.heap.size, 0, none⟩) hB (by simp) (.int .u64 (cd x1 0 + 5 * cc rc 5))
  go_wp2_with (refine ld_arr isL g0 (by rfl) ?_)
  refine (pcarried_run x3 _ HD.out.2.2.2).mono ?_
  rintro e v7 ⟨rfl, hb⟩
  clear c0 f0
  replace g0 := g0.kept hb
  replace g1 := g1.kept hb
  replace hB := hB.trans (hb.mono hB.size)
  clear hb
  go_wp2_with (refine st_arr isL g0 (by rfl) (by rfl) ?_; intro v8 g2 o2; refine Hid.out ?_)
  replace g0 := g2
  replace g1 := g1.only o2 (by omega)
  replace hB := hB.trans (o2.below (Nat.le_refl _))
  clear o2 g2
  refine Hid.mk ?_
  go_wp2_with (first | refine ld_arr isL g0 (by rfl) ?_ | (refine st_arr isL g1 (by rfl) (by rfl) ?_; intro v9 g2 o2; refine Hid.out ?_))
  refine Hid.mk ?_
  go_wp2_with fail
  exact bodyPost_ret (v := .agg (WA .u64 5 (cd x3))) (res_arr Try.results25 isL g2 (by rfl)) rfl ⟨cd x3, fun i _ => cd_b x3 i, HN.out, rfl, hB.trans (o2.below (by omega))⟩
end Go.Proofs.Ytfbeclleeehaaaa
