/-
  Own text. What rounds of package chacha gives: ten times the eight quarter rounds.
-/
import Derived.Test.YtfgebcemdjplnaaB4
namespace Go.Proofs.Ytfgebcemdjplnaa
open Go.RowKit Go.Proofs
/-- Two rounds. -/
def dbl (s : Nat → Int) : Nat → Int :=
  qrow (qrow (qrow (qrow (qrow (qrow (qrow (qrow s 0 4 8 12) 1 5 9 13) 2 6 10 14) 3 7 11 15) 0 5 10 15) 1 6 11 12) 2 7 8 13) 3 4 9 14
def rnds (s : Nat → Int) : Nat → Nat → Int
  | 0 => s
  | k + 1 => dbl (rnds s k)
theorem dbl_w {s : Nat → Int} (h : ∀ i, i < 16 → W32 (s i)) : ∀ i, i < 16 → W32 (dbl s i) :=
  qrow_w (qrow_w (qrow_w (qrow_w (qrow_w (qrow_w (qrow_w (qrow_w h (by decide) (by decide) (by decide) (by decide)) (by decide) (by decide) (by decide) (by decide)) (by decide) (by decide) (by decide) (by decide)) (by decide) (by decide) (by decide) (by decide)) (by decide) (by decide) (by decide) (by decide)) (by decide) (by decide) (by decide) (by decide)) (by decide) (by decide) (by decide) (by decide)) (by decide) (by decide) (by decide) (by decide)
theorem rnds_w {s : Nat → Int} (h : ∀ i, i < 16 → W32 (s i)) : ∀ k i, i < 16 → W32 (rnds s k i)
  | 0 => h
  | k + 1 => dbl_w (rnds_w h k)
theorem run_load32 {w : World} {p : Addr} {n : Int} (h : w.cell? p = some (.int .u32 n)) : (Instr.loadAt 22 (.pointer (some p))).run Try.prog w = .ok (.int .u32 n) w := by
  simp [go_sem, h]
theorem ld_cell {ops : Array Oper} {rest : List Oper} {d : Option Tmp} {x : Operand} {t ty : TypeId} {ps : String} {af : Array Edge} {a : Act} {w : World} {Q : Exit → Act → World → Prop} {g n i : Nat} {s : Nat → Int}
    (hg : ArrAt w g .u32 ty n s) (hx : a.eval x = .pointer (some ⟨g, i, none⟩)) (hi : i < n) (h : wpList Try.prog ops Q rest (a.put d (.int .u32 (s i))) w) : wpList Try.prog ops Q ({ dst := d, op := .load 22 x, type := t, pos := ps, after := af, guard := none } :: rest) a w :=
  wl_value rfl (exec_ld rfl hx (run_load32 (hg.cell i hi))) h
theorem act_cell32 {o : Oper} {a : Act} {w : World} {K : Act → World → Prop} {Q : Exit → Act → World → Prop} {x y : Operand} (ho : o.op = .store 22 x y) {g n i : Nat} {ty : TypeId} {s : Nat → Int} {v : Int} (hx : a.eval x = .pointer (some ⟨g, i, none⟩)) (hy : a.eval y = .int .u32 v)
    (hg : ArrAt w g .u32 ty n s) (hi : i < n) (h : ∀ w', ArrAt w' g .u32 ty n (upd s i v) → Only g w w' → K (a.put o.dst undef) w') : o.wp Try.prog a w K Q := by
  have hc := hg.cell i hi
  have hf := hg.free i
  have h' := h _ (hg.set i v hi) only_set
  unfold Oper.wp execOp
  simp only [ho, hx, hy]
  simp [go_sem, hc, hf]
  exact h'
theorem st_cell {ops : Array Oper} {rest : List Oper} {d : Option Tmp} {x y : Operand} {t ty : TypeId} {ps : String} {af : Array Edge} {a : Act} {w : World} {Q : Exit → Act → World → Prop} {g n i : Nat} {s : Nat → Int} {v : Int}
    (hg : ArrAt w g .u32 ty n s) (hx : a.eval x = .pointer (some ⟨g, i, none⟩)) (hy : a.eval y = .int .u32 v) (hi : i < n) (h : ∀ w2, ArrAt w2 g .u32 ty n (upd s i v) → Only g w w2 → wpList Try.prog ops Q rest (a.put d undef) w2) :
    wpList Try.prog ops Q ({ dst := d, op := .store 22 x y, type := t, pos := ps, after := af, guard := none } :: rest) a w :=
  wl_act rfl (act_cell32 rfl hx hy hg hi h)
set_option maxHeartbeats 8000000 in
set_option maxRecDepth 100000 in
theorem rounds_run (s : Nat → Int) (w : World) (hs : ∀ i, i < 16 → W32 (s i)) :
    Calls Try.prog 27 #[.agg (WA .u32 16 s)] w fun e w' => e = .returned (.agg (WA .u32 16 (rnds s 10))) ∧ Below w.heap.size w w' := by
  go_enter Try.func27, Try.ntmps27
  go_wp2_with fail
  go_loopg [3] 10 (fun m i v => ∃ k : Nat, Hid (m + k = 10) ∧ i = .int .i64 k ∧ ArrAt v w.heap.size .u32 44 16 (rnds s k) ∧ ArrAt v (w.heap.size + 1) .u32 44 16 (fun _ => 0) ∧ Below w.heap.size w v)
  case atStart => exact ⟨0, Hid.mk rfl, rfl, heap_alloc2_old w _ _, heap_alloc2_new w _ _, ((Below.refl _ w).alloc (by simp) _).alloc (by simp) _⟩
  case round =>
    obtain ⟨k, HK, rfl, g, g1, hB⟩ := hrel
    have hk10 : k ≤ 10 := by have := HK.out; omega
    by_cases hlt : k < 10
    · have HN : Hid (dbl (rnds s k) = rnds s (k + 1)) := Hid.mk rfl
      have W0 := rnds_w hs k
      generalize rnds s k = s0 at *
      unfold dbl at HN
      go_wp2_with (first | (refine ld_cell g (by rfl) (by decide) ?_))
      refine (quarter_run (s0 0) (s0 4) (s0 8) (s0 12) _ (W0 0 (by decide)) (W0 4 (by decide)) (W0 8 (by decide)) (W0 12 (by decide))).mono ?_
      rintro e vq ⟨rfl, rfl⟩
      go_wp2_with (first | (refine st_cell (i := 12) g (by rfl) (by rfl) (by decide) ?_; clear g; intro v2 g o2; replace g1 := g1.only o2 (by omega); replace hB := hB.trans (o2.below (Nat.le_refl _)); clear o2; refine Hid.out ?_) | (refine st_cell g (by rfl) (by rfl) (by decide) ?_; clear g; intro v2 g o2; replace g1 := g1.only o2 (by omega); replace hB := hB.trans (o2.below (Nat.le_refl _)); clear o2))
      replace g : ArrAt v2 w.heap.size .u32 44 16 (qrow s0 0 4 8 12) := g
      have W1 := qrow_w (a := 0) (b := 4) (c := 8) (d := 12) W0 (by decide) (by decide) (by decide) (by decide)
      generalize qrow s0 0 4 8 12 = s1 at *
      clear W0
      refine Hid.mk ?_
      go_wp2_with (first | (refine ld_cell g (by rfl) (by decide) ?_))
      refine (quarter_run (s1 1) (s1 5) (s1 9) (s1 13) _ (W1 1 (by decide)) (W1 5 (by decide)) (W1 9 (by decide)) (W1 13 (by decide))).mono ?_
      rintro e vq ⟨rfl, rfl⟩
      go_wp2_with (first | (refine st_cell (i := 13) g (by rfl) (by rfl) (by decide) ?_; clear g; intro v2 g o2; replace g1 := g1.only o2 (by omega); replace hB := hB.trans (o2.below (Nat.le_refl _)); clear o2; refine Hid.out ?_) | (refine st_cell g (by rfl) (by rfl) (by decide) ?_; clear g; intro v2 g o2; replace g1 := g1.only o2 (by omega); replace hB := hB.trans (o2.below (Nat.le_refl _)); clear o2))
      replace g : ArrAt v2 w.heap.size .u32 44 16 (qrow s1 1 5 9 13) := g
      have W2 := qrow_w (a := 1) (b := 5) (c := 9) (d := 13) W1 (by decide) (by decide) (by decide) (by decide)
      generalize qrow s1 1 5 9 13 = s2 at *
      clear W1
      refine Hid.mk ?_
      go_wp2_with (first | (refine ld_cell g (by rfl) (by decide) ?_))
      refine (quarter_run (s2 2) (s2 6) (s2 10) (s2 14) _ (W2 2 (by decide)) (W2 6 (by decide)) (W2 10 (by decide)) (W2 14 (by decide))).mono ?_
      rintro e vq ⟨rfl, rfl⟩
      go_wp2_with (first | (refine st_cell (i := 14) g (by rfl) (by rfl) (by decide) ?_; clear g; intro v2 g o2; replace g1 := g1.only o2 (by omega); replace hB := hB.trans (o2.below (Nat.le_refl _)); clear o2; refine Hid.out ?_) | (refine st_cell g (by rfl) (by rfl) (by decide) ?_; clear g; intro v2 g o2; replace g1 := g1.only o2 (by omega); replace hB := hB.trans (o2.below (Nat.le_refl _)); clear o2))
      replace g : ArrAt v2 w.heap.size .u32 44 16 (qrow s2 2 6 10 14) := g
      have W3 := qrow_w (a := 2) (b := 6) (c := 10) (d := 14) W2 (by decide) (by decide) (by decide) (by decide)
      generalize qrow s2 2 6 10 14 = s3 at *
      clear W2
      refine Hid.mk ?_
      go_wp2_with (first | (refine ld_cell g (by rfl) (by decide) ?_))
      refine (quarter_run (s3 3) (s3 7) (s3 11) (s3 15) _ (W3 3 (by decide)) (W3 7 (by decide)) (W3 11 (by decide)) (W3 15 (by decide))).mono ?_
      rintro e vq ⟨rfl, rfl⟩
      go_wp2_with (first | (refine st_cell (i := 15) g (by rfl) (by rfl) (by decide) ?_; clear g; intro v2 g o2; replace g1 := g1.only o2 (by omega); replace hB := hB.trans (o2.below (Nat.le_refl _)); clear o2; refine Hid.out ?_) | (refine st_cell g (by rfl) (by rfl) (by decide) ?_; clear g; intro v2 g o2; replace g1 := g1.only o2 (by omega); replace hB := hB.trans (o2.below (Nat.le_refl _)); clear o2))
      replace g : ArrAt v2 w.heap.size .u32 44 16 (qrow s3 3 7 11 15) := g
      have W4 := qrow_w (a := 3) (b := 7) (c := 11) (d := 15) W3 (by decide) (by decide) (by decide) (by decide)
      generalize qrow s3 3 7 11 15 = s4 at *
      clear W3
      refine Hid.mk ?_
      go_wp2_with (first | (refine ld_cell g (by rfl) (by decide) ?_))
      refine (quarter_run (s4 0) (s4 5) (s4 10) (s4 15) _ (W4 0 (by decide)) (W4 5 (by decide)) (W4 10 (by decide)) (W4 15 (by decide))).mono ?_
      rintro e vq ⟨rfl, rfl⟩
      go_wp2_with (first | (refine st_cell (i := 15) g (by rfl) (by rfl) (by decide) ?_; clear g; intro v2 g o2; replace g1 := g1.only o2 (by omega); replace hB := hB.trans (o2.below (Nat.le_refl _)); clear o2; refine Hid.out ?_) | (refine st_cell g (by rfl) (by rfl) (by decide) ?_; clear g; intro v2 g o2; replace g1 := g1.only o2 (by omega); replace hB := hB.trans (o2.below (Nat.le_refl _)); clear o2))
      replace g : ArrAt v2 w.heap.size .u32 44 16 (qrow s4 0 5 10 15) := g
      have W5 := qrow_w (a := 0) (b := 5) (c := 10) (d := 15) W4 (by decide) (by decide) (by decide) (by decide)
      generalize qrow s4 0 5 10 15 = s5 at *
      clear W4
      refine Hid.mk ?_
      go_wp2_with (first | (refine ld_cell g (by rfl) (by decide) ?_))
      refine (quarter_run (s5 1) (s5 6) (s5 11) (s5 12) _ (W5 1 (by decide)) (W5 6 (by decide)) (W5 11 (by decide)) (W5 12 (by decide))).mono ?_
      rintro e vq ⟨rfl, rfl⟩
      go_wp2_with (first | (refine st_cell (i := 12) g (by rfl) (by rfl) (by decide) ?_; clear g; intro v2 g o2; replace g1 := g1.only o2 (by omega); replace hB := hB.trans (o2.below (Nat.le_refl _)); clear o2; refine Hid.out ?_) | (refine st_cell g (by rfl) (by rfl) (by decide) ?_; clear g; intro v2 g o2; replace g1 := g1.only o2 (by omega); replace hB := hB.trans (o2.below (Nat.le_refl _)); clear o2))
      replace g : ArrAt v2 w.heap.size .u32 44 16 (qrow s5 1 6 11 12) := g
      have W6 := qrow_w (a := 1) (b := 6) (c := 11) (d := 12) W5 (by decide) (by decide) (by decide) (by decide)
      generalize qrow s5 1 6 11 12 = s6 at *
      clear W5
      refine Hid.mk ?_
      go_wp2_with (first | (refine ld_cell g (by rfl) (by decide) ?_))
      refine (quarter_run (s6 2) (s6 7) (s6 8) (s6 13) _ (W6 2 (by decide)) (W6 7 (by decide)) (W6 8 (by decide)) (W6 13 (by decide))).mono ?_
      rintro e vq ⟨rfl, rfl⟩
      go_wp2_with (first | (refine st_cell (i := 13) g (by rfl) (by rfl) (by decide) ?_; clear g; intro v2 g o2; replace g1 := g1.only o2 (by omega); replace hB := hB.trans (o2.below (Nat.le_refl _)); clear o2; refine Hid.out ?_) | (refine st_cell g (by rfl) (by rfl) (by decide) ?_; clear g; intro v2 g o2; replace g1 := g1.only o2 (by omega); replace hB := hB.trans (o2.below (Nat.le_refl _)); clear o2))
      replace g : ArrAt v2 w.heap.size .u32 44 16 (qrow s6 2 7 8 13) := g
      have W7 := qrow_w (a := 2) (b := 7) (c := 8) (d := 13) W6 (by decide) (by decide) (by decide) (by decide)
      generalize qrow s6 2 7 8 13 = s7 at *
      clear W6
      refine Hid.mk ?_
      go_wp2_with (first | (refine ld_cell g (by rfl) (by decide) ?_))
      refine (quarter_run (s7 3) (s7 4) (s7 9) (s7 14) _ (W7 3 (by decide)) (W7 4 (by decide)) (W7 9 (by decide)) (W7 14 (by decide))).mono ?_
      rintro e vq ⟨rfl, rfl⟩
      go_wp2_with (first | (refine st_cell (i := 14) g (by rfl) (by rfl) (by decide) ?_; clear g; intro v2 g o2; replace g1 := g1.only o2 (by omega); replace hB := hB.trans (o2.below (Nat.le_refl _)); clear o2; refine Hid.out ?_) | (refine st_cell g (by rfl) (by rfl) (by decide) ?_; clear g; intro v2 g o2; replace g1 := g1.only o2 (by omega); replace hB := hB.trans (o2.below (Nat.le_refl _)); clear o2))
      replace g : ArrAt v2 w.heap.size .u32 44 16 (qrow s7 3 4 9 14) := g
      have W8 := qrow_w (a := 3) (b := 4) (c := 9) (d := 14) W7 (by decide) (by decide) (by decide) (by decide)
      rw [HN.out] at g
      refine Hid.mk ?_
      go_wp2_with fail
      go_roundg (10 - (k + 1))
      case rel => exact ⟨k + 1, Hid.mk (by omega), by go_num, g, g1, hB⟩
      case measure => have := HK.out; omega
    · have hk2 : k = 10 := by omega
      subst hk2
      clear hlt hk10 HK
      go_wp2_with (first | (refine ld_arr isSq g (by rfl) ?_) | (refine st_arr isSq g1 (by rfl) (by rfl) ?_; intro v4 g4 o4))
      exact bodyPost_ret (v := .agg (WA .u32 16 (rnds s 10))) (res_arr rfl isSq g4 rfl) rfl ⟨rfl, hB.trans (o4.below (by omega))⟩
end Go.Proofs.Ytfgebcemdjplnaa
