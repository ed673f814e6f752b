/-
  Own text. The walk of rest of the document's answer for poly.
-/
import Derived.Test.YtfbeclleeehaaaaP3
namespace Go.Proofs.Ytfbeclleeehaaaa
open Go.RowKit Go.Proofs
theorem some_step (hd : Nat → Int) (j : Nat) (h : ∀ j, 0 ≤ hd j ∧ hd j < 256) : decide (0 < dval hd (j + 1)) = (decide (0 < dval hd j) || decide (0 < hd j)) := by
  have h0 := dval_nonneg (s := hd) (n := j) (fun i _ => (h i).1)
  have h1 := (h j).1
  have hp := p256 j
  show decide (0 < dval hd j + 256 ^ j * hd j) = _
  rcases Int.lt_or_le 0 (hd j) with hj | hj
  · have h2 : (0 : Int) < 256 ^ j * hd j := Int.mul_pos hp hj
    rw [decide_eq_true (by omega), decide_eq_true hj]
    simp
  · rw [show hd j = 0 by omega]
    simp
/-- A slice of m digits, a row of one's own. -/
def DigS (w : World) (B g c m : Nat) (e : Nat → Int) : Prop := w.ownsRow B 3 1 (.slice (some ⟨g, 0, none⟩) m c) m (nums .i64 m e)
theorem DigS.row {w : World} {B g c m : Nat} {e : Nat → Int} (h : DigS w B g c m e) (hm : 0 < m) : RowAt w g .i64 3 m e := by
  obtain ⟨b, cp, h1, _, _, h2⟩ := own_row h hm
  simp only [Value.slice.injEq, Option.some.injEq, Addr.mk.injEq, and_true, true_and] at h1
  rw [h1.1]
  exact h2
theorem DigS.cap {w : World} {B g c m : Nat} {e : Nat → Int} (h : DigS w B g c m e) (hm : 0 < m) : m ≤ c := by
  obtain ⟨b, cp, h1, _, h2, _⟩ := own_row h hm
  simp only [Value.slice.injEq, Option.some.injEq, Addr.mk.injEq, and_true, true_and] at h1
  omega
theorem DigS.base {w : World} {B g c m : Nat} {e : Nat → Int} (h : DigS w B g c m e) : B ≤ g := own_base h g rfl
theorem DigS.lt {w : World} {B g c m : Nat} {e : Nat → Int} (h : DigS w B g c m e) : g < w.heap.size := by
  rcases h.2 with ⟨h', _⟩ | ⟨g', cap', cur, h', _, hg, _⟩
  · simp at h'
  · simp only [Value.slice.injEq, Option.some.injEq, Addr.mk.injEq, and_true, true_and] at h'
    rw [h'.1]
    exact heap_lt hg
theorem DigS.block {w w' : World} {B g c m : Nat} {e : Nat → Int} (h : DigS w B g c m e) (hb : w'.heap[g]? = w.heap[g]?) : DigS w' B g c m e := by
  refine ⟨h.1, ?_⟩
  rcases h.2 with hn | ⟨g', cap, cur, hv, hB, hg, rest⟩
  · exact .inl hn
  · have e := hv
    simp only [Value.slice.injEq, Option.some.injEq, Addr.mk.injEq, and_true, true_and] at e
    obtain ⟨rfl, rfl⟩ := e
    exact .inr ⟨g, c, cur, hv, hB, hb.trans hg, rest⟩
theorem DigS.kept {w w' : World} {B g c m : Nat} {e : Nat → Int} (h : DigS w B g c m e) (hb : Below w.heap.size w w') : DigS w' B g c m e := own_kept h hb
theorem DigS.below {w w' : World} {B C g c m : Nat} {e : Nat → Int} (h : DigS w B g c m e) (hb : Below C w w') (hC : g < C) : DigS w' B g c m e := h.block (hb.block g hC)
theorem DigS.other {w : World} {B g c m b i : Nat} {e : Nat → Int} (h : DigS w B g c m e) (v : Value) (hne : g ≠ b) : DigS (w.setCell ⟨b, i, none⟩ v) B g c m e := h.block (only_set.block g hne)
theorem own_any {w : World} {B C : Nat} {e : TypeId} {v : Value} {n : Nat} {xs : List Value} (h : w.ownsRow B e 1 v n xs) (hC : C ≤ B) : w.ownsRow C e 1 v n xs := by
  refine ⟨h.1, ?_⟩
  rcases h.2 with hn | ⟨g, cap, cur, hv, hB, rest⟩
  · exact .inl hn
  · exact .inr ⟨g, cap, cur, hv, Nat.le_trans hC hB, rest⟩
/-- Is it 2^130 - 5 at least, as far as digit i? -/
def lst (e : Nat → Int) : Nat → Bool
  | 0 => decide (e 16 = 3) && decide (251 ≤ e 0)
  | i + 1 => lst e i && decide (e (i + 1) = 255)
theorem lst_iff (e : Nat → Int) : ∀ i, lst e i = true ↔ (e 16 = 3 ∧ 251 ≤ e 0 ∧ ∀ q, 1 ≤ q → q < i + 1 → e q = 255)
  | 0 => by
    simp only [lst, Bool.and_eq_true, decide_eq_true_eq]
    exact ⟨fun h => ⟨h.1, h.2, fun q h1 h2 => by omega⟩, fun h => ⟨h.1, h.2.1⟩⟩
  | i + 1 => by
    simp only [lst, Bool.and_eq_true, decide_eq_true_eq, lst_iff e i]
    constructor
    · rintro ⟨⟨h1, h2, h3⟩, h4⟩
      refine ⟨h1, h2, fun q h5 h6 => ?_⟩
      by_cases hq : q = i + 1
      · rw [hq]; exact h4
      · exact h3 q h5 (by omega)
    · rintro ⟨h1, h2, h3⟩
      exact ⟨⟨h1, h2, fun q h5 h6 => h3 q h5 (by omega)⟩, h3 (i + 1) (by omega) (by omega)⟩
theorem mk18 (w : World) : (Instr.makeSlice 45 (.int .i64 18) (.int .i64 18)).run Try.prog w = .ok (.slice (some ⟨w.heap.size, 0, none⟩) 18 18) (w.alloc (.cells (WA .i64 18 fun _ => 0) 3)) := by
  have h := run_make_row' (P := Try.prog) 45 3 (.int .i64 0) 8 Try.underlying45 infoInt rfl .i64 .i64 18 (by omega) (by omega) w
  rw [show madeCells #[Value.int .i64 0] 18 = WA .i64 18 (fun _ => 0) from by kernel_rfl] at h
  exact h
theorem own_arr {w : World} {g n : Nat} {s : Nat → Int} (h : ArrAt w g .i64 3 n s) {B : Nat} (hB : B ≤ g) (hn : n ≤ 1000000) : DigS w B g n n s := by
  refine ⟨by rw [nums_len]; omega, .inr ⟨g, n, _, rfl, hB, h, Nat.le_refl _, by unfold maxLen; omega, by rw [WA_size]; omega, ?_⟩⟩
  rw [Nat.mul_one, List.take_of_length_le (by simp [WA])]
  simp [WA, nums]
def RestOK (V : Int) (w w' : World) (g c m : Nat) : Prop := ∃ e, 18 ≤ m ∧ m ≤ 46 ∧ Dg 256 m e ∧ dval e m = V % P130 ∧ DigS w' w.heap.size g c m e ∧ Below w.heap.size w w'
set_option maxHeartbeats 4000000 in
set_option maxRecDepth 100000 in
theorem rest_run (s : Nat → Int) (n b cp : Nat) (w : World) (hR : RowAt w b .i64 3 n s) (hs : Dg 8796093022208 n s) (hn : n ≤ 41) :
    Calls Try.prog 15 #[.slice (some ⟨b, 0, none⟩) n cp] w fun r w' => ∃ g c m, r = .returned (.slice (some ⟨g, 0, none⟩) m c) ∧ RestOK (dval s n) w w' g c m := by
  obtain ⟨V, HV⟩ : ∃ V, Hid (dval s n = V) := ⟨_, Hid.mk rfl⟩
  have hV0 : 0 ≤ V := by rw [← HV.out]; exact dval_nonneg (fun i hi => (hs i hi).1)
  rw [HV.out]
  have hCar := fun w (hR : RowAt w b .i64 3 n s) => carried_run s n b cp w hR hs (by omega)
  go_enter Try.func15, Try.ntmps15
  go_wp2_with fail
  refine (hCar _ hR).mono ?_
  rintro r v1 ⟨g, c, m, e, rfl, hC, hO, hb⟩
  have hm1 := hC.lo
  have hm2 : m ≤ 46 := by have := hC.hi; omega
  have hde := hC.dg
  have hnum : dval e m = V := by rw [hC.num, HV.out]
  replace hO : DigS v1 w.heap.size g c m e := hO
  clear hC hR hCar
  go_wp2_with fail
  go_loopg [0] V.toNat (fun gm xv v => ∃ (g c m : Nat) (e : Nat → Int), xv = .slice (some ⟨g, 0, none⟩) m c ∧ Hid ((dval e m).toNat ≤ gm) ∧ Hid (dval e m % P130 = V % P130) ∧ 18 ≤ m ∧ m ≤ 46 ∧ Hid (Dg 256 m e) ∧ DigS v w.heap.size g c m e ∧ Below w.heap.size w v)
  case atStart => exact ⟨g, c, m, e, rfl, Hid.mk (by rw [hnum]; exact Nat.le_refl _), Hid.mk (by rw [hnum]), hm1, hm2, Hid.mk hde, hO, hb⟩
  case round =>
    clear hm1 hm2 hde hnum hO hb
    obtain ⟨g, c, m, e, rfl, HG, HP, hm1, hm2, HD, hO, hB⟩ := hrel
    obtain ⟨hd, HH⟩ : ∃ f, Hid (hid (pad e m) = f) := ⟨_, Hid.mk rfl⟩
    have hhb : ∀ j, 0 ≤ hd j ∧ hd j < 256 := fun j => HH.out ▸ hid_b HD.out j
    generalize wr = wo at *
    generalize gk = go at *
    go_wp2_with fail
    go_loopg [3, 4, 5] (m - 16) (fun gm hv sv iv v => ∃ j : Nat, Hid (gm + j = m - 16) ∧ iv = .int .i64 ((16 + j : Nat) : Int) ∧ sv = .bool (decide (0 < dval hd j)) ∧ v.ownsRow wo.heap.size 3 1 hv j (nums .i64 j hd) ∧ Below wo.heap.size wo v)
    case atStart => exact ⟨0, Hid.mk (by omega), rfl, by simp [dval], World.ownsRow_nil wo _ _ _, Below.refl _ _⟩
    case round =>
      obtain ⟨j, HJ, rfl, rfl, hh, hbw⟩ := hrel
      have hjm : j ≤ m - 16 := by have := HJ.out; omega
      by_cases hjl : j < m - 16
      · have hx := (hO.below hbw hO.lt).row (by omega)
        have c1 := hx.cell (16 + j) (by omega)
        have d1 := HD.out (16 + j) (by omega)
        by_cases hl : 17 + j < m
        · have c2 := hx.cell (16 + j + 1) (by omega)
          have d2 := HD.out (16 + j + 1) (by omega)
          have hq : (e (16 + j)).tdiv 4 = e (16 + j) / 4 := Int.tdiv_eq_ediv_of_nonneg d1.1
          have hr : (e (16 + j + 1)).tmod 4 = e (16 + j + 1) % 4 := Int.tmod_eq_emod_of_nonneg d2.1
          have hv : e (16 + j) / 4 + e (16 + j + 1) % 4 * 64 = hd j := by
            rw [← HH.out]
            unfold hid pad
            rw [if_pos (by omega), if_pos (by omega), show 17 + j = 16 + j + 1 by omega]
          by_cases hsm : 0 < dval hd j
          · have hsd : decide (0 < dval hd j) = true := decide_eq_true hsm
            go_wp2_with (at_builtin; refine ap_own rfl _ _ 45 3 .i64 8 Try.underlying45 infoInt (by decide) (by rfl) (n := j) (m := 1) (by rfl) (own_kept hh ((Below.refl _ wr).alloc (Nat.le_refl _) _)) (by rfl) (r := fun _ => hd j) (fun q hq => by obtain rfl : q = 0 := (by omega); exact cell_of_row _ _ 0 _ _ _ (heap_alloc_new wr _)) (by omega) (hbw.alloc hbw.size _).size ?_; intro v2 w2 h2 hb2; refine Hid.out ?_)
            rw [nums_congr (cat_one j hd)] at h2
            have hb3 := (hbw.alloc hbw.size (.cells #[.int .i64 (hd j)] 3)).trans hb2
            clear hb2 hh
            refine Hid.mk ?_
            go_wp2_with fail
            go_roundg (m - 16 - (j + 1))
            case rel => exact ⟨j + 1, Hid.mk (by omega), by go_num, by rw [some_step hd j hhb, hsd]; rfl, h2, hb3⟩
            case measure => have := HJ.out; omega
          · have hsd : decide (0 < dval hd j) = false := decide_eq_false hsm
            by_cases hdp : 0 < hd j
            · have hdd : decide (0 < hd j) = true := decide_eq_true hdp
              go_wp2_with (at_builtin; refine ap_own rfl _ _ 45 3 .i64 8 Try.underlying45 infoInt (by decide) (by rfl) (n := j) (m := 1) (by rfl) (own_kept hh ((Below.refl _ wr).alloc (Nat.le_refl _) _)) (by rfl) (r := fun _ => hd j) (fun q hq => by obtain rfl : q = 0 := (by omega); exact cell_of_row _ _ 0 _ _ _ (heap_alloc_new wr _)) (by omega) (hbw.alloc hbw.size _).size ?_; intro v2 w2 h2 hb2; refine Hid.out ?_)
              rw [nums_congr (cat_one j hd)] at h2
              have hb3 := (hbw.alloc hbw.size (.cells #[.int .i64 (hd j)] 3)).trans hb2
              clear hb2 hh
              refine Hid.mk ?_
              go_wp2_with fail
              go_roundg (m - 16 - (j + 1))
              case rel => exact ⟨j + 1, Hid.mk (by omega), by go_num, by rw [some_step hd j hhb, hsd, hdd]; rfl, h2, hb3⟩
              case measure => have := HJ.out; omega
            · have hdd : decide (0 < hd j) = false := decide_eq_false hdp
              go_wp2_with (at_builtin; refine ap_own rfl _ _ 45 3 .i64 8 Try.underlying45 infoInt (by decide) (by rfl) (n := j) (m := 1) (by rfl) (own_kept hh ((Below.refl _ wr).alloc (Nat.le_refl _) _)) (by rfl) (r := fun _ => hd j) (fun q hq => by obtain rfl : q = 0 := (by omega); exact cell_of_row _ _ 0 _ _ _ (heap_alloc_new wr _)) (by omega) (hbw.alloc hbw.size _).size ?_; intro v2 w2 h2 hb2; refine Hid.out ?_)
              rw [nums_congr (cat_one j hd)] at h2
              have hb3 := (hbw.alloc hbw.size (.cells #[.int .i64 (hd j)] 3)).trans hb2
              clear hb2 hh
              refine Hid.mk ?_
              go_wp2_with fail
              go_roundg (m - 16 - (j + 1))
              case rel => exact ⟨j + 1, Hid.mk (by omega), by go_num, by rw [some_step hd j hhb, hsd, hdd]; rfl, h2, hb3⟩
              case measure => have := HJ.out; omega
        · have hq : (e (16 + j)).tdiv 4 = e (16 + j) / 4 := Int.tdiv_eq_ediv_of_nonneg d1.1
          have hv : e (16 + j) / 4 = hd j := by
            rw [← HH.out]
            unfold hid pad
            rw [if_pos (by omega), if_neg (by omega)]
            omega
          by_cases hsm : 0 < dval hd j
          · have hsd : decide (0 < dval hd j) = true := decide_eq_true hsm
            go_wp2_with (at_builtin; refine ap_own rfl _ _ 45 3 .i64 8 Try.underlying45 infoInt (by decide) (by rfl) (n := j) (m := 1) (by rfl) (own_kept hh ((Below.refl _ wr).alloc (Nat.le_refl _) _)) (by rfl) (r := fun _ => hd j) (fun q hq => by obtain rfl : q = 0 := (by omega); exact cell_of_row _ _ 0 _ _ _ (heap_alloc_new wr _)) (by omega) (hbw.alloc hbw.size _).size ?_; intro v2 w2 h2 hb2; refine Hid.out ?_)
            rw [nums_congr (cat_one j hd)] at h2
            have hb3 := (hbw.alloc hbw.size (.cells #[.int .i64 (hd j)] 3)).trans hb2
            clear hb2 hh
            refine Hid.mk ?_
            go_wp2_with fail
            go_roundg (m - 16 - (j + 1))
            case rel => exact ⟨j + 1, Hid.mk (by omega), by go_num, by rw [some_step hd j hhb, hsd]; rfl, h2, hb3⟩
            case measure => have := HJ.out; omega
          · have hsd : decide (0 < dval hd j) = false := decide_eq_false hsm
            by_cases hdp : 0 < hd j
            · have hdd : decide (0 < hd j) = true := decide_eq_true hdp
              go_wp2_with (at_builtin; refine ap_own rfl _ _ 45 3 .i64 8 Try.underlying45 infoInt (by decide) (by rfl) (n := j) (m := 1) (by rfl) (own_kept hh ((Below.refl _ wr).alloc (Nat.le_refl _) _)) (by rfl) (r := fun _ => hd j) (fun q hq => by obtain rfl : q = 0 := (by omega); exact cell_of_row _ _ 0 _ _ _ (heap_alloc_new wr _)) (by omega) (hbw.alloc hbw.size _).size ?_; intro v2 w2 h2 hb2; refine Hid.out ?_)
              rw [nums_congr (cat_one j hd)] at h2
              have hb3 := (hbw.alloc hbw.size (.cells #[.int .i64 (hd j)] 3)).trans hb2
              clear hb2 hh
              refine Hid.mk ?_
              go_wp2_with fail
              go_roundg (m - 16 - (j + 1))
              case rel => exact ⟨j + 1, Hid.mk (by omega), by go_num, by rw [some_step hd j hhb, hsd, hdd]; rfl, h2, hb3⟩
              case measure => have := HJ.out; omega
            · have hdd : decide (0 < hd j) = false := decide_eq_false hdp
              go_wp2_with (at_builtin; refine ap_own rfl _ _ 45 3 .i64 8 Try.underlying45 infoInt (by decide) (by rfl) (n := j) (m := 1) (by rfl) (own_kept hh ((Below.refl _ wr).alloc (Nat.le_refl _) _)) (by rfl) (r := fun _ => hd j) (fun q hq => by obtain rfl : q = 0 := (by omega); exact cell_of_row _ _ 0 _ _ _ (heap_alloc_new wr _)) (by omega) (hbw.alloc hbw.size _).size ?_; intro v2 w2 h2 hb2; refine Hid.out ?_)
              rw [nums_congr (cat_one j hd)] at h2
              have hb3 := (hbw.alloc hbw.size (.cells #[.int .i64 (hd j)] 3)).trans hb2
              clear hb2 hh
              refine Hid.mk ?_
              go_wp2_with fail
              go_roundg (m - 16 - (j + 1))
              case rel => exact ⟨j + 1, Hid.mk (by omega), by go_num, by rw [some_step hd j hhb, hsd, hdd]; rfl, h2, hb3⟩
              case measure => have := HJ.out; omega
      · have hj2 : j = m - 16 := by omega
        subst hj2
        clear hjl hjm HJ
        have hsp := hid_split e m (by omega) HD.out
        rw [HH.out] at hsp
        have HSP := Hid.mk hsp
        clear hsp
        by_cases hH : 0 < dval hd (m - 16)
        · have hsd : decide (0 < dval hd (m - 16)) = true := decide_eq_true hH
          obtain ⟨gh, ch, rfl, hgh, hch, rh⟩ := own_row hh (by omega)
          have hx := (hO.below hbw hO.lt).row (by omega)
          have hcap : (17 : Int) ≤ (c : Int) := by have := hO.cap (by omega); omega
          have hfd : decide ((16 : Int) + ((m - 16 : Nat) : Int) < (m : Int)) = false := decide_eq_false (by omega)
          have HX : Hid (∀ q, q < 17 → (wr.alloc (.cells #[] 3)).cell? ⟨g, 0 + q, none⟩ = some (.int .i64 (e q))) := Hid.mk (fun q hq => by rw [Nat.zero_add]; exact (hx.alloc _).cell q (by omega))
          go_wp2_with (at_builtin; refine ap_full rfl _ _ 45 3 .i64 8 Try.underlying45 infoInt (by decide) (by rfl) (n := 0) (m := 17) (f := e) (by rfl) (fun q hq => by omega) (by rfl) (r := e) HX.out (by decide) (by decide) ?_; intro va v2 h2 hb2; refine Hid.out ?_)
          clear HX
          rw [nums_congr (s := cat 0 e e) (t := e) (fun i _ => by simp [cat])] at h2
          obtain ⟨gy, cy, rfl, hgy, hcy, ry⟩ := own_row h2 (by decide)
          have hsz : (wr.alloc (.cells #[] 3)).heap.size = wr.heap.size + 1 := by simp
          rw [hsz] at h2 hgy
          replace h2 : DigS v2 (wr.heap.size + 1) gy cy 17 e := h2
          have rh2 : RowAt v2 gh .i64 3 (m - 16) hd := (rh.alloc _).below hb2 (by rw [hsz]; have := rh.lt; omega)
          have hzh : gh < wr.heap.size := rh.lt
          have hB2 : Below w.heap.size w v2 := ((hB.trans (hbw.mono hB.size)).alloc (by have := hB.size; have := hbw.size; omega) _).trans (hb2.mono (by rw [hsz]; have := hB.size; have := hbw.size; omega))
          clear hb2 ry rh hh hx hO hbw
          have hzw : w.heap.size ≤ wr.heap.size := by have := hB.size; omega
          refine Hid.mk ?_
          simp only [Nat.zero_add]
          have c16 := (h2.row (by decide)).cell 16 (by decide)
          have f16 := (h2.row (by decide)).free 16 (by decide)
          have d16 := HD.out 16 (by omega)
          have hr16 : (e 16).tmod 4 = e 16 % 4 := Int.tmod_eq_emod_of_nonneg d16.1
          go_wp2_with fail
          obtain ⟨By, hBy⟩ : ∃ B, wr.heap.size + 1 = B := ⟨_, rfl⟩
          rw [hBy] at h2 hgy
          have hghB : gh < By := by omega
          have hwB : w.heap.size ≤ By := by omega
          obtain ⟨LO, HLO⟩ : ∃ L, Hid (dval e 16 + 340282366920938463463374607431768211456 * (pad e m 16 % 4) = L) := ⟨_, Hid.mk rfl⟩
          rw [HLO.out] at HSP
          have h3 := own_set h2 16 (e 16 % 4) (by decide)
          have rh3 := rh2.other (g := gy) (i := 16) (.int .i64 (e 16 % 4)) (by omega)
          have hB3 := Below.setCell hB2 (p := ⟨gy, 16, none⟩) (by simp; omega) (.int .i64 (e 16 % 4))
          have HD3 : Hid (dval (upd e 16 (e 16 % 4)) 17 = LO + 5 * dval hd 0) := Hid.mk (by
            rw [dval_upd (by decide), ← HLO.out]
            show dval e 16 + 256 ^ 16 * e 16 + 256 ^ 16 * (e 16 % 4 - e 16) = _
            rw [show pad e m 16 = e 16 from by unfold pad; rw [if_pos (by omega)], pow16]
            simp only [dval]
            omega)
          have HE1 : Hid (∀ i, i < 17 → 0 ≤ upd e 16 (e 16 % 4) i ∧ upd e 16 (e 16 % 4) i < 256) := Hid.mk (fun i hi => by
            unfold upd
            split
            · omega
            · exact HD.out i (by omega))
          generalize v2.setCell ⟨gy, 16, none⟩ (.int .i64 (e 16 % 4)) = v3 at *
          generalize wr = wq at *
          generalize gk = gq at *
          go_loopg [7, 8] (m - 16) (fun gm yv iv v => ∃ (j L : Nat) (t : Nat → Int) (gy cy : Nat), Hid (gm + j = m - 16) ∧ yv = .slice (some ⟨gy, 0, none⟩) L cy ∧ iv = .int .i64 (j : Int) ∧ Hid (L = max 17 j) ∧ DigS v By gy cy L t ∧ Hid (∀ i, i < L → 0 ≤ t i ∧ t i < 2000) ∧ Hid (∀ i, j ≤ i → i < L → t i < 256) ∧ Hid (dval t L = LO + 5 * dval hd j) ∧ RowAt v gh .i64 3 (m - 16) hd ∧ Below w.heap.size w v)
          case atStart => exact ⟨0, 17, _, gy, cy, Hid.mk (by omega), rfl, rfl, Hid.mk (by omega), h3, Hid.mk (fun i hi => by have := HE1.out i hi; omega), Hid.mk (fun i _ hi => (HE1.out i hi).2), HD3, rh3, hB3⟩
          case round =>
            clear h3 rh3 hB3 HD3 HE1 h2 rh2 hB2 c16 f16 d16 hr16 hgy hcy
            obtain ⟨j, L, t, gy, cy, HJ, rfl, rfl, HL, hD, H1, H2, H3, rh, hB3⟩ := hrel
            have hLL := HL.out
            have hjm : j ≤ m - 16 := by have := HJ.out; omega
            by_cases hjl : j < m - 16
            · by_cases h17 : j < 17
              · have hL17 : L = max 17 (j + 1) := by omega
                have cyj := (hD.row (by omega)).cell j (by omega)
                have fyj := (hD.row (by omega)).free j (by omega)
                have chj := rh.cell j hjl
                have hhj := hhb j
                have htj := H1.out j (by omega)
                have ht5 : t j < 256 := H2.out j (Nat.le_refl _) (by omega)
                have HN : Hid (dval (upd t j (t j + 5 * hd j)) L = LO + 5 * dval hd (j + 1)) := Hid.mk (by
                  rw [dval_upd (by omega), H3.out]
                  show LO + 5 * dval hd j + 256 ^ j * (t j + 5 * hd j - t j) = LO + 5 * (dval hd j + 256 ^ j * hd j)
                  rw [show t j + 5 * hd j - t j = 5 * hd j by omega, Int.mul_add, ← Int.mul_assoc 5, Int.mul_comm 5 (256 ^ j), Int.mul_assoc]
                  omega)
                have HB1 : Hid (∀ i, i < L → 0 ≤ upd t j (t j + 5 * hd j) i ∧ upd t j (t j + 5 * hd j) i < 2000) := Hid.mk (fun i hi => by
                  unfold upd
                  split
                  · omega
                  · exact H1.out i hi)
                have HB2 : Hid (∀ i, j + 1 ≤ i → i < L → upd t j (t j + 5 * hd j) i < 256) := Hid.mk (fun i h1 h2 => by
                  unfold upd
                  rw [if_neg (by omega)]
                  exact H2.out i (by omega) h2)
                have hlj : (j : Int) < (L : Int) := by omega
                have hlh : (j : Int) < ((m - 16 : Nat) : Int) := by omega
                have hgyb := hD.base
                generalize hx5 : t j = x5 at *
                generalize hx6 : hd j = x6 at *
                go_wp2_with fail
                go_region
                go_wp2_with fail
                go_roundg (m - 16 - (j + 1))
                case rel => exact ⟨j + 1, L, _, gy, cy, Hid.mk (by omega), rfl, by go_num, Hid.mk (by omega), own_set hD j _ (by omega), HB1, HB2, HN, rh.other _ (by omega), (Below.setCell hB3 (p := ⟨gy, j, none⟩) (by simp; omega) _).drew⟩
                case measure => have := HJ.out; omega
              · have hLj : L = j := by omega
                have HA1 : Hid (∀ i, i < L + 1 → 0 ≤ cat L t (fun _ => 0) i ∧ cat L t (fun _ => 0) i < 2000) := Hid.mk (fun i hi => by
                  unfold cat
                  split
                  · exact H1.out i (by assumption)
                  · show 0 ≤ (0 : Int) ∧ (0 : Int) < 2000
                    omega)
                have HA2 : Hid (∀ i, j ≤ i → i < L + 1 → cat L t (fun _ => 0) i < 256) := Hid.mk (fun i h1 h2 => by
                  unfold cat
                  rw [if_neg (by omega)]
                  show (0 : Int) < 256
                  omega)
                have HA3 : Hid (dval (cat L t (fun _ => 0)) (L + 1) = LO + 5 * dval hd j) := Hid.mk (by
                  show dval (cat L t (fun _ => 0)) L + 256 ^ L * cat L t (fun _ => 0) L = _
                  rw [dval_congr (cat_snoc L t 0).1, (cat_snoc L t 0).2, H3.out]
                  omega)
                have hlt0 := hD.lt
                have hbs0 := hD.base
                have hge : (L : Int) ≤ (j : Int) := by omega
                go_wp2_with (at_builtin; refine ap_own rfl _ _ 45 3 .i64 8 Try.underlying45 infoInt (by decide) (by rfl) (n := L) (m := 1) (by rfl) (own_kept hD ((Below.refl _ wr).alloc (Nat.le_refl _) _)) (by rfl) (r := fun _ => 0) (fun q hq => by obtain rfl : q = 0 := (by omega); exact cell_of_row _ _ 0 _ _ _ (heap_alloc_new wr _)) (by omega) (by simp; omega) ?_; intro vb w2 h4 hb4; refine Hid.out ?_)
                obtain ⟨gz, cz, rfl, hgz, hcz, rz⟩ := own_row h4 (by omega)
                replace h4 : DigS w2 By gz cz (L + 1) (cat L t (fun _ => 0)) := h4
                have rh4 : RowAt w2 gh .i64 3 (m - 16) hd := (rh.alloc _).below hb4 hghB
                have hB4 : Below w.heap.size w w2 := (hB3.alloc hB3.size _).trans (hb4.mono hwB)
                clear hb4 rz hgz hcz hD rh hB3 hlt0 hbs0 hge
                refine Hid.mk ?_
                have hL17 : L + 1 = max 17 (j + 1) := by omega
                generalize cat L t (fun _ => 0) = t2 at *
                generalize hL2 : L + 1 = L2 at *
                have cyj := (h4.row (by omega)).cell j (by omega)
                have fyj := (h4.row (by omega)).free j (by omega)
                have chj := rh4.cell j hjl
                have hhj := hhb j
                have htj := HA1.out j (by omega)
                have ht5 : t2 j < 256 := HA2.out j (Nat.le_refl _) (by omega)
                have HN : Hid (dval (upd t2 j (t2 j + 5 * hd j)) L2 = LO + 5 * dval hd (j + 1)) := Hid.mk (by
                  rw [dval_upd (by omega), HA3.out]
                  show LO + 5 * dval hd j + 256 ^ j * (t2 j + 5 * hd j - t2 j) = LO + 5 * (dval hd j + 256 ^ j * hd j)
                  rw [show t2 j + 5 * hd j - t2 j = 5 * hd j by omega, Int.mul_add, ← Int.mul_assoc 5, Int.mul_comm 5 (256 ^ j), Int.mul_assoc]
                  omega)
                have HB1 : Hid (∀ i, i < L2 → 0 ≤ upd t2 j (t2 j + 5 * hd j) i ∧ upd t2 j (t2 j + 5 * hd j) i < 2000) := Hid.mk (fun i hi => by
                  unfold upd
                  split
                  · omega
                  · exact HA1.out i hi)
                have HB2 : Hid (∀ i, j + 1 ≤ i → i < L2 → upd t2 j (t2 j + 5 * hd j) i < 256) := Hid.mk (fun i h1 h2 => by
                  unfold upd
                  rw [if_neg (by omega)]
                  exact HA2.out i (by omega) h2)
                have hlj : (j : Int) < (L2 : Int) := by omega
                have hlh : (j : Int) < ((m - 16 : Nat) : Int) := by omega
                have hgyb := h4.base
                generalize hx5 : t2 j = x5 at *
                generalize hx6 : hd j = x6 at *
                go_wp2_with fail
                go_region
                go_wp2_with fail
                go_roundg (m - 16 - (j + 1))
                case rel => exact ⟨j + 1, L2, _, gz, cz, Hid.mk (by omega), rfl, by go_num, Hid.mk (by omega), own_set h4 j _ (by omega), HB1, HB2, HN, rh4.other _ (by omega), (Below.setCell hB4 (p := ⟨gz, j, none⟩) (by simp; omega) _).drew⟩
                case measure => have := HJ.out; omega
            · have hj2 : j = m - 16 := by omega
              rw [hj2] at H3
              have HQ := H3
              have hL30 : L ≤ 30 := by omega
              have hL17 : 17 ≤ L := by omega
              have hdc := fun w (hR : RowAt w gy .i64 3 L t) => carried_run t L gy cy w hR (fun i hi => by have := H1.out i hi; omega) (by omega)
              have hge : ¬ ((j : Int) < ((m - 16 : Nat) : Int)) := by omega
              clear hLL hj2 hjl hjm
              go_wp2_with fail
              refine (hdc _ (hD.row (by omega))).mono ?_
              rintro r v5 ⟨g5, c5, m5, e5, rfl, hC5, hO5, hb5⟩
              have hB5 := hB3.trans (hb5.mono hB3.size)
              have hz5 : w.heap.size ≤ wr.heap.size := hB3.size
              have hn5 : dval e5 m5 = LO + 5 * dval hd (m - 16) := by rw [hC5.num, HQ.out]
              have hv5 := HSP.out
              have hO6 : DigS v5 w.heap.size g5 c5 m5 e5 := own_any hO5 hz5
              have HG5 : Hid ((LO + 5 * dval hd (m - 16)).toNat < go) := Hid.mk (by
                have h1 := HG.out
                have h2 := hv5.1
                have h3 := hv5.2.1
                unfold W130 at h2
                omega)
              have HP5 : Hid ((LO + 5 * dval hd (m - 16)) % P130 = V % P130) := Hid.mk (by
                rw [← HP.out, hv5.1]
                unfold W130 P130
                omega)
              have hm5 := hC5.lo
              have hm6 : m5 ≤ 46 := by have := hC5.hi; omega
              have HD5 := Hid.mk hC5.dg
              have HN5 := Hid.mk hn5
              clear hv5 hn5 hC5 hb5 hO5 hdc
              go_wp2_with fail
              go_roundg ((LO + 5 * dval hd (m - 16)).toNat)
              case rel => exact ⟨g5, c5, m5, e5, rfl, Hid.mk (by rw [HN5.out]; exact Nat.le_refl _), Hid.mk (by rw [HN5.out]; exact HP5.out), hm5, hm6, HD5, hO6, hB5⟩
              case measure => exact HG5.out
        · have hsd : decide (0 < dval hd (m - 16)) = false := decide_eq_false hH
          have hX := HSP.out
          have hnn := dval_nonneg (s := hd) (n := m - 16) (fun i _ => (hhb i).1)
          have hXl : dval e m < W130 := by
            have h1 := hX.1
            rw [show dval hd (m - 16) = 0 by omega] at h1
            have h2 := hX.2.2
            omega
          have hX0 : 0 ≤ dval e m := dval_nonneg (fun i hi => (HD.out i hi).1)
          have HI := Hid.mk (least_iff hm1 HD.out hXl)
          have HW := Hid.mk (fun h1 h3 => least_val hm1 HD.out hXl h1 h3)
          have HXL := Hid.mk hXl
          have hbo := hB.trans (hbw.mono hB.size)
          replace hO := hO.below hbw hO.lt
          clear hX hnn hXl hbw hh HSP hH
          have hxr := hO.row (by omega)
          have c16 := hxr.cell 16 (by omega)
          have c0 := hxr.cell 0 (by omega)
          have hfd : decide ((16 : Int) + ((m - 16 : Nat) : Int) < (m : Int)) = false := decide_eq_false (by omega)
          generalize wr = wq at *
          generalize gk = gq at *
          by_cases h163 : e 16 = 3
          · by_cases h251 : 251 ≤ e 0
            · have h251b := h251
              go_wp2_with fail
              go_loopg [9, 10] 15 (fun gm lv iv v => ∃ i : Nat, Hid (gm + i = 15) ∧ lv = .bool (lst e i) ∧ iv = .int .i64 ((i + 1 : Nat) : Int) ∧ v = wq)
              case atStart => exact ⟨0, Hid.mk rfl, by unfold lst; rw [decide_eq_true h163, decide_eq_true (show 251 ≤ e 0 by omega)]; rfl, rfl, rfl⟩
              case round =>
                obtain ⟨i, HI2, rfl, rfl, rfl⟩ := hrel
                have hi15 : i ≤ 15 := by have := HI2.out; omega
                by_cases hil : i < 15
                · have ci := hxr.cell (i + 1) (by omega)
                  have hil2 : (i : Int) + 1 < 16 := by omega
                  cases hls : lst e i with
                  | false =>
                    have HS : Hid (Value.bool false = .bool (lst e (i + 1))) := Hid.mk (by unfold lst; rw [hls]; rfl)
                    go_wp2_with fail
                    go_roundg (15 - (i + 1))
                    case rel => exact ⟨i + 1, Hid.mk (by omega), HS.out, by go_num, rfl⟩
                    case measure => have := HI2.out; omega
                  | true =>
                    by_cases h255 : e (i + 1) = 255
                    · have HS : Hid (Value.bool true = .bool (lst e (i + 1))) := Hid.mk (by unfold lst; rw [hls, decide_eq_true h255]; rfl)
                      go_wp2_with fail
                      go_roundg (15 - (i + 1))
                      case rel => exact ⟨i + 1, Hid.mk (by omega), HS.out, by go_num, rfl⟩
                      case measure => have := HI2.out; omega
                    · have HS : Hid (Value.bool false = .bool (lst e (i + 1))) := Hid.mk (by unfold lst; rw [hls, decide_eq_false h255]; rfl)
                      have hbe : (e (i + 1) == 255) = false := by simpa using h255
                      go_wp2_with fail
                      go_roundg (15 - (i + 1))
                      case rel => exact ⟨i + 1, Hid.mk (by omega), HS.out, by go_num, rfl⟩
                      case measure => have := HI2.out; omega
                · have hi2 : i = 15 := by omega
                  subst hi2
                  cases hls : lst e 15 with
                  | false =>
                    have HR : Hid (dval e m = V % P130) := Hid.mk (by
                      have h1 : ¬ P130 ≤ dval e m := fun h => by
                        have := HI.out.2 h
                        rw [(lst_iff e 15).2 this] at hls
                        cases hls
                      rw [← HP.out, Int.emod_eq_of_lt hX0 (by omega)])
                    go_wp2_with fail
                    go_ret
                    exact ⟨g, c, m, rfl, e, hm1, hm2, HD.out, HR.out, hO, hbo⟩
                  | true =>
                    have hall := (lst_iff e 15).1 hls
                    have HR : Hid (e 0 - 251 = V % P130) := Hid.mk (by
                      have h1 := HW.out hall.1 hall.2.2
                      have h2 := HXL.out
                      rw [← HP.out, h1]
                      have h3 : W130 - 256 + e 0 = (e 0 - 251) + P130 := by unfold W130 P130; omega
                      rw [h3, Int.add_emod_right, Int.emod_eq_of_lt (by omega) (by unfold P130; have := HD.out 0 (by omega); omega)])
                    have he0 : 251 ≤ e 0 := hall.2.1
                    have he1 := (HD.out 0 (by omega)).2
                    have hmk := mk18 wr
                    have G : ArrAt (wr.alloc (.cells (WA .i64 18 fun _ => 0) 3)) wr.heap.size .i64 3 18 (fun _ => 0) := heap_alloc_new wr _
                    have cz := G.cell 0 (by decide)
                    have fz := G.free 0
                    have cx0 := (hxr.alloc (.cells (WA .i64 18 fun _ => 0) 3)).cell 0 (by omega)
                    have G2 := Hid.mk (own_arr (B := w.heap.size) (G.set 0 (e 0 - 251) (by decide)) hbo.size (by decide))
                    have HV2 : Hid (dval (upd (fun _ => 0) 0 (e 0 - 251)) 18 = V % P130) := Hid.mk (by
                      rw [dval_upd (by decide), ← HR.out, show dval (fun _ => 0) 18 = 0 by decide]
                      simp)
                    have HB2 := Hid.mk (Below.setCell (hbo.alloc hbo.size (.cells (WA .i64 18 fun _ => 0) 3)) (p := ⟨wr.heap.size, 0, none⟩) hbo.size (.int .i64 (e 0 - 251)))
                    clear hall G
                    generalize wr.alloc (.cells (WA .i64 18 fun _ => 0) 3) = wz at *
                    go_wp2_with fail
                    go_ret
                    exact ⟨_, 18, 18, rfl, _, by omega, by omega, fun i hi => by unfold upd; dsimp only; split <;> omega, HV2.out, G2.out, HB2.out⟩
            · have h251b : e 0 < 251 := by omega
              go_wp2_with fail
              go_loopg [9, 10] 15 (fun gm lv iv v => ∃ i : Nat, Hid (gm + i = 15) ∧ lv = .bool (lst e i) ∧ iv = .int .i64 ((i + 1 : Nat) : Int) ∧ v = wq)
              case atStart => exact ⟨0, Hid.mk rfl, by unfold lst; rw [decide_eq_false (show ¬ 251 ≤ e 0 by omega), Bool.and_false], rfl, rfl⟩
              case round =>
                obtain ⟨i, HI2, rfl, rfl, rfl⟩ := hrel
                have hi15 : i ≤ 15 := by have := HI2.out; omega
                by_cases hil : i < 15
                · have ci := hxr.cell (i + 1) (by omega)
                  have hil2 : (i : Int) + 1 < 16 := by omega
                  cases hls : lst e i with
                  | false =>
                    have HS : Hid (Value.bool false = .bool (lst e (i + 1))) := Hid.mk (by unfold lst; rw [hls]; rfl)
                    go_wp2_with fail
                    go_roundg (15 - (i + 1))
                    case rel => exact ⟨i + 1, Hid.mk (by omega), HS.out, by go_num, rfl⟩
                    case measure => have := HI2.out; omega
                  | true =>
                    by_cases h255 : e (i + 1) = 255
                    · have HS : Hid (Value.bool true = .bool (lst e (i + 1))) := Hid.mk (by unfold lst; rw [hls, decide_eq_true h255]; rfl)
                      go_wp2_with fail
                      go_roundg (15 - (i + 1))
                      case rel => exact ⟨i + 1, Hid.mk (by omega), HS.out, by go_num, rfl⟩
                      case measure => have := HI2.out; omega
                    · have HS : Hid (Value.bool false = .bool (lst e (i + 1))) := Hid.mk (by unfold lst; rw [hls, decide_eq_false h255]; rfl)
                      have hbe : (e (i + 1) == 255) = false := by simpa using h255
                      go_wp2_with fail
                      go_roundg (15 - (i + 1))
                      case rel => exact ⟨i + 1, Hid.mk (by omega), HS.out, by go_num, rfl⟩
                      case measure => have := HI2.out; omega
                · have hi2 : i = 15 := by omega
                  subst hi2
                  cases hls : lst e 15 with
                  | false =>
                    have HR : Hid (dval e m = V % P130) := Hid.mk (by
                      have h1 : ¬ P130 ≤ dval e m := fun h => by
                        have := HI.out.2 h
                        rw [(lst_iff e 15).2 this] at hls
                        cases hls
                      rw [← HP.out, Int.emod_eq_of_lt hX0 (by omega)])
                    go_wp2_with fail
                    go_ret
                    exact ⟨g, c, m, rfl, e, hm1, hm2, HD.out, HR.out, hO, hbo⟩
                  | true =>
                    have hall := (lst_iff e 15).1 hls
                    exact absurd hall.2.1 (by omega)
          · have h163b := h163
            go_wp2_with fail
            go_loopg [9, 10] 15 (fun gm lv iv v => ∃ i : Nat, Hid (gm + i = 15) ∧ lv = .bool (lst e i) ∧ iv = .int .i64 ((i + 1 : Nat) : Int) ∧ v = wq)
            case atStart => exact ⟨0, Hid.mk rfl, by unfold lst; rw [decide_eq_false h163]; rfl, rfl, rfl⟩
            case round =>
              obtain ⟨i, HI2, rfl, rfl, rfl⟩ := hrel
              have hi15 : i ≤ 15 := by have := HI2.out; omega
              by_cases hil : i < 15
              · have ci := hxr.cell (i + 1) (by omega)
                have hil2 : (i : Int) + 1 < 16 := by omega
                cases hls : lst e i with
                | false =>
                  have HS : Hid (Value.bool false = .bool (lst e (i + 1))) := Hid.mk (by unfold lst; rw [hls]; rfl)
                  go_wp2_with fail
                  go_roundg (15 - (i + 1))
                  case rel => exact ⟨i + 1, Hid.mk (by omega), HS.out, by go_num, rfl⟩
                  case measure => have := HI2.out; omega
                | true =>
                  by_cases h255 : e (i + 1) = 255
                  · have HS : Hid (Value.bool true = .bool (lst e (i + 1))) := Hid.mk (by unfold lst; rw [hls, decide_eq_true h255]; rfl)
                    go_wp2_with fail
                    go_roundg (15 - (i + 1))
                    case rel => exact ⟨i + 1, Hid.mk (by omega), HS.out, by go_num, rfl⟩
                    case measure => have := HI2.out; omega
                  · have HS : Hid (Value.bool false = .bool (lst e (i + 1))) := Hid.mk (by unfold lst; rw [hls, decide_eq_false h255]; rfl)
                    have hbe : (e (i + 1) == 255) = false := by simpa using h255
                    go_wp2_with fail
                    go_roundg (15 - (i + 1))
                    case rel => exact ⟨i + 1, Hid.mk (by omega), HS.out, by go_num, rfl⟩
                    case measure => have := HI2.out; omega
              · have hi2 : i = 15 := by omega
                subst hi2
                cases hls : lst e 15 with
                | false =>
                  have HR : Hid (dval e m = V % P130) := Hid.mk (by
                    have h1 : ¬ P130 ≤ dval e m := fun h => by
                      have := HI.out.2 h
                      rw [(lst_iff e 15).2 this] at hls
                      cases hls
                    rw [← HP.out, Int.emod_eq_of_lt hX0 (by omega)])
                  go_wp2_with fail
                  go_ret
                  exact ⟨g, c, m, rfl, e, hm1, hm2, HD.out, HR.out, hO, hbo⟩
                | true =>
                  have hall := (lst_iff e 15).1 hls
                  exact absurd hall.1 h163
end Go.Proofs.Ytfbeclleeehaaaa
