/-
  Own text. A prefix and its two halves.
-/
import Derived.Test.YtcpnleanjclfjaaTDC
namespace Go.Proofs.Ytcpnleanjclfjaa
open Go.RowKit Go.Proofs
set_option maxRecDepth 100000
def loR (Y : Op10) : Rw := ⟨Y.v, whB Y.b Y.n, Y.n + 1, Y.ow⟩
def hiR (Y : Op10) : Rw := ⟨Y.v, longB (whB Y.b Y.n) Y.n.toNat 1, Y.n + 1, Y.ow⟩
theorem half_tab : ((List.range 256).all fun x => (List.range 8).all fun s => !((List.range 8).all fun t => decide (t < s) || decide (x / 2 ^ (7 - t) % 2 = 0)) || (decide (orB x 1 (7 - s) = x + 128 / 2 ^ s) && decide (x + 128 / 2 ^ s < 256))) = true := by kernel_rfl
theorem half_byte {x s : Nat} (hx : x < 256) (hs : s < 8) (h : ∀ t, s ≤ t → t < 8 → x / 2 ^ (7 - t) % 2 = 0) : orB x 1 (7 - s) = x + 128 / 2 ^ s ∧ x + 128 / 2 ^ s < 256 := by
  have h1 := List.all_eq_true.1 (List.all_eq_true.1 half_tab x (List.mem_range.2 hx)) s (List.mem_range.2 hs)
  have h2 : ((List.range 8).all fun t => decide (t < s) || decide (x / 2 ^ (7 - t) % 2 = 0)) = true := List.all_eq_true.2 (fun t ht => by
    have ht := List.mem_range.1 ht
    by_cases e : t < s
    · simp [e]
    · have := h t (by omega) ht
      simp [this])
  rw [h2, Bool.not_true, Bool.false_or, Bool.and_eq_true, decide_eq_true_eq, decide_eq_true_eq] at h1
  exact h1
/-- The byte of the upper half. -/
theorem half_sum {b : Nat → Int} {d : Nat} (hb : Byts 16 b) (hd : d < 128) (hz : Zb b d) : longB b d 1 (d / 8) = b (d / 8) + ((128 / 2 ^ (d % 8) : Nat) : Int) ∧ b (d / 8) + ((128 / 2 ^ (d % 8) : Nat) : Int) < 256 ∧ 0 ≤ b (d / 8) := by
  have hb1 := hb (d / 8) (by omega)
  obtain ⟨x, hx⟩ : ∃ x : Nat, b (d / 8) = (x : Int) := ⟨(b (d / 8)).toNat, by omega⟩
  have h := half_byte (x := x) (s := d % 8) (by omega) (by omega) (fun t h1 h2 => by
    have := hz (8 * (d / 8) + t) (by omega) (by omega)
    unfold bitF at this
    rw [show (8 * (d / 8) + t) / 8 = d / 8 by omega, show (8 * (d / 8) + t) % 8 = t by omega, hx] at this
    have e2 : ((2 : Int) ^ (7 - t)) = ((2 ^ (7 - t) : Nat) : Int) := by simp
    rw [e2, ← Int.natCast_ediv] at this
    omega)
  unfold longB
  rw [if_pos rfl, hx, Int.toNat_natCast, h.1]
  refine ⟨by omega, by omega, by omega⟩
theorem wh_whole {b : Nat → Int} {n : Int} (hb : Byts 16 b) (hz : ∀ i : Nat, i < 128 → n ≤ (i : Int) → bitF b i = 0) : ∀ j, j < 16 → whB b n j = b j :=
  bits_same (wh_b b n) hb (fun i hi => by
    rw [wh_bit]
    by_cases e : (i : Int) < n
    · rw [if_pos e]
    · rw [if_neg e, hz i hi (by omega)])
section
variable {Y : Op10} (hb : Byts 16 Y.b) (hr : rightF Y.v Y.b Y.n = true) (hn : Y.n < (wdN Y.v : Int))
include hr in
theorem half_z : Zb (whB Y.b Y.n) Y.n.toNat := fun i h1 h2 => by
  have := (right_n hr).1
  rw [wh_bit, if_neg (by omega)]
include hr hn in
theorem half_n : Y.n.toNat < 128 ∧ (Y.n.toNat : Int) = Y.n := by
  have := (right_n hr).1
  have := wd_le Y.v
  omega
include hr hn in
theorem lo_w : RwW (loR Y) := by
  have h0 := (right_n hr).1
  have := wd_le Y.v
  refine ⟨⟨wh_b _ _, by show 0 ≤ Y.n + 1; omega, by show Y.n + 1 ≤ 128; omega⟩, fun i h1 h2 => ?_⟩
  have h2' : Y.n + 1 ≤ (i : Int) := h2
  exact half_z hr i (by omega) h1
include hr hn in
theorem hi_w : RwW (hiR Y) := by
  have h0 := (right_n hr).1
  have := wd_le Y.v
  refine ⟨⟨long_byts (wh_b _ _) _ 1 (by omega), by show 0 ≤ Y.n + 1; omega, by show Y.n + 1 ≤ 128; omega⟩, fun i h1 h2 => ?_⟩
  have h2' : Y.n + 1 ≤ (i : Int) := h2
  exact long_z (wh_b Y.b Y.n) (by omega) (half_z hr) i (by omega) h1
include hr hn in
theorem lo_r : rightF Y.v (whB Y.b Y.n) (Y.n + 1) = true := by
  have h1 := right_wh hr
  have h0 := (right_n hr).1
  rw [right_wd, Bool.and_eq_true, Bool.and_eq_true, decide_eq_true_eq, decide_eq_true_eq] at h1 ⊢
  exact ⟨⟨h1.1.1, by omega⟩, by omega⟩
include hr hn in
theorem hi_r : rightF Y.v (longB (whB Y.b Y.n) Y.n.toNat 1) (Y.n + 1) = true := by
  have h1 := right_wh hr
  have h0 := (right_n hr).1
  rw [right_wd, Bool.and_eq_true, Bool.and_eq_true, decide_eq_true_eq, decide_eq_true_eq] at h1 ⊢
  refine ⟨⟨valid_iff.2 ?_, by omega⟩, by omega⟩
  rcases valid_iff.1 h1.1.1 with e | e
  · exact .inl e
  · rcases Bool.eq_false_or_eq_true Y.v with ev | ev
    · exact .inl ev
    · refine .inr (fun i h4 h16 => ?_)
      rw [ev] at hn
      have e32 : wdN false = 32 := rfl
      unfold longB
      rw [if_neg (by omega)]
      exact e i h4 h16
include hr hn in
theorem half_has (v : Bool) (b : Nat → Int) : Has (wrO Y) v b ↔ Has (loR Y) v b ∨ Has (hiR Y) v b := by
  obtain ⟨h128, hN⟩ := half_n hr hn
  have hz := half_z hr
  constructor
  · intro h
    obtain ⟨h1, h2, h3⟩ := has_iff.1 h
    have hc := bit_b b Y.n.toNat
    have h3' : ∀ i : Nat, (i : Int) < Y.n → bitF (whB Y.b Y.n) i = bitF b i := h3
    by_cases e : bitF b Y.n.toNat = 0
    · refine .inl (has_iff.2 ⟨h1, h2, fun i hi => ?_⟩)
      have hi' : (i : Int) < Y.n + 1 := hi
      show bitF (whB Y.b Y.n) i = bitF b i
      by_cases ei : (i : Int) < Y.n
      · exact h3' i ei
      · obtain rfl : i = Y.n.toNat := by omega
        rw [hz _ (by omega) h128, e]
    · refine .inr (has_iff.2 ⟨h1, h2, fun i hi => ?_⟩)
      have hi' : (i : Int) < Y.n + 1 := hi
      show bitF (longB (whB Y.b Y.n) Y.n.toNat 1) i = bitF b i
      by_cases ei : (i : Int) < Y.n
      · rw [long_lo (wh_b _ _) (by omega) h128 (by omega)]
        exact h3' i ei
      · obtain rfl : i = Y.n.toNat := by omega
        rw [long_at (wh_b _ _) (by omega) h128 hz]
        omega
  · rintro (h | h)
    · obtain ⟨h1, h2, h3⟩ := has_iff.1 h
      exact has_iff.2 ⟨h1, h2, fun i hi => h3 i (by
        have hi' : (i : Int) < Y.n := hi
        show (i : Int) < Y.n + 1
        omega)⟩
    · obtain ⟨h1, h2, h3⟩ := has_iff.1 h
      refine has_iff.2 ⟨h1, h2, fun i hi => ?_⟩
      have hi' : (i : Int) < Y.n := hi
      have h4 := h3 i (by
        show (i : Int) < Y.n + 1
        omega)
      have h5 : bitF (longB (whB Y.b Y.n) Y.n.toNat 1) i = bitF b i := h4
      rw [long_lo (wh_b _ _) (by omega) h128 (by omega)] at h5
      exact h5
include hr hn in
theorem half_ne : ¬ Eqr (loR Y) (hiR Y) := fun e => by
  obtain ⟨h128, hN⟩ := half_n hr hn
  have hz := half_z hr
  obtain ⟨_, e2, _⟩ := eqP_iff.1 e
  have e3 : bitF (whB Y.b Y.n) Y.n.toNat = bitF (longB (whB Y.b Y.n) Y.n.toNat 1) Y.n.toNat := by
    unfold bitF
    rw [show whB Y.b Y.n (Y.n.toNat / 8) = longB (whB Y.b Y.n) Y.n.toNat 1 (Y.n.toNat / 8) from e2 _ (by omega)]
  rw [hz _ (by omega) h128, long_at (wh_b _ _) (by omega) h128 hz] at e3
  omega
include hr hn in
theorem lo_wh : Eqr ⟨Y.v, whB (whB Y.b Y.n) (Y.n + 1), Y.n + 1, Y.ow⟩ (loR Y) := eqP_iff.2 ⟨rfl, wh_whole (wh_b _ _) (lo_w hr hn).z, rfl⟩
include hr hn in
theorem hi_wh : Eqr ⟨Y.v, whB (longB (whB Y.b Y.n) Y.n.toNat 1) (Y.n + 1), Y.n + 1, Y.ow⟩ (hiR Y) := eqP_iff.2 ⟨rfl, wh_whole (long_byts (wh_b _ _) _ 1 (by omega)) (hi_w hr hn).z, rfl⟩
end
/-- What the second table has: all rows but one, and that one's two halves. -/
def HalfM (X : Nat → Op10) (k j : Nat) (r : Rw) : Prop := (IxO (fun q => q < k ∧ q ≠ j) X r ∨ (Eqr (loR (X j)) r ∧ (X j).ow = r.o)) ∨ (Eqr (hiR (X j)) r ∧ (X j).ow = r.o)
theorem find_halves {X : Nat → Op10} {k j : Nat} (hk : KeptO X k) (hj : j < k) (hn : (X j).n < (wdN (X j).v : Int)) (hno : ∀ q, q < k → q ≠ j → ¬ Eqr (wrO (X q)) (loR (X j)) ∧ ¬ Eqr (wrO (X q)) (hiR (X j)))
    {v v1 v2 : Bool} {b b1 b2 : Nat → Int} {o1 o2 n1 n2 : Int} {p1 p2 : Bool} (f1 : FindR (IxO (fun q => q < k) X) v b o1 v1 b1 n1 p1) (f2 : FindR (HalfM X k j) v b o2 v2 b2 n2 p2) : o1 = o2 ∧ p1 = p2 := by
  have hr := hk.rig j hj
  have hwj : ∀ q, q < k → RwW (wrO (X q)) := fun q hq => whole_w (hk.rig q hq) _
  have hN : ∀ q, q < k → (wrO (X q)).n ≤ 128 := fun q hq => (hwj q hq).ok.n1
  have inj : ∀ q, q < k → IxO (fun q => q < k) X (wrO (X q)) := fun q hq => ⟨q, hq, Eqr.refl _, rfl⟩
  have hlo : HalfM X k j (loR (X j)) := .inl (.inr ⟨Eqr.refl _, rfl⟩)
  have hhi : HalfM X k j (hiR (X j)) := .inr ⟨Eqr.refl _, rfl⟩
  -- a row of the second table that has the address: another row, or a half
  have two : ∀ r, HalfM X k j r → Has r v b → (∃ q, q < k ∧ q ≠ j ∧ Eqr (wrO (X q)) r ∧ (X q).ow = r.o ∧ Has (wrO (X q)) v b) ∨ (Has (wrO (X j)) v b ∧ r.n = (X j).n + 1 ∧ (X j).ow = r.o ∧ ∃ s, RwW s ∧ Has s v b ∧ s.n = r.n ∧ ∀ q, q < k → q ≠ j → ¬ Eqr (wrO (X q)) s) := fun r h hh => by
    rcases h with (⟨q, hq, he, ho⟩ | ⟨he, ho⟩) | ⟨he, ho⟩
    · refine .inl ⟨q, hq.1, hq.2, he, ho, Has.congr hh (Eqr.symm he) ?_⟩
      rw [← (eqP_iff.1 he).2.2]
      exact hN q hq.1
    · have hl := lo_w hr hn
      have e3 : (loR (X j)).n = r.n := (eqP_iff.1 he).2.2
      have hs : Has (loR (X j)) v b := Has.congr hh (Eqr.symm he) (by rw [← e3]; exact hl.ok.n1)
      exact .inr ⟨(half_has hr hn v b).2 (.inl hs), e3.symm, ho, _, hl, hs, e3, fun q h1 h2 => (hno q h1 h2).1⟩
    · have hl := hi_w hr hn
      have e3 : (hiR (X j)).n = r.n := (eqP_iff.1 he).2.2
      have hs : Has (hiR (X j)) v b := Has.congr hh (Eqr.symm he) (by rw [← e3]; exact hl.ok.n1)
      exact .inr ⟨(half_has hr hn v b).2 (.inr hs), e3.symm, ho, _, hl, hs, e3, fun q h1 h2 => (hno q h1 h2).2⟩
  rcases f1 with ⟨rfl, rfl, _, _, _, a6⟩ | ⟨rfl, a1, a2, a3⟩
  · rcases f2 with ⟨rfl, rfl, _⟩ | ⟨rfl, c1, c2, c3⟩
    · exact ⟨rfl, rfl⟩
    · exfalso
      rcases two _ c1 c2 with ⟨q, hq, _, _, _, h5⟩ | ⟨h1, _⟩
      · exact a6 _ (inj q hq) h5
      · exact a6 _ (inj j hj) h1
  · obtain ⟨q, hq, he, ho⟩ := a1
    have en : (X q).n = n1 := (eqP_iff.1 he).2.2
    have hsq : Has (wrO (X q)) v b := Has.congr a2 (Eqr.symm he) (by show n1 ≤ 128; rw [← en]; exact hN q hq)
    have ho' : (X q).ow = o1 := ho
    -- the half that has it
    have half : q = j → ∃ r, HalfM X k j r ∧ Has r v b ∧ r.n = (X j).n + 1 := fun e => by
      rw [e] at hsq
      rcases (half_has hr hn v b).1 hsq with h | h
      · exact ⟨_, hlo, h, rfl⟩
      · exact ⟨_, hhi, h, rfl⟩
    rcases f2 with ⟨rfl, rfl, _, _, _, c6⟩ | ⟨rfl, c1, c2, c3⟩
    · exfalso
      by_cases e : q = j
      · obtain ⟨r, h1, h2, _⟩ := half e
        exact c6 _ h1 h2
      · exact c6 _ (.inl (.inl ⟨q, ⟨hq, e⟩, Eqr.refl _, rfl⟩)) hsq
    · refine ⟨?_, rfl⟩
      rcases two _ c1 c2 with ⟨q2, hq2, hqj2, he2, ho2, h5⟩ | ⟨h1, h2, h3, s, hs1, hs2, hs3, hs4⟩
      · have en2 : (X q2).n = n2 := (eqP_iff.1 he2).2.2
        have ho2' : (X q2).ow = o2 := ho2
        have le1 : (X q2).n ≤ n1 := a3 _ (inj q2 hq2) h5
        by_cases e : q = j
        · exfalso
          obtain ⟨r, r1, r2, r3⟩ := half e
          have := c3 _ r1 r2
          rw [e] at en
          omega
        · have le2 : (X q).n ≤ n2 := c3 _ (.inl (.inl ⟨q, ⟨hq, e⟩, Eqr.refl _, rfl⟩)) hsq
          have := hk.ap q q2 hq hq2 (has_same (hwj q hq) (hwj q2 hq2) hsq h5 (by show (X q).n = (X q2).n; omega))
          rw [← ho', ← ho2', this]
      · have h2' : n2 = (X j).n + 1 := h2
        have h3' : (X j).ow = o2 := h3
        by_cases e : q = j
        · rw [← ho', ← h3', e]
        · exfalso
          have le2 : (X q).n ≤ n2 := c3 _ (.inl (.inl ⟨q, ⟨hq, e⟩, Eqr.refl _, rfl⟩)) hsq
          have le1 : (X j).n ≤ n1 := a3 _ (inj j hj) h1
          by_cases en2 : (X j).n = (X q).n
          · exact e (hk.ap q j hq hj (has_same (hwj q hq) (hwj j hj) hsq h1 en2.symm))
          · have hs3' : s.n = n2 := hs3
            exact hs4 q hq e (has_same (hwj q hq) hs1 hsq hs2 (by show (X q).n = s.n; omega))
end Go.Proofs.Ytcpnleanjclfjaa
