/-
  Own text. The law SessionRetires: its numbers.
-/
import Derived.Test.YtbkbcfimpaolmaaSXL
namespace Go.Proofs.Ytbkbcfimpaolmaa
open Go.RowKit Go.Proofs
set_option maxRecDepth 100000
def rk1 : Kp := kpNew (pks 1) (pkr 1) (ploc 1) (pfar 1) 1 0 true
def rk2 (f : Bool) : Kp := kpNew (pks 2) (pkr 2) (ploc 2) (pfar 2) 2 1 f
def rs1 : Ses := putS ses0 0 (pks 1) (pkr 1) (ploc 1) (pfar 1) true
def rs2 (f : Bool) : Ses := putS rs1 1 (pks 2) (pkr 2) (ploc 2) (pfar 2) f
theorem rs_one : One rs1 rk1 ∧ rs1.t = 0 := one_put (by omega)
theorem rs_a : putR rs1 (ploc 2) = (2, 0) := by decide +kernel
theorem rs_ok1 : SesOk 1 rs1 := ok0.put (by omega) true (pks_b 1) (pkr_b 1) (by decide) (by decide) (by decide) (by decide)
theorem rs_ok2 (f : Bool) : SesOk 2 (rs2 f) := rs_ok1.put (by omega) f (pks_b 2) (pkr_b 2) (by decide) (by decide) (by decide) (by decide)
theorem rs_none : atF rs1.K (ploc 2) = -1 := by decide +kernel
theorem rs_c : rs1.c + 1 = 2 := by decide +kernel
theorem rs2_eq (f : Bool) : (rs2 f).t = 1 ∧ (rs2 f).K = placeG Kp.ep rs1.K (rk2 f) kp0 f := by
  unfold rs2
  rw [putS_yes rs_none, rs_c, rs_one.2]
  exact ⟨by show max (0 : Int) 1 = 1; decide, rfl⟩
theorem rs2_t : (rs2 true).K 0 = rk1 ∧ (rs2 true).K 1 = rk2 true ∧ (rs2 true).K 2 = kp0 := by
  obtain ⟨p1, p2, p0⟩ := plG_t (ep := Kp.ep) (R := rs1.K) (r := rk2 true) (z := kp0)
  rw [(rs2_eq true).2]
  refine ⟨?_, p1, p2⟩
  rw [p0, rs_one.1.x, rs_one.1.o, if_neg (by decide), if_pos (by decide)]
theorem rs2_f : (rs2 false).K 0 = kp0 ∧ (rs2 false).K 1 = rk1 ∧ (rs2 false).K 2 = rk2 false := by
  obtain ⟨p2, p1, p0⟩ := plG_f (ep := Kp.ep) (R := rs1.K) (r := rk2 false) (z := kp0)
  rw [(rs2_eq false).2]
  exact ⟨p0.trans rs_one.1.z, p1.trans rs_one.1.o, p2⟩
/-- Two keypairs: previous a (or none), current b. -/
structure Two (σ : Ses) (a b : Kp) : Prop where
  p : σ.K 0 = a
  o : σ.K 1 = b
  x : σ.K 2 = kp0
theorem rs_fresh (c : Int) (h : c < 20000) (f : Bool) : freshD L64 8192 (rk2 f).n (rk2 f).s c = true := fresh0 _ (by unfold L64; omega)
theorem set_self {α : Type} (K : Nat → α) (i : Nat) (k : α) : setG K i k i = k := by unfold setG; rw [if_pos rfl]
theorem set_other {α : Type} (K : Nat → α) {i j : Nat} (k : α) (h : j ≠ i) : setG K i k j = K j := by unfold setG; rw [if_neg h]
theorem set0 {K : Nat → Kp} {a b : Kp} (h1 : K 1 = a) (h2 : K 2 = b) : setG K 0 kp0 0 = kp0 ∧ setG K 0 kp0 1 = a ∧ setG K 0 kp0 2 = b := ⟨set_self K 0 kp0, (set_other K kp0 (by decide)).trans h1, (set_other K kp0 (by decide)).trans h2⟩
theorem rs3 (f : Bool) (c : Int) (h0 : 0 ≤ c) (h1 : c < 20000) (text : ByteArray) :
    (openS (rs2 f) 2 (ploc 2) c (boxT (pkr 2) (nonN c) text ByteArray.empty)).1 = (text, 2, 0) ∧ Two (openS (rs2 f) 2 (ploc 2) c (boxT (pkr 2) (nonN c) text ByteArray.empty)).2 (if 8192 ≤ c + 1 then kp0 else rk1) (kpTook (rk2 f) c) ∧ (openS (rs2 f) 2 (ploc 2) c (boxT (pkr 2) (nonN c) text ByteArray.empty)).2.t = 2 := by
  have htop : topF (kpTook (rk2 f) c).s (kpTook (rk2 f) c).n = c + 1 := top0 (fun _ => 0) h0
  have hmax : max (rs2 f).t 2 = 2 := by rw [(rs2_eq f).1]; decide
  cases f
  · obtain ⟨q0, q1, q2⟩ := rs2_f
    have hat : atF (rs2 false).K (ploc 2) = ((2 : Nat) : Int) := by
      unfold atF hasL
      rw [q0, q1, q2]
      decide
    have hE : openE (rs2 false) 2 2 c = 0 := openE_ok (by rw [hmax, q2]; decide) (by omega) (by rw [q2]; exact rs_fresh c h1 false)
    have hb := open_box (pkr 2) (nonN c) text ByteArray.empty
    have hkr : ((rs2 false).K 2).kr = pkr 2 := by rw [q2]; rfl
    rw [openS_at hat, openAt_yes hE (by rw [hkr, hb]), hkr, hb, q2, hmax]
    refine ⟨rfl, ?_, rfl⟩
    obtain ⟨m1, m2, m0⟩ := mvG (ep := Kp.ep) (R := setG (rs2 false).K 2 (kpTook (rk2 false) c)) (z := kp0)
    rw [set_self] at m1
    rw [set_other _ _ (by omega), set_other _ _ (by omega), q1, q0, if_pos (by decide)] at m0
    by_cases hc : 8192 ≤ c + 1
    · have e : openedF (setG (rs2 false).K 2 (kpTook (rk2 false) c)) 2 = setG (movedG Kp.ep (setG (rs2 false).K 2 (kpTook (rk2 false) c)) kp0) 0 kp0 := by
        unfold openedF
        simp only [if_true, m1, htop]
        rw [if_pos ⟨by decide, hc⟩]
      rw [e, if_pos hc]
      exact ⟨(set0 m1 m2).1, (set0 m1 m2).2.1, (set0 m1 m2).2.2⟩
    · have e : openedF (setG (rs2 false).K 2 (kpTook (rk2 false) c)) 2 = movedG Kp.ep (setG (rs2 false).K 2 (kpTook (rk2 false) c)) kp0 := by
        unfold openedF
        simp only [if_true, m1, htop]
        rw [if_neg (fun q => hc q.2)]
      rw [e, if_neg hc]
      exact ⟨m0, m1, m2⟩
  · obtain ⟨q0, q1, q2⟩ := rs2_t
    have hat : atF (rs2 true).K (ploc 2) = ((1 : Nat) : Int) := by
      unfold atF hasL
      rw [q0, q1, q2]
      decide
    have hE : openE (rs2 true) 2 1 c = 0 := openE_ok (by rw [hmax, q1]; decide) (by omega) (by rw [q1]; exact rs_fresh c h1 true)
    have hb := open_box (pkr 2) (nonN c) text ByteArray.empty
    have hkr : ((rs2 true).K 1).kr = pkr 2 := by rw [q1]; rfl
    rw [openS_at hat, openAt_yes hE (by rw [hkr, hb]), hkr, hb, q1, hmax]
    refine ⟨rfl, ?_, rfl⟩
    have s1 := set_self (rs2 true).K 1 (kpTook (rk2 true) c)
    have s0 := (set_other (rs2 true).K (i := 1) (j := 0) (kpTook (rk2 true) c) (by omega)).trans q0
    have s2 := (set_other (rs2 true).K (i := 1) (j := 2) (kpTook (rk2 true) c) (by omega)).trans q2
    by_cases hc : 8192 ≤ c + 1
    · have e : openedF (setG (rs2 true).K 1 (kpTook (rk2 true) c)) 1 = setG (setG (rs2 true).K 1 (kpTook (rk2 true) c)) 0 kp0 := by
        unfold openedF
        simp only [show ¬ (1 = 2) by decide, if_false, s1, htop]
        rw [if_pos ⟨by decide, hc⟩]
      rw [e, if_pos hc]
      exact ⟨(set0 s1 s2).1, (set0 s1 s2).2.1, (set0 s1 s2).2.2⟩
    · have e : openedF (setG (rs2 true).K 1 (kpTook (rk2 true) c)) 1 = setG (rs2 true).K 1 (kpTook (rk2 true) c) := by
        unfold openedF
        simp only [show ¬ (1 = 2) by decide, if_false, s1, htop]
        rw [if_neg (fun q => hc q.2)]
      rw [e, if_neg hc]
      exact ⟨s0, s1, s2⟩
/-- Nothing opens by a keypair that is gone. -/
theorem rs4_gone {σ : Ses} {f : Bool} {c : Int} (h : Two σ kp0 (kpTook (rk2 f) c)) (now d : Int) (box : ByteArray) : (openS σ now (ploc 1) d box).1 = (ByteArray.empty, 0, 15) ∧ (slotsL (openS σ now (ploc 1) d box).2.K 3).length = 1 := by
  have hat : atF σ.K (ploc 1) = -1 := by
    unfold atF hasL
    rw [h.p, h.o, h.x]
    have e1 : (kpTook (rk2 f) c).loc = 2 := by show ploc 2 = 2; decide
    rw [e1]
    rfl
  rw [openS_no hat]
  refine ⟨rfl, ?_⟩
  simp only [slotsL, h.p, h.o, h.x]
  rfl
theorem rs4_there {σ : Ses} {f : Bool} {c : Int} (h : Two σ rk1 (kpTook (rk2 f) c)) (ht : σ.t = 2) (text : ByteArray) : (openS σ 3 (ploc 1) 5 (boxT (pkr 1) (nonN 5) text ByteArray.empty)).1 = (text, 1, 0) ∧ (slotsL (openS σ 3 (ploc 1) 5 (boxT (pkr 1) (nonN 5) text ByteArray.empty)).2.K 3).length = 2 := by
  have hat : atF σ.K (ploc 1) = ((0 : Nat) : Int) := by
    have e1 : hasL σ.K (ploc 1) 0 = true := by unfold hasL; rw [h.p]; decide
    unfold atF
    rw [if_pos e1]
    rfl
  have hmax : max σ.t 3 = 3 := by rw [ht]; decide
  have hE : openE σ 3 0 5 = 0 := openE_ok (by rw [hmax, h.p]; decide) (by omega) (by rw [h.p]; exact fresh0 _ (by unfold L64; omega))
  have hb := open_box (pkr 1) (nonN 5) text ByteArray.empty
  have hkr : (σ.K 0).kr = pkr 1 := by rw [h.p]; rfl
  rw [openS_at hat, openAt_yes hE (by rw [hkr, hb]), hkr, hb, h.p]
  refine ⟨rfl, ?_⟩
  have e : openedF (setG σ.K 0 (kpTook rk1 5)) 0 = setG σ.K 0 (kpTook rk1 5) := by unfold openedF; simp
  rw [e]
  have s0 := set_self σ.K 0 (kpTook rk1 5)
  have s1 := (set_other σ.K (i := 0) (j := 1) (kpTook rk1 5) (by omega)).trans h.o
  have s2 := (set_other σ.K (i := 0) (j := 2) (kpTook rk1 5) (by omega)).trans h.x
  simp only [slotsL, s0, s1, s2]
  rfl
end Go.Proofs.Ytbkbcfimpaolmaa
