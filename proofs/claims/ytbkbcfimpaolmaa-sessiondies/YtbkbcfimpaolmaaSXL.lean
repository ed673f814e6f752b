/-
  Own text. The law SessionDies: its numbers.
-/
import Derived.Test.YtbkbcfimpaolmaaSXK
namespace Go.Proofs.Ytbkbcfimpaolmaa
open Go.RowKit Go.Proofs
set_option maxRecDepth 100000
def kd (b : Int) : Kp := kpNew (pks 3) (pkr 3) (ploc 3) (pfar 3) 1 b true
theorem one_born {σ : Ses} {k : Kp} (h : One σ k) (h0 : 0 ≤ k.born) (h1 : k.born ≤ 4611686018427387904) : ∀ i, i < 3 → 0 ≤ (σ.K i).born ∧ (σ.K i).born ≤ 4611686018427387904 := fun i hi => by
  rcases three hi with rfl | rfl | rfl
  · rw [h.z]; exact ⟨Int.le_refl _, by decide⟩
  · rw [h.o]; exact ⟨h0, h1⟩
  · rw [h.x]; exact ⟨Int.le_refl _, by decide⟩
theorem fresh0 (s : Nat → Int) {c : Int} (h : c ≠ L64) : freshD L64 8192 0 s c = true := fresh_iff.2 ⟨h, fun i hi => by omega, fun i hi => by omega⟩
theorem top0 (s : Nat → Int) {c : Int} (h : 0 ≤ c) : topF (cat 0 s (fun _ => c)) 1 = c + 1 := by
  have := topF_cat (s := s) (n := 0) (c := c)
  rw [this, if_pos (by show (0 : Int) < c + 1; omega)]
set_option maxHeartbeats 4000000 in
theorem dies_walk (born after : Int) (w : World) : Calls Try.prog 7 #[.int .i64 born, .int .i64 after] w fun e w' => e = .returned (.bool true) ∧ Below w.heap.size w w' := by
  have hbr := Int.tmod_lt_of_pos born (show (0 : Int) < 1000000000 by omega)
  have har := Int.tmod_lt_of_pos after (show (0 : Int) < 400000 by omega)
  have hbl := tmod_gt born (show (0 : Int) < 1000000000 by omega)
  have hal := tmod_gt after (show (0 : Int) < 400000 by omega)
  obtain ⟨b, hb⟩ : ∃ b : Int, b = if Int.tmod born 1000000000 < 0 then -(Int.tmod born 1000000000) else Int.tmod born 1000000000 := ⟨_, rfl⟩
  obtain ⟨a, ha⟩ : ∃ a : Int, a = if Int.tmod after 400000 < 0 then -(Int.tmod after 400000) else Int.tmod after 400000 := ⟨_, rfl⟩
  have hb0 : 0 ≤ b := by split at hb <;> omega
  have hb1 : b < 1000000000 := by split at hb <;> omega
  have ha0 : 0 ≤ a := by split at ha <;> omega
  have ha1 : a < 400000 := by split at ha <;> omega
  have hma : max b (b + a) = b + a := by omega
  obtain ⟨o1, t1⟩ := one_put (ks := pks 3) (kr := pkr 3) (loc := ploc 3) (far := pfar 3) hb0
  have ok1 : SesOk 1 (putS ses0 b (pks 3) (pkr 3) (ploc 3) (pfar 3) true) := ok0.put (by omega) true (pks_b 3) (pkr_b 3) (by decide) (by decide) (by decide) (by decide)
  have HPU : Hid (∀ u sb S, SesAt u sb ses0 S → Calls Try.prog 12 #[.pointer (some ⟨sb, 0, none⟩), .int .i64 b, .agg (SC 66 (paiV (pks 3) (pkr 3) (ploc 3) (pfar 3))), .bool true] u fun e w' => e = .returned (.tuple #[.int .i64 1, .int .i64 0]) ∧ Goes SesAt u sb S (putS ses0 b (pks 3) (pkr 3) (ploc 3) (pfar 3) true) w') := Hid.mk (fun u sb S h => by
    have := Put_run b (pks 3) (pkr 3) (ploc 3) (pfar 3) true h (by decide) (by decide)
    rw [show putR ses0 (ploc 3) = (1, 0) by decide +kernel] at this
    exact this)
  generalize hs1 : putS ses0 b (pks 3) (pkr 3) (ploc 3) (pfar 3) true = σ1 at *
  have ok2 := ok1.seal (now := b + a) (by omega)
  have hep : (kpNew (pks 3) (pkr 3) (ploc 3) (pfar 3) 1 b true).ep ≠ 0 := by show (1 : Int) ≠ 0; omega
  have hbxs : (boxT (pkr 3) (nonN 7) ⟨#[121]⟩ ByteArray.empty).size ≤ 140737488355328 := by rw [boxT_size]; decide
  have hU7 : U64 7 := by unfold U64; omega
  by_cases hold : 180000 ≤ a
  · have ho : oldF (max σ1.t (b + a)) (kpNew (pks 3) (pkr 3) (ploc 3) (pfar 3) 1 b true) = true := by
      rw [t1, hma]
      exact decide_eq_true (by show 180000 ≤ b + a - b; omega)
    obtain ⟨e2, o2, t2⟩ := one_seal_old (text := ⟨#[120]⟩) o1 ho
    have HSE : Hid (∀ u sb S, SesAt u sb σ1 S → Calls Try.prog 14 #[.pointer (some ⟨sb, 0, none⟩), .int .i64 (b + a), .string ⟨#[120]⟩] u fun e w' => e = .returned (.tuple #[.int .u32 0, .int .u64 0, .string ByteArray.empty, .int .i64 19]) ∧ Goes SesAt u sb S (sealS σ1 (b + a)) w') := Hid.mk (fun u sb S h => by
      have := Seal_run9 (b + a) ⟨#[120]⟩ h ok1 (by omega) (by omega) (by show 1 ≤ _; omega)
      rw [e2] at this
      exact this)
    rw [t1, hma] at t2
    generalize hs2 : sealS σ1 (b + a) = σ2 at *
    have ho2 : oldF (max σ2.t (b + a)) (kpNew (pks 3) (pkr 3) (ploc 3) (pfar 3) 1 b true) = true := by
      rw [t2]
      exact decide_eq_true (by show 180000 ≤ max (b + a) (b + a) - b; omega)
    obtain ⟨e3, o3, t3⟩ := one_open_old (c := 7) (box := boxT (pkr 3) (nonN 7) ⟨#[121]⟩ ByteArray.empty) o2 hep ho2
    have ok3 := ok2.open (now := b + a) (x := ploc 3) (c := 7) (box := boxT (pkr 3) (nonN 7) ⟨#[121]⟩ ByteArray.empty) (by omega) hU7
    have HOP : Hid (∀ u sb S, SesAt u sb σ2 S → Calls Try.prog 15 #[.pointer (some ⟨sb, 0, none⟩), .int .i64 (b + a), .int .u32 (ploc 3), .int .u64 7, .string (boxT (pkr 3) (nonN 7) ⟨#[121]⟩ ByteArray.empty)] u fun e w' => e = .returned (.tuple #[.string ByteArray.empty, .int .i64 0, .int .i64 19]) ∧ Goes SesAt u sb S (openS σ2 (b + a) (ploc 3) 7 (boxT (pkr 3) (nonN 7) ⟨#[121]⟩ ByteArray.empty)).2 w') := Hid.mk (fun u sb S h => by
      have := Open_run9 (b + a) (ploc 3) 7 (boxT (pkr 3) (nonN 7) ⟨#[121]⟩ ByteArray.empty) h ok2 (by omega) (by omega) hU7 hbxs
      rw [show (openS σ2 (b + a) (ploc 3) 7 (boxT (pkr 3) (nonN 7) ⟨#[121]⟩ ByteArray.empty)).1 = (ByteArray.empty, 0, 19) from e3] at this
      exact this)
    replace o3 : One (openS σ2 (b + a) (ploc 3) 7 (boxT (pkr 3) (nonN 7) ⟨#[121]⟩ ByteArray.empty)).2 (kpNew (pks 3) (pkr 3) (ploc 3) (pfar 3) 1 b true) := o3
    replace t3 : (openS σ2 (b + a) (ploc 3) 7 (boxT (pkr 3) (nonN 7) ⟨#[121]⟩ ByteArray.empty)).2.t = max σ2.t (b + a) := t3
    generalize hs3 : (openS σ2 (b + a) (ploc 3) 7 (boxT (pkr 3) (nonN 7) ⟨#[121]⟩ ByteArray.empty)).2 = σ3 at *
    have hg : goesF (oldF (max σ3.t (b + a))) (kpNew (pks 3) (pkr 3) (ploc 3) (pfar 3) 1 b true) = true := by
      have : oldF (max σ3.t (b + a)) (kpNew (pks 3) (pkr 3) (ploc 3) (pfar 3) 1 b true) = true := by
        rw [t3, t2]
        exact decide_eq_true (by show 180000 ≤ max (max (b + a) (b + a)) (b + a) - b; omega)
      unfold goesF
      rw [this]
      rfl
    obtain ⟨d1, d2, d3, d4⟩ := one_drop o3 (oldF (max σ3.t (b + a)))
    rw [if_pos hg] at d1 d2
    have HEX : Hid (∀ u sb S, SesAt u sb σ3 S → Calls Try.prog 16 #[.pointer (some ⟨sb, 0, none⟩), .int .i64 (b + a)] u fun e w' => (∃ vo, e = .returned vo ∧ w'.ownsRow u.heap.size 33 1 vo 1 (u32X [ploc 3])) ∧ Goes SesAt u sb S (expireS σ3 (b + a)) w') := Hid.mk (fun u sb S h => by
      refine (Expire_run (b + a) h ok3 (by omega)).mono ?_
      rintro e w' ⟨vo, rfl, q1, q2⟩
      rw [d1] at q1
      exact ⟨⟨vo, rfl, q1⟩, q2⟩)
    have o4 : One (expireS σ3 (b + a)) kp0 := ⟨d3, d2, d4⟩
    have HDE : Hid (∀ u sb S, SesAt u sb (expireS σ3 (b + a)) S → Calls Try.prog 22 #[.pointer (some ⟨sb, 0, none⟩)] u fun e w' => e = .returned (.int .i64 (-1)) ∧ Below u.heap.size u w') := Hid.mk (fun u sb S h => by
      have := Due_run h (one_born o4 (Int.le_refl _) (by decide))
      rw [one_due o4, if_pos (show kp0.ep = 0 from rfl)] at this
      exact this)
    exact dies_old born after a b w hb0 hb1 ha0 ha1 hold hb ha HPU HSE HOP HEX HDE
  · have ho : oldF (max σ1.t (b + a)) (kpNew (pks 3) (pkr 3) (ploc 3) (pfar 3) 1 b true) = false := by
      rw [t1, hma]
      exact decide_eq_false (by show ¬ 180000 ≤ b + a - b; omega)
    obtain ⟨e2, o2, t2⟩ := one_seal (text := ⟨#[120]⟩) o1 hep ho
    have HSE : Hid (∀ u sb S, SesAt u sb σ1 S → Calls Try.prog 14 #[.pointer (some ⟨sb, 0, none⟩), .int .i64 (b + a), .string ⟨#[120]⟩] u fun e w' => e = .returned (.tuple #[.int .u32 (pfar 3), .int .u64 0, .string (boxT (pks 3) (nonN 0) ⟨#[120]⟩ ByteArray.empty), .int .i64 0]) ∧ Goes SesAt u sb S (sealS σ1 (b + a)) w') := Hid.mk (fun u sb S h => by
      have := Seal_run9 (b + a) ⟨#[120]⟩ h ok1 (by omega) (by omega) (by show 1 ≤ _; omega)
      rw [e2] at this
      exact this)
    rw [t1, hma] at t2
    generalize hs2 : sealS σ1 (b + a) = σ2 at *
    have ho2 : oldF (max σ2.t (b + a)) (kpSent (kpNew (pks 3) (pkr 3) (ploc 3) (pfar 3) 1 b true)) = false := by
      rw [t2]
      exact decide_eq_false (by show ¬ 180000 ≤ max (b + a) (b + a) - b; omega)
    obtain ⟨e3, o3, t3⟩ := one_open (c := 7) (text := ⟨#[121]⟩) o2 hep ho2 (by omega) (fresh0 _ (by unfold L64; omega)) (by show topF (cat 0 _ (fun _ => 7)) 1 < 8192; rw [top0 _ (by omega)]; omega)
    have ok3 := ok2.open (now := b + a) (x := ploc 3) (c := 7) (box := boxT (pkr 3) (nonN 7) ⟨#[121]⟩ ByteArray.empty) (by omega) hU7
    have HOP : Hid (∀ u sb S, SesAt u sb σ2 S → Calls Try.prog 15 #[.pointer (some ⟨sb, 0, none⟩), .int .i64 (b + a), .int .u32 (ploc 3), .int .u64 7, .string (boxT (pkr 3) (nonN 7) ⟨#[121]⟩ ByteArray.empty)] u fun e w' => e = .returned (.tuple #[.string ⟨#[121]⟩, .int .i64 1, .int .i64 0]) ∧ Goes SesAt u sb S (openS σ2 (b + a) (ploc 3) 7 (boxT (pkr 3) (nonN 7) ⟨#[121]⟩ ByteArray.empty)).2 w') := Hid.mk (fun u sb S h => by
      have := Open_run9 (b + a) (ploc 3) 7 (boxT (pkr 3) (nonN 7) ⟨#[121]⟩ ByteArray.empty) h ok2 (by omega) (by omega) hU7 hbxs
      rw [show (openS σ2 (b + a) (ploc 3) 7 (boxT (pkr 3) (nonN 7) ⟨#[121]⟩ ByteArray.empty)).1 = (⟨#[121]⟩, 1, 0) from e3] at this
      exact this)
    replace o3 : One (openS σ2 (b + a) (ploc 3) 7 (boxT (pkr 3) (nonN 7) ⟨#[121]⟩ ByteArray.empty)).2 (kpTook (kpSent (kpNew (pks 3) (pkr 3) (ploc 3) (pfar 3) 1 b true)) 7) := o3
    replace t3 : (openS σ2 (b + a) (ploc 3) 7 (boxT (pkr 3) (nonN 7) ⟨#[121]⟩ ByteArray.empty)).2.t = max σ2.t (b + a) := t3
    generalize hs3 : (openS σ2 (b + a) (ploc 3) 7 (boxT (pkr 3) (nonN 7) ⟨#[121]⟩ ByteArray.empty)).2 = σ3 at *
    have hg : goesF (oldF (max σ3.t (b + a))) (kpTook (kpSent (kpNew (pks 3) (pkr 3) (ploc 3) (pfar 3) 1 b true)) 7) = false := by
      have : oldF (max σ3.t (b + a)) (kpTook (kpSent (kpNew (pks 3) (pkr 3) (ploc 3) (pfar 3) 1 b true)) 7) = false := by
        rw [t3, t2]
        exact decide_eq_false (by show ¬ 180000 ≤ max (max (b + a) (b + a)) (b + a) - b; omega)
      unfold goesF
      rw [this]
      simp
    obtain ⟨d1, d2, d3, d4⟩ := one_drop o3 (oldF (max σ3.t (b + a)))
    rw [hg] at d1 d2
    replace d1 : dropL (oldF (max σ3.t (b + a))) σ3.K 3 = [] := d1
    have HEX : Hid (∀ u sb S, SesAt u sb σ3 S → Calls Try.prog 16 #[.pointer (some ⟨sb, 0, none⟩), .int .i64 (b + a)] u fun e w' => (∃ vo, e = .returned vo ∧ w'.ownsRow u.heap.size 33 1 vo 0 (u32X [])) ∧ Goes SesAt u sb S (expireS σ3 (b + a)) w') := Hid.mk (fun u sb S h => by
      refine (Expire_run (b + a) h ok3 (by omega)).mono ?_
      rintro e w' ⟨vo, rfl, q1, q2⟩
      rw [d1] at q1
      exact ⟨⟨vo, rfl, q1⟩, q2⟩)
    have o4 : One (expireS σ3 (b + a)) (kpTook (kpSent (kpNew (pks 3) (pkr 3) (ploc 3) (pfar 3) 1 b true)) 7) := ⟨d3, d2, d4⟩
    have HDE : Hid (∀ u sb S, SesAt u sb (expireS σ3 (b + a)) S → Calls Try.prog 22 #[.pointer (some ⟨sb, 0, none⟩)] u fun e w' => e = .returned (.int .i64 (b + 180000)) ∧ Below u.heap.size u w') := Hid.mk (fun u sb S h => by
      have := Due_run h (one_born o4 hb0 (by show b ≤ _; omega))
      rw [one_due o4, if_neg (show (kpTook (kpSent (kpNew (pks 3) (pkr 3) (ploc 3) (pfar 3) 1 b true)) 7).ep ≠ 0 from hep)] at this
      exact this)
    exact dies_new born after a b w hb0 hb1 ha0 ha1 (by omega) hb ha HPU HSE HOP HEX HDE
end Go.Proofs.Ytbkbcfimpaolmaa
