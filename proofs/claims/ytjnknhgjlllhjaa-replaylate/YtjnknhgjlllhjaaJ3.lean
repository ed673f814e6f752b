/-
  Own text. ReplayLate, from what windows do.
-/
import Derived.Test.YtjnknhgjlllhjaaJ2
import Derived.Test.YtjnknhgjlllhjaaJ1
import Derived.Test.YtjnknhgjlllhjaaRows
import Derived.ChangeSlices
import Derived.Deep.Slices
import Derived.ChangeSame
import Derived.OpenShut
import Derived.ProofKit
import Derived.SizedLaws
import Derived.Carry
import Derived.Lib.SliceRun
import Derived.Laws.Bits64b
import Derived.BigQuiet
namespace Go.Proofs.Ytjnknhgjlllhjaa
open Go.RowKit Go.Proofs
set_option maxRecDepth 100000
theorem nums_mono {a b : Int} {n : Nat} {s : Nat → Int} (h : Nums a n s) (hab : a ≤ b) : Nums b n s := ⟨fun i hi => by have := h.1 i hi; omega, h.2⟩
theorem nums_more {a sz c : Int} {m : Nat} {s : Nat → Int} (h : Nums a m s) (h0 : 0 ≤ c) (h1 : c < a) (hf : freshD L64 sz m s c = true) : Nums a (m + 1) (cat m s (fun _ => c)) := by
  have h2 := (fresh_iff.1 hf).2.1
  refine ⟨fun i hi => ?_, fun i j hij hj => ?_⟩
  · unfold cat
    split
    · rename_i hin; exact h.1 i hin
    · exact ⟨h0, h1⟩
  · unfold cat
    rw [if_pos (by omega)]
    split
    · rename_i hjn; exact h.2 i j hij hjn
    · exact h2 i (by omega)
theorem memb_succ (k : Nat) (s : Nat → Int) (c : Int) : memb (k + 1) s c = (memb k s c || decide (s k = c)) := by
  by_cases h : s k = c
  · rw [memb_yes (i := k) (by omega) h]; simp [h]
  · cases e : memb k s c
    · rw [memb_no (fun i hi h2 => ?_)]
      · simp [h]
      · by_cases e2 : i = k
        · subst e2; exact h h2
        · rw [memb_yes (i := i) (by omega) h2] at e
          cases e
    · unfold memb at e
      obtain ⟨i, hi, h2⟩ := of_decide_eq_true e
      rw [memb_yes (i := i) (by omega) h2]; rfl
theorem topF_small {m : Nat} {s : Nat → Int} (h : Nums 100000 m s) : topF s m ≤ 100000 := by
  rcases Nat.eq_zero_or_pos m with e | e
  · subst e; simp [topF]
  · obtain ⟨i, hi, h2⟩ := topF_some e (fun i hi => (h.1 i hi).1)
    have := h.1 i hi
    omega
theorem top_fresh {sz : Int} {m : Nat} {s : Nat → Int} (ht : topF s m < L64) : freshD L64 sz m s (topF s m) = true := by
  refine fresh_iff.2 ⟨by omega, fun i hi => ?_, fun i hi => ?_⟩
  · have := topF_le (s := s) hi; omega
  · have := topF_le (s := s) hi; omega
set_option maxHeartbeats 8000000 in
theorem late_walk {Win : World → Nat → Int → Nat → (Nat → Int) → (Nat → Prop) → Prop} (C : Code64 Win) (x : Int) (sv av : Value) (ns na : Nat) (sw aw : Nat → Int) (w : World) (hI : IntsAt w .u64 sv ns sw) (hA : IntsAt w .u64 av na aw) (hx : I64 x) (hsw : ∀ i, i < ns → U64 (sw i)) (haw : ∀ i, i < na → U64 (aw i)) (hns : ns < 9223372036854775808) (has : na < 9223372036854775808) :
    Calls Try.prog 7 #[.int .i64 x, sv, av] w fun e w' => e = .returned (.bool true) ∧ Below w.heap.size w w' := by
  obtain ⟨pa, pc, rfl, hp⟩ := hI
  obtain ⟨qa, qc, rfl, hq⟩ := hA
  have HP := Hid.mk hp
  have HQ := Hid.mk hq
  have HSW := Hid.mk hsw
  have HAW := Hid.mk haw
  clear hp hq hsw haw
  go_enter Try.func7, Try.ntmps7
  go_wp2_with fail
  refine (awake8_run C _).mono ?_
  rintro e v0 ⟨rfl, hB⟩
  go_wp2_with fail
  refine (pick_run x 200 _ hx (by decide)).mono ?_
  rintro e v1 ⟨rfl, rfl⟩
  have hq := pickF_range (c := x) (n := 200) (by decide)
  generalize pickF x 200 = q at *
  obtain ⟨k, rfl⟩ := Int.eq_ofNat_of_zero_le hq.1
  go_wp2_with fail
  rw [show (1 : Int) + (k : Int) = ((1 + k : Nat) : Int) by omega]
  have hN : 1 ≤ 1 + k ∧ 1 + k < 201 := by omega
  generalize 1 + k = N at *
  refine (C.new N _).mono ?_
  rintro e v2 ⟨bw, S, rfl, hw, hS, hb2⟩
  rw [show clampF (N : Int) = N by unfold clampF; rw [if_neg (by omega), if_neg (by omega)]] at hw
  have HR : Hid (RowP Win w v2 bw N 0 (fun _ => 0) S v2.heap.size (.slice none 0 0) 0 (fun _ => 0)) := Hid.mk ⟨hw, World.ownsRow_nil v2 _ _ _, (fun k hk => by cases hk), fun k hk => Nat.le_trans hB.size (hS k hk), Nat.le_trans hB.size hb2.size, Nat.le_refl _, hB.trans (hb2.mono hB.size)⟩
  have hz : (1 : Int) ≤ (N : Int) ∧ (N : Int) ≤ 8192 := by omega
  clear hb2 hq hw hS hB
  go_wp2_with fail
  go_loopg [10, 11, 12] (min ns 100) (fun gm vo tv iv v => ∃ (i m : Nat) (s : Nat → Int) (S : Nat → Prop), Hid (gm + i = min ns 100) ∧ iv = .int .i64 (i : Int) ∧ tv = .int .u64 (topF s m) ∧ Hid (RowP Win w v bw N m s S v2.heap.size vo m s) ∧ Hid (Nums 100000 m s ∧ m ≤ i))
  case atStart => exact ⟨0, 0, fun _ => 0, S, Hid.mk (by omega), rfl, rfl, HR, Hid.mk ⟨Nums.nil _ _, Nat.le_refl _⟩⟩
  case round =>
    clear HR
    obtain ⟨i, m, s, S, HK, rfl, rfl, HR, HN⟩ := hrel
    have hi : i ≤ min ns 100 := by have := HK.out; omega
    have hm := HN.out.2
    have hNN : Nums L64 m s := nums_mono HN.out.1 (by decide)
    by_cases hlt : i < min ns 100
    · have hi1 : i < ns := by omega
      have hi2 : i < 100 := by omega
      obtain ⟨p, rfl, k1, k3⟩ := HP.out i hi1
      replace k1 := cell_kept (HR.out.below.block p.block k3) k1
      have hu := HSW.out i hi1
      unfold U64 at hu
      generalize sw i = y at *
      clear k3
      go_wp2_with fail
      have hc : 0 ≤ y % 100000 ∧ y % 100000 < 100000 := by omega
      generalize y % 100000 = c at *
      have hcu : U64 c := by unfold U64; omega
      cases hf : freshD L64 N m s c
      · refine (C.takeNo c HR.out.win hNN (by omega) hcu hz hf).mono ?_
        rintro e v3 ⟨rfl, hb⟩
        replace HR := Hid.mk (HR.out.next C hb)
        clear hb
        go_wp2_with fail
        go_roundg (min ns 100 - (i + 1))
        case rel => exact ⟨i + 1, m, s, S, Hid.mk (by omega), by go_num, rfl, HR, Hid.mk ⟨HN.out.1, by omega⟩⟩
        case measure => have := HK.out; omega
      · refine (C.takeYes c HR.out.win hNN (by omega) hcu hz hf).mono ?_
        rintro e v3 ⟨rfl, S2, h2, hT, hS2⟩
        have hN2 : Nums 100000 (m + 1) (cat m s (fun _ => c)) := nums_more HN.out.1 hc.1 hc.2 hf
        have htr := topF_range (fun j hj => nums_l hNN j hj)
        have htop : topF (cat m s (fun _ => c)) (m + 1) = if topF s m < c + 1 then c + 1 else topF s m := by
          rw [topF_succ, show cat m s (fun _ => c) m = c by simp [cat], topF_congr (s := cat m s (fun _ => c)) (t := s) (n := m) (fun j hj => by simp [cat, hj])]
        replace HR := Hid.mk (HR.out.took h2 hT hS2)
        clear h2 hT hS2
        have HRa := Hid.mk (HR.out.next C ((Below.refl v3.heap.size v3).alloc (Nat.le_refl _) (.cells #[.int .u64 c] 26)))
        go_wp2_with (at_builtin; refine ap_fine rfl _ _ 29 26 .u64 8 Try.underlying29 infoU64 (by decide) (by rfl) (n := m) (m := 1) (by rfl) HRa.out.row (by rfl) (r := fun _ => c) (fun j hj => by obtain rfl : j = 0 := (by omega); exact cell_of_row _ _ 0 _ _ _ (heap_alloc_new v3 _)) (by omega) HRa.out.bB ?_; intro vo2 v4 h4 hg hq; refine Hid.out ?_)
        replace HR := Hid.mk (HRa.out.grown C h4 hg hq)
        clear HRa h4 hg hq
        refine Hid.mk ?_
        by_cases ht : topF s m < c + 1
        · rw [if_pos ht] at htop
          have HTOP := Hid.mk htop
          clear htop
          generalize topF s m = t0 at *
          go_wp2_with fail
          go_roundg (min ns 100 - (i + 1))
          case rel => exact ⟨i + 1, m + 1, _, S2, Hid.mk (by omega), by go_num, by rw [HTOP.out], HR, Hid.mk ⟨hN2, by omega⟩⟩
          case measure => have := HK.out; omega
        · rw [if_neg ht] at htop
          have HTOP := Hid.mk htop
          clear htop
          generalize topF s m = t0 at *
          go_wp2_with fail
          go_roundg (min ns 100 - (i + 1))
          case rel => exact ⟨i + 1, m + 1, _, S2, Hid.mk (by omega), by go_num, by rw [HTOP.out], HR, Hid.mk ⟨hN2, by omega⟩⟩
          case measure => have := HK.out; omega
    · have hm1 : m ≤ 100 := by omega
      by_cases hi1 : i < ns
      · have hi2 : ¬ i < 100 := by omega
        clear hlt
        go_wp2_with fail
        try simp only [show decide ((i : Int) < 100) = false from decide_eq_false (by omega)]
        refine (C.copy HR.out.win hz).mono ?_
        rintro e v5 ⟨bc, Sc, rfl, hc, hSc, hb4⟩
        go_wp2_with fail
        refine (C.top (C.below HR.out.win hb4) hNN (by omega)).mono ?_
        rintro e v6 ⟨rfl, hb⟩
        have HC := Hid.mk (C.below hc hb)
        replace hb4 := hb4.trans (hb.mono hb4.size)
        have HR6 := Hid.mk (HR.out.next C hb4)
        have HS4 := Hid.mk hSc
        have HB4 := Hid.mk hb4
        clear hc hSc hb hb4
        have htr := topF_range (fun j hj => nums_l hNN j hj)
        have HT0 := Hid.mk (topF_small HN.out.1)
        have HT1 := Hid.mk (top_fresh (s := s) (m := m) (sz := N) (by have := HT0.out; unfold L64; omega))
        have HT2 := Hid.mk (fun x (hx : 0 ≤ x) => late_top (n := m) (s := s) (sz := N) (x := x) (fun j hj => (hNN.1 j hj).1) hx hz.1)
        obtain ⟨po, cpo, rfl, -⟩ := own_view HR6.out.row
        generalize htt : topF s m = T at *
        have HTE := Hid.mk htt
        clear htt
        go_wp2_with fail
        generalize gk = g0 at *
        generalize wr = w4 at *
        go_loopg [15] (min na 100) (fun gm iv v => ∃ i2 : Nat, Hid (gm + i2 = min na 100) ∧ iv = .int .i64 (i2 : Int) ∧ Below v6.heap.size v6 v)
        case atStart => exact ⟨0, Hid.mk (by omega), rfl, Below.refl _ _⟩
        case round =>
          obtain ⟨i2, HK2, rfl, hb6⟩ := hrel
          have hi2m : i2 ≤ min na 100 := by have := HK2.out; omega
          by_cases hlt2 : i2 < min na 100
          · have hj1 : i2 < na := by omega
            have hj2 : i2 < 100 := by omega
            obtain ⟨p2, rfl, k1, k3⟩ := HQ.out i2 hj1
            replace k1 := cell_kept (((HR6.out.next C hb6).below).block p2.block k3) k1
            have hu := HAW.out i2 hj1
            unfold U64 at hu
            generalize aw i2 = y at *
            clear k3
            go_wp2_with fail
            have hc2 : 0 ≤ y % 100100 ∧ y % 100100 < 100100 := by omega
            generalize y % 100100 = c at *
            have hcu : U64 c := by unfold U64; omega
            have HRW := Hid.mk (HR6.out.next C hb6).row
            have HCW := Hid.mk (C.below HC.out hb6)
            generalize gk = g5 at *
            generalize wr = w5 at *
            go_loopg [17, 18] m (fun gm tv kv v => ∃ k : Nat, Hid (gm + k = m) ∧ kv = .int .i64 (k : Int) ∧ tv = .bool (memb k s c) ∧ v = w5)
            case atStart => exact ⟨0, Hid.mk rfl, rfl, by rw [memb_no (fun i hi => by omega)], rfl⟩
            case round =>
              obtain ⟨k, HK3, rfl, rfl, rfl⟩ := hrel
              have hkm : k ≤ m := by have := HK3.out; omega
              by_cases hk : k < m
              · obtain ⟨p', cp', e, hpv⟩ := own_view HRW.out
                cases e
                obtain ⟨g, rfl, kq⟩ := hpv k hk
                clear hpv
                have HMS := Hid.mk (memb_succ k s c)
                generalize memb k s c = M at *
                generalize s k = z at *
                cases M
                · by_cases hzc : z = c
                  · have HM1 := Hid.mk (show memb (k + 1) s c = true by rw [HMS.out]; simp [hzc])
                    rw [hzc] at kq
                    clear hzc
                    go_wp2_with fail
                    go_roundg (m - (k + 1))
                    case rel => exact ⟨k + 1, Hid.mk (by omega), by go_num, by rw [HM1.out], by first | trivial | rfl⟩
                    case measure => have := HK3.out; omega
                  · have HM1 := Hid.mk (show memb (k + 1) s c = false by rw [HMS.out]; simp [hzc])
                    go_wp2_with fail
                    go_roundg (m - (k + 1))
                    case rel => exact ⟨k + 1, Hid.mk (by omega), by go_num, by rw [HM1.out]; simp [hzc], by first | trivial | rfl⟩
                    case measure => have := HK3.out; omega
                · have HM1 := Hid.mk (show memb (k + 1) s c = true by rw [HMS.out]; simp)
                  go_wp2_with fail
                  go_roundg (m - (k + 1))
                  case rel => exact ⟨k + 1, Hid.mk (by omega), by go_num, by rw [HM1.out], by first | trivial | rfl⟩
                  case measure => have := HK3.out; omega
              · obtain rfl : k = m := by omega
                have hfr : freshD L64 N k s c = !(decide (c = L64) || memb k s c || late k s N c) := rfl
                rw [HT2.out c hc2.1, show decide (c = L64) = false from decide_eq_false (by unfold L64; omega)] at hfr
                generalize memb k s c = M at *
                cases M
                · by_cases h1 : T ≤ c
                  · have hF : freshD L64 N k s c = true := by rw [hfr]; simp; omega
                    have HF := Hid.mk hF
                    clear hF hfr
                    go_wp2_with fail
                    refine (C.fresh c HCW.out hNN (by omega) hcu hz).mono ?_
                    rintro e v7 ⟨rfl, hb⟩
                    rw [HF.out]
                    replace HCW := Hid.mk (C.below HCW.out hb)
                    replace hb6 := hb6.trans (hb.mono hb6.size)
                    clear hb
                    go_wp2_with fail
                    refine (C.copy HCW.out hz).mono ?_
                    rintro e v8 ⟨bd, Sd, rfl, hd, hSd, hb⟩
                    replace hb6 := hb6.trans (hb.mono hb6.size)
                    clear hb hSd
                    go_wp2_with fail
                    refine (C.fresh c hd hNN (by omega) hcu hz).mono ?_
                    rintro e v9 ⟨rfl, hb⟩
                    rw [HF.out]
                    replace hb6 := hb6.trans (hb.mono hb6.size)
                    clear hb hd
                    go_wp2_with fail
                    go_roundg (min na 100 - (i2 + 1))
                    case rel => exact ⟨i2 + 1, Hid.mk (by omega), by go_num, hb6⟩
                    case measure => have := HK2.out; omega
                  · by_cases h2 : T - 1 - c < N
                    · have hF : freshD L64 N k s c = true := by rw [hfr]; simp; omega
                      have HF := Hid.mk hF
                      clear hF hfr
                      go_wp2_with fail
                      refine (C.fresh c HCW.out hNN (by omega) hcu hz).mono ?_
                      rintro e v7 ⟨rfl, hb⟩
                      rw [HF.out]
                      replace HCW := Hid.mk (C.below HCW.out hb)
                      replace hb6 := hb6.trans (hb.mono hb6.size)
                      clear hb
                      go_wp2_with fail
                      refine (C.copy HCW.out hz).mono ?_
                      rintro e v8 ⟨bd, Sd, rfl, hd, hSd, hb⟩
                      replace hb6 := hb6.trans (hb.mono hb6.size)
                      clear hb hSd
                      go_wp2_with fail
                      refine (C.fresh c hd hNN (by omega) hcu hz).mono ?_
                      rintro e v9 ⟨rfl, hb⟩
                      rw [HF.out]
                      replace hb6 := hb6.trans (hb.mono hb6.size)
                      clear hb hd
                      go_wp2_with fail
                      go_roundg (min na 100 - (i2 + 1))
                      case rel => exact ⟨i2 + 1, Hid.mk (by omega), by go_num, hb6⟩
                      case measure => have := HK2.out; omega
                    · have hF : freshD L64 N k s c = false := by rw [hfr]; simp; omega
                      have HF := Hid.mk hF
                      clear hF hfr
                      go_wp2_with fail
                      refine (C.fresh c HCW.out hNN (by omega) hcu hz).mono ?_
                      rintro e v7 ⟨rfl, hb⟩
                      rw [HF.out]
                      replace HCW := Hid.mk (C.below HCW.out hb)
                      replace hb6 := hb6.trans (hb.mono hb6.size)
                      clear hb
                      go_wp2_with fail
                      refine (C.copy HCW.out hz).mono ?_
                      rintro e v8 ⟨bd, Sd, rfl, hd, hSd, hb⟩
                      replace hb6 := hb6.trans (hb.mono hb6.size)
                      clear hb hSd
                      go_wp2_with fail
                      refine (C.fresh c hd hNN (by omega) hcu hz).mono ?_
                      rintro e v9 ⟨rfl, hb⟩
                      rw [HF.out]
                      replace hb6 := hb6.trans (hb.mono hb6.size)
                      clear hb hd
                      go_wp2_with fail
                      go_roundg (min na 100 - (i2 + 1))
                      case rel => exact ⟨i2 + 1, Hid.mk (by omega), by go_num, hb6⟩
                      case measure => have := HK2.out; omega
                · have hF : freshD L64 N k s c = false := by rw [hfr]; simp
                  have HF := Hid.mk hF
                  clear hF hfr
                  go_wp2_with fail
                  refine (C.fresh c HCW.out hNN (by omega) hcu hz).mono ?_
                  rintro e v7 ⟨rfl, hb⟩
                  rw [HF.out]
                  replace HCW := Hid.mk (C.below HCW.out hb)
                  replace hb6 := hb6.trans (hb.mono hb6.size)
                  clear hb
                  go_wp2_with fail
                  refine (C.copy HCW.out hz).mono ?_
                  rintro e v8 ⟨bd, Sd, rfl, hd, hSd, hb⟩
                  replace hb6 := hb6.trans (hb.mono hb6.size)
                  clear hb hSd
                  go_wp2_with fail
                  refine (C.fresh c hd hNN (by omega) hcu hz).mono ?_
                  rintro e v9 ⟨rfl, hb⟩
                  rw [HF.out]
                  replace hb6 := hb6.trans (hb.mono hb6.size)
                  clear hb hd
                  go_wp2_with fail
                  go_roundg (min na 100 - (i2 + 1))
                  case rel => exact ⟨i2 + 1, Hid.mk (by omega), by go_num, hb6⟩
                  case measure => have := HK2.out; omega
          · by_cases hj1 : i2 < na
            · have hj2 : ¬ i2 < 100 := by omega
              clear hlt2
              have hT0 := HT0.out
              go_wp2_with fail
              have hcc := C.below HC.out hb6
              have hb4 := HB4.out.trans (hb6.mono HB4.out.size)
              refine (take_any C (T + 5) hcc hNN (by omega) (by unfold U64; omega) hz).mono ?_
              rintro e v7 ⟨r1, n1, s1, S3, rfl, h3, hN1, hn1, hT, hS3⟩
              have hS4 : ∀ k, S3 k → w4.heap.size ≤ k := fun k hk => (hS3 k hk).elim (HS4.out k) (fun h => Nat.le_trans hb4.size h)
              replace hb4 := below_T hb4 hT HS4.out hb4.size
              clear hT hS3 hcc
              go_wp2_with fail
              refine (C.clear h3).mono ?_
              rintro e v8 ⟨rfl, S5, h5, hT, hS5⟩
              replace hb4 := below_T hb4 hT hS4 hb4.size
              clear hT hS5 h3
              have HR8 := Hid.mk (HR.out.next C hb4)
              go_wp2_with fail
              refine (C.top HR8.out.win hNN (by omega)).mono ?_
              rintro e v9 ⟨rfl, hb⟩
              replace h5 := C.below h5 hb
              replace HR8 := Hid.mk (HR8.out.next C hb)
              clear hb
              rw [HTE.out]
              go_wp2_with fail
              refine (C.top h5 (Nums.nil _ _) (by decide)).mono ?_
              rintro e v10 ⟨rfl, hb⟩
              replace HR8 := Hid.mk (HR8.out.next C hb)
              clear hb
              rw [show topF (fun _ => 0) 0 = 0 from rfl]
              go_wp2_with fail
              refine (C.fresh T HR8.out.win hNN (by omega) (by unfold U64; omega) hz).mono ?_
              rintro e v11 ⟨rfl, hb⟩
              rw [HT1.out]
              replace HR8 := Hid.mk (HR8.out.next C hb)
              go_wp2_with fail
              go_ret
              exact ⟨rfl, HR8.out.below⟩
            · have hlt3 := hlt2
              clear hlt2
              have hT0 := HT0.out
              go_wp2_with fail
              have hcc := C.below HC.out hb6
              have hb4 := HB4.out.trans (hb6.mono HB4.out.size)
              refine (take_any C (T + 5) hcc hNN (by omega) (by unfold U64; omega) hz).mono ?_
              rintro e v7 ⟨r1, n1, s1, S3, rfl, h3, hN1, hn1, hT, hS3⟩
              have hS4 : ∀ k, S3 k → w4.heap.size ≤ k := fun k hk => (hS3 k hk).elim (HS4.out k) (fun h => Nat.le_trans hb4.size h)
              replace hb4 := below_T hb4 hT HS4.out hb4.size
              clear hT hS3 hcc
              go_wp2_with fail
              refine (C.clear h3).mono ?_
              rintro e v8 ⟨rfl, S5, h5, hT, hS5⟩
              replace hb4 := below_T hb4 hT hS4 hb4.size
              clear hT hS5 h3
              have HR8 := Hid.mk (HR.out.next C hb4)
              go_wp2_with fail
              refine (C.top HR8.out.win hNN (by omega)).mono ?_
              rintro e v9 ⟨rfl, hb⟩
              replace h5 := C.below h5 hb
              replace HR8 := Hid.mk (HR8.out.next C hb)
              clear hb
              rw [HTE.out]
              go_wp2_with fail
              refine (C.top h5 (Nums.nil _ _) (by decide)).mono ?_
              rintro e v10 ⟨rfl, hb⟩
              replace HR8 := Hid.mk (HR8.out.next C hb)
              clear hb
              rw [show topF (fun _ => 0) 0 = 0 from rfl]
              go_wp2_with fail
              refine (C.fresh T HR8.out.win hNN (by omega) (by unfold U64; omega) hz).mono ?_
              rintro e v11 ⟨rfl, hb⟩
              rw [HT1.out]
              replace HR8 := Hid.mk (HR8.out.next C hb)
              go_wp2_with fail
              go_ret
              exact ⟨rfl, HR8.out.below⟩
      · clear hlt
        go_wp2_with fail
        try simp only [show decide ((i : Int) < 100) = false from decide_eq_false (by omega)]
        refine (C.copy HR.out.win hz).mono ?_
        rintro e v5 ⟨bc, Sc, rfl, hc, hSc, hb4⟩
        go_wp2_with fail
        refine (C.top (C.below HR.out.win hb4) hNN (by omega)).mono ?_
        rintro e v6 ⟨rfl, hb⟩
        have HC := Hid.mk (C.below hc hb)
        replace hb4 := hb4.trans (hb.mono hb4.size)
        have HR6 := Hid.mk (HR.out.next C hb4)
        have HS4 := Hid.mk hSc
        have HB4 := Hid.mk hb4
        clear hc hSc hb hb4
        have htr := topF_range (fun j hj => nums_l hNN j hj)
        have HT0 := Hid.mk (topF_small HN.out.1)
        have HT1 := Hid.mk (top_fresh (s := s) (m := m) (sz := N) (by have := HT0.out; unfold L64; omega))
        have HT2 := Hid.mk (fun x (hx : 0 ≤ x) => late_top (n := m) (s := s) (sz := N) (x := x) (fun j hj => (hNN.1 j hj).1) hx hz.1)
        obtain ⟨po, cpo, rfl, -⟩ := own_view HR6.out.row
        generalize htt : topF s m = T at *
        have HTE := Hid.mk htt
        clear htt
        go_wp2_with fail
        generalize gk = g0 at *
        generalize wr = w4 at *
        go_loopg [15] (min na 100) (fun gm iv v => ∃ i2 : Nat, Hid (gm + i2 = min na 100) ∧ iv = .int .i64 (i2 : Int) ∧ Below v6.heap.size v6 v)
        case atStart => exact ⟨0, Hid.mk (by omega), rfl, Below.refl _ _⟩
        case round =>
          obtain ⟨i2, HK2, rfl, hb6⟩ := hrel
          have hi2m : i2 ≤ min na 100 := by have := HK2.out; omega
          by_cases hlt2 : i2 < min na 100
          · have hj1 : i2 < na := by omega
            have hj2 : i2 < 100 := by omega
            obtain ⟨p2, rfl, k1, k3⟩ := HQ.out i2 hj1
            replace k1 := cell_kept (((HR6.out.next C hb6).below).block p2.block k3) k1
            have hu := HAW.out i2 hj1
            unfold U64 at hu
            generalize aw i2 = y at *
            clear k3
            go_wp2_with fail
            have hc2 : 0 ≤ y % 100100 ∧ y % 100100 < 100100 := by omega
            generalize y % 100100 = c at *
            have hcu : U64 c := by unfold U64; omega
            have HRW := Hid.mk (HR6.out.next C hb6).row
            have HCW := Hid.mk (C.below HC.out hb6)
            generalize gk = g5 at *
            generalize wr = w5 at *
            go_loopg [17, 18] m (fun gm tv kv v => ∃ k : Nat, Hid (gm + k = m) ∧ kv = .int .i64 (k : Int) ∧ tv = .bool (memb k s c) ∧ v = w5)
            case atStart => exact ⟨0, Hid.mk rfl, rfl, by rw [memb_no (fun i hi => by omega)], rfl⟩
            case round =>
              obtain ⟨k, HK3, rfl, rfl, rfl⟩ := hrel
              have hkm : k ≤ m := by have := HK3.out; omega
              by_cases hk : k < m
              · obtain ⟨p', cp', e, hpv⟩ := own_view HRW.out
                cases e
                obtain ⟨g, rfl, kq⟩ := hpv k hk
                clear hpv
                have HMS := Hid.mk (memb_succ k s c)
                generalize memb k s c = M at *
                generalize s k = z at *
                cases M
                · by_cases hzc : z = c
                  · have HM1 := Hid.mk (show memb (k + 1) s c = true by rw [HMS.out]; simp [hzc])
                    rw [hzc] at kq
                    clear hzc
                    go_wp2_with fail
                    go_roundg (m - (k + 1))
                    case rel => exact ⟨k + 1, Hid.mk (by omega), by go_num, by rw [HM1.out], by first | trivial | rfl⟩
                    case measure => have := HK3.out; omega
                  · have HM1 := Hid.mk (show memb (k + 1) s c = false by rw [HMS.out]; simp [hzc])
                    go_wp2_with fail
                    go_roundg (m - (k + 1))
                    case rel => exact ⟨k + 1, Hid.mk (by omega), by go_num, by rw [HM1.out]; simp [hzc], by first | trivial | rfl⟩
                    case measure => have := HK3.out; omega
                · have HM1 := Hid.mk (show memb (k + 1) s c = true by rw [HMS.out]; simp)
                  go_wp2_with fail
                  go_roundg (m - (k + 1))
                  case rel => exact ⟨k + 1, Hid.mk (by omega), by go_num, by rw [HM1.out], by first | trivial | rfl⟩
                  case measure => have := HK3.out; omega
              · obtain rfl : k = m := by omega
                have hfr : freshD L64 N k s c = !(decide (c = L64) || memb k s c || late k s N c) := rfl
                rw [HT2.out c hc2.1, show decide (c = L64) = false from decide_eq_false (by unfold L64; omega)] at hfr
                generalize memb k s c = M at *
                cases M
                · by_cases h1 : T ≤ c
                  · have hF : freshD L64 N k s c = true := by rw [hfr]; simp; omega
                    have HF := Hid.mk hF
                    clear hF hfr
                    go_wp2_with fail
                    refine (C.fresh c HCW.out hNN (by omega) hcu hz).mono ?_
                    rintro e v7 ⟨rfl, hb⟩
                    rw [HF.out]
                    replace HCW := Hid.mk (C.below HCW.out hb)
                    replace hb6 := hb6.trans (hb.mono hb6.size)
                    clear hb
                    go_wp2_with fail
                    refine (C.copy HCW.out hz).mono ?_
                    rintro e v8 ⟨bd, Sd, rfl, hd, hSd, hb⟩
                    replace hb6 := hb6.trans (hb.mono hb6.size)
                    clear hb hSd
                    go_wp2_with fail
                    refine (C.fresh c hd hNN (by omega) hcu hz).mono ?_
                    rintro e v9 ⟨rfl, hb⟩
                    rw [HF.out]
                    replace hb6 := hb6.trans (hb.mono hb6.size)
                    clear hb hd
                    go_wp2_with fail
                    go_roundg (min na 100 - (i2 + 1))
                    case rel => exact ⟨i2 + 1, Hid.mk (by omega), by go_num, hb6⟩
                    case measure => have := HK2.out; omega
                  · by_cases h2 : T - 1 - c < N
                    · have hF : freshD L64 N k s c = true := by rw [hfr]; simp; omega
                      have HF := Hid.mk hF
                      clear hF hfr
                      go_wp2_with fail
                      refine (C.fresh c HCW.out hNN (by omega) hcu hz).mono ?_
                      rintro e v7 ⟨rfl, hb⟩
                      rw [HF.out]
                      replace HCW := Hid.mk (C.below HCW.out hb)
                      replace hb6 := hb6.trans (hb.mono hb6.size)
                      clear hb
                      go_wp2_with fail
                      refine (C.copy HCW.out hz).mono ?_
                      rintro e v8 ⟨bd, Sd, rfl, hd, hSd, hb⟩
                      replace hb6 := hb6.trans (hb.mono hb6.size)
                      clear hb hSd
                      go_wp2_with fail
                      refine (C.fresh c hd hNN (by omega) hcu hz).mono ?_
                      rintro e v9 ⟨rfl, hb⟩
                      rw [HF.out]
                      replace hb6 := hb6.trans (hb.mono hb6.size)
                      clear hb hd
                      go_wp2_with fail
                      go_roundg (min na 100 - (i2 + 1))
                      case rel => exact ⟨i2 + 1, Hid.mk (by omega), by go_num, hb6⟩
                      case measure => have := HK2.out; omega
                    · have hF : freshD L64 N k s c = false := by rw [hfr]; simp; omega
                      have HF := Hid.mk hF
                      clear hF hfr
                      go_wp2_with fail
                      refine (C.fresh c HCW.out hNN (by omega) hcu hz).mono ?_
                      rintro e v7 ⟨rfl, hb⟩
                      rw [HF.out]
                      replace HCW := Hid.mk (C.below HCW.out hb)
                      replace hb6 := hb6.trans (hb.mono hb6.size)
                      clear hb
                      go_wp2_with fail
                      refine (C.copy HCW.out hz).mono ?_
                      rintro e v8 ⟨bd, Sd, rfl, hd, hSd, hb⟩
                      replace hb6 := hb6.trans (hb.mono hb6.size)
                      clear hb hSd
                      go_wp2_with fail
                      refine (C.fresh c hd hNN (by omega) hcu hz).mono ?_
                      rintro e v9 ⟨rfl, hb⟩
                      rw [HF.out]
                      replace hb6 := hb6.trans (hb.mono hb6.size)
                      clear hb hd
                      go_wp2_with fail
                      go_roundg (min na 100 - (i2 + 1))
                      case rel => exact ⟨i2 + 1, Hid.mk (by omega), by go_num, hb6⟩
                      case measure => have := HK2.out; omega
                · have hF : freshD L64 N k s c = false := by rw [hfr]; simp
                  have HF := Hid.mk hF
                  clear hF hfr
                  go_wp2_with fail
                  refine (C.fresh c HCW.out hNN (by omega) hcu hz).mono ?_
                  rintro e v7 ⟨rfl, hb⟩
                  rw [HF.out]
                  replace HCW := Hid.mk (C.below HCW.out hb)
                  replace hb6 := hb6.trans (hb.mono hb6.size)
                  clear hb
                  go_wp2_with fail
                  refine (C.copy HCW.out hz).mono ?_
                  rintro e v8 ⟨bd, Sd, rfl, hd, hSd, hb⟩
                  replace hb6 := hb6.trans (hb.mono hb6.size)
                  clear hb hSd
                  go_wp2_with fail
                  refine (C.fresh c hd hNN (by omega) hcu hz).mono ?_
                  rintro e v9 ⟨rfl, hb⟩
                  rw [HF.out]
                  replace hb6 := hb6.trans (hb.mono hb6.size)
                  clear hb hd
                  go_wp2_with fail
                  go_roundg (min na 100 - (i2 + 1))
                  case rel => exact ⟨i2 + 1, Hid.mk (by omega), by go_num, hb6⟩
                  case measure => have := HK2.out; omega
          · by_cases hj1 : i2 < na
            · have hj2 : ¬ i2 < 100 := by omega
              clear hlt2
              have hT0 := HT0.out
              go_wp2_with fail
              have hcc := C.below HC.out hb6
              have hb4 := HB4.out.trans (hb6.mono HB4.out.size)
              refine (take_any C (T + 5) hcc hNN (by omega) (by unfold U64; omega) hz).mono ?_
              rintro e v7 ⟨r1, n1, s1, S3, rfl, h3, hN1, hn1, hT, hS3⟩
              have hS4 : ∀ k, S3 k → w4.heap.size ≤ k := fun k hk => (hS3 k hk).elim (HS4.out k) (fun h => Nat.le_trans hb4.size h)
              replace hb4 := below_T hb4 hT HS4.out hb4.size
              clear hT hS3 hcc
              go_wp2_with fail
              refine (C.clear h3).mono ?_
              rintro e v8 ⟨rfl, S5, h5, hT, hS5⟩
              replace hb4 := below_T hb4 hT hS4 hb4.size
              clear hT hS5 h3
              have HR8 := Hid.mk (HR.out.next C hb4)
              go_wp2_with fail
              refine (C.top HR8.out.win hNN (by omega)).mono ?_
              rintro e v9 ⟨rfl, hb⟩
              replace h5 := C.below h5 hb
              replace HR8 := Hid.mk (HR8.out.next C hb)
              clear hb
              rw [HTE.out]
              go_wp2_with fail
              refine (C.top h5 (Nums.nil _ _) (by decide)).mono ?_
              rintro e v10 ⟨rfl, hb⟩
              replace HR8 := Hid.mk (HR8.out.next C hb)
              clear hb
              rw [show topF (fun _ => 0) 0 = 0 from rfl]
              go_wp2_with fail
              refine (C.fresh T HR8.out.win hNN (by omega) (by unfold U64; omega) hz).mono ?_
              rintro e v11 ⟨rfl, hb⟩
              rw [HT1.out]
              replace HR8 := Hid.mk (HR8.out.next C hb)
              go_wp2_with fail
              go_ret
              exact ⟨rfl, HR8.out.below⟩
            · have hlt3 := hlt2
              clear hlt2
              have hT0 := HT0.out
              go_wp2_with fail
              have hcc := C.below HC.out hb6
              have hb4 := HB4.out.trans (hb6.mono HB4.out.size)
              refine (take_any C (T + 5) hcc hNN (by omega) (by unfold U64; omega) hz).mono ?_
              rintro e v7 ⟨r1, n1, s1, S3, rfl, h3, hN1, hn1, hT, hS3⟩
              have hS4 : ∀ k, S3 k → w4.heap.size ≤ k := fun k hk => (hS3 k hk).elim (HS4.out k) (fun h => Nat.le_trans hb4.size h)
              replace hb4 := below_T hb4 hT HS4.out hb4.size
              clear hT hS3 hcc
              go_wp2_with fail
              refine (C.clear h3).mono ?_
              rintro e v8 ⟨rfl, S5, h5, hT, hS5⟩
              replace hb4 := below_T hb4 hT hS4 hb4.size
              clear hT hS5 h3
              have HR8 := Hid.mk (HR.out.next C hb4)
              go_wp2_with fail
              refine (C.top HR8.out.win hNN (by omega)).mono ?_
              rintro e v9 ⟨rfl, hb⟩
              replace h5 := C.below h5 hb
              replace HR8 := Hid.mk (HR8.out.next C hb)
              clear hb
              rw [HTE.out]
              go_wp2_with fail
              refine (C.top h5 (Nums.nil _ _) (by decide)).mono ?_
              rintro e v10 ⟨rfl, hb⟩
              replace HR8 := Hid.mk (HR8.out.next C hb)
              clear hb
              rw [show topF (fun _ => 0) 0 = 0 from rfl]
              go_wp2_with fail
              refine (C.fresh T HR8.out.win hNN (by omega) (by unfold U64; omega) hz).mono ?_
              rintro e v11 ⟨rfl, hb⟩
              rw [HT1.out]
              replace HR8 := Hid.mk (HR8.out.next C hb)
              go_wp2_with fail
              go_ret
              exact ⟨rfl, HR8.out.below⟩
end Go.Proofs.Ytjnknhgjlllhjaa
/-
  Own text. A region that leaves its order open and in which operations change what others may meet: what holds of the world hangs on which operations are behind (L). No program is named here.
-/
namespace Go.Proofs.Ytjnknhgjlllhjaa
open Go
section
variable {P : Program} {ops : Array Oper} {Q : Exit → Act → World → Prop}
structure Mid4 (ops : Array Oper) (a0 : Act) (S : (Nat → Bool) → World → Prop) (φ : Nat → Value → Prop) (listed : Array Bool) (a : Act) (w : World) : Prop where
  lsize : listed.size = ops.size
  closed : ∀ (j : Nat) (oj : Oper), ops[j]? = some oj → listed.getD j false = true → ∀ e ∈ oj.after, Region.binds .any e = true → listed.getD e.on false = true
  size : a.tmps.size = a0.tmps.size
  defers : a.defers = a0.defers
  world : S (fun j => listed.getD j false) w
  frame : ∀ t : Nat, (∀ (i : Nat) (o : Oper), ops[i]? = some o → listed.getD i false = true → o.dst ≠ some t) → a.tmps[t]? = a0.tmps[t]?
  known : ∀ (i : Nat) (o : Oper) (d : Nat), ops[i]? = some o → o.dst = some d → listed.getD i false = true → φ i (a.tmps.getD d undef)
theorem wp_region_inv4 {id : Nat} {a0 : Act} {w0 : World} (S : (Nat → Bool) → World → Prop) (φ : Nat → Value → Prop) (hm : P.follows .mixedOrders = true) (hB : invB ops = true)
    (hS0 : S (fun _ => false) w0.drew)
    (step : ∀ (i : Nat) (o : Oper), ops[i]? = some o → ∀ (L : Nat → Bool) (a : Act) (w : World), S L w → L i = false → (∀ (k : Nat) (ok : Oper), ops[k]? = some ok → L k = true → ∀ e ∈ ok.after, Region.binds .any e = true → L e.on = true) → (∀ e ∈ o.after, Region.binds .any e = true → L e.on = true) → (∀ t : Nat, (∀ (j : Nat) (oj : Oper), ops[j]? = some oj → oj.dst = some t → predOf oj i = true) → a.tmps[t]? = a0.tmps[t]?) →
      (∀ (j : Nat) (oj : Oper) (d : Nat), ops[j]? = some oj → oj.dst = some d → predOf o j = true → φ j (a.tmps.getD d undef)) →
      wpOp P ops Q i (fun a' w' => ∃ v, a' = a.put o.dst v ∧ φ i v ∧ S (fun j => if j = i then true else L j) w') a w)
    (fin : ∀ (vs : Nat → Value) (L : Nat → Bool) (w : World), S L w → (∀ i, i < ops.size → L i = true) → (∀ (i : Nat) (o : Oper) (d : Nat), ops[i]? = some o → o.dst = some d → φ i (vs d)) → Q .normal (putAll a0 vs (dsts ops)) w)
    (hsz : ∀ d ∈ dsts ops, d < a0.tmps.size) : (Code.region id ops true).wp P Q a0 w0 := by
  simp only [invB, Bool.and_eq_true, decide_eq_true_eq] at hB
  obtain ⟨⟨hsome, hnd⟩, hord⟩ := hB
  refine wp_region_any hm (wpAny_inv (Mid4 ops a0 S φ) ?_ ?_ ops.size _ a0 _ ?_ ?_)
  · intro listed a w i mid hi
    obtain ⟨hun, oi, hoi, hall⟩ := mem_ready.1 hi
    have hils : i < listed.size := by
      rcases Nat.lt_or_ge i listed.size with h | h
      · exact h
      · simp [Array.getElem?_eq_none h] at hun
    have hunf : listed.getD i false = false := by simp [hils] at hun ⊢; exact hun
    have hst := step i oi hoi (fun j => listed.getD j false) a w mid.world hunf mid.closed hall
      (fun t ht => mid.frame t (fun j oj hj hl hd => by
        obtain ⟨e, he, hb⟩ := Array.any_eq_true'.1 (ht j oj hj hd)
        simp only [Bool.and_eq_true, beq_iff_eq] at hb
        have := mid.closed j oj hj hl e he hb.1
        rw [hb.2, hunf] at this
        cases this))
      (fun j oj d hj hd hp => by
        obtain ⟨e, he, hb⟩ := Array.any_eq_true'.1 hp
        simp only [Bool.and_eq_true, beq_iff_eq] at hb
        have := hall e he hb.1
        rw [hb.2] at this
        exact mid.known j oj d hj hd this)
    refine wpOp_mono (fun a' w' h' => ?_) hst
    obtain ⟨v, rfl, hv, hR⟩ := h'
    have hsi : oi.dst.isSome = true := List.all_eq_true.1 hsome oi (by simpa using Array.mem_of_getElem? hoi)
    obtain ⟨di, hdi⟩ := Option.isSome_iff_exists.1 hsi
    have hmem : di ∈ dsts ops := List.mem_filterMap.2 ⟨oi, by simpa using Array.mem_of_getElem? hoi, hdi⟩
    have hdlt : di < a.tmps.size := by rw [mid.size]; exact hsz di hmem
    have hself : (listed.setIfInBounds i true).getD i false = true := by simp [hils]
    rw [hdi]
    refine ⟨by simp [mid.lsize], fun j oj hj hl e he hb => ?_, by simpa [Act.put] using mid.size, mid.defers, ?_, fun t ht => ?_, fun j oj d hj hd hl => ?_⟩
    · rcases getD_set_false hl with rfl | hl
      · obtain rfl : oj = oi := Option.some.inj (hj.symm.trans hoi)
        have h1 := hall e he hb
        by_cases hie : j = e.on
        · rw [hie]; rw [hie] at hself; exact hself
        · rw [getD_set_ne false hie]; exact h1
      · have h1 := mid.closed j oj hj hl e he hb
        by_cases hie : i = e.on
        · rw [← hie]; exact hself
        · rw [getD_set_ne false hie]; exact h1
    · have e : (fun j => (listed.setIfInBounds i true).getD j false) = fun j => if j = i then true else listed.getD j false := by
        funext j
        by_cases hji : j = i
        · subst hji; rw [if_pos rfl]; exact hself
        · rw [if_neg hji, getD_set_ne false (Ne.symm hji)]
      rw [e]
      exact hR
    · have hne : di ≠ t := fun h => ht i oi hoi hself (by rw [hdi, h])
      rw [show (a.put (some di) v).tmps[t]? = a.tmps[t]? from by simp [Act.put, hne]]
      exact mid.frame t (fun j oj hj hl => ht j oj hj (by
        by_cases hij : i = j
        · subst hij; exact hself
        · rw [getD_set_ne false hij]; exact hl))
    · rcases getD_set_false hl with rfl | hl
      · obtain rfl : oj = oi := Option.some.inj (hj.symm.trans hoi)
        obtain rfl : d = di := Option.some.inj (hd.symm.trans hdi)
        rw [show (a.put (some d) v).tmps.getD d undef = v from by simp [Act.put, hdlt]]
        exact hv
      · have hne : di ≠ d := fun h => by
          subst h
          have := nodup_dst hnd hoi hj hdi hd
          subst this
          rw [hunf] at hl
          cases hl
        rw [show (a.put (some di) v).tmps.getD d undef = a.tmps.getD d undef from by simp [Act.put, hne]]
        exact mid.known j oj d hj hd hl
  · intro listed a w mid hr
    have hall : ∀ n i, i < n → i < ops.size → listed.getD i false = true := by
      intro n
      induction n with
      | zero => intro i h; cases h
      | succ n ih =>
        intro i hin hil
        by_cases hlt : i < n
        · exact ih i hlt hil
        · have hin' : i = n := by omega
          subst hin'
          cases hg : listed.getD i false with
          | true => rfl
          | false =>
            have ho : ops[i]? = some ops[i] := Array.getElem?_eq_getElem hil
            have h1 := List.all_eq_true.1 hord i (List.mem_range.2 hil)
            simp only [ho] at h1
            have hin2 : i ∈ Region.ready .any ops listed := mem_ready.2 ⟨by
              have : i < listed.size := by rw [mid.lsize]; exact hil
              simp [this] at hg ⊢; exact hg, _, ho, fun e he hb => by
              have h2 := Array.all_eq_true'.1 h1 e he
              simp only [hb, Bool.not_true, Bool.false_or, decide_eq_true_eq] at h2
              exact ih e.on h2 (by omega)⟩
            rw [hr] at hin2
            cases hin2
    have hq := fin (fun d => a.tmps.getD d undef) _ w mid.world (fun i hi => hall (i + 1) i (by omega) hi) (fun i o d ho hd => mid.known i o d ho hd (hall (i + 1) i (by omega) (Array.getElem?_eq_some_iff.1 ho).1))
    have ha : putAll a0 (fun d => a.tmps.getD d undef) (dsts ops) = a := by
      have h1 := putAll_defers (fun d => a.tmps.getD d undef) (dsts ops) a0
      have h2 : (putAll a0 (fun d => a.tmps.getD d undef) (dsts ops)).tmps = a.tmps := by
        apply Array.ext_getElem?
        intro t
        by_cases ht : t < a0.tmps.size
        · rw [putAll_get _ _ _ _ ht]
          by_cases hm2 : t ∈ dsts ops
          · rw [if_pos hm2]
            have : t < a.tmps.size := by rw [mid.size]; exact ht
            simp [this]
          · rw [if_neg hm2]
            exact (mid.frame t (fun i o hi _ hd => hm2 (List.mem_filterMap.2 ⟨o, by simpa using Array.mem_of_getElem? hi, hd⟩))).symm
        · rw [Array.getElem?_eq_none (by rw [putAll_size]; omega), Array.getElem?_eq_none (by rw [mid.size]; omega)]
      rw [← mid.defers] at h1
      generalize putAll a0 (fun d => a.tmps.getD d undef) (dsts ops) = b at h1 h2
      cases a; cases b
      simp only at h1 h2
      rw [h1, h2]
    rw [ha] at hq
    exact hq
  · unfold leftOf
    exact Nat.le_trans (List.length_filter_le _ _) (by simp)
  · exact ⟨by simp, fun j oj _ hl => (by rw [getD_replicate_f] at hl; cases hl), rfl, rfl, by simp only [getD_replicate_f]; exact hS0, fun _ _ => rfl, fun i o d _ _ hl => (by rw [getD_replicate_f] at hl; cases hl)⟩
/-- Of the operations that are listed what is known of their slots. -/
def Knows4 (φ : Nat → Value → Prop) (ds : List Nat) (a : Act) : List Nat → Prop
  | [] => True
  | j :: l => φ j (a.eval (.tmp (ds.getD j 0))) ∧ Knows4 φ ds a l
theorem knows4_of {φ : Nat → Value → Prop} {ds : List Nat} {a : Act} : ∀ (l : List Nat), (∀ j ∈ l, φ j (a.eval (.tmp (ds.getD j 0)))) → Knows4 φ ds a l
  | [], _ => trivial
  | x :: l, h => ⟨h x (by simp), knows4_of l (fun j hj => h j (by simp [hj]))⟩
/-- These are behind. -/
def Behind (L : Nat → Bool) : List Nat → Prop
  | [] => True
  | j :: l => L j = true ∧ Behind L l
theorem behind_of {L : Nat → Bool} : ∀ (l : List Nat), (∀ j ∈ l, L j = true) → Behind L l
  | [], _ => trivial
  | x :: l, h => ⟨h x (by simp), behind_of l (fun j hj => h j (by simp [hj]))⟩
/-- These are ahead. -/
def Ahead (L : Nat → Bool) : List Nat → Prop
  | [] => True
  | j :: l => L j = false ∧ Ahead L l
theorem ahead_of {L : Nat → Bool} : ∀ (l : List Nat), (∀ j ∈ l, L j = false) → Ahead L l
  | [], _ => trivial
  | x :: l, h => ⟨h x (by simp), ahead_of l (fun j hj => h j (by simp [hj]))⟩
/-- Operation k, whatever came before it (L: what is behind). -/
def StepOK4 (P : Program) (S : (Nat → Bool) → World → Prop) (φ : Nat → Value → Prop) (ds : List Nat) (base : List (Nat × Value)) (p q r : List Nat) (k : Nat) (o : Oper) : Prop :=
  ∀ (Q : Exit → Act → World → Prop) (L : Nat → Bool) (a : Act) (w : World), S L w → L k = false → Behind L q → Ahead L r → Holds a base → Knows4 φ ds a p →
    (match o.guard with | none => True | some (g, b) => a.eval (.tmp (ds.getD g 0)) = .bool b) ∧
    ∀ K : Act → World → Prop, (∀ v w', φ k v → S (fun j => if j = k then true else L j) w' → K (a.put o.dst v) w') → o.wp P a w K Q
def AllSteps4 (P : Program) (S : (Nat → Bool) → World → Prop) (φ : Nat → Value → Prop) (ds : List Nat) (base : List (Nat × Value)) : List (List Nat) → List (List Nat) → List (List Nat) → Nat → List Oper → Prop
  | _, _, _, _, [] => True
  | p, q, r, k, o :: l => StepOK4 P S φ ds base (p.headD []) (q.headD []) (r.headD []) k o ∧ AllSteps4 P S φ ds base p.tail q.tail r.tail (k + 1) l
theorem AllSteps4.at {S : (Nat → Bool) → World → Prop} {φ : Nat → Value → Prop} {ds : List Nat} {base : List (Nat × Value)} : ∀ (l : List Oper) (p q r : List (List Nat)) (k : Nat), AllSteps4 P S φ ds base p q r k l →
    ∀ (i : Nat) (o : Oper), l[i]? = some o → StepOK4 P S φ ds base (p.getD i []) (q.getD i []) (r.getD i []) (k + i) o
  | [], _, _, _, _, _, _, _, h => by simp at h
  | x :: l, p, q, r, k, h, i, o, ho => by
    cases i with
    | zero =>
      simp at ho; subst ho
      have := h.1
      cases p <;> cases q <;> cases r <;> simpa using this
    | succ i =>
      simp at ho
      have := AllSteps4.at l p.tail q.tail r.tail (k + 1) h.2 i o ho
      rw [show k + 1 + i = k + (i + 1) by omega] at this
      cases p <;> cases q <;> cases r <;> simpa using this
/-- q: of each operation some that must be behind it, by one step or more. -/
def ancB (ops : Array Oper) (q : List (List Nat)) : Bool :=
  (List.range ops.size).all fun k => match ops[k]? with
    | some o => (q.getD k []).all (fun j => o.after.any fun e => Region.binds .any e && decide (e.on < k) && (e.on == j || (q.getD e.on []).contains j))
    | none => true
/-- r: of each operation some that wait for it, by one step or more. -/
def descB (ops : Array Oper) (q r : List (List Nat)) : Bool :=
  (List.range ops.size).all fun k => (r.getD k []).all (fun j => decide (j < ops.size) && (q.getD j []).contains k)
theorem anc_behind {q : List (List Nat)} (hq : ancB ops q = true) {L : Nat → Bool} (hcl : ∀ (k : Nat) (ok : Oper), ops[k]? = some ok → L k = true → ∀ e ∈ ok.after, Region.binds .any e = true → L e.on = true) :
    ∀ (n k : Nat) (o : Oper), k < n → ops[k]? = some o → (∀ e ∈ o.after, Region.binds .any e = true → L e.on = true) → ∀ j ∈ q.getD k [], L j = true := by
  intro n
  induction n with
  | zero => intro k o hk; cases hk
  | succ n ih =>
    intro k o hk ho hall j hj
    have h1 := List.all_eq_true.1 hq k (List.mem_range.2 (Array.getElem?_eq_some_iff.1 ho).1)
    simp only [ho] at h1
    have h2 := List.all_eq_true.1 h1 j hj
    obtain ⟨e, he, hb⟩ := Array.any_eq_true'.1 h2
    simp only [Bool.and_eq_true, Bool.or_eq_true, beq_iff_eq, decide_eq_true_eq] at hb
    have h3 := hall e he hb.1.1
    rcases hb.2 with h4 | h4
    · rw [← h4]; exact h3
    · have hlt : e.on < ops.size := Nat.lt_trans hb.1.2 (Array.getElem?_eq_some_iff.1 ho).1
      have hoe : ops[e.on]? = some ops[e.on] := Array.getElem?_eq_getElem hlt
      exact ih e.on _ (by omega) hoe (hcl e.on _ hoe h3) j (by simpa using h4)
/-- THE LAW, operation by operation. -/
theorem wp_region_steps4 {id : Nat} {a0 : Act} {w0 : World} (S : (Nat → Bool) → World → Prop) (φ : Nat → Value → Prop) (ds : List Nat) (base : List (Nat × Value)) (p q r : List (List Nat))
    (hm : P.follows .mixedOrders = true) (hB : (invB ops && ancB ops q && descB ops q r && tabB ops ds (base.map (·.1)) p && ds.all (fun d => decide (d < a0.tmps.size))) = true)
    (hb0 : Holds a0 base) (hS0 : S (fun _ => false) w0.drew)
    (steps : AllSteps4 P S φ ds base p q r 0 ops.toList)
    (fin : ∀ (vs : Nat → Value) (L : Nat → Bool) (w : World), S L w → (∀ i, i < ops.size → L i = true) → (∀ j : Nat, j < ds.length → φ j (vs (ds.getD j 0))) → Q .normal (putAll a0 vs ds) w) : (Code.region id ops true).wp P Q a0 w0 := by
  simp only [Bool.and_eq_true] at hB
  obtain ⟨⟨⟨⟨hI, hA⟩, hD⟩, hT⟩, hsz⟩ := hB
  simp only [tabB, Bool.and_eq_true, beq_iff_eq] at hT
  obtain ⟨⟨hds, hbase⟩, htab⟩ := hT
  have hdst : ∀ (j : Nat) (oj : Oper), ops[j]? = some oj → oj.dst = some (ds.getD j 0) ∧ j < ds.length := fun j oj hj => by
    have h1 : (ops.toList.map (·.dst))[j]? = some oj.dst := by rw [List.getElem?_map]; simp [hj]
    rw [hds, List.getElem?_map] at h1
    cases hq : ds[j]? with
    | none => rw [hq] at h1; simp at h1
    | some d =>
      rw [hq] at h1
      have hl : j < ds.length := (List.getElem?_eq_some_iff.1 hq).1
      refine ⟨?_, hl⟩
      rw [List.getD_eq_getElem?_getD, hq]
      simpa using h1.symm
  have hdsts : dsts ops = ds := by
    unfold dsts
    have h1 : ops.toList.filterMap (·.dst) = (ops.toList.map (·.dst)).filterMap (fun x => x) := by rw [List.filterMap_map]; rfl
    rw [h1, hds, List.filterMap_map]
    exact List.filterMap_some
  refine wp_region_inv4 S φ hm hI hS0 (fun i o hi L a w hS hun hcl hall hfr hkn => ?_) (fun vs L w hS hL h => ?_) (fun d hd => by rw [hdsts] at hd; simpa using List.all_eq_true.1 hsz d hd)
  · have hil : i < ops.size := (Array.getElem?_eq_some_iff.1 hi).1
    have ht := List.all_eq_true.1 htab i (List.mem_range.2 hil)
    simp only [hi, Bool.and_eq_true] at ht
    have st := AllSteps4.at ops.toList p q r 0 steps i o (by simpa using hi)
    rw [Nat.zero_add] at st
    obtain ⟨hg, hk⟩ := st Q L a w hS hun (behind_of _ (anc_behind hA hcl (i + 1) i o (by omega) hi hall))
      (ahead_of _ (fun j hj => by
        have h1 := List.all_eq_true.1 (List.all_eq_true.1 hD i (List.mem_range.2 hil)) j hj
        simp only [Bool.and_eq_true, decide_eq_true_eq] at h1
        cases hLj : L j with
        | false => rfl
        | true =>
          have hoj : ops[j]? = some ops[j] := Array.getElem?_eq_getElem h1.1
          have h2 := anc_behind hA hcl (j + 1) j _ (by omega) hoj (hcl j _ hoj hLj) i (by simpa using h1.2)
          rw [hun] at h2
          cases h2))
      (holds_of base (fun t htm => eval_tmp_of (hfr t (fun j oj hj hd => by
        exfalso
        have h1 := List.all_eq_true.1 hbase t htm
        have h2 := (hdst j oj hj).1
        rw [hd] at h2
        have h3 : t = ds.getD j 0 := Option.some.inj h2
        have h4 : t ∈ ds := by
          rw [h3, List.getD_eq_getElem?_getD, List.getElem?_eq_getElem (hdst j oj hj).2]
          simp
        simp [h4] at h1))) hb0)
      (knows4_of _ (fun j hj => by
        have h1 := List.all_eq_true.1 ht.1 j hj
        simp only [Bool.and_eq_true, decide_eq_true_eq] at h1
        have hoj : ops[j]? = some ops[j] := Array.getElem?_eq_getElem h1.2
        have h2 := hkn j _ _ hoj (hdst j _ hoj).1 h1.1
        simpa [Act.eval] using h2))
    have hw : Region.wanted o (yielded ops a.tmps) = true := by
      unfold Region.wanted
      cases hgd : o.guard with
      | none => rfl
      | some x =>
        obtain ⟨g, b⟩ := x
        rw [hgd] at hg
        have h2 := ht.2
        rw [hgd] at h2
        simp only [decide_eq_true_eq] at h2
        have hog : ops[g]? = some ops[g] := Array.getElem?_eq_getElem h2
        have hd := (hdst g _ hog).1
        have h4 : a.tmps[ds.getD g 0]? = some (.bool b) := by
          simp only [Act.eval] at hg
          rw [Array.getD_eq_getD_getElem?] at hg
          cases hq : a.tmps[ds.getD g 0]? with
          | none => rw [hq] at hg; simp [undef] at hg
          | some v => rw [hq] at hg; simpa using hg
        have hy : yielded ops a.tmps g = some b := by
          unfold yielded
          rw [hog]
          simp only [Option.bind_some, hd, h4]
        simp [hy]
    unfold wpOp
    simp only [hi, hw, if_true]
    exact .inl (hk _ (fun v w' h1 h2 => ⟨v, rfl, h1, h2⟩))
  · rw [hdsts]
    refine fin vs L w hS hL (fun j hj => ?_)
    have hlen : ops.toList.length = ds.length := by have := congrArg List.length hds; simpa using this
    have hjl : j < ops.size := by rw [← hlen] at hj; simpa using hj
    have hoj : ops[j]? = some ops[j] := Array.getElem?_eq_getElem hjl
    exact h j _ _ hoj (hdst j _ hoj).1
end
end Go.Proofs.Ytjnknhgjlllhjaa
/-
  Own text. What the law ReplaySmall wants of the program's windows of numbers of 32 bits; a window of the program and one of the document in a region that leaves its order open.
-/
namespace Go.Proofs.Ytjnknhgjlllhjaa
open Go.RowKit Go.Proofs
set_option maxRecDepth 100000
def L32 : Int := 4294967295
def U32 (x : Int) : Prop := 0 ≤ x ∧ x < 4294967296
structure Code32 (Win : World → Nat → Int → Nat → (Nat → Int) → (Nat → Prop) → Prop) : Prop where
  lt : ∀ {w b sz n s S}, Win w b sz n s S → ∀ k, S k → k < w.heap.size
  kept : ∀ {w w' : World} {b sz n s S}, Win w b sz n s S → w.heap.size ≤ w'.heap.size → (∀ k, S k → w'.heap[k]? = w.heap[k]?) → Win w' b sz n s S
  new : ∀ (x : Int) (w : World), Calls Try.prog 22 #[.int .i64 x] w fun e w' => ∃ b S, e = .returned (.pointer (some ⟨b, 0, none⟩)) ∧ Win w' b (clampF x) 0 (fun _ => 0) S ∧ (∀ k, S k → w.heap.size ≤ k) ∧ Below w.heap.size w w'
  fresh : ∀ {w b sz n s S} (c : Int), Win w b sz n s S → Nums L32 n s → n < 1000 → U32 c → 1 ≤ sz ∧ sz ≤ 8192 → Calls Try.prog 23 #[.pointer (some ⟨b, 0, none⟩), .int .u32 c] w fun e w' => e = .returned (.bool (freshD L32 sz n s c)) ∧ Below w.heap.size w w'
  takeNo : ∀ {w b sz n s S} (c : Int), Win w b sz n s S → Nums L32 n s → n < 1000 → U32 c → 1 ≤ sz ∧ sz ≤ 8192 → freshD L32 sz n s c = false → Calls Try.prog 24 #[.pointer (some ⟨b, 0, none⟩), .int .u32 c] w fun e w' => e = .returned (.bool false) ∧ Below w.heap.size w w'
  takeYes : ∀ {w b sz n s S} (c : Int), Win w b sz n s S → Nums L32 n s → n < 1000 → U32 c → 1 ≤ sz ∧ sz ≤ 8192 → freshD L32 sz n s c = true → Calls Try.prog 24 #[.pointer (some ⟨b, 0, none⟩), .int .u32 c] w fun e w' => e = .returned (.bool true) ∧ ∃ S', Win w' b sz (n + 1) (cat n s (fun _ => c)) S' ∧ Touch S w w' ∧ ∀ k, S' k → S k ∨ w.heap.size ≤ k
  top : ∀ {w b sz n s S}, Win w b sz n s S → Nums L32 n s → n < 1000 → Calls Try.prog 25 #[.pointer (some ⟨b, 0, none⟩)] w fun e w' => e = .returned (.int .u32 (topF s n)) ∧ Below w.heap.size w w'
  came : ∀ {w b sz n s S}, Win w b sz n s S → Nums L32 n s → n < 1000 → 1 ≤ sz ∧ sz ≤ 8192 → Calls Try.prog 26 #[.pointer (some ⟨b, 0, none⟩)] w fun e w' => ∃ vo m f, e = .returned vo ∧ w'.ownsRow w.heap.size 43 1 vo m (nums .u32 m f) ∧ CameI s sz (topF s n) n m f ∧ Below w.heap.size w w'
section
variable {Win : World → Nat → Int → Nat → (Nat → Int) → (Nat → Prop) → Prop} {w0 v v' : World} {bw br : Nat} {sz last : Int} {m n : Nat} {t s s' : Nat → Int} {S : Nat → Prop} {B : Nat} {vr vr' : Value}
theorem Code32.below (C : Code32 Win) {b : Nat} (h : Win v b sz n s S) (hb : Below v.heap.size v v') : Win v' b sz n s S := C.kept h hb.size (fun k hk => hb.block k (C.lt h k hk))
theorem next32 (C : Code32 Win) (h : BothP Win w0 v bw br sz last m t n s S B vr) (hb : Below v.heap.size v v') : BothP Win w0 v' bw br sz last m t n s S B vr := BothP.next (Win := Win) (fun a b c => C.kept a b c) (C.lt h.win) h hb
theorem second32 (C : Code32 Win) (h : BothP Win w0 v bw br sz last m t n s S B vr) {n' : Nat} (hw : WinD v' B br sz last vr' n' s') (hT : Touch (TakeT br vr) v v') (hS : ∀ k, vr'.ownBlock = some k → vr.ownBlock = some k ∨ v.heap.size ≤ k) : BothP Win w0 v' bw br sz last m t n' s' S B vr' := BothP.second (Win := Win) (fun a b c => C.kept a b c) (C.lt h.win) h hw hT hS
/-- Both windows, by which of the two calls are behind. -/
def SmS (Win : World → Nat → Int → Nat → (Nat → Int) → (Nat → Prop) → Prop) (w0 : World) (bw br : Nat) (sz : Int) (m : Nat) (s : Nat → Int) (m1 : Nat) (s1 : Nat → Int) (B : Nat) (L : Nat → Bool) (u : World) : Prop :=
  ∃ S1 vr1, BothP Win w0 u bw br sz L32 (if L 20 then m1 else m) (if L 20 then s1 else s) (if L 27 then m1 else m) (if L 27 then s1 else s) S1 B vr1
variable {m1 : Nat} {s1 : Nat → Int} {L : Nat → Bool}
theorem sm_below (h : SmS Win w0 bw br sz m s m1 s1 B L v) : Below w0.heap.size w0 v := by
  obtain ⟨_, _, h⟩ := h
  exact h.below
theorem sm_next (C : Code32 Win) (h : SmS Win w0 bw br sz m s m1 s1 B L v) (hb : Below v.heap.size v v') : SmS Win w0 bw br sz m s m1 s1 B L v' := by
  obtain ⟨S1, vr1, h⟩ := h
  exact ⟨S1, vr1, next32 C h hb⟩
theorem sm_c0 (h : SmS Win w0 bw br sz m s m1 s1 B L v) (h0 : L 20 = false) : ∃ S1, Win v bw sz m s S1 := by
  obtain ⟨S1, _, h⟩ := h
  have := h.win
  rw [h0] at this
  exact ⟨S1, this⟩
theorem sm_c1 (h : SmS Win w0 bw br sz m s m1 s1 B L v) (h0 : L 20 = true) : ∃ S1, Win v bw sz m1 s1 S1 := by
  obtain ⟨S1, _, h⟩ := h
  have := h.win
  rw [h0] at this
  exact ⟨S1, this⟩
theorem sm_d0 (h : SmS Win w0 bw br sz m s m1 s1 B L v) (h0 : L 27 = false) : ∃ vr1, WinD v B br sz L32 vr1 m s := by
  obtain ⟨_, vr1, h⟩ := h
  have := h.ref
  rw [h0] at this
  exact ⟨vr1, this⟩
theorem sm_d1 (h : SmS Win w0 bw br sz m s m1 s1 B L v) (h0 : L 27 = true) : ∃ vr1, WinD v B br sz L32 vr1 m1 s1 := by
  obtain ⟨_, vr1, h⟩ := h
  have := h.ref
  rw [h0] at this
  exact ⟨vr1, this⟩
/-- The program's Take, whatever is behind. -/
theorem sm_take (C : Code32 Win) (hN : Nums L32 m s) (hm : m < 1000) {c : Int} (hc : U32 c) (hz : 1 ≤ sz ∧ sz ≤ 8192) (h1 : (freshD L32 sz m s c = true ∧ m1 = m + 1 ∧ s1 = cat m s (fun _ => c)) ∨ (freshD L32 sz m s c = false ∧ m1 = m ∧ s1 = s))
    (h : SmS Win w0 bw br sz m s m1 s1 B L v) (h0 : L 20 = false) : Calls Try.prog 24 #[.pointer (some ⟨bw, 0, none⟩), .int .u32 c] v fun e w' => ∃ x, e = .returned x ∧ x = .bool (freshD L32 sz m s c) ∧ SmS Win w0 bw br sz m s m1 s1 B (fun j => if j = 20 then true else L j) w' := by
  obtain ⟨S1, vr1, h⟩ := h
  have hw := h.win
  rw [h0] at hw
  rcases h1 with ⟨hf, rfl, rfl⟩ | ⟨hf, rfl, rfl⟩
  · refine (C.takeYes c hw hN hm hc hz hf).mono ?_
    rintro e w' ⟨rfl, S2, h2, hT, hS2⟩
    exact ⟨_, rfl, by rw [hf], S2, vr1, h.first h2 hT hS2⟩
  · refine (C.takeNo c hw hN hm hc hz hf).mono ?_
    rintro e w' ⟨rfl, hb⟩
    refine ⟨_, rfl, by rw [hf], S1, vr1, ?_⟩
    have := next32 C h hb
    rw [h0] at this
    exact this
/-- The document's Take, whatever is behind. -/
theorem sm_rtake (C : Code32 Win) (hN : Nums L32 m s) (hm : m < 1000) {c : Int} (hc : U32 c) (hz : 1 ≤ sz ∧ sz ≤ 8192) (h1 : (freshD L32 sz m s c = true ∧ m1 = m + 1 ∧ s1 = cat m s (fun _ => c)) ∨ (freshD L32 sz m s c = false ∧ m1 = m ∧ s1 = s))
    (h : SmS Win w0 bw br sz m s m1 s1 B L v) (h0 : L 27 = false) : Calls Try.prog 18 #[.pointer (some ⟨br, 0, none⟩), .int .u64 c] v fun e w' => ∃ x, e = .returned x ∧ x = .bool (freshD L32 sz m s c) ∧ SmS Win w0 bw br sz m s m1 s1 B (fun j => if j = 27 then true else L j) w' := by
  have hu : U64 c := by unfold U32 at hc; unfold U64; omega
  have hs : ∀ i, i < m → U64 (s i) := fun i hi => by have := hN.1 i hi; unfold L32 at this; unfold U64; omega
  obtain ⟨S1, vr1, h⟩ := h
  have hw := h.ref
  rw [h0] at hw
  rcases h1 with ⟨hf, rfl, rfl⟩ | ⟨hf, rfl, rfl⟩
  · refine (rTake_yes c (by omega) ⟨by omega, hz.2⟩ hs hu hw h.brB h.bB hf).mono ?_
    rintro e w' ⟨rfl, vr2, h2, hT, hS2⟩
    exact ⟨_, rfl, by rw [hf], S1, vr2, second32 C h h2 hT hS2⟩
  · refine (rTake_no c (by omega) ⟨by omega, hz.2⟩ hs hu hw hf).mono ?_
    rintro e w' ⟨rfl, hb⟩
    refine ⟨_, rfl, by rw [hf], S1, vr1, ?_⟩
    have := next32 C h hb
    rw [h0] at this
    exact this
end
end Go.Proofs.Ytjnknhgjlllhjaa
/-
  Own text. ReplaySmall, from what windows do.
-/
namespace Go.Proofs.Ytjnknhgjlllhjaa
open Go.RowKit Go.Proofs
set_option maxRecDepth 100000
theorem enterFresh32 (args : Array Value) (w : World) : (callFunc 23 args).run Try.prog w = .ok (.enter 23 args) w := by kernel_rfl
theorem enterTake32 (args : Array Value) (w : World) : (callFunc 24 args).run Try.prog w = .ok (.enter 24 args) w := by kernel_rfl
theorem enterTop32 (args : Array Value) (w : World) : (callFunc 25 args).run Try.prog w = .ok (.enter 25 args) w := by kernel_rfl
theorem enterRFresh (args : Array Value) (w : World) : (callFunc 12 args).run Try.prog w = .ok (.enter 12 args) w := by kernel_rfl
theorem enterRTake (args : Array Value) (w : World) : (callFunc 18 args).run Try.prog w = .ok (.enter 18 args) w := by kernel_rfl
theorem exec_ix32 {a : Act} {o : Oper} {w : World} {x y : Operand} (ho : o.op = .indexAddr 40 x y) {p : Addr} {n c i : Nat} (hx : a.eval x = .slice (some p) n c) (hy : a.eval y = .int .i64 (i : Int)) (hi : i < n) : (execOp a.eval o).run Try.prog w = .ok (.value (.pointer (some (p.add i)))) w := by
  unfold execOp
  simp only [ho, hx, hy, Sem.run_bind]
  rw [run_indexAt_slice w 40 _ n c .i64 (i : Int) Try.underlying40, if_pos ⟨by omega, by omega⟩, show (sizeOf (Try.prog.elem 40)).run Try.prog w = .ok 1 w by kernel_rfl]
  simp
theorem conv32_64 {c : Int} (hc : U32 c) (w : World) : (convert 43 26 (.int .u32 c)).run Try.prog w = .ok (.int .u64 c) w := by
  have e : IntKind.u64.wrap c = c := by
    unfold U32 at hc
    have : IntKind.u64.wrap c = c % 18446744073709551616 := by simp [IntKind.wrap, IntKind.bits, IntKind.signed]
    omega
  simp [go_sem, e]
theorem exec_neqB {a : Act} {o : Oper} {w : World} {x y : Operand} (ho : o.op = .binOp .neq 4 x y 4) {b : Bool} (hx : a.eval x = .bool b) (hy : a.eval y = .bool b) : (execOp a.eval o).run Try.prog w = .ok (.value (.bool false)) w := exec_bin2 ho hx hy rfl (by cases b <;> simp [go_sem])
theorem u32_64 {c : Int} (h : U32 c) : U64 c := by unfold U32 at h; unfold U64; omega
theorem nums_u32 {n : Nat} {s : Nat → Int} (h : Nums L32 n s) : ∀ i, i < n → U64 (s i) := fun i hi => by have := h.1 i hi; unfold L32 at this; unfold U64; omega
theorem nums_l32 {n : Nat} {s : Nat → Int} (h : Nums L32 n s) : ∀ i, i < n → 0 ≤ s i ∧ s i < 18446744073709551615 := fun i hi => by have := h.1 i hi; unfold L32 at this; omega
theorem top32 {n : Nat} {s : Nat → Int} (h : Nums L32 n s) : U32 (topF s n) := by
  unfold U32
  rcases Nat.eq_zero_or_pos n with e | e
  · subst e; simp [topF]
  · obtain ⟨i, hi, h2⟩ := topF_some e (fun i hi => (h.1 i hi).1)
    have := h.1 i hi
    unfold L32 at this
    omega
theorem sm_drew {Win : World → Nat → Int → Nat → (Nat → Int) → (Nat → Prop) → Prop} {w0 v : World} {bw br : Nat} {sz : Int} {m m1 : Nat} {s s1 : Nat → Int} {B : Nat} (h : SmS Win w0 bw br sz m s m1 s1 B (fun _ => false) v.drew) : SmS Win w0 bw br sz m s m1 s1 B (fun _ => false) v.drew := h
set_option maxHeartbeats 8000000 in
theorem small_walk {Win Win2 : World → Nat → Int → Nat → (Nat → Int) → (Nat → Prop) → Prop} (C : Code64 Win) (C2 : Code32 Win2) (x : Int) (sv : Value) (ns : Nat) (nn : Nat → Int) (w0 : World) (hO : IntsAt w0 .u32 sv ns nn) (hu : ∀ i, i < ns → U32 (nn i)) (hns : ns < 9223372036854775808) :
    Calls Try.prog 4 #[.int .i64 x, sv] w0 fun e w' => e = .returned (.bool true) ∧ Below w0.heap.size w0 w' := by
  obtain ⟨pa, pc, rfl, hp⟩ := hO
  have HP := Hid.mk hp
  have HU := Hid.mk hu
  have hsz := clampF_range x
  clear hp hu
  go_enter Try.func4, Try.ntmps4
  go_wp2_with fail
  refine (awake8_run C _).mono ?_
  rintro e v0 ⟨rfl, hB⟩
  go_wp2_with fail
  refine (C2.new x _).mono ?_
  rintro e v1 ⟨bw, S, rfl, hw, hS, hb⟩
  replace hS : ∀ k, S k → w0.heap.size ≤ k := fun k hk => Nat.le_trans hB.size (hS k hk)
  replace hB := hB.trans (hb.mono hB.size)
  clear hb
  go_wp2_with fail
  refine (rClamp_run x _).mono ?_
  rintro e v2 ⟨rfl, rfl⟩
  generalize clampF x = sz at *
  have hbl := heap_alloc_new v2 (.cells #[.int .i64 sz, .int .u64 4294967295, .slice none 0 0] 31)
  have hba := (Below.refl v2.heap.size v2).alloc (Nat.le_refl _) (.cells #[.int .i64 sz, .int .u64 4294967295, .slice none 0 0] 31)
  have hlt := C2.lt hw
  have HB0 : Hid (BothP Win2 w0 (v2.alloc (.cells #[.int .i64 sz, .int .u64 4294967295, .slice none 0 0] 31)) bw v2.heap.size sz L32 0 (fun _ => 0) 0 (fun _ => 0) S (v2.heap.size + 1) (.slice none 0 0)) := Hid.mk
    ⟨C2.below hw hba, ⟨hbl, World.ownsRow_nil _ _ _ _⟩, by omega, by simp, (fun h => by have := hlt _ h; omega), (fun k hk => by cases hk), hS, hB.size, hB.trans (hba.mono hB.size)⟩
  clear hbl hba hlt hw hS hB
  go_wp2_with fail
  generalize v2.alloc (.cells #[.int .i64 sz, .int .u64 4294967295, .slice none 0 0] 31) = v3 at *
  generalize v2.heap.size + 1 = B at *
  generalize v2.heap.size = br at *
  go_loopg [8] (min ns 400) (fun gm iv v => ∃ (i m : Nat) (s : Nat → Int) (S : Nat → Prop) (vr : Value), Hid (gm + i = min ns 400) ∧ iv = .int .i64 (i : Int) ∧ Hid (BothP Win2 w0 v bw br sz L32 m s m s S B vr) ∧ Hid (Nums L32 m s ∧ m ≤ i))
  case atStart => exact ⟨0, 0, fun _ => 0, S, _, Hid.mk (by omega), rfl, HB0, Hid.mk ⟨Nums.nil _ _, Nat.le_refl _⟩⟩
  case round =>
    clear HB0
    obtain ⟨i, m, s, S, vr, HK, rfl, HB, HN⟩ := hrel
    have hi : i ≤ min ns 400 := by have := HK.out; omega
    have hm := HN.out.2
    have hNN := HN.out.1
    by_cases hlt : i < min ns 400
    · have hi1 : i < ns := by omega
      have hi2 : i < 400 := by omega
      obtain ⟨p, rfl, k1, k3⟩ := HP.out i hi1
      have hcu := HU.out i hi1
      generalize nn i = c at *
      have HCE : Hid (∀ u, Below w0.heap.size w0 u → u.cell? (p.add i) = some (.int .u32 c)) := Hid.mk (fun u hu => cell_kept (hu.block p.block k3) k1)
      clear k1 k3
      obtain ⟨m1, s1, H1, H2⟩ : ∃ (m1 : Nat) (s1 : Nat → Int), Hid ((freshD L32 sz m s c = true ∧ m1 = m + 1 ∧ s1 = cat m s (fun _ => c)) ∨ (freshD L32 sz m s c = false ∧ m1 = m ∧ s1 = s)) ∧ Hid (Nums L32 m1 s1 ∧ m1 ≤ i + 1) := by
        cases hf : freshD L32 sz m s c
        · exact ⟨m, s, Hid.mk (.inr ⟨rfl, rfl, rfl⟩), Hid.mk ⟨hNN, by omega⟩⟩
        · exact ⟨m + 1, _, Hid.mk (.inl ⟨rfl, rfl, rfl⟩), Hid.mk ⟨hNN.take (sz := sz) (by unfold U32 at hcu; omega) (by unfold U32 at hcu; unfold L32; omega) hf, by omega⟩⟩
      have H3 := Hid.mk (top32 H2.out.1)
      have HS0 : Hid (SmS Win2 w0 bw br sz m s m1 s1 B (fun _ => false) wr.drew) := Hid.mk ⟨S, vr, next32 C2 HB.out (Below.refl _ wr).drew⟩
      go_wp2_with fail
      refine wp_region_steps4 (SmS Win2 w0 bw br sz m s m1 s1 B) (fun j x => x = ([.pointer (some ⟨bw, 0, none⟩), .slice (some p) ns pc, .int .i64 (i : Int), .pointer (some (p.add i)), .int .u32 c, .bool (freshD L32 sz m s c), .pointer (some ⟨br, 0, none⟩), .slice (some p) ns pc, .int .i64 (i : Int), .pointer (some (p.add i)), .int .u32 c, .int .u64 c, .bool (freshD L32 sz m s c), .bool false, .bool false, .pointer (some ⟨bw, 0, none⟩), .slice (some p) ns pc, .int .i64 (i : Int), .pointer (some (p.add i)), .int .u32 c, .bool (freshD L32 sz m s c), .pointer (some ⟨br, 0, none⟩), .slice (some p) ns pc, .int .i64 (i : Int), .pointer (some (p.add i)), .int .u32 c, .int .u64 c, .bool (freshD L32 sz m s c), .bool false, .bool false, .bool false, .pointer (some ⟨bw, 0, none⟩), .int .u32 (topF s1 m1), .int .u64 (topF s1 m1), .pointer (some ⟨br, 0, none⟩), .int .u64 (topF s1 m1), .bool false, .bool false] : List Value).getD j undef)
        [32, 33, 34, 35, 36, 37, 38, 39, 40, 41, 42, 43, 44, 45, 46, 47, 48, 49, 50, 51, 52, 53, 54, 55, 56, 57, 58, 59, 60, 61, 62, 63, 64, 65, 66, 67, 68, 69]
        [(6, .pointer (some ⟨bw, 0, none⟩)), (7, .pointer (some ⟨br, 0, none⟩)), (1, .slice (some p) ns pc), (8, .int .i64 (i : Int))]
        [[], [], [], [1, 2], [3], [0, 4], [], [], [], [7, 8], [9], [10], [6, 11], [5, 12], [13], [14], [14], [14], [14, 16, 17], [14, 18], [14, 15, 19], [14], [14], [14], [14, 22, 23], [14, 24], [14, 25], [14, 21, 26], [14, 20, 27], [14, 28], [29], [30], [30, 31], [30, 32], [30], [30, 34], [30, 33, 35], [30, 36]]
        [[], [], [], [], [], [], [], [], [], [], [], [], [], [5, 12], [5, 12], [], [], [], [], [], [5, 12], [], [], [], [], [], [], [5, 12], [20, 27], [20, 27], [20, 27], [], [20, 27], [], [], [20, 27], [], []]
        [[], [], [], [], [], [20], [], [], [], [], [], [], [27], [], [], [], [], [], [], [], [], [], [], [], [], [], [], [], [], [], [], [], [], [], [], [], [], []]
        rfl (by kernel_rfl) ⟨rfl, rfl, rfl, rfl, trivial⟩ (sm_drew HS0.out)
        ⟨
        (fun Q L a w hS hun hq hd fr kn => ⟨trivial, fun K hK => wp_value (exec_move rfl fr.1) (hK _ _ rfl hS)⟩),
        (fun Q L a w hS hun hq hd fr kn => ⟨trivial, fun K hK => wp_value (exec_move rfl fr.2.2.1) (hK _ _ rfl hS)⟩),
        (fun Q L a w hS hun hq hd fr kn => ⟨trivial, fun K hK => wp_value (exec_move rfl fr.2.2.2.1) (hK _ _ rfl hS)⟩),
        (fun Q L a w hS hun hq hd fr kn => ⟨trivial, fun K hK => wp_value (exec_ix32 rfl kn.1 kn.2.1 hi1) (hK _ _ rfl hS)⟩),
        (fun Q L a w hS hun hq hd fr kn => ⟨trivial, fun K hK => wp_value (exec_ld rfl kn.1 (run_load32 (HCE.out w (sm_below hS)))) (hK _ _ rfl hS)⟩),
        (fun Q L a w hS hun hq hd fr kn => ⟨trivial, fun K hK => by
        obtain ⟨S1, hw⟩ := sm_c0 hS hd.1
        exact stepc enterFresh32 rfl (args2 kn.1 kn.2.1) (C2.fresh c hw hNN (by omega) hcu hsz) (fun w' hb => hK _ _ rfl (sm_next C2 hS hb))⟩),
        (fun Q L a w hS hun hq hd fr kn => ⟨trivial, fun K hK => wp_value (exec_move rfl fr.2.1) (hK _ _ rfl hS)⟩),
        (fun Q L a w hS hun hq hd fr kn => ⟨trivial, fun K hK => wp_value (exec_move rfl fr.2.2.1) (hK _ _ rfl hS)⟩),
        (fun Q L a w hS hun hq hd fr kn => ⟨trivial, fun K hK => wp_value (exec_move rfl fr.2.2.2.1) (hK _ _ rfl hS)⟩),
        (fun Q L a w hS hun hq hd fr kn => ⟨trivial, fun K hK => wp_value (exec_ix32 rfl kn.1 kn.2.1 hi1) (hK _ _ rfl hS)⟩),
        (fun Q L a w hS hun hq hd fr kn => ⟨trivial, fun K hK => wp_value (exec_ld rfl kn.1 (run_load32 (HCE.out w (sm_below hS)))) (hK _ _ rfl hS)⟩),
        (fun Q L a w hS hun hq hd fr kn => ⟨trivial, fun K hK => wp_value (exec_conv rfl kn.1 (conv32_64 hcu w)) (hK _ _ rfl hS)⟩),
        (fun Q L a w hS hun hq hd fr kn => ⟨trivial, fun K hK => by
        obtain ⟨vr1, hw⟩ := sm_d0 hS hd.1
        exact stepc enterRFresh rfl (args2 kn.1 kn.2.1) (rFresh_run c (by omega) ⟨by omega, hsz.2⟩ (nums_u32 hNN) (u32_64 hcu) hw) (fun w' hb => hK _ _ rfl (sm_next C2 hS hb))⟩),
        (fun Q L a w hS hun hq hd fr kn => ⟨trivial, fun K hK => wp_value (exec_neqB rfl kn.1 kn.2.1) (hK _ _ rfl hS)⟩),
        (fun Q L a w hS hun hq hd fr kn => ⟨trivial, fun K hK => wp_value (exec_move rfl kn.1) (hK _ _ rfl hS)⟩),
        (fun Q L a w hS hun hq hd fr kn => ⟨kn.1, fun K hK => wp_value (exec_move rfl fr.1) (hK _ _ rfl hS)⟩),
        (fun Q L a w hS hun hq hd fr kn => ⟨kn.1, fun K hK => wp_value (exec_move rfl fr.2.2.1) (hK _ _ rfl hS)⟩),
        (fun Q L a w hS hun hq hd fr kn => ⟨kn.1, fun K hK => wp_value (exec_move rfl fr.2.2.2.1) (hK _ _ rfl hS)⟩),
        (fun Q L a w hS hun hq hd fr kn => ⟨kn.1, fun K hK => wp_value (exec_ix32 rfl kn.2.1 kn.2.2.1 hi1) (hK _ _ rfl hS)⟩),
        (fun Q L a w hS hun hq hd fr kn => ⟨kn.1, fun K hK => wp_value (exec_ld rfl kn.2.1 (run_load32 (HCE.out w (sm_below hS)))) (hK _ _ rfl hS)⟩),
        (fun Q L a w hS hun hq hd fr kn => ⟨kn.1, fun K hK => stepp enterTake32 rfl (args2 kn.2.1 kn.2.2.1) (sm_take C2 hNN (by omega) hcu hsz H1.out hS hun) (fun x w' hx => hK _ _ hx.1 hx.2)⟩),
        (fun Q L a w hS hun hq hd fr kn => ⟨kn.1, fun K hK => wp_value (exec_move rfl fr.2.1) (hK _ _ rfl hS)⟩),
        (fun Q L a w hS hun hq hd fr kn => ⟨kn.1, fun K hK => wp_value (exec_move rfl fr.2.2.1) (hK _ _ rfl hS)⟩),
        (fun Q L a w hS hun hq hd fr kn => ⟨kn.1, fun K hK => wp_value (exec_move rfl fr.2.2.2.1) (hK _ _ rfl hS)⟩),
        (fun Q L a w hS hun hq hd fr kn => ⟨kn.1, fun K hK => wp_value (exec_ix32 rfl kn.2.1 kn.2.2.1 hi1) (hK _ _ rfl hS)⟩),
        (fun Q L a w hS hun hq hd fr kn => ⟨kn.1, fun K hK => wp_value (exec_ld rfl kn.2.1 (run_load32 (HCE.out w (sm_below hS)))) (hK _ _ rfl hS)⟩),
        (fun Q L a w hS hun hq hd fr kn => ⟨kn.1, fun K hK => wp_value (exec_conv rfl kn.2.1 (conv32_64 hcu w)) (hK _ _ rfl hS)⟩),
        (fun Q L a w hS hun hq hd fr kn => ⟨kn.1, fun K hK => stepp enterRTake rfl (args2 kn.2.1 kn.2.2.1) (sm_rtake C2 hNN (by omega) hcu hsz H1.out hS hun) (fun x w' hx => hK _ _ hx.1 hx.2)⟩),
        (fun Q L a w hS hun hq hd fr kn => ⟨kn.1, fun K hK => wp_value (exec_neqB rfl kn.2.1 kn.2.2.1) (hK _ _ rfl hS)⟩),
        (fun Q L a w hS hun hq hd fr kn => ⟨trivial, fun K hK => wp_value (exec_pickF rfl kn.1 kn.2.1) (hK _ _ rfl hS)⟩),
        (fun Q L a w hS hun hq hd fr kn => ⟨trivial, fun K hK => wp_value (exec_move rfl kn.1) (hK _ _ rfl hS)⟩),
        (fun Q L a w hS hun hq hd fr kn => ⟨kn.1, fun K hK => wp_value (exec_move rfl fr.1) (hK _ _ rfl hS)⟩),
        (fun Q L a w hS hun hq hd fr kn => ⟨kn.1, fun K hK => by
        obtain ⟨S1, hw⟩ := sm_c1 hS hq.1
        exact stepc enterTop32 rfl (args1 kn.2.1) (C2.top hw H2.out.1 (by have := H2.out.2; omega)) (fun w' hb => hK _ _ rfl (sm_next C2 hS hb))⟩),
        (fun Q L a w hS hun hq hd fr kn => ⟨kn.1, fun K hK => wp_value (exec_conv rfl kn.2.1 (conv32_64 H3.out w)) (hK _ _ rfl hS)⟩),
        (fun Q L a w hS hun hq hd fr kn => ⟨kn.1, fun K hK => wp_value (exec_move rfl fr.2.1) (hK _ _ rfl hS)⟩),
        (fun Q L a w hS hun hq hd fr kn => ⟨kn.1, fun K hK => by
        obtain ⟨vr1, hw⟩ := sm_d1 hS hq.2.1
        exact stepc enterRTop rfl (args1 kn.2.1) ((rTop_run (by have := H2.out.2; omega) (nums_l32 H2.out.1) hw).mono (fun e w' h => ⟨h.1, by rw [h.2]; exact Below.refl _ _⟩)) (fun w' hb => hK _ _ rfl (sm_next C2 hS hb))⟩),
        (fun Q L a w hS hun hq hd fr kn => ⟨kn.1, fun K hK => wp_value (exec_neq64 rfl kn.2.1 kn.2.2.1) (hK _ _ rfl hS)⟩),
        (fun Q L a w hS hun hq hd fr kn => ⟨trivial, fun K hK => wp_value (exec_pickF rfl kn.1 kn.2.1) (hK _ _ rfl hS)⟩),
        trivial⟩ ?_
      intro vs L v9 hS9 hL hk9
      have e69 : vs 69 = .bool false := hk9 37 (by decide)
      have HB9 : Hid (∃ S1 vr1, BothP Win2 w0 v9 bw br sz L32 m1 s1 m1 s1 S1 B vr1) := Hid.mk (by
        obtain ⟨S1, vr1, h⟩ := hS9
        rw [hL 20 (by decide), hL 27 (by decide)] at h
        exact ⟨S1, vr1, h⟩)
      clear hS9 hL hk9 HS0
      simp only [putAll, Act.put, List.setIfInBounds_toArray, List.set_cons_zero, List.set_cons_succ, e69]
      clear e69
      obtain ⟨S1, vr1, h9⟩ := HB9.out
      have HB2 := Hid.mk h9
      clear h9 HB9
      go_wp2_with fail
      go_roundg (min ns 400 - (i + 1))
      case rel => exact ⟨i + 1, m1, s1, S1, vr1, Hid.mk (by omega), by go_num, HB2, H2⟩
      case measure => have := HK.out; omega
    · by_cases hi1 : i < ns
      · have hi2 : ¬ i < 400 := by omega
        go_wp2_with fail
        refine (C2.came HB.out.win hNN (by omega) hsz).mono ?_
        rintro e v6 ⟨vo, m1, f1, rfl, hO1, hC1, hb⟩
        replace HB := Hid.mk (next32 C2 HB.out hb)
        clear hb
        obtain ⟨p1, cp1, rfl, -⟩ := own_view hO1
        clear hO1
        go_wp2_with fail
        refine (rCame_run (by omega) ⟨by omega, hsz.2⟩ (nums_l32 hNN) hNN.2 HB.out.ref).mono ?_
        rintro e v7 ⟨vo2, m2, f2, rfl, hO2, hC2, hb⟩
        have hB := (next32 C2 HB.out hb).below
        clear hb HB
        obtain ⟨rfl, -⟩ := rising_same hC1.2.1 hC2.2.1 (fun x => (hC1.2.2 x).trans (hC2.2.2 x).symm)
        obtain ⟨p2, cp2, rfl, -⟩ := own_view hO2
        have hml := hC1.1
        clear hO2 hC1 hC2
        go_wp2_with fail
        go_ret
        exact ⟨rfl, hB⟩
      · go_wp2_with fail
        refine (C2.came HB.out.win hNN (by omega) hsz).mono ?_
        rintro e v6 ⟨vo, m1, f1, rfl, hO1, hC1, hb⟩
        replace HB := Hid.mk (next32 C2 HB.out hb)
        clear hb
        obtain ⟨p1, cp1, rfl, -⟩ := own_view hO1
        clear hO1
        go_wp2_with fail
        refine (rCame_run (by omega) ⟨by omega, hsz.2⟩ (nums_l32 hNN) hNN.2 HB.out.ref).mono ?_
        rintro e v7 ⟨vo2, m2, f2, rfl, hO2, hC2, hb⟩
        have hB := (next32 C2 HB.out hb).below
        clear hb HB
        obtain ⟨rfl, -⟩ := rising_same hC1.2.1 hC2.2.1 (fun x => (hC1.2.2 x).trans (hC2.2.2 x).symm)
        obtain ⟨p2, cp2, rfl, -⟩ := own_view hO2
        have hml := hC1.1
        clear hO2 hC1 hC2
        go_wp2_with fail
        go_ret
        exact ⟨rfl, hB⟩
end Go.Proofs.Ytjnknhgjlllhjaa
/-
  Own text. Slices of numbers, and slices of calls, as arguments.
-/
namespace Go.Proofs.Ytjnknhgjlllhjaa
open Go.ChangeShapes Go.WideShapes Go.ChangeAt Go.WideMaps Go.WideElems Go.RowKit Go.Proofs
set_option maxRecDepth 100000
theorem laid8 : laidOutB Try.prog = true := by kernel_rfl
theorem opFields : ∃ f0 f1 : Field, Try.prog.underlying 33 = some (.struct #[f0, f1]) ∧ f0.type = 3 ∧ f1.type = 26 ∧ f0.offset = 0 ∧ f1.offset = 1 := ⟨_, _, Try.underlying33, rfl, rfl, rfl, rfl⟩
section
variable {H : Type} {enc : TypeId × Value → H} {W : World} {base : Nat} {sp : Nat → Bool} {v : Value} {d : DataW H} {p : List MemPlace}
/-- An argument that is a slice of numbers. -/
theorem open_nums8 {t e : TypeId} {k : IntKind} (ht : Try.prog.underlying t = some (.slice e)) (he : Try.prog.underlying e = some (.int k)) (hc : Try.prog.cellsOf e = 1) (hv : Value.okWide Try.prog W .any base t v)
    (h : DataW.Trod enc Try.prog W 0 sp true t v d p) : ∃ n f, IntsAt W k v n f ∧ (∀ i, i < n → (Lit.int k (f i)).wf = true) ∧ n ≤ maxLen := by
  obtain ⟨a, len, cap, rfl⟩ := okWide_slice ht hv
  obtain ⟨fuel, hf⟩ := h
  rcases open_ints ht he hc hf with ⟨hcs, _⟩ | ⟨ad, len', cap', zs, hcs, _, hl, hm, hz, _, hcell, hw⟩
  · simp [Value.cells] at hcs
    obtain ⟨rfl, rfl, rfl⟩ := hcs
    exact ⟨0, fun _ => 0, ⟨none, 0, rfl, fun j h => by omega⟩, fun i h => by omega, by unfold maxLen; omega⟩
  · simp [Value.cells] at hcs
    obtain ⟨rfl, rfl, rfl⟩ := hcs
    have hle : len ≤ zs.length := by rw [hz]; split <;> omega
    refine ⟨len, fun i => zs.getD i 0, ⟨some ad, cap, rfl, fun j hj => ?_⟩, fun i hi => ?_, by omega⟩
    · have h0 := hcell j (by omega)
      refine ⟨ad, rfl, h0, ?_⟩
      have := World.block_lt_of_cell? _ _ h0
      rwa [add_block] at this
    · have hi2 : i < zs.length := by omega
      refine hw _ ?_
      show zs.getD i 0 ∈ zs
      rw [List.getD_eq_getElem?_getD, List.getElem?_eq_getElem hi2]
      exact List.getElem_mem hi2
/-- An argument that is a slice of calls. -/
theorem open_ops (hv : Value.okWide Try.prog W .any base 22 v) (h : DataW.Trod enc Try.prog W 0 sp true 22 v d p) : ∃ n kd nn, OpsAt W v n kd nn ∧ (∀ i, i < n → (Lit.int .u64 (nn i)).wf = true) ∧ n ≤ maxLen := by
  obtain ⟨a, len, cap, rfl⟩ := okWide_slice Try.underlying22 hv
  obtain ⟨fuel, hf⟩ := h
  rcases Go.Deep.open_slice Try.underlying22 hf with ⟨hcs, _⟩ | ⟨ad, len', cap', m, n, D, Pl, hcs, _, hl, hm, hz, _, hcell⟩
  · simp [Value.cells] at hcs
    obtain ⟨rfl, rfl, rfl⟩ := hcs
    exact ⟨0, fun _ => 0, fun _ => 0, ⟨none, 0, rfl, fun j h => by omega⟩, fun i h => by omega, by unfold maxLen; omega⟩
  · simp [Value.cells] at hcs
    obtain ⟨rfl, rfl, rfl⟩ := hcs
    have hle : len ≤ m := by rw [hz]; split <;> omega
    have hc2 : Try.prog.cellsOf 33 = 2 := by kernel_rfl
    rw [hc2] at hcell
    have each : ∀ i, i < len → ∃ K N : Int, W.cell? (ad.add (i * 2)) = some (.int .i64 K) ∧ W.cell? (ad.add (i * 2 + 1)) = some (.int .u64 N) ∧ (Lit.int .u64 N).wf = true := fun i hi => by
      obtain ⟨cs', h1, h2⟩ := hcell i (by omega)
      obtain ⟨_, hlen, hc⟩ := World.cells?_some h1
      obtain ⟨f0, f1, hu, e0, e1, o0, o1⟩ := opFields
      obtain ⟨y0, y1, n', _, _, h3, h4⟩ := trod_struct2 hu h2
      rw [e0, o0, show Try.prog.cellsOf 3 = 1 by kernel_rfl] at h3
      rw [e1, o1, show Try.prog.cellsOf 26 = 1 by kernel_rfl] at h4
      obtain ⟨K, hk, _, _⟩ := DataW.trod_int Try.underlying3 h3
      obtain ⟨N, hn, _, hw⟩ := DataW.trod_int Try.underlying26 h4
      refine ⟨K, N, ?_, ?_, hw⟩
      · have := hc 0 (by omega)
        rw [Addr.add_add, Nat.add_zero] at this
        rw [this]
        match cs', hlen with
        | [x, y], _ => simp at hk; simp [hk]
      · have := hc 1 (by omega)
        rw [Addr.add_add] at this
        rw [this]
        match cs', hlen with
        | [x, y], _ => simp at hn; simp [hn]
    refine ⟨len, fun i => if h : i < len then (each i h).choose else 0, fun i => if h : i < len then (each i h).choose_spec.choose else 0, ⟨some ad, cap, rfl, fun j hj => ?_⟩, fun i hi => ?_, by omega⟩
    · have h0 := (each j hj).choose_spec.choose_spec
      refine ⟨ad, rfl, ?_, ?_, ?_⟩
      · simp only [dif_pos hj]; exact h0.1
      · simp only [dif_pos hj]; exact h0.2.1
      · have := World.block_lt_of_cell? _ _ h0.1
        rwa [add_block] at this
    · have h0 := (each i hi).choose_spec.choose_spec
      simp only [dif_pos hi]
      exact h0.2.2
end
end Go.Proofs.Ytjnknhgjlllhjaa
/-
  Own text. The lift of ReplayPlays's walk to its statement.
-/
namespace Go.Proofs.Ytjnknhgjlllhjaa
open Go.ChangeShapes Go.WideShapes Go.ChangeAt Go.WideMaps Go.WideElems Go.ChangeMaps Go.RowKit Go.Proofs
set_option maxRecDepth 100000
def ReplayPlaysWalk : Prop := ∀ (a0 : Int) (_ : (Lit.int .i64 a0).wf = true) (v1 : Value) (n1 : Nat) (kd1 nn1 : Nat → Int) (W : World), OpsAt W v1 n1 kd1 nn1 → (∀ i, i < n1 → (Lit.int .u64 (nn1 i)).wf = true) → n1 ≤ maxLen → Calls Try.prog 3 #[.int .i64 a0, v1] W fun e w' => e = .returned (.bool true) ∧ Below W.heap.size W w'
theorem own_replayPlays : ownKnob Try.prog.godebug = none := by kernel_rfl
set_option maxRecDepth 100000 in
theorem lifted_replayPlays (hwalk : ReplayPlaysWalk) (os : Os) (started : os.Started) (H : Type) (enc : TypeId × Value → H) :
    ReturnsInHanded {} Try.checked os 3 .any (Rows.replayPlaysSpec.pre6 enc Try.prog Try.f3 Rows.replayPlaysRow.domain false) (Rows.replayPlaysSpec.post enc Try.prog Try.f3 false true false false) := by
  refine returnsInHanded_of_change (C := Try.checked) own_replayPlays started (by kernel_rfl) Try.func3
    (ChangeSpec.witness6 (enc := enc) (C := Try.checked) false ⟨#[], #[.int .i64 0, .slice none 0 0], []⟩ 8 (by kernel_rfl) (by kernel_rfl) (by kernel_rfl) (by kernel_rfl)) ?_
  intro W base args ds gs before hval0 hW _ _
  have hval : ∀ (j : Nat) t v, Try.f3.params[j]? = some t → args[j]? = some v → Value.okWide Try.prog W .any base t v := hval0
  have hW' := hW
  obtain ⟨p, q, hA0, hV, rfl, hfz, hnd⟩ := hW
  have hA : DataW.TrodAll enc Try.prog W 0 (fun _ => true) true Try.f3.params.toList args.toList ds p := hA0
  rw [Try.params3] at hA hval
  obtain ⟨v0, vs0, d0, ds0, p0, q0, hargs, rfl, rfl, h0, r0⟩ := trodAll_cons hA
  obtain ⟨v1, vs1, d1, ds1, p1, q1, rfl, rfl, rfl, h1, r1⟩ := trodAll_cons r0
  obtain ⟨rfl, rfl, rfl⟩ := trodAll_nil r1
  obtain rfl : args = #[v0, v1] := by cases args; simp_all
  obtain ⟨rfl, rfl⟩ := trodVars_none hV
  obtain ⟨a0, rfl, rfl, rfl, w0⟩ := open_int Try.underlying3 (hval 0 3 v0 rfl rfl) h0
  obtain ⟨n1, kd1, nn1, hS1, hw1, hm1⟩ := open_ops (hval 1 22 v1 rfl rfl) h1
  clear hA0 hval0
  simp only [List.append_nil, List.nil_append] at hW'
  refine (hwalk a0 w0 v1 n1 kd1 nn1 W hS1 hw1 hm1).mono fun e W' ⟨he, hg⟩ => ?_
  subst he
  refine ⟨_, rfl, _, _, _, [], ([] ++ (p1 ++ [])), [], hW', trodAll_mk1 (shut_bool Try.underlying4 true), ?_, rfl, hg.frame _, fun h => by cases h⟩
  exact (trodAll_cons_mk (shut_int Try.underlying3 w0) (trodAll_cons_mk (Below.trod laid8 (show Try.prog.readableRec 22 = true by kernel_rfl) (show 22 < Try.prog.types.size from of_decide_eq_true (by kernel_rfl)) h1 hg (fun x hx => by simpa using hW'.lt x (by simp [hx]))) trodAll_mk0))
theorem replayPlays_said (hwalk : ReplayPlaysWalk) : Rows.ReplayPlaysSaid :=
  OpenClaim.holds_of_wide 3 Try.f3 rfl rfl rfl rfl rfl rfl rfl ⟨rfl, rfl, rfl, rfl, rfl⟩ rfl rfl rfl rfl rfl (by kernel_rfl) Try.func3 (by kernel_rfl)
    (of_decide_eq_true (by kernel_rfl)) (by unfold Func.isWrapper; first | (rw [if_pos (by decide +kernel)]; kernel_rfl) | (rw [if_neg (by decide +kernel)]; exact ⟨rfl, rfl⟩))
    (fun os started H enc _ => lifted_replayPlays hwalk os started H enc)
end Go.Proofs.Ytjnknhgjlllhjaa
/-
  Own text. The lift of ReplaySmall's walk to its statement.
-/
namespace Go.Proofs.Ytjnknhgjlllhjaa
open Go.ChangeShapes Go.WideShapes Go.ChangeAt Go.WideMaps Go.WideElems Go.ChangeMaps Go.RowKit Go.Proofs
set_option maxRecDepth 100000
def ReplaySmallWalk : Prop := ∀ (a0 : Int) (_ : (Lit.int .i64 a0).wf = true) (v1 : Value) (n1 : Nat) (f1 : Nat → Int) (W : World), IntsAt W .u32 v1 n1 f1 → (∀ i, i < n1 → (Lit.int .u32 (f1 i)).wf = true) → n1 ≤ maxLen → Calls Try.prog 4 #[.int .i64 a0, v1] W fun e w' => e = .returned (.bool true) ∧ Below W.heap.size W w'
theorem own_replaySmall : ownKnob Try.prog.godebug = none := by kernel_rfl
set_option maxRecDepth 100000 in
theorem lifted_replaySmall (hwalk : ReplaySmallWalk) (os : Os) (started : os.Started) (H : Type) (enc : TypeId × Value → H) :
    ReturnsInHanded {} Try.checked os 4 .any (Rows.replaySmallSpec.pre6 enc Try.prog Try.f4 Rows.replaySmallRow.domain false) (Rows.replaySmallSpec.post enc Try.prog Try.f4 false true false false) := by
  refine returnsInHanded_of_change (C := Try.checked) own_replaySmall started (by kernel_rfl) Try.func4
    (ChangeSpec.witness6 (enc := enc) (C := Try.checked) false ⟨#[], #[.int .i64 0, .slice none 0 0], []⟩ 8 (by kernel_rfl) (by kernel_rfl) (by kernel_rfl) (by kernel_rfl)) ?_
  intro W base args ds gs before hval0 hW _ _
  have hval : ∀ (j : Nat) t v, Try.f4.params[j]? = some t → args[j]? = some v → Value.okWide Try.prog W .any base t v := hval0
  have hW' := hW
  obtain ⟨p, q, hA0, hV, rfl, hfz, hnd⟩ := hW
  have hA : DataW.TrodAll enc Try.prog W 0 (fun _ => true) true Try.f4.params.toList args.toList ds p := hA0
  rw [Try.params4] at hA hval
  obtain ⟨v0, vs0, d0, ds0, p0, q0, hargs, rfl, rfl, h0, r0⟩ := trodAll_cons hA
  obtain ⟨v1, vs1, d1, ds1, p1, q1, rfl, rfl, rfl, h1, r1⟩ := trodAll_cons r0
  obtain ⟨rfl, rfl, rfl⟩ := trodAll_nil r1
  obtain rfl : args = #[v0, v1] := by cases args; simp_all
  obtain ⟨rfl, rfl⟩ := trodVars_none hV
  obtain ⟨a0, rfl, rfl, rfl, w0⟩ := open_int Try.underlying3 (hval 0 3 v0 rfl rfl) h0
  obtain ⟨n1, f1, hS1, hw1, hm1⟩ := open_nums8 (t := 40) (e := 43) (k := .u32) Try.underlying40 Try.underlying43 (by kernel_rfl) (hval 1 40 v1 rfl rfl) h1
  clear hA0 hval0
  simp only [List.append_nil, List.nil_append] at hW'
  refine (hwalk a0 w0 v1 n1 f1 W hS1 hw1 hm1).mono fun e W' ⟨he, hg⟩ => ?_
  subst he
  refine ⟨_, rfl, _, _, _, [], ([] ++ (p1 ++ [])), [], hW', trodAll_mk1 (shut_bool Try.underlying4 true), ?_, rfl, hg.frame _, fun h => by cases h⟩
  exact (trodAll_cons_mk (shut_int Try.underlying3 w0) (trodAll_cons_mk (Below.trod laid8 (show Try.prog.readableRec 40 = true by kernel_rfl) (show 40 < Try.prog.types.size from of_decide_eq_true (by kernel_rfl)) h1 hg (fun x hx => by simpa using hW'.lt x (by simp [hx]))) trodAll_mk0))
theorem replaySmall_said (hwalk : ReplaySmallWalk) : Rows.ReplaySmallSaid :=
  OpenClaim.holds_of_wide 4 Try.f4 rfl rfl rfl rfl rfl rfl rfl ⟨rfl, rfl, rfl, rfl, rfl⟩ rfl rfl rfl rfl rfl (by kernel_rfl) Try.func4 (by kernel_rfl)
    (of_decide_eq_true (by kernel_rfl)) (by unfold Func.isWrapper; first | (rw [if_pos (by decide +kernel)]; kernel_rfl) | (rw [if_neg (by decide +kernel)]; exact ⟨rfl, rfl⟩))
    (fun os started H enc _ => lifted_replaySmall hwalk os started H enc)
end Go.Proofs.Ytjnknhgjlllhjaa
/-
  Own text. The lift of ReplayOnce's walk to its statement.
-/
namespace Go.Proofs.Ytjnknhgjlllhjaa
open Go.ChangeShapes Go.WideShapes Go.ChangeAt Go.WideMaps Go.WideElems Go.ChangeMaps Go.RowKit Go.Proofs
set_option maxRecDepth 100000
def ReplayOnceWalk : Prop := ∀ (a0 : Int) (_ : (Lit.int .i64 a0).wf = true) (a1 : Int) (_ : (Lit.int .u64 a1).wf = true) (v2 : Value) (n2 : Nat) (f2 : Nat → Int) (W : World), IntsAt W .i64 v2 n2 f2 → (∀ i, i < n2 → (Lit.int .i64 (f2 i)).wf = true) → n2 ≤ maxLen → Calls Try.prog 5 #[.int .i64 a0, .int .u64 a1, v2] W fun e w' => e = .returned (.bool true) ∧ Below W.heap.size W w'
theorem own_replayOnce : ownKnob Try.prog.godebug = none := by kernel_rfl
set_option maxRecDepth 100000 in
theorem lifted_replayOnce (hwalk : ReplayOnceWalk) (os : Os) (started : os.Started) (H : Type) (enc : TypeId × Value → H) :
    ReturnsInHanded {} Try.checked os 5 .any (Rows.replayOnceSpec.pre6 enc Try.prog Try.f5 Rows.replayOnceRow.domain false) (Rows.replayOnceSpec.post enc Try.prog Try.f5 false true false false) := by
  refine returnsInHanded_of_change (C := Try.checked) own_replayOnce started (by kernel_rfl) Try.func5
    (ChangeSpec.witness6 (enc := enc) (C := Try.checked) false ⟨#[], #[.int .i64 0, .int .u64 0, .slice none 0 0], []⟩ 8 (by kernel_rfl) (by kernel_rfl) (by kernel_rfl) (by kernel_rfl)) ?_
  intro W base args ds gs before hval0 hW _ _
  have hval : ∀ (j : Nat) t v, Try.f5.params[j]? = some t → args[j]? = some v → Value.okWide Try.prog W .any base t v := hval0
  have hW' := hW
  obtain ⟨p, q, hA0, hV, rfl, hfz, hnd⟩ := hW
  have hA : DataW.TrodAll enc Try.prog W 0 (fun _ => true) true Try.f5.params.toList args.toList ds p := hA0
  rw [Try.params5] at hA hval
  obtain ⟨v0, vs0, d0, ds0, p0, q0, hargs, rfl, rfl, h0, r0⟩ := trodAll_cons hA
  obtain ⟨v1, vs1, d1, ds1, p1, q1, rfl, rfl, rfl, h1, r1⟩ := trodAll_cons r0
  obtain ⟨v2, vs2, d2, ds2, p2, q2, rfl, rfl, rfl, h2, r2⟩ := trodAll_cons r1
  obtain ⟨rfl, rfl, rfl⟩ := trodAll_nil r2
  obtain rfl : args = #[v0, v1, v2] := by cases args; simp_all
  obtain ⟨rfl, rfl⟩ := trodVars_none hV
  obtain ⟨a0, rfl, rfl, rfl, w0⟩ := open_int Try.underlying3 (hval 0 3 v0 rfl rfl) h0
  obtain ⟨a1, rfl, rfl, rfl, w1⟩ := open_int Try.underlying26 (hval 1 26 v1 rfl rfl) h1
  obtain ⟨n2, f2, hS2, hw2, hm2⟩ := open_nums8 (t := 48) (e := 3) (k := .i64) Try.underlying48 Try.underlying3 (by kernel_rfl) (hval 2 48 v2 rfl rfl) h2
  clear hA0 hval0
  simp only [List.append_nil, List.nil_append] at hW'
  refine (hwalk a0 w0 a1 w1 v2 n2 f2 W hS2 hw2 hm2).mono fun e W' ⟨he, hg⟩ => ?_
  subst he
  refine ⟨_, rfl, _, _, _, [], ([] ++ ([] ++ (p2 ++ []))), [], hW', trodAll_mk1 (shut_bool Try.underlying4 true), ?_, rfl, hg.frame _, fun h => by cases h⟩
  exact (trodAll_cons_mk (shut_int Try.underlying3 w0) (trodAll_cons_mk (shut_int Try.underlying26 w1) (trodAll_cons_mk (Below.trod laid8 (show Try.prog.readableRec 48 = true by kernel_rfl) (show 48 < Try.prog.types.size from of_decide_eq_true (by kernel_rfl)) h2 hg (fun x hx => by simpa using hW'.lt x (by simp [hx]))) trodAll_mk0)))
theorem replayOnce_said (hwalk : ReplayOnceWalk) : Rows.ReplayOnceSaid :=
  OpenClaim.holds_of_wide 5 Try.f5 rfl rfl rfl rfl rfl rfl rfl ⟨rfl, rfl, rfl, rfl, rfl⟩ rfl rfl rfl rfl rfl (by kernel_rfl) Try.func5 (by kernel_rfl)
    (of_decide_eq_true (by kernel_rfl)) (by unfold Func.isWrapper; first | (rw [if_pos (by decide +kernel)]; kernel_rfl) | (rw [if_neg (by decide +kernel)]; exact ⟨rfl, rfl⟩))
    (fun os started H enc _ => lifted_replayOnce hwalk os started H enc)
end Go.Proofs.Ytjnknhgjlllhjaa
/-
  Own text. The lift of ReplayLate's walk to its statement.
-/
namespace Go.Proofs.Ytjnknhgjlllhjaa
open Go.ChangeShapes Go.WideShapes Go.ChangeAt Go.WideMaps Go.WideElems Go.ChangeMaps Go.RowKit Go.Proofs
set_option maxRecDepth 100000
def ReplayLateWalk : Prop := ∀ (a0 : Int) (_ : (Lit.int .i64 a0).wf = true) (v1 : Value) (n1 : Nat) (f1 : Nat → Int) (v2 : Value) (n2 : Nat) (f2 : Nat → Int) (W : World), IntsAt W .u64 v1 n1 f1 → (∀ i, i < n1 → (Lit.int .u64 (f1 i)).wf = true) → n1 ≤ maxLen → IntsAt W .u64 v2 n2 f2 → (∀ i, i < n2 → (Lit.int .u64 (f2 i)).wf = true) → n2 ≤ maxLen → Calls Try.prog 7 #[.int .i64 a0, v1, v2] W fun e w' => e = .returned (.bool true) ∧ Below W.heap.size W w'
theorem own_replayLate : ownKnob Try.prog.godebug = none := by kernel_rfl
set_option maxRecDepth 100000 in
theorem lifted_replayLate (hwalk : ReplayLateWalk) (os : Os) (started : os.Started) (H : Type) (enc : TypeId × Value → H) :
    ReturnsInHanded {} Try.checked os 7 .any (Rows.replayLateSpec.pre6 enc Try.prog Try.f7 Rows.replayLateRow.domain false) (Rows.replayLateSpec.post enc Try.prog Try.f7 false true false false) := by
  refine returnsInHanded_of_change (C := Try.checked) own_replayLate started (by kernel_rfl) Try.func7
    (ChangeSpec.witness6 (enc := enc) (C := Try.checked) false ⟨#[], #[.int .i64 0, .slice none 0 0, .slice none 0 0], []⟩ 8 (by kernel_rfl) (by kernel_rfl) (by kernel_rfl) (by kernel_rfl)) ?_
  intro W base args ds gs before hval0 hW _ _
  have hval : ∀ (j : Nat) t v, Try.f7.params[j]? = some t → args[j]? = some v → Value.okWide Try.prog W .any base t v := hval0
  have hW' := hW
  obtain ⟨p, q, hA0, hV, rfl, hfz, hnd⟩ := hW
  have hA : DataW.TrodAll enc Try.prog W 0 (fun _ => true) true Try.f7.params.toList args.toList ds p := hA0
  rw [Try.params7] at hA hval
  obtain ⟨v0, vs0, d0, ds0, p0, q0, hargs, rfl, rfl, h0, r0⟩ := trodAll_cons hA
  obtain ⟨v1, vs1, d1, ds1, p1, q1, rfl, rfl, rfl, h1, r1⟩ := trodAll_cons r0
  obtain ⟨v2, vs2, d2, ds2, p2, q2, rfl, rfl, rfl, h2, r2⟩ := trodAll_cons r1
  obtain ⟨rfl, rfl, rfl⟩ := trodAll_nil r2
  obtain rfl : args = #[v0, v1, v2] := by cases args; simp_all
  obtain ⟨rfl, rfl⟩ := trodVars_none hV
  obtain ⟨a0, rfl, rfl, rfl, w0⟩ := open_int Try.underlying3 (hval 0 3 v0 rfl rfl) h0
  obtain ⟨n1, f1, hS1, hw1, hm1⟩ := open_nums8 (t := 29) (e := 26) (k := .u64) Try.underlying29 Try.underlying26 (by kernel_rfl) (hval 1 29 v1 rfl rfl) h1
  obtain ⟨n2, f2, hS2, hw2, hm2⟩ := open_nums8 (t := 29) (e := 26) (k := .u64) Try.underlying29 Try.underlying26 (by kernel_rfl) (hval 2 29 v2 rfl rfl) h2
  clear hA0 hval0
  simp only [List.append_nil, List.nil_append] at hW'
  refine (hwalk a0 w0 v1 n1 f1 v2 n2 f2 W hS1 hw1 hm1 hS2 hw2 hm2).mono fun e W' ⟨he, hg⟩ => ?_
  subst he
  refine ⟨_, rfl, _, _, _, [], ([] ++ (p1 ++ (p2 ++ []))), [], hW', trodAll_mk1 (shut_bool Try.underlying4 true), ?_, rfl, hg.frame _, fun h => by cases h⟩
  exact (trodAll_cons_mk (shut_int Try.underlying3 w0) (trodAll_cons_mk (Below.trod laid8 (show Try.prog.readableRec 29 = true by kernel_rfl) (show 29 < Try.prog.types.size from of_decide_eq_true (by kernel_rfl)) h1 hg (fun x hx => by simpa using hW'.lt x (by simp [hx]))) (trodAll_cons_mk (Below.trod laid8 (show Try.prog.readableRec 29 = true by kernel_rfl) (show 29 < Try.prog.types.size from of_decide_eq_true (by kernel_rfl)) h2 hg (fun x hx => by simpa using hW'.lt x (by simp [hx]))) trodAll_mk0)))
theorem replayLate_said (hwalk : ReplayLateWalk) : Rows.ReplayLateSaid :=
  OpenClaim.holds_of_wide 7 Try.f7 rfl rfl rfl rfl rfl rfl rfl ⟨rfl, rfl, rfl, rfl, rfl⟩ rfl rfl rfl rfl rfl (by kernel_rfl) Try.func7 (by kernel_rfl)
    (of_decide_eq_true (by kernel_rfl)) (by unfold Func.isWrapper; first | (rw [if_pos (by decide +kernel)]; kernel_rfl) | (rw [if_neg (by decide +kernel)]; exact ⟨rfl, rfl⟩))
    (fun os started H enc _ => lifted_replayLate hwalk os started H enc)
end Go.Proofs.Ytjnknhgjlllhjaa
/-
  Own text. The laws of replay, as their statements have them, from what windows do.
-/
namespace Go.Proofs.Ytjnknhgjlllhjaa
open Go.RowKit Go.Proofs
set_option maxRecDepth 100000
theorem wf_u64 {n : Int} (h : (Lit.int .u64 n).wf = true) : U64 n := by
  simp [Lit.wf, IntKind.min, IntKind.max, IntKind.bits, IntKind.signed] at h
  unfold U64
  omega
theorem wf_u32 {n : Int} (h : (Lit.int .u32 n).wf = true) : U32 n := by
  simp [Lit.wf, IntKind.min, IntKind.max, IntKind.bits, IntKind.signed] at h
  unfold U32
  omega
theorem wf_i64 {n : Int} (h : (Lit.int .i64 n).wf = true) : I64 n := by
  simp [Lit.wf, IntKind.min, IntKind.max, IntKind.bits, IntKind.signed] at h
  unfold I64
  omega
theorem len_ok {n : Nat} (h : n ≤ maxLen) : n < 9223372036854775808 := by unfold maxLen at h; omega
section
variable {Win Win2 : World → Nat → Int → Nat → (Nat → Int) → (Nat → Prop) → Prop}
theorem plays_of (C : Code64 Win) : Rows.ReplayPlaysSaid := replayPlays_said fun a0 _ v1 n1 kd nn W hS hw hm => plays_walk C a0 v1 n1 kd nn W hS (fun i hi => wf_u64 (hw i hi)) (len_ok hm)
theorem small_of (C : Code64 Win) (C2 : Code32 Win2) : Rows.ReplaySmallSaid := replaySmall_said fun a0 _ v1 n1 f1 W hS hw hm => small_walk C C2 a0 v1 n1 f1 W hS (fun i hi => wf_u32 (hw i hi)) (len_ok hm)
theorem once_of (C : Code64 Win) : Rows.ReplayOnceSaid := replayOnce_said fun a0 h0 a1 h1 v2 n2 f2 W hS hw hm => once_walk C a0 a1 v2 n2 f2 W hS (wf_i64 h0) (wf_u64 h1) (fun i hi => wf_i64 (hw i hi)) (len_ok hm)
theorem late_of (C : Code64 Win) : Rows.ReplayLateSaid := replayLate_said fun a0 h0 v1 n1 f1 v2 n2 f2 W hS hw hm hS2 hw2 hm2 => late_walk C a0 v1 v2 n1 n2 f1 f2 W hS hS2 (wf_i64 h0) (fun i hi => wf_u64 (hw i hi)) (fun i hi => wf_u64 (hw2 i hi)) (len_ok hm) (len_ok hm2)
end
end Go.Proofs.Ytjnknhgjlllhjaa
/-
  Own text. The words of a window of the program: a bit is set just for those counters of the words that are remembered that came.
-/
namespace Go.Proofs.Ytjnknhgjlllhjaa
open Go.RowKit Go.Proofs
set_option maxRecDepth 100000
/-- How many words a window of size sz has. -/
def wK (sz : Int) : Nat := (sz.toNat + 62) / 64 + 1
theorem wK_pos (sz : Int) : 0 < wK sz := by unfold wK; omega
theorem wK_le {sz : Int} (h : sz ≤ 8192) : wK sz ≤ 129 := by unfold wK; omega
def bt (x : Int) (i : Nat) : Bool := x.toNat.testBit i
/-- Of the words up to the W-th, as far as they are remembered, just the bits of what came are set. -/
def Bts (K W n : Nat) (s f : Nat → Int) : Prop := ∀ x : Nat, x / 64 ≤ W → W < x / 64 + K → bt (f (x / 64 % K)) (x % 64) = memb n s (x : Int)
theorem bt_zero (i : Nat) : bt 0 i = false := by unfold bt; simp
theorem memb_iff {n : Nat} {s : Nat → Int} {c : Int} : memb n s c = true ↔ ∃ i, i < n ∧ s i = c := by unfold memb; simp
theorem memb_cat (n : Nat) (s : Nat → Int) (c x : Int) : memb (n + 1) (cat n s (fun _ => c)) x = (memb n s x || decide (c = x)) := by
  rw [Bool.eq_iff_iff]
  simp only [Bool.or_eq_true, decide_eq_true_eq, memb_iff]
  constructor
  · rintro ⟨i, hi, h⟩
    unfold cat at h
    by_cases e : i < n
    · rw [if_pos e] at h; exact .inl ⟨i, e, h⟩
    · rw [if_neg e] at h; exact .inr h
  · rintro (⟨i, hi, h⟩ | h)
    · exact ⟨i, by omega, by unfold cat; rw [if_pos hi]; exact h⟩
    · exact ⟨n, by omega, by unfold cat; rw [if_neg (by omega)]; exact h⟩
/-- Two words less than a round apart lie at places of their own. -/
theorem mod_apart {a b K : Nat} (h : a < b) (h2 : b < a + K) : a % K ≠ b % K := fun e => by
  have h1 : (b - a) % K = 0 := by
    have := Nat.sub_mod_eq_zero_of_mod_eq (m := b) (n := a) (k := K) e.symm
    exact this
  rw [Nat.mod_eq_of_lt (by omega)] at h1
  omega
theorem bts_step {K W n : Nat} {s f : Nat → Int} (h : Bts K W n s f) (hs : ∀ i, i < n → s i < 64 * ((W : Int) + 1)) : Bts K (W + 1) n s (upd f ((W + 1) % K) 0) := by
  intro x h1 h2
  by_cases e : x / 64 = W + 1
  · unfold upd
    rw [e, if_pos rfl, bt_zero]
    refine (memb_no fun i hi => ?_).symm
    have := hs i hi
    omega
  · have h3 := mod_apart (a := x / 64) (b := W + 1) (K := K) (by omega) h2
    unfold upd
    rw [if_neg h3]
    exact h x (by omega) (by omega)
theorem bts_all {K W n : Nat} {s f : Nat → Int} (hs : ∀ i, i < n → s i / 64 + K ≤ W) (hf : ∀ j, j < K → f j = 0) : Bts K W n s f := by
  intro x h1 h2
  rw [hf _ (Nat.mod_lt _ (by omega)), bt_zero]
  refine (memb_no fun i hi => ?_).symm
  have := hs i hi
  omega
theorem bt_put (a i j : Nat) : bt ((a ||| 2 ^ i : Nat) : Int) j = (bt (a : Int) j || decide (i = j)) := by
  unfold bt
  simp only [Int.toNat_natCast, Nat.testBit_or, Nat.testBit_two_pow]
theorem bts_put {K W n : Nat} {s f : Nat → Int} (h : Bts K W n s f) (c a : Nat) (h1 : c / 64 ≤ W) (h2 : W < c / 64 + K) (ha : f (c / 64 % K) = (a : Int)) :
    Bts K W (n + 1) (cat n s (fun _ => (c : Int))) (upd f (c / 64 % K) ((a ||| 2 ^ (c % 64) : Nat) : Int)) := by
  intro x k1 k2
  rw [memb_cat, ← h x k1 k2]
  by_cases e : x / 64 = c / 64
  · unfold upd
    rw [e, if_pos rfl, bt_put, ha]
    congr 1
    by_cases e2 : x = c
    · subst e2; simp
    · have e3 : ¬ (c % 64 = x % 64) := by omega
      have e4 : ¬ ((c : Int) = (x : Int)) := by omega
      simp [e3, e4]
  · have h3 : x / 64 % K ≠ c / 64 % K := by
      by_cases e1 : x / 64 < c / 64
      · exact mod_apart e1 (by omega)
      · exact fun e2 => mod_apart (a := c / 64) (b := x / 64) (K := K) (by omega) (by omega) e2.symm
    have e4 : ¬ ((c : Int) = (x : Int)) := by omega
    unfold upd
    rw [if_neg h3]
    simp [e4]
/-- A counter of the window lies in words that are remembered. -/
theorem word_in {sz : Int} {T c : Nat} (hc : c < T) (h : (T : Int) ≤ c + sz) : c / 64 ≤ (T - 1) / 64 ∧ (T - 1) / 64 < c / 64 + wK sz := by
  unfold wK
  omega
/-- The words of a window, whose top is T. -/
structure Words (sz : Int) (T n : Nat) (s f : Nat → Int) : Prop where
  u : ∀ j, j < wK sz → U64 (f j)
  zero : T = 0 → ∀ j, j < wK sz → f j = 0
  bits : 0 < T → Bts (wK sz) ((T - 1) / 64) n s f
theorem Words.has {sz : Int} {T n : Nat} {s f : Nat → Int} (h : Words sz T n s f) {c : Nat} (hc : c < T) (hl : (T : Int) ≤ c + sz) : bt (f (c / 64 % wK sz)) (c % 64) = memb n s (c : Int) :=
  h.bits (by omega) c (word_in hc hl).1 (word_in hc hl).2
theorem Words.nil (sz : Int) (s : Nat → Int) : Words sz 0 0 s (fun _ => 0) := ⟨fun j _ => by unfold U64; omega, fun _ _ _ => rfl, fun h => by omega⟩
theorem or_u64 {x : Int} (hx : U64 x) (i : Nat) (hi : i < 64) : U64 ((x.toNat ||| 2 ^ i : Nat) : Int) := by
  unfold U64 at *
  have h1 : 2 ^ i < 2 ^ 64 := Nat.pow_lt_pow_right (by omega) hi
  have := Nat.or_lt_two_pow (x := x.toNat) (y := 2 ^ i) (n := 64) (by omega) h1
  omega
/-- A counter joins, whose word is there. -/
theorem Words.put {sz : Int} {n c W : Nat} {s f : Nat → Int} (hu : ∀ j, j < wK sz → U64 (f j)) (h : Bts (wK sz) W n s f) (h1 : c / 64 ≤ W) (h2 : W < c / 64 + wK sz) {T : Nat} (hT : 0 < T) (hW : W = (T - 1) / 64) :
    Words sz T (n + 1) (cat n s (fun _ => (c : Int))) (upd f (c / 64 % wK sz) (((f (c / 64 % wK sz)).toNat ||| 2 ^ (c % 64) : Nat) : Int)) := by
  have hp := hu (c / 64 % wK sz) (Nat.mod_lt _ (wK_pos sz))
  refine ⟨fun j hj => ?_, fun e => by omega, fun _ => ?_⟩
  · unfold upd
    split
    · exact or_u64 hp _ (by omega)
    · exact hu j hj
  · rw [← hW]
    exact bts_put h c _ h1 h2 (by unfold U64 at hp; omega)
/-- The least counter that is remembered. -/
def lowN (sz : Int) (T : Nat) : Nat := T - sz.toNat
/-- The tops. -/
theorem topF_cat {s : Nat → Int} {n : Nat} (c : Int) : topF (cat n s (fun _ => c)) (n + 1) = if topF s n < c + 1 then c + 1 else topF s n := by
  have e1 : topF (cat n s (fun _ => c)) n = topF s n := topF_congr (fun i hi => by unfold cat; rw [if_pos hi])
  have e2 : cat n s (fun _ => c) n = c := by unfold cat; rw [if_neg (by omega)]
  rw [topF_succ, e1, e2]
theorem topF_nonneg {s : Nat → Int} : ∀ {n : Nat}, 0 ≤ topF s n
  | 0 => by simp [topF]
  | n + 1 => by
    have := topF_nonneg (s := s) (n := n)
    unfold topF
    split <;> omega
theorem topF_bound {s : Nat → Int} {M : Int} (hM : 0 ≤ M) : ∀ {n : Nat}, (∀ i, i < n → s i < M) → topF s n ≤ M
  | 0, _ => by simp [topF]; exact hM
  | n + 1, h => by
    have h1 := topF_bound (s := s) hM (n := n) (fun i hi => h i (by omega))
    have h2 := h n (by omega)
    unfold topF
    split <;> omega
/-- A counter at the top or above it is fresh. -/
theorem fresh_top {last sz : Int} {n : Nat} {s : Nat → Int} {c : Int} (h : topF s n ≤ c) : freshD last sz n s c = !decide (c = last) := by
  have h1 : memb n s c = false := memb_no fun i hi e => by have := topF_le (s := s) hi; omega
  have h2 : late n s sz c = false := late_no fun i hi e => by have := topF_le (s := s) hi; omega
  unfold freshD
  rw [h1, h2]
  simp
/-- One that is too late is not. -/
theorem fresh_late {last sz : Int} {n : Nat} {s : Nat → Int} {c : Int} (hs : ∀ i, i < n → 0 ≤ s i) (h0 : 0 ≤ c) (h1 : 1 ≤ sz) (h : c + sz < topF s n) : freshD last sz n s c = false := by
  have hn : 0 < n := by
    by_cases e : n = 0
    · subst e; simp [topF] at h; omega
    · omega
  obtain ⟨i, hi, e⟩ := topF_some hn hs
  have h2 : late n s sz c = true := late_yes (i := i) hi (by omega) (by omega)
  unfold freshD
  rw [h2]
  simp
/-- One of the window, if it did not come. -/
theorem fresh_mid {last sz : Int} {n : Nat} {s : Nat → Int} {c : Int} (h : topF s n ≤ c + sz) : freshD last sz n s c = (!decide (c = last) && !memb n s c) := by
  have h2 : late n s sz c = false := late_no fun i hi e => by have := topF_le (s := s) hi; omega
  unfold freshD
  rw [h2]
  simp
end Go.Proofs.Ytjnknhgjlllhjaa
/-
  Own text. What the windows of 64 and of 32 bits share: words are made, cleared; bits of a word.
-/
namespace Go.Proofs.Ytjnknhgjlllhjaa
open Go.RowKit Go.Proofs
set_option maxRecDepth 100000
theorem made_zero (n : Nat) : madeCells #[Value.int .u64 0] n = WA .u64 n (fun _ => 0) := by
  apply WA_ext
  · exact size_madeCells _ _
  · intro i hi
    simp [madeCells, hi, Nat.mod_one]
theorem run_makeW (n : Nat) (hn : n ≤ 1000) (w : World) : (Instr.makeSlice 29 (.int .i64 (n : Int)) (.int .i64 (n : Int))).run Try.prog w = .ok (.slice (some ⟨w.heap.size, 0, none⟩) n n) (w.alloc (.cells (WA .u64 n fun _ => 0) 26)) := by
  obtain ⟨i0, hi, hz0, hz1, hz2⟩ := info_parts infoU64
  have hm := run_make (P := Try.prog) w 29 26 i0 (.int .u64 0) Try.underlying29 hi hz0 .i64 .i64 (n : Int) (n : Int) (by omega) (Int.le_refl _) (by rw [hz2]; omega) (by omega)
  rw [hz1, Nat.mul_one, Int.toNat_natCast] at hm
  rw [hm]
  show Result.ok _ (w.alloc (.cells (madeCells #[Value.int .u64 0] n) 26)) = _
  rw [made_zero]
theorem wl_makeW {ops : Array Oper} {rest : List Oper} {d : Option Tmp} {x y : Operand} {ty : TypeId} {ps : String} {af : Array Edge} {a : Act} {w : World} {Q : Exit → Act → World → Prop} {n : Nat} (hx : a.eval x = .int .i64 (n : Int)) (hy : a.eval y = .int .i64 (n : Int)) (hn : n ≤ 1000)
    (h : ∀ w', ArrAt w' w.heap.size .u64 26 n (fun _ => 0) → Below w.heap.size w w' → wpList Try.prog ops Q rest (a.put d (.slice (some ⟨w.heap.size, 0, none⟩) n n)) w') :
    wpList Try.prog ops Q ({ dst := d, op := .makeSlice 29 x y, type := ty, pos := ps, after := af, guard := none } :: rest) a w := by
  have hr := run_makeW n hn w
  refine wl_act rfl ?_
  unfold Oper.wp execOp
  simp only [hx, hy, Sem.run_bind, hr, Result.andThen_ok, Sem.run_pure, Oper.upon]
  exact h _ (heap_alloc_new w _) ((Below.refl _ _).alloc (Nat.le_refl _) _)
set_option maxHeartbeats 1000000 in
theorem wordsFor_run (sz : Int) (hz : 1 ≤ sz ∧ sz ≤ 8192) (w : World) :
    Calls Try.prog 28 #[.int .i64 sz] w fun e w' => e = .returned (.slice (some ⟨w.heap.size, 0, none⟩) (wK sz) (wK sz)) ∧ ArrAt w' w.heap.size .u64 26 (wK sz) (fun _ => 0) ∧ Below w.heap.size w w' := by
  have hK := wK_le hz.2
  have hd : (sz + 64 - 2).tdiv 64 + 1 = (wK sz : Int) := by
    rw [Int.tdiv_eq_ediv_of_nonneg (by omega)]
    unfold wK
    omega
  have h1 : (sz + 64 - 2).tdiv 64 = (wK sz : Int) - 1 := by omega
  have hK0 := wK_pos sz
  generalize wK sz = K at *
  go_enter Try.func28, Try.ntmps28
  go_wp2_with (refine wl_makeW (n := K) (by simp [Act.eval]) (by simp [Act.eval]) (by omega) ?_; intro w' hA hB)
  go_ret
  exact ⟨rfl, hA, hB⟩
theorem and_bit {x : Int} (hx : U64 x) (i : Nat) (hi : i < 64) : ∃ y, bits .and .u64 x ((2 ^ i : Nat) : Int) = y ∧ (bt x i = !decide (y = 0)) := by
  unfold U64 at hx
  obtain ⟨a, rfl⟩ := Int.eq_ofNat_of_zero_le hx.1
  have h1 : 2 ^ i < 2 ^ 64 := Nat.pow_lt_pow_right (by omega) hi
  refine ⟨_, bits_and_u64_nat a (2 ^ i) (by omega) (by omega), ?_⟩
  unfold bt
  have hp : 0 < 2 ^ i := Nat.two_pow_pos i
  rw [Int.toNat_natCast]
  cases h : a.testBit i
  · have e : a &&& 2 ^ i = 0 := Nat.eq_of_testBit_eq fun j => by
      rw [Nat.testBit_and, Nat.testBit_two_pow, Nat.zero_testBit]
      by_cases e : i = j
      · subst e; rw [h]; simp
      · simp [e]
    rw [e]
    simp
  · have e : ¬ (a &&& 2 ^ i = 0) := fun e => by
      have := Nat.testBit_and a (2 ^ i) i
      rw [e, Nat.zero_testBit, h, Nat.testBit_two_pow] at this
      simp at this
    have e2 : ¬ (((a &&& 2 ^ i : Nat) : Int) = 0) := by omega
    simp only [e2, decide_false, Bool.not_false]
theorem u64_upd {K : Nat} {f : Nat → Int} {p : Nat} {v : Int} (h : ∀ j, j < K → U64 (f j)) (hv : U64 v) : ∀ j, j < K → U64 (upd f p v j) := fun j hj => by
  unfold upd; split
  · exact hv
  · exact h j hj
theorem touch_bg {b g : Nat} {u v w : World} (h : Touch (fun k => k = b ∨ k = g) u v) (k : Touch (fun k => k = b ∨ k = g) v w) : Touch (fun k => k = b ∨ k = g) u w :=
  ⟨k.os.trans h.os, k.tape.trans h.tape, k.output.trans h.output, Nat.le_trans h.size k.size, fun i hi hn => (k.block i (Nat.lt_of_lt_of_le hi h.size) hn).trans (h.block i hi hn)⟩
theorem below_dn (w : World) (m : Nat) : Below w.heap.size w (w.drewN m) := below_drewN (Below.refl _ _) m
theorem zeroU64 (w : World) : (zeroValue 26).run Try.prog w = .ok (.int .u64 0) w := by kernel_rfl
/-- clear of a row of words. -/
theorem wl_clear {ops : Array Oper} {rest : List Oper} {d : Option Tmp} {x : Operand} {ty t : TypeId} {ps : String} {af : Array Edge} {a : Act} {w : World} {Q : Exit → Act → World → Prop} {g K : Nat} {f : Nat → Int} (hx : a.eval x = .slice (some ⟨g, 0, none⟩) K K) (hK : 0 < K) (hg : ArrAt w g .u64 t K f)
    (h : ∀ w', ArrAt w' g .u64 t K (fun _ => 0) → Only g w w' → wpList Try.prog ops Q rest (a.put d (.tuple #[])) w') :
    wpList Try.prog ops Q ({ dst := d, op := .call { callee := .builtin .clear, args := #[x], argTypes := #[29] }, type := ty, pos := ps, after := af, guard := none } :: rest) a w := by
  have hr := Lib.run_clear_slice (P := Try.prog) w 29 26 ty (.int .u64 0) Try.underlying29 zeroU64 rfl rfl g 0 K K hK (fun j hj => by rw [Nat.zero_add, hg.cell j hj]; rfl) (fun j hj => hg.free _)
  obtain ⟨C', h1, h2, h3, h4, h5⟩ := setCells_heap (List.replicate K (Value.int .u64 0)) 0 w _ hg (by rw [WA_size]; simp)
  rw [WA_size] at h2
  have e : C' = WA .u64 K (fun _ => 0) := WA_ext h2 (fun i hi => by
    have := h3 i (by simpa using hi)
    rw [Nat.zero_add] at this
    rw [this]
    simp [hi])
  refine wl_act rfl ?_
  unfold Oper.wp
  simp [execOp, resolve, invoke, builtin, hx, hr, Result.andThen]
  exact h _ (by unfold ArrAt; rw [h1, e]) h5
theorem or_bit {x : Int} (hx : U64 x) (i : Nat) (hi : i < 64) : bits .or .u64 x ((2 ^ i : Nat) : Int) = ((x.toNat ||| 2 ^ i : Nat) : Int) := by
  unfold U64 at hx
  obtain ⟨a, rfl⟩ := Int.eq_ofNat_of_zero_le hx.1
  have h1 : 2 ^ i < 2 ^ 64 := Nat.pow_lt_pow_right (by omega) hi
  rw [bits_or_u64_nat a (2 ^ i) (by omega) (by omega), Int.toNat_natCast]
theorem load_sl {w : World} {p : Addr} {q : Option Addr} {n c : Nat} (h : w.cell? p = some (.slice q n c)) : (Instr.loadAt 29 (.pointer (some p))).run Try.prog w = .ok (.slice q n c) w := by
  simp [go_sem, h]
theorem load_u64 {w : World} {p : Addr} {n : Int} (h : w.cell? p = some (.int .u64 n)) : (Instr.loadAt 26 (.pointer (some p))).run Try.prog w = .ok (.int .u64 n) w := by
  simp [go_sem, h]
theorem size_u64 (w : World) : (sizeOf (Try.prog.elem 29)).run Try.prog w = .ok 1 w := by kernel_rfl
theorem exec_idxW {a : Act} {o : Oper} {w : World} {x y : Operand} (ho : o.op = .indexAddr 29 x y) {b n c i : Nat} (hx : a.eval x = .slice (some ⟨b, 0, none⟩) n c) (hy : a.eval y = .int .i64 (i : Int)) (hi : i < n) : (execOp a.eval o).run Try.prog w = .ok (.value (.pointer (some ⟨b, i, none⟩))) w := by
  have := exec_idx (w := w) ho Try.underlying29 size_u64 hx hy hi
  rw [Nat.zero_add] at this
  exact this
theorem exec_orW {a : Act} {o : Oper} {w : World} {x y : Operand} (ho : o.op = .binOp .or 26 x y 26) {m n z : Int} (hx : a.eval x = .int .u64 m) (hy : a.eval y = .int .u64 n) (hz : bits .or .u64 m n = z) : (execOp a.eval o).run Try.prog w = .ok (.value (.int .u64 z)) w :=
  exec_bin2 ho hx hy rfl (by simp [go_sem, hz])
theorem act_w64 {o : Oper} {a : Act} {w : World} {K : Act → World → Prop} {Q : Exit → Act → World → Prop} {x y : Operand} (ho : o.op = .store 26 x y) {g n i : Nat} {ty : TypeId} {s : Nat → Int} {v : Int} (hx : a.eval x = .pointer (some ⟨g, i, none⟩)) (hy : a.eval y = .int .u64 v)
    (hg : ArrAt w g .u64 ty n s) (hi : i < n) (h : ∀ w', ArrAt w' g .u64 ty n (upd s i v) → Only g w w' → K (a.put o.dst undef) w') : o.wp Try.prog a w K Q := by
  have hc := hg.cell i hi
  have hf := hg.free i
  have h' := h _ (hg.set i v hi) only_set
  unfold Oper.wp execOp
  simp only [ho, hx, hy]
  simp [go_sem, hc, hf]
  exact h'
theorem belT {T : Nat → Prop} {w w' : World} (h : Below w.heap.size w w') : Touch T w w' := ⟨h.os, h.tape, h.output, h.size, fun k hk _ => h.block k hk⟩
theorem exec_nil29 {a : Act} {o : Oper} {w : World} {x : Operand} {t : TypeId} (ho : o.op = .binOp .eql 29 x (.const (.slice none 0 0)) t) {p : Addr} {n c : Nat} (hx : a.eval x = .slice (some p) n c) : (execOp a.eval o).run Try.prog w = .ok (.value (.bool false)) w := by
  have h := Lib.run_eql_slice_nil (P := Try.prog) w 29 26 (some p) n c 0 0 Try.underlying29
  exact exec_bin2 ho hx rfl rfl h
theorem exec_max {a : Act} {o : Oper} {w : World} {x y : Operand} (ho : o.op = .call { callee := .builtin .max, args := #[x, y], argTypes := #[3, 3] }) {m n : Int} (hx : a.eval x = .int .i64 m) (hy : a.eval y = .int .i64 n) : (execOp a.eval o).run Try.prog w = .ok (.value (.int .i64 (max m n))) w := by
  have h : (if n > m then n else m) = max m n := by split <;> omega
  simp [execOp, ho, resolve, invoke, builtin, hx, hy, run_max_int2, h]
theorem exec_min {a : Act} {o : Oper} {w : World} {x y : Operand} (ho : o.op = .call { callee := .builtin .min, args := #[x, y], argTypes := #[3, 3] }) {m n : Int} (hx : a.eval x = .int .i64 m) (hy : a.eval y = .int .i64 n) : (execOp a.eval o).run Try.prog w = .ok (.value (.int .i64 (min m n))) w := by
  have h : (if n < m then n else m) = min m n := by split <;> omega
  simp [execOp, ho, resolve, invoke, builtin, hx, hy, run_min_int2, h]
/-- A rising row of numbers that are all among n is no longer than n. -/
theorem rising_le : ∀ {n m : Nat} {s f : Nat → Int}, (∀ i j, i < j → j < m → f i < f j) → (∀ i, i < m → ∃ j, j < n ∧ s j = f i) → m ≤ n
  | 0, m, s, f, _, h => by
    by_cases e : 0 < m
    · obtain ⟨j, hj, _⟩ := h 0 e
      omega
    · omega
  | n + 1, m, s, f, hr, h => by
    by_cases e : ∃ i, i < m ∧ f i = s n
    · obtain ⟨i0, hi0, he⟩ := e
      have := rising_le (n := n) (m := m - 1) (s := s) (f := fun i => if i < i0 then f i else f (i + 1)) (fun i j hij hj => by
        show (if i < i0 then f i else f (i + 1)) < (if j < i0 then f j else f (j + 1))
        by_cases a1 : j < i0
        · rw [if_pos (by omega), if_pos a1]; exact hr i j hij (by omega)
        · by_cases a2 : i < i0
          · rw [if_pos a2, if_neg a1]; exact hr i (j + 1) (by omega) (by omega)
          · rw [if_neg a2, if_neg a1]; exact hr (i + 1) (j + 1) (by omega) (by omega)) (fun i hi => by
        show ∃ j, j < n ∧ s j = (if i < i0 then f i else f (i + 1))
        by_cases a1 : i < i0
        · rw [if_pos a1]
          obtain ⟨j, hj, e1⟩ := h i (by omega)
          have h2 := hr i i0 a1 hi0
          refine ⟨j, ?_, e1⟩
          by_cases e2 : j = n
          · subst e2; omega
          · omega
        · rw [if_neg a1]
          obtain ⟨j, hj, e1⟩ := h (i + 1) (by omega)
          have h2 := hr i0 (i + 1) (by omega) (by omega)
          refine ⟨j, ?_, e1⟩
          by_cases e2 : j = n
          · subst e2; omega
          · omega)
      omega
    · have := rising_le (n := n) (m := m) (s := s) (f := f) hr (fun i hi => by
        obtain ⟨j, hj, e1⟩ := h i hi
        refine ⟨j, ?_, e1⟩
        by_cases e2 : j = n
        · subst e2; exact absurd ⟨i, hi, e1.symm⟩ e
        · omega)
      omega
/-- What Came has told, when it has come to the counter x. -/
structure CamI (n : Nat) (s : Nat → Int) (L x m : Nat) (f : Nat → Int) : Prop where
  few : m + L ≤ x
  up : ∀ i j, i < j → j < m → f i < f j
  mem : ∀ y, (∃ i, i < m ∧ f i = y) ↔ ((L : Int) ≤ y ∧ y < (x : Int) ∧ memb n s y = true)
theorem CamI.nil (n : Nat) (s f : Nat → Int) (L : Nat) : CamI n s L L 0 f := ⟨by omega, fun i j _ h => by omega, fun y => ⟨fun ⟨i, h, _⟩ => by omega, fun h => by omega⟩⟩
theorem CamI.no {n : Nat} {s : Nat → Int} {L x m : Nat} {f : Nat → Int} (h : CamI n s L x m f) (hx : memb n s (x : Int) = false) : CamI n s L (x + 1) m f := by
  refine ⟨by have := h.few; omega, h.up, fun y => (h.mem y).trans ⟨fun ⟨h1, h2, h3⟩ => ⟨h1, by omega, h3⟩, fun ⟨h1, h2, h3⟩ => ⟨h1, ?_, h3⟩⟩⟩
  by_cases e : y = (x : Int)
  · subst e; rw [hx] at h3; cases h3
  · omega
theorem CamI.yes {n : Nat} {s : Nat → Int} {L x m : Nat} {f : Nat → Int} (h : CamI n s L x m f) (hL : L ≤ x) (hx : memb n s (x : Int) = true) : CamI n s L (x + 1) (m + 1) (cat m f (fun _ => (x : Int))) := by
  have hlt : ∀ i, i < m → f i < (x : Int) := fun i hi => ((h.mem (f i)).1 ⟨i, hi, rfl⟩).2.1
  refine ⟨by have := h.few; omega, fun i j hij hj => ?_, fun y => ⟨?_, ?_⟩⟩
  · unfold cat
    rw [if_pos (by omega)]
    split
    · exact h.up i j hij (by omega)
    · exact hlt i (by omega)
  · rintro ⟨i, hi, rfl⟩
    unfold cat
    split
    · rename_i e
      obtain ⟨a1, a2, a3⟩ := (h.mem (f i)).1 ⟨i, e, rfl⟩
      exact ⟨a1, by omega, a3⟩
    · show (L : Int) ≤ (x : Int) ∧ (x : Int) < ((x + 1 : Nat) : Int) ∧ memb n s (x : Int) = true
      exact ⟨by omega, by omega, hx⟩
  · rintro ⟨h1, h2, h3⟩
    by_cases e : y = (x : Int)
    · exact ⟨m, by omega, by unfold cat; rw [if_neg (by omega)]; exact e.symm⟩
    · obtain ⟨i, hi, e2⟩ := (h.mem y).2 ⟨h1, by omega, h3⟩
      exact ⟨i, by omega, by unfold cat; rw [if_pos hi]; exact e2⟩
theorem CamI.end {n : Nat} {s : Nat → Int} {T m : Nat} {sz : Int} {f : Nat → Int} (hz : 0 ≤ sz) (hs : ∀ i, i < n → 0 ≤ s i ∧ s i < (T : Int)) (h : CamI n s (T - sz.toNat) T m f) : CameI s sz (T : Int) n m f := by
  refine ⟨rising_le (s := s) h.up (fun i hi => ?_), h.up, fun y => (h.mem y).trans ⟨?_, ?_⟩⟩
  · obtain ⟨_, _, h3⟩ := (h.mem (f i)).1 ⟨i, hi, rfl⟩
    obtain ⟨j, hj, e⟩ := memb_iff.1 h3
    exact ⟨j, hj, e⟩
  · rintro ⟨h1, h2, h3⟩
    obtain ⟨j, hj, e⟩ := memb_iff.1 h3
    exact ⟨j, hj, e, by omega⟩
  · rintro ⟨j, hj, rfl, h1⟩
    have := hs j hj
    exact ⟨by omega, this.2, memb_iff.2 ⟨j, hj, rfl⟩⟩
end Go.Proofs.Ytjnknhgjlllhjaa
/-
  Own text. The program's windows of numbers of 64 bits: in memory; Size, Top, low, place, bit, has.
-/
namespace Go.Proofs.Ytjnknhgjlllhjaa
open Go.RowKit Go.Proofs
set_option maxRecDepth 100000
/-- Block b is a window: its size (r, as it was given), its top T, its K words in block g. -/
structure WB64 (w : World) (b g : Nat) (r : Int) (T K : Nat) (f : Nat → Int) : Prop where
  blk : w.heap[b]? = some (.cells #[.int .i64 r, .int .u64 (T : Int), .slice (some ⟨g, 0, none⟩) K K] 52 (0, 0))
  row : ArrAt w g .u64 26 K f
  ne : b ≠ g
section
variable {w w' : World} {b g : Nat} {r : Int} {T K : Nat} {f : Nat → Int}
theorem WB64.c0 (h : WB64 w b g r T K f) : w.cell? ⟨b, 0, none⟩ = some (.int .i64 r) := cell_of_row w b 0 _ _ _ h.blk
theorem WB64.c1 (h : WB64 w b g r T K f) : w.cell? ⟨b, 1, none⟩ = some (.int .u64 (T : Int)) := cell_of_row w b 1 _ _ _ h.blk
theorem WB64.c2 (h : WB64 w b g r T K f) : w.cell? ⟨b, 2, none⟩ = some (.slice (some ⟨g, 0, none⟩) K K) := cell_of_row w b 2 _ _ _ h.blk
theorem WB64.lt (h : WB64 w b g r T K f) : b < w.heap.size := heap_lt h.blk
theorem WB64.kept (h : WB64 w b g r T K f) (hb : Below w.heap.size w w') : WB64 w' b g r T K f := ⟨(hb.block b h.lt).trans h.blk, h.row.kept hb, h.ne⟩
theorem WB64.same (h : WB64 w b g r T K f) (h1 : w'.heap[b]? = w.heap[b]?) (h2 : w'.heap[g]? = w.heap[g]?) : WB64 w' b g r T K f := ⟨h1.trans h.blk, h.row.block h2, h.ne⟩
end
set_option maxHeartbeats 1000000 in
theorem size64_run {w : World} {b : Nat} {r : Int} (c0 : w.cell? ⟨b, 0, none⟩ = some (.int .i64 r)) : Calls Try.prog 15 #[.pointer (some ⟨b, 0, none⟩)] w fun e w' => e = .returned (.int .i64 (max r 1)) ∧ w' = w := by
  go_enter Try.func15, Try.ntmps15
  by_cases h : r < 1
  · have hm : max r 1 = 1 := by omega
    go_wp2
    go_ret
    exact ⟨by rw [hm]; rfl, rfl⟩
  · have hm : max r 1 = r := by omega
    go_wp2
    go_ret
    exact ⟨by first | rfl | (rw [hm]; rfl), rfl⟩
set_option maxHeartbeats 1000000 in
theorem top64_run {w : World} {b : Nat} {T : Int} (c1 : w.cell? ⟨b, 1, none⟩ = some (.int .u64 T)) : Calls Try.prog 14 #[.pointer (some ⟨b, 0, none⟩)] w fun e w' => e = .returned (.int .u64 T) ∧ w' = w := by
  go_enter Try.func14, Try.ntmps14
  go_wp2
  go_ret
  exact ⟨rfl, rfl⟩
set_option maxHeartbeats 1000000 in
theorem low64_run {w : World} {b : Nat} {r sz : Int} {T : Nat} (c0 : w.cell? ⟨b, 0, none⟩ = some (.int .i64 r)) (c1 : w.cell? ⟨b, 1, none⟩ = some (.int .u64 (T : Int))) (hz : max r 1 = sz) (h2 : sz ≤ 8192) (hT : T < 18446744073709551616) :
    Calls Try.prog 29 #[.pointer (some ⟨b, 0, none⟩)] w fun e w' => e = .returned (.int .u64 (lowN sz T : Int)) ∧ w' = w := by
  have hrun := size64_run c0
  rw [hz] at hrun
  have h1 : 1 ≤ sz := by omega
  have HL := Hid.mk (show ((T : Int) > sz → (T : Int) - sz = (lowN sz T : Int)) ∧ ((T : Int) ≤ sz → (0 : Int) = (lowN sz T : Int)) by unfold lowN; omega)
  generalize lowN sz T = L at *
  go_enter Try.func29, Try.ntmps29
  go_wp2_with fail
  refine hrun.mono ?_
  rintro e v0 ⟨rfl, rfl⟩
  clear hrun c0 hz
  by_cases h : (T : Int) > sz
  · have hL := HL.out.1 h
    clear HL
    go_wp2_with fail
    go_ret
    exact ⟨by rw [← hL]; rfl, rfl⟩
  · have hL := HL.out.2 (by omega)
    clear HL
    go_wp2_with fail
    go_ret
    exact ⟨by rw [← hL]; rfl, rfl⟩
set_option maxHeartbeats 1000000 in
theorem place64_run {w : World} {b : Nat} {p : Option Addr} {K cp : Nat} (c : Nat) (hc : c < 18446744073709551616) (c2 : w.cell? ⟨b, 2, none⟩ = some (.slice p K cp)) (hK : 0 < K) (hK2 : K ≤ 1000) :
    Calls Try.prog 33 #[.pointer (some ⟨b, 0, none⟩), .int .u64 (c : Int)] w fun e w' => e = .returned (.int .i64 ((c / 64 % K : Nat) : Int)) ∧ w' = w := by
  have hm := Nat.mod_lt (c / 64) hK
  have e : wrap64 ((c : Int) / 64 % (K : Int)) = ((c / 64 % K : Nat) : Int) := by
    have e1 : (c : Int) / 64 % (K : Int) = ((c / 64 % K : Nat) : Int) := by simp
    rw [e1]
    unfold wrap64
    omega
  have HE := Hid.mk e
  clear e
  go_enter Try.func33, Try.ntmps33
  go_wp2
  go_ret
  exact ⟨by rw [← HE.out]; rfl, rfl⟩
set_option maxHeartbeats 1000000 in
theorem bit64_run (w : World) (c : Nat) (hc : c < 18446744073709551616) :
    Calls Try.prog 34 #[.int .u64 (c : Int)] w fun e w' => e = .returned (.int .u64 ((2 ^ (c % 64) : Nat) : Int)) ∧ w' = w := by
  have h1 : 2 ^ (c % 64) < 2 ^ 64 := Nat.pow_lt_pow_right (by omega) (by omega)
  have HE := Hid.mk (show IntKind.u64.wrap (2 ^ (c % 64)) = ((2 ^ (c % 64) : Nat) : Int) by
    rw [show (2 : Int) ^ (c % 64) = ((2 ^ (c % 64) : Nat) : Int) by simp]
    generalize (2 ^ (c % 64) : Nat) = q at *
    rw [IntKind.wrap_u64]
    omega)
  clear h1
  go_enter Try.func34, Try.ntmps34
  go_wp2
  go_ret
  exact ⟨by rw [← HE.out]; rfl, rfl⟩
end Go.Proofs.Ytjnknhgjlllhjaa
/-
  Own text. The program's windows of numbers of 64 bits: has, Fresh.
-/
namespace Go.Proofs.Ytjnknhgjlllhjaa
open Go.RowKit Go.Proofs
set_option maxRecDepth 100000
set_option maxHeartbeats 2000000 in
theorem has64_run {w : World} {b g : Nat} {r : Int} {T K : Nat} {f : Nat → Int} (hW : WB64 w b g r T K f) (c : Nat) (hc : c < 18446744073709551616) (hK : 0 < K) (hK2 : K ≤ 1000) (hf : U64 (f (c / 64 % K))) :
    Calls Try.prog 30 #[.pointer (some ⟨b, 0, none⟩), .int .u64 (c : Int)] w fun e w' => e = .returned (.bool (bt (f (c / 64 % K)) (c % 64))) ∧ ∃ m, w' = w.drewN m := by
  have c2 := hW.c2
  have hP : ∀ m, Calls Try.prog 33 #[.pointer (some ⟨b, 0, none⟩), .int .u64 (c : Int)] (w.drewN m) fun e w' => e = .returned (.int .i64 ((c / 64 % K : Nat) : Int)) ∧ w' = w.drewN m := fun m => place64_run c hc (show (w.drewN m).cell? ⟨b, 2, none⟩ = _ from c2) hK hK2
  have hQ : ∀ m, Calls Try.prog 34 #[.int .u64 (c : Int)] (w.drewN m) fun e w' => e = .returned (.int .u64 ((2 ^ (c % 64) : Nat) : Int)) ∧ w' = w.drewN m := fun m => bit64_run (w.drewN m) c hc
  have hm := Nat.mod_lt (c / 64) hK
  have cx := hW.row.cell _ hm
  have ha := and_bit hf (c % 64) (by omega)
  generalize bt (f (c / 64 % K)) (c % 64) = z at *
  generalize f (c / 64 % K) = x at *
  generalize c / 64 % K = p at *
  generalize ((2 ^ (c % 64) : Nat) : Int) = q at *
  clear hW hK2 hf
  obtain ⟨y, hy, hz⟩ := ha
  have hp1 : (p : Int) < (K : Int) := by omega
  cases z
  · have hy0 : y = 0 := by simpa using hz
    subst hy0
    clear hz
    go_enter Try.func30, Try.ntmps30
    go_wp2_with fail
    go_quiet (first | (go_at_call 33; exact Calls.quiet_of_same (hP _)) | (go_at_call 34; exact Calls.quiet_of_same (hQ _)))
    go_wp2_with fail
    go_ret
    exact ⟨rfl, _, rfl⟩
  · have hy0 : ¬ y = 0 := by simpa using hz
    clear hz
    go_enter Try.func30, Try.ntmps30
    go_wp2_with fail
    go_quiet (first | (go_at_call 33; exact Calls.quiet_of_same (hP _)) | (go_at_call 34; exact Calls.quiet_of_same (hQ _)))
    go_wp2_with fail
    go_ret
    exact ⟨by show Ending.returned (Value.bool (y != 0)) = _; rw [show (y != 0) = true by simpa using hy0], _, rfl⟩
theorem exec_nt64 {a : Act} {o : Oper} {w : World} {x : Operand} (ho : o.op = .unOp .xor 26 x) (hx : a.eval x = .int .u64 0) : (execOp a.eval o).run Try.prog w = .ok (.value (.int .u64 18446744073709551615)) w := by
  have h : bits .xor .u64 IntKind.u64.max 0 = 18446744073709551615 := by decide
  unfold execOp
  simp only [ho, hx]
  simp [go_sem]
  exact h
set_option maxHeartbeats 2000000 in
theorem fresh64_gen {w : World} {b g : Nat} {r sz : Int} {T : Nat} {f : Nat → Int} (hW : WB64 w b g r T (wK sz) f) (hz : max r 1 = sz) (h2 : sz ≤ 8192) (c : Nat) (hc : c < 18446744073709551616) (hT : T < 18446744073709551616) (hu : ∀ j, j < wK sz → U64 (f j)) :
    Calls Try.prog 11 #[.pointer (some ⟨b, 0, none⟩), .int .u64 (c : Int)] w fun e w' => e = .returned (.bool (!decide (c = 18446744073709551615) && (decide (T ≤ c) || (decide (lowN sz T ≤ c) && !bt (f (c / 64 % wK sz)) (c % 64))))) ∧ ∃ m, w' = w.drewN m := by
  have c1 := hW.c1
  have hL := low64_run hW.c0 c1 hz h2 hT
  have hH := has64_run hW c hc (wK_pos sz) (by have := wK_le h2; omega) (hu _ (Nat.mod_lt _ (wK_pos sz)))
  generalize bt (f (c / 64 % wK sz)) (c % 64) = z at *
  have hl : lowN sz T < 18446744073709551616 := by unfold lowN; omega
  generalize lowN sz T = L at *
  clear hW hu hz h2
  by_cases e1 : c = 18446744073709551615
  · subst e1
    go_enter Try.func11, Try.ntmps11
    go_wp2_with (refine wl_value rfl (exec_nt64 rfl (by rfl)) ?_)
    go_ret
    exact ⟨rfl, 0, rfl⟩
  · have d1 : decide (c = 18446744073709551615) = false := decide_eq_false e1
    have e2 : ¬ ((c : Int) = 18446744073709551615) := by omega
    by_cases e3 : T ≤ c
    · have d2 : decide (T ≤ c) = true := decide_eq_true e3
      have HD := Hid.mk (And.intro d1 d2)
      have e4 : ((T : Int) ≤ (c : Int)) := by omega
      clear d1 d2
      go_enter Try.func11, Try.ntmps11
      go_wp2_with (refine wl_value rfl (exec_nt64 rfl (by rfl)) ?_)
      go_ret
      exact ⟨by rw [HD.out.1, HD.out.2]; rfl, 0, rfl⟩
    · have d2 : decide (T ≤ c) = false := decide_eq_false e3
      have e4 : decide ((T : Int) ≤ (c : Int)) = false := decide_eq_false (by omega)
      by_cases e5 : L ≤ c
      · have d3 : decide (L ≤ c) = true := decide_eq_true e5
        have HD := Hid.mk (And.intro d1 (And.intro d2 d3))
        have e6 : ((L : Int) ≤ (c : Int)) := by omega
        clear d1 d2 d3
        go_enter Try.func11, Try.ntmps11
        go_wp2_with (refine wl_value rfl (exec_nt64 rfl (by rfl)) ?_)
        refine hL.mono ?_
        rintro e v0 ⟨rfl, rfl⟩
        go_wp2_with fail
        refine hH.mono ?_
        rintro e v1 ⟨rfl, m, rfl⟩
        go_wp2_with fail
        go_ret
        exact ⟨by rw [HD.out.1, HD.out.2.1, HD.out.2.2]; simp, m, rfl⟩
      · have d3 : decide (L ≤ c) = false := decide_eq_false e5
        have HD := Hid.mk (And.intro d1 (And.intro d2 d3))
        have e6 : decide ((L : Int) ≤ (c : Int)) = false := decide_eq_false (by omega)
        clear d1 d2 d3
        go_enter Try.func11, Try.ntmps11
        go_wp2_with (refine wl_value rfl (exec_nt64 rfl (by rfl)) ?_)
        refine hL.mono ?_
        rintro e v0 ⟨rfl, rfl⟩
        go_wp2_with fail
        go_ret
        exact ⟨by rw [HD.out.1, HD.out.2.1, HD.out.2.2]; simp, 0, rfl⟩
end Go.Proofs.Ytjnknhgjlllhjaa
/-
  Own text. The program's windows of numbers of 64 bits: clearBehind, moveTo.
-/
namespace Go.Proofs.Ytjnknhgjlllhjaa
open Go.RowKit Go.Proofs
set_option maxRecDepth 100000
theorem WB64.set {w : World} {b g : Nat} {r : Int} {T K : Nat} {f : Nat → Int} (h : WB64 w b g r T K f) (p : Nat) (v : Int) (hp : p < K) : WB64 (w.setCell ⟨g, p, none⟩ (.int .u64 v)) b g r T K (upd f p v) :=
  ⟨(only_set (w := w) (g := g)).block b h.ne |>.trans h.blk, h.row.set p v hp, h.ne⟩
theorem WB64.drew {w : World} {b g : Nat} {r : Int} {T K : Nat} {f : Nat → Int} (h : WB64 w b g r T K f) : WB64 w.drew b g r T K f := ⟨h.blk, h.row, h.ne⟩
set_option maxHeartbeats 4000000 in
theorem clr64_run {w : World} {b g : Nat} {r : Int} {T K n : Nat} {s f : Nat → Int} (hW : WB64 w b g r T K f) (hK : 0 < K) (hK2 : K ≤ 1000) (a c : Nat) (hac : a ≤ c) (hc : c < 18446744073709551616 / 64) (hu : ∀ j, j < K → U64 (f j)) (hB : Bts K a n s f) (hs : ∀ i, i < n → 0 ≤ s i ∧ s i < 64 * ((a : Int) + 1)) :
    Calls Try.prog 41 #[.pointer (some ⟨b, 0, none⟩), .int .u64 (a : Int), .int .u64 (c : Int)] w fun e w' => e = .returned (.tuple #[]) ∧ ∃ f', WB64 w' b g r T K f' ∧ (∀ j, j < K → U64 (f' j)) ∧ Bts K c n s f' ∧ Touch (fun k => k = g) w w' := by
  have c2 := hW.c2
  by_cases h : c - a ≥ K
  · have hs2 : ∀ i, i < n → s i / 64 + K ≤ c := fun i hi => by have := hs i hi; omega
    have HB := Hid.mk (bts_all (f := fun _ => 0) hs2 (fun _ _ => rfl))
    clear hs2 hB hs hu
    go_enter Try.func41, Try.ntmps41
    go_wp2_with (refine wl_clear (by rfl) hK hW.row ?_; intro v1 g1 o1)
    exact bodyPost_ret (results_none rfl _ _ _) rfl ⟨rfl, _, ⟨(o1.block b hW.ne).trans hW.blk, g1, hW.ne⟩, fun j hj => by unfold U64; omega, HB.out, touch_only o1⟩
  · have HU := Hid.mk hu
    have HB := Hid.mk hB
    have HS := Hid.mk hs
    have HW := Hid.mk hW
    have hd : decide ((K : Int) ≤ (c : Int) - (a : Int)) = false := decide_eq_false (by omega)
    clear hu hB hs hW
    go_enter Try.func41, Try.ntmps41
    go_wp2_with fail
    clear c2
    go_loopg [7] (c - a) (fun gm iv v => ∃ q : Nat, Hid (gm + q = c - a) ∧ iv = .int .u64 ((a + 1 + q : Nat) : Int) ∧ ∃ f', Hid (WB64 v b g r T K f' ∧ (∀ j, j < K → U64 (f' j)) ∧ Bts K (a + q) n s f' ∧ Touch (fun k => k = g) w v))
    case atStart => exact ⟨0, Hid.mk rfl, by simp, f, Hid.mk ⟨HW.out, HU.out, HB.out, Touch.refl _ _⟩⟩
    case round =>
      rename_i v
      obtain ⟨q, HQ, rfl, f', HI⟩ := hrel
      have c2 := HI.out.1.c2
      have hq : q ≤ c - a := by have := HQ.out; omega
      by_cases hlt : q < c - a
      · have hm := Nat.mod_lt (a + 1 + q) hK
        generalize hx : a + 1 + q = x at *
        have hl : ((x % K : Nat) : Int) < (K : Int) := by omega
        have fz := HI.out.1.row.free (x % K)
        have cz := HI.out.1.row.cell (x % K) hm
        have hx2 : (x : Int) ≤ (c : Int) := by omega
        go_wp2_with fail
        go_region
        have HN : Hid (WB64 (wr.setCell ⟨g, x % K, none⟩ (.int .u64 0)).drew b g r T K (upd f' (x % K) 0) ∧ (∀ j, j < K → U64 (upd f' (x % K) 0 j)) ∧ Bts K (a + (q + 1)) n s (upd f' (x % K) 0) ∧ Touch (fun k => k = g) w (wr.setCell ⟨g, x % K, none⟩ (.int .u64 0)).drew) := Hid.mk (by
          obtain ⟨i1, i2, i3, i4⟩ := HI.out
          refine ⟨(i1.set _ 0 hm).drew, u64_upd i2 (by unfold U64; omega), ?_, (Touch.trans i4 (touch_only only_set)).drew⟩
          have := bts_step i3 (fun i hi => by have := HS.out i hi; omega)
          rw [show a + q + 1 = x by omega] at this
          rw [show a + (q + 1) = x by omega]
          exact this)
        clear HI cz fz c2 hl hm
        go_wp2_with fail
        go_roundg (c - a - (q + 1))
        case rel => exact ⟨q + 1, Hid.mk (by omega), by rw [← hx]; simp [Int.add_assoc], _, HN⟩
        case measure => have := HQ.out; omega
      · generalize hx : a + 1 + q = x at *
        have hx2 : decide ((x : Int) ≤ (c : Int)) = false := decide_eq_false (by omega)
        go_wp2_with fail
        have hqe : a + q = c := by omega
        obtain ⟨i1, i2, i3, i4⟩ := HI.out
        rw [hqe] at i3
        exact bodyPost_end (results_none rfl _ _ _) rfl ⟨rfl, f', i1, i2, i3, i4⟩
theorem WB64.top {w : World} {b g : Nat} {r : Int} {T K : Nat} {f : Nat → Int} (h : WB64 w b g r T K f) (c : Nat) : WB64 (w.setCell ⟨b, 1, none⟩ (.int .u64 ((c : Int) + 1))) b g r (c + 1) K f := by
  refine ⟨?_, h.row.only only_set (Ne.symm h.ne), h.ne⟩
  have h2 := heap_setCell_same w b 1 _ _ (.int .u64 ((c : Int) + 1)) h.blk
  simpa using h2
set_option maxHeartbeats 4000000 in
theorem mov64_run {w : World} {b g : Nat} {r sz : Int} {T n : Nat} {s f : Nat → Int} (hW : WB64 w b g r T (wK sz) f) (hz : sz ≤ 8192) (hX : Words sz T n s f) (hs : ∀ i, i < n → 0 ≤ s i ∧ s i < T) (c : Nat) (hc : c + 1 < 18446744073709551616) (hT : T ≤ c) :
    Calls Try.prog 32 #[.pointer (some ⟨b, 0, none⟩), .int .u64 (c : Int)] w fun e w' => e = .returned (.tuple #[]) ∧ ∃ f', WB64 w' b g r (c + 1) (wK sz) f' ∧ (∀ j, j < wK sz → U64 (f' j)) ∧ Bts (wK sz) (c / 64) n s f' ∧ Touch (fun k => k = b ∨ k = g) w w' := by
  have c1 := hW.c1
  by_cases h0 : T = 0
  · subst h0
    have hB : Bts (wK sz) (c / 64) n s f := bts_all (fun i hi => by have := hs i hi; omega) (hX.zero rfl)
    have HN := Hid.mk (And.intro (hW.top c) (And.intro hX.u (And.intro hB (Touch.mono (touch_only (only_set (w := w) (g := b) (i := 1) (v := .int .u64 ((c : Int) + 1)))) (T' := fun k => k = b ∨ k = g) (fun k _ e => .inl e)))))
    have f1 := frozen_of_row w b 1 _ _ hW.blk
    clear hX hB hs hW
    go_enter Try.func32, Try.ntmps32
    go_wp2_with fail
    exact bodyPost_end (results_none rfl _ _ _) rfl ⟨rfl, f, HN.out⟩
  · have hB := hX.bits (by omega)
    have hrun := fun u (hu : WB64 u b g r T (wK sz) f) => clr64_run hu (wK_pos sz) (by have := wK_le hz; omega) ((T - 1) / 64) (c / 64) (by omega) (by omega) hX.u hB (fun i hi => by have := hs i hi; omega)
    have e1 : ((T : Int) - 1) / 64 = (((T - 1) / 64 : Nat) : Int) := by omega
    have e2 : (c : Int) / 64 = ((c / 64 : Nat) : Int) := by omega
    have hr := hrun w hW
    clear hrun hX hB hs
    have HE := Hid.mk (And.intro e1 e2)
    clear e1 e2
    go_enter Try.func32, Try.ntmps32
    go_wp2_with fail
    rw [HE.out.1, HE.out.2]
    refine hr.mono ?_
    rintro e v1 ⟨rfl, f', i1, i2, i3, i4⟩
    have c1 := i1.c1
    have f1 := frozen_of_row v1 b 1 _ _ i1.blk
    have HN := Hid.mk (And.intro (i1.top c) (And.intro i2 (And.intro i3 (touch_bg (Touch.mono i4 (T' := fun k => k = b ∨ k = g) (fun k _ e => .inr e)) (Touch.mono (touch_only (only_set (w := v1) (g := b) (i := 1) (v := .int .u64 ((c : Int) + 1)))) (T' := fun k => k = b ∨ k = g) (fun k _ e => .inl e))))))
    clear i1 i2 i3 i4 hr hW
    go_wp2_with fail
    exact bodyPost_end (results_none rfl _ _ _) rfl ⟨rfl, f', HN.out⟩
end Go.Proofs.Ytjnknhgjlllhjaa
