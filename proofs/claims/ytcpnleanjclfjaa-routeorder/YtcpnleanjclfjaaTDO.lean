/-
  Own text. RouteOrder, walked.
-/
import Derived.Test.YtcpnleanjclfjaaTDC
import Derived.Deep.CutBlock
import Derived.Deep.DeepCutAuto
namespace Go.Proofs.Ytcpnleanjclfjaa
open Go.RowKit Go.Proofs
set_option maxRecDepth 100000
set_option maxHeartbeats 64000000 in
theorem order_walk (v : Value) (n : Nat) (X0 : Nat → Op10) (va : Value) (na : Nat) (XA : Nat → Bool × (Nat → Int)) (w : World) (hv : OpsAt10 w v n X0) (hn : n ≤ maxLen) (ha : AdsAt10 w va na XA) (hna : na ≤ maxLen) : Calls Try.prog 4 #[v, va] w fun e w' => e = .returned (.bool true) ∧ Below w.heap.size w w' := by
  obtain ⟨a0, cap0, hv0, hv1⟩ := id hv
  clear hv1
  subst hv0
  have HV := Hid.mk hv
  clear hv
  obtain ⟨a1, cap1, hv0, hv1⟩ := id ha
  clear hv1
  subst hv0
  have HA := Hid.mk ha
  clear ha
  go_enter Try.func4, Try.ntmps4
  go_wp2_with fail
  refine (awake_run w).mono ?_
  rintro e w1 ⟨rfl, hB1⟩
  go_wp2_with fail
  refine (newP w1).mono ?_
  rintro e w2 ⟨t1, rfl, ht1, hP1, hB2⟩
  go_wp2_with fail
  refine (newP w2).mono ?_
  rintro e w3 ⟨t2, rfl, ht2, hP2, hB3⟩
  obtain ⟨B, hBB⟩ : ∃ B, w3.heap.size = B := ⟨_, rfl⟩
  have hN : OrS w B t1 t2 w3 (.slice none 0 0) 0 X0 0 (fun _ => False) 0 (fun _ => False) := or_start hP1 hP2 hB1 hB2 hB3 ht1 ht2 hBB
  clear hP1 hP2 hB1 hB2 hB3 ht1 ht2 hBB
  go_upto_block 0 with fail
  go_cut [8, 9] (fun s8 s9 z => ∃ (k : Nat) (p : Option Addr) (c : Nat) (X : Nat → Op10), s8 = .slice p k c ∧ k ≤ 60 ∧ Hid (OrS w B t1 t2 z (.slice p k c) k X 0 (fun _ => False) 0 (fun _ => False) ∧ KeptO X k))
  case first =>
    as_aux_lemma =>
      go_wp2_with fail
      go_loopg [8, 9] n (fun gm s8 s9 z => ∃ (i k : Nat) (p : Option Addr) (c : Nat) (X : Nat → Op10), gm = n - i ∧ i ≤ n ∧ s9 = .int .i64 (i : Int) ∧ s8 = .slice p k c ∧ k ≤ 60 ∧ Hid (OrS w B t1 t2 z (.slice p k c) k X 0 (fun _ => False) 0 (fun _ => False) ∧ KeptO X k))
      case atStart => exact ⟨0, 0, none, 0, X0, rfl, by omega, rfl, rfl, by omega, Hid.mk ⟨hN, kept0 X0⟩⟩
      case round =>
        obtain ⟨i, k, p, c, X, hgm, hin, rfl, rfl, hk, HS⟩ := hrel
        clear hN
        by_cases hlt : i < n
        · by_cases hkk : k < 60
          · obtain ⟨adr, cap, hva, hcR, hOb, _⟩ := HV.out.at HS.out.1.bel i hlt
            obtain ⟨rfl, rfl⟩ : a0 = some adr ∧ cap0 = cap := by simpa using hva
            clear hva
            have hlti : (i : Int) < (n : Int) := by omega
            have hki : (k : Int) < 60 := by omega
            have hi63 : (i : Int) + 1 ≤ 9223372036854775807 := by have h9 := hn; unfold maxLen at h9; omega
            generalize X0 i = O at *
            have HCO : Hid (OpC wr (adr.add (20 * i)) O) := Hid.mk hcR
            clear hcR
            go_wp2_with (first | (refine wl_value rfl (exec_ixOp10 (i := i) rfl (by rfl) (by rfl) hlt) ?_) | (refine wl_value rfl (exec_fopG rfl (by rfl) (by decide)) ?_) | (refine wl_value rfl (exec_ldPG rfl (by rfl) HCO.out) ?_))
            refine (isPrefix_run O.v O.b O.n wr).mono ?_
            rintro e wA ⟨rfl, hBA⟩
            have HS1 : Hid (OrS w B t1 t2 wA (.slice p k c) k X 0 (fun _ => False) 0 (fun _ => False) ∧ KeptO X k ∧ OpC wA (adr.add (20 * i)) O) := Hid.mk ⟨HS.out.1.below hBA, HS.out.2, OpC.kept HCO.out hBA⟩
            clear HS HCO hBA
            obtain ⟨okk, hokk⟩ : ∃ b, rightF O.v O.b O.n = b := ⟨_, rfl⟩
            have HOK := Hid.mk hokk
            rw [hokk]
            clear hokk
            go_upto_block 2 with fail
            go_cut [10, 11] (fun s10 s11 z => ∃ ok : Bool, s10 = .bool ok ∧ Hid ((ok = true → rightF O.v O.b O.n = true ∧ ∀ q, q < k → ¬ Eqr (wrO (X q)) (wrO O)) ∧ OrS w B t1 t2 z (.slice p k c) k X 0 (fun _ => False) 0 (fun _ => False) ∧ KeptO X k ∧ OpC z (adr.add (20 * i)) O))
            case first =>
              as_aux_lemma =>
                go_wp2_with fail
                go_loopg [10, 11] k (fun gm s10 s11 z => ∃ (j : Nat) (ok : Bool), gm = k - j ∧ j ≤ k ∧ s11 = .int .i64 (j : Int) ∧ s10 = .bool ok ∧ Hid ((ok = true → rightF O.v O.b O.n = true ∧ ∀ q, q < j → ¬ Eqr (wrO (X q)) (wrO O)) ∧ OrS w B t1 t2 z (.slice p k c) k X 0 (fun _ => False) 0 (fun _ => False) ∧ KeptO X k ∧ OpC z (adr.add (20 * i)) O))
                case atStart => exact ⟨0, okk, rfl, by omega, rfl, rfl, Hid.mk ⟨fun e => ⟨by rw [HOK.out, e], fun q hq => by omega⟩, HS1.out⟩⟩
                case round =>
                  obtain ⟨j, ok, hgj, hjk', rfl, rfl, HJ⟩ := hrel
                  clear HS1 HOK
                  by_cases hjk : j < k
                  · have hjki : (j : Int) < (k : Int) := by omega
                    cases ok
                    · go_wp2_with fail
                      go_meet
                      case rel => exact ⟨false, rfl, Hid.mk ⟨fun e => (by cases e), HJ.out.2⟩⟩
                    · obtain ⟨adl, hpl, hcL⟩ := HJ.out.2.1.at j hjk
                      subst hpl
                      obtain ⟨hri, hap⟩ := HJ.out.1 rfl
                      have hYb := HJ.out.2.2.1.byt j hjk
                      have hYr := HJ.out.2.2.1.rig j hjk
                      obtain ⟨zz, hzz⟩ : ∃ zz, (!eqPF (X j).v (whB (X j).b (X j).n) (X j).n O.v (whB O.b O.n) O.n) = zz := ⟨_, rfl⟩
                      have HP : Hid (zz = true → ∀ q, q < j + 1 → ¬ Eqr (wrO (X q)) (wrO O)) := Hid.mk (fun e q hq => by
                        by_cases ej : q = j
                        · subst ej
                          rw [e] at hzz
                          intro hE
                          have hE' : eqPF (X q).v (whB (X q).b (X q).n) (X q).n O.v (whB O.b O.n) O.n = true := hE
                          rw [hE'] at hzz
                          cases hzz
                        · exact hap q (by omega))
                      have HHR := Hid.mk hri
                      generalize X j = Y at hcL hYb hYr hzz
                      have HZ := Hid.mk hzz
                      have HCL : Hid (∀ ww, Below wr.heap.size wr ww → OpC ww (adl.add (20 * j)) Y) := Hid.mk (fun ww hb => OpC.kept hcL hb)
                      have HCR : Hid (∀ ww, Below wr.heap.size wr ww → OpC ww (adr.add (20 * i)) O) := Hid.mk (fun ww hb => OpC.kept HJ.out.2.2.2 hb)
                      have HWY : Hid (∀ ww, Calls Try.prog 20 #[.agg (SC 18 (prV Y.v Y.b Y.n))] ww fun e w' => e = .returned (.agg (SC 18 (prV Y.v (whB Y.b Y.n) Y.n))) ∧ Below ww.heap.size ww w') := Hid.mk (fun ww => whole_right Y.v Y.b Y.n ww hYb hYr)
                      have HWO : Hid (∀ ww, Calls Try.prog 20 #[.agg (SC 18 (prV O.v O.b O.n))] ww fun e w' => e = .returned (.agg (SC 18 (prV O.v (whB O.b O.n) O.n))) ∧ Below ww.heap.size ww w') := Hid.mk (fun ww => whole_right O.v O.b O.n ww hOb hri)
                      have HT := Hid.mk HJ.out.2
                      clear hcL hYb hYr hzz hri hap HJ hOb
                      go_upto_region 14 with fail
                      refine wp_region3 (Below wr.heap.size wr) wr.heap.size
                          ([] : List (Nat × Cont))
                          [kv (.slice (some adl) k c), kv (.int .i64 (j : Int)), kv (.pointer (some (adl.add (20 * j)))), kv (.pointer (some ((adl.add (20 * j)).add 2))), kv (.agg (SC 18 (prV Y.v Y.b Y.n))), kv (.agg (SC 18 (prV Y.v (whB Y.b Y.n) Y.n))), kv (.slice (some adr) n cap0), kv (.int .i64 (i : Int)), kv (.pointer (some (adr.add (20 * i)))), kv (.pointer (some ((adr.add (20 * i)).add 2))), kv (.agg (SC 18 (prV O.v O.b O.n))), kv (.agg (SC 18 (prV O.v (whB O.b O.n) O.n))), kv (.bool zz), kv (.bool zz)]
                          [.none, .none, .none, .none, .none, .none, .none, .none, .none, .none, .none, .none, .none, .none]
                          [some 64, some 65, some 66, some 67, some 68, some 69, some 70, some 71, some 72, some 73, some 74, some 75, some 76, some 10]
                          [(8, .slice (some adl) k c), (11, .int .i64 (j : Int)), (0, .slice (some adr) n cap0), (9, .int .i64 (i : Int))]
                          [[], [], [.slot 0, .slot 1], [.slot 2], [.slot 3], [.slot 4], [], [], [.slot 6, .slot 7], [.slot 8], [.slot 9], [.slot 10], [.slot 5, .slot 11], [.slot 12]]
                          [.slot 13] [64, 65, 66, 67, 68, 69, 70, 71, 72, 73, 74, 75, 76, 10]
                          rfl (by kernel_rfl) ⟨rfl, rfl, rfl, rfl, trivial⟩ ((Below.refl _ wr).drew) (Nat.le_refl _) trivial trivial (below_Gc7 (Nat.le_refl _))
                          ⟨
                            (fun Q aq ww own hS hBg fr kn => .inl ⟨trivial, fun K hK => wp_value (exec_move rfl fr.1) (hK _ _ ⟨Touch.refl _ _, rfl⟩)⟩),
                            (fun Q aq ww own hS hBg fr kn => .inl ⟨trivial, fun K hK => wp_value (exec_move rfl fr.2.1) (hK _ _ ⟨Touch.refl _ _, rfl⟩)⟩),
                            (fun Q aq ww own hS hBg fr kn => .inl ⟨trivial, fun K hK => wp_value (exec_ixOp10 (i := j) rfl kn.1 kn.2.1 hjk) (hK _ _ ⟨Touch.refl _ _, rfl⟩)⟩),
                            (fun Q aq ww own hS hBg fr kn => .inl ⟨trivial, fun K hK => wp_value (exec_fopG (k := 2) rfl kn.1 (by decide)) (hK _ _ ⟨Touch.refl _ _, rfl⟩)⟩),
                            (fun Q aq ww own hS hBg fr kn => .inl ⟨trivial, fun K hK => wp_value (exec_ldPG rfl kn.1 (HCL.out ww hS)) (hK _ _ ⟨Touch.refl _ _, rfl⟩)⟩),
                            (fun Q aq ww own hS hBg fr kn => .inl ⟨trivial, fun K hK => stepc enterD_20 rfl (args1 kn.1) (HWY.out ww) (fun w' hb => hK _ _ ⟨touch_below hb, rfl⟩)⟩),
                            (fun Q aq ww own hS hBg fr kn => .inl ⟨trivial, fun K hK => wp_value (exec_move rfl fr.2.2.1) (hK _ _ ⟨Touch.refl _ _, rfl⟩)⟩),
                            (fun Q aq ww own hS hBg fr kn => .inl ⟨trivial, fun K hK => wp_value (exec_move rfl fr.2.2.2.1) (hK _ _ ⟨Touch.refl _ _, rfl⟩)⟩),
                            (fun Q aq ww own hS hBg fr kn => .inl ⟨trivial, fun K hK => wp_value (exec_ixOp10 (i := i) rfl kn.1 kn.2.1 hlt) (hK _ _ ⟨Touch.refl _ _, rfl⟩)⟩),
                            (fun Q aq ww own hS hBg fr kn => .inl ⟨trivial, fun K hK => wp_value (exec_fopG (k := 2) rfl kn.1 (by decide)) (hK _ _ ⟨Touch.refl _ _, rfl⟩)⟩),
                            (fun Q aq ww own hS hBg fr kn => .inl ⟨trivial, fun K hK => wp_value (exec_ldPG rfl kn.1 (HCR.out ww hS)) (hK _ _ ⟨Touch.refl _ _, rfl⟩)⟩),
                            (fun Q aq ww own hS hBg fr kn => .inl ⟨trivial, fun K hK => stepc enterD_20 rfl (args1 kn.1) (HWO.out ww) (fun w' hb => hK _ _ ⟨touch_below hb, rfl⟩)⟩),
                            (fun Q aq ww own hS hBg fr kn => .inl ⟨trivial, fun K hK => wp_value (exec_neP rfl kn.1 kn.2.1 HZ.out) (hK _ _ ⟨Touch.refl _ _, rfl⟩)⟩),
                            (fun Q aq ww own hS hBg fr kn => .inl ⟨trivial, fun K hK => wp_value (exec_assign rfl kn.1) (hK _ _ ⟨Touch.refl _ _, rfl⟩)⟩),
                            trivial⟩ ?_
                      intro vs own u6 hB6 hsz kn inj
                      have e10 : vs 10 = .bool zz := kn.1
                      clear kn inj hsz
                      simp only [putAll, Act.put, List.setIfInBounds_toArray, List.set_cons_zero, List.set_cons_succ, e10]
                      clear e10
                      have HX : Hid ((zz = true → rightF O.v O.b O.n = true ∧ ∀ q, q < j + 1 → ¬ Eqr (wrO (X q)) (wrO O)) ∧ OrS w B t1 t2 u6 (.slice (some adl) k c) k X 0 (fun _ => False) 0 (fun _ => False) ∧ KeptO X k ∧ OpC u6 (adr.add (20 * i)) O) := Hid.mk ⟨fun e => ⟨HHR.out, HP.out e⟩, HT.out.1.below hB6, HT.out.2.1, HCR.out u6 hB6⟩
                      clear HT HCR HCL HP HHR HWY HWO HZ hB6
                      go_wp2_with fail
                      go_roundg (k - (j + 1))
                      case rel => exact ⟨j + 1, zz, rfl, by omega, by go_num, rfl, HX⟩
                      case measure => omega
                  · obtain rfl : j = k := by omega
                    go_wp2_with fail
                    go_meet
                    case rel => exact ⟨ok, rfl, HJ⟩
            case rest =>
              obtain ⟨ok, rfl, HT⟩ := hcut
              clear HS1 HOK
              cases ok
              · as_aux_lemma =>
                  go_wp2_with fail
                  go_roundg (n - (i + 1))
                  case rel => exact ⟨i + 1, k, p, c, X, rfl, by omega, by go_num, rfl, by omega, Hid.mk ⟨HT.out.2.1, HT.out.2.2.1⟩⟩
                  case measure => omega
              · as_aux_lemma =>
                  go_wp2_with (first | (refine wl_value rfl (exec_ixOp10 (i := i) rfl (by rfl) (by rfl) hlt) ?_) | (refine wl_value rfl (exec_ldOp10 rfl (by rfl) HT.out.2.2.2) ?_) | (refine wl_bsOp rfl rfl (by rfl) ?_; intro gO wB hgO qO hBB; refine Hid.out ?_))
                  refine Hid.mk ?_
                  have h2 := HT.out.2.1.below hBB
                  have hz2 := h2.hi.2.2.2
                  have hr2 := h2.row
                  go_wp2_with (at_builtin; refine ap_op rfl rfl (by rfl) (by rfl) hr2 qO (by omega) hz2 ?_; intro v6 wC hD6 hgr; refine Hid.out ?_)
                  refine Hid.mk ?_
                  obtain ⟨p6, cp6, e6, _⟩ := ownM_shape hD6
                  subst e6
                  have HX := Hid.mk (And.intro (h2.more hD6 hgr) (HT.out.2.2.1.more O hOb (HT.out.1 (by trivial)).1 (HT.out.1 (by trivial)).2))
                  clear h2 hr2 qO hD6 hgr hBB hgO HT
                  go_wp2_with fail
                  go_roundg (n - (i + 1))
                  case rel => exact ⟨i + 1, k + 1, p6, cp6, _, rfl, by omega, by go_num, rfl, by omega, HX⟩
                  case measure => omega
          · obtain rfl : k = 60 := by omega
            have hlti : (i : Int) < (n : Int) := by omega
            go_wp2_with fail
            go_meet
            case rel => exact ⟨60, p, c, X, rfl, by omega, HS⟩
        · obtain rfl : i = n := by omega
          go_wp2_with fail
          go_meet
          case rel => exact ⟨k, p, c, X, rfl, hk, HS⟩
  case rest =>
    obtain ⟨k, p, c, X, rfl, hk, HS0⟩ := hcut
    have HK := Hid.mk HS0.out.2
    have HS := Hid.mk HS0.out.1
    clear hN HS0
    go_upto_block 4 with fail
    go_cut [12] (fun s12 z => Hid (OrS w B t1 t2 z (.slice p k c) k X k (IxO (fun q => q < k) X) k (IxO (fun q => q < k) X)))
    case first =>
      as_aux_lemma =>
        go_wp2_with fail
        go_loopg [12] k (fun gm s12 z => ∃ i : Nat, gm = k - i ∧ i ≤ k ∧ s12 = .int .i64 (i : Int) ∧ Hid (OrS w B t1 t2 z (.slice p k c) k X i (IxO (fun q => q < i) X) i (IxO (fun q => k - i ≤ q ∧ q < k) X)))
        case atStart => exact ⟨0, rfl, by omega, rfl, Hid.mk ((HS.out.congA (ix_nil (fun q => by omega))).congB (ix_nil (fun q => by omega)))⟩
        case round =>
          obtain ⟨i, hgm, hik, rfl, HJ⟩ := hrel
          clear HS
          by_cases hlt : i < k
          · have hlti : (i : Int) < (k : Int) := by omega
            have hi63 : (i : Int) + 1 ≤ 9223372036854775807 := by omega
            obtain ⟨i2, hi2e⟩ : ∃ i2 : Nat, k = i + 1 + i2 := ⟨k - (i + 1), by omega⟩
            have hi2 : i2 < k := by omega
            have hsub : (k : Int) - 1 - (i : Int) = (i2 : Int) := by omega
            clear hi2e
            obtain ⟨ad, hpl, _⟩ := HJ.out.at i hlt
            subst hpl
            obtain ⟨SA, hSA⟩ : ∃ SA : World → Prop, SA = fun z => OrS w B t1 t2 z (.slice (some ad) k c) k X i (IxO (fun q => q < i) X) i (IxO (fun q => k - i ≤ q ∧ q < k) X) := ⟨_, rfl⟩
            obtain ⟨SB, hSB⟩ : ∃ SB : World → Prop, SB = fun z => OrS w B t1 t2 z (.slice (some ad) k c) k X (i + 1) (IxO (fun q => q < i + 1) X) i (IxO (fun q => k - i ≤ q ∧ q < k) X) := ⟨_, rfl⟩
            obtain ⟨SC3, hSC⟩ : ∃ SC3 : World → Prop, SC3 = fun z => OrS w B t1 t2 z (.slice (some ad) k c) k X (i + 1) (IxO (fun q => q < i + 1) X) (i + 1) (IxO (fun q => k - (i + 1) ≤ q ∧ q < k) X) := ⟨_, rfl⟩
            have HC : Hid (∀ L ww, SL2 SA SB SC3 11 33 L ww → ∀ j, j < k → OpC ww (ad.add (20 * j)) (X j)) := Hid.mk (fun L ww hS j hj => by
              rw [hSA, hSB, hSC] at hS
              refine sl2_any (P := fun ww => OpC ww (ad.add (20 * j)) (X j)) hS (fun h => ?_) (fun h => ?_) (fun h => ?_)
              all_goals
                obtain ⟨_, e, h2⟩ := h.at j hj
                cases e
                exact h2)
            have HPA : Hid (∀ ww, SA ww → Calls Try.prog 15 #[.pointer (some ⟨t1, 0, none⟩), .agg (SC 18 (prV (X i).v (X i).b (X i).n)), .int .i64 (X i).ow] ww fun e w' => ∃ u, e = .returned u ∧ u = .int .i64 0 ∧ SB w') := Hid.mk (fun ww h => by
              rw [hSA] at h
              rw [hSB]
              exact h.putA HK.out hlt (fun q hq => by omega) (fun q => by omega) (by omega))
            have HPB : Hid (∀ ww, SB ww → Calls Try.prog 15 #[.pointer (some ⟨t2, 0, none⟩), .agg (SC 18 (prV (X i2).v (X i2).b (X i2).n)), .int .i64 (X i2).ow] ww fun e w' => ∃ u, e = .returned u ∧ u = .int .i64 0 ∧ SC3 w') := Hid.mk (fun ww h => by
              rw [hSB] at h
              rw [hSC]
              exact h.putB HK.out hi2 (fun q hq => by omega) (fun q => by omega) (by omega))
            have HS0 : Hid (∀ ww, Below wr.heap.size wr ww → SA ww) := Hid.mk (fun ww hb => by
              rw [hSA]
              exact HJ.out.below hb)
            have HSC := Hid.mk hSC
            clear hSA hSB hSC HJ
            go_upto_region 20 with fail
            refine wp_region_steps4 (SL2 SA SB SC3 11 33) (fun j vv => vv = ((.pointer (some ⟨t1, 0, none⟩) :: .slice (some ad) k c :: .int .i64 (i : Int) :: .pointer (some (ad.add (20 * i))) :: .pointer (some ((ad.add (20 * i)).add 2)) :: .agg (SC 18 (prV (X i).v (X i).b (X i).n)) :: .slice (some ad) k c :: .int .i64 (i : Int) :: .pointer (some (ad.add (20 * i))) :: .pointer (some ((ad.add (20 * i)).add 1)) :: .int .i64 (X i).ow :: .int .i64 0 :: .bool false :: .bool false :: .pointer (some ⟨t2, 0, none⟩) :: .slice (some ad) k c :: .slice (some ad) k c :: .int .i64 (k : Int) :: .int .i64 ((k : Int) - 1) :: .int .i64 (i : Int) :: .int .i64 (i2 : Int) :: .pointer (some (ad.add (20 * i2))) :: .pointer (some ((ad.add (20 * i2)).add 2)) :: .agg (SC 18 (prV (X i2).v (X i2).b (X i2).n)) :: .slice (some ad) k c :: .slice (some ad) k c :: .int .i64 (k : Int) :: .int .i64 ((k : Int) - 1) :: .int .i64 (i : Int) :: .int .i64 (i2 : Int) :: .pointer (some (ad.add (20 * i2))) :: .pointer (some ((ad.add (20 * i2)).add 1)) :: .int .i64 (X i2).ow :: .int .i64 0 :: .bool false :: .bool false :: []) : List Value).getD j undef)
                (91 :: 92 :: 93 :: 94 :: 95 :: 96 :: 97 :: 98 :: 99 :: 100 :: 101 :: 102 :: 103 :: 104 :: 105 :: 106 :: 107 :: 108 :: 109 :: 110 :: 111 :: 112 :: 113 :: 114 :: 115 :: 116 :: 117 :: 118 :: 119 :: 120 :: 121 :: 122 :: 123 :: 124 :: 125 :: 126 :: [])
                [(6, .pointer (some ⟨t1, 0, none⟩)), (8, .slice (some ad) k c), (12, .int .i64 (i : Int)), (7, .pointer (some ⟨t2, 0, none⟩))]
                ([] :: [] :: [] :: [1, 2] :: [3] :: [4] :: [] :: [] :: [6, 7] :: [8] :: [9] :: [0, 5, 10] :: [11] :: [12] :: [13] :: [13] :: [13] :: [13, 16] :: [13, 17] :: [13] :: [13, 18, 19] :: [13, 15, 20] :: [13, 21] :: [13, 22] :: [13] :: [13] :: [13, 25] :: [13, 26] :: [13] :: [13, 27, 28] :: [13, 24, 29] :: [13, 30] :: [13, 31] :: [13, 14, 23, 32] :: [13, 33] :: [13, 34] :: [])
                ([] :: [] :: [] :: [] :: [] :: [] :: [] :: [] :: [] :: [] :: [] :: [] :: [11] :: [11] :: [11] :: [11] :: [11] :: [11] :: [11] :: [11] :: [11] :: [11] :: [11] :: [11] :: [11] :: [11] :: [11] :: [11] :: [11] :: [11] :: [11] :: [11] :: [11] :: [11] :: [11, 33] :: [11, 33] :: [])
                ([] :: [] :: [] :: [] :: [] :: [] :: [] :: [] :: [] :: [] :: [] :: [33] :: [] :: [] :: [] :: [] :: [] :: [] :: [] :: [] :: [] :: [] :: [] :: [] :: [] :: [] :: [] :: [] :: [] :: [] :: [] :: [] :: [] :: [] :: [] :: [] :: [])
                rfl (by kernel_rfl) ⟨rfl, rfl, rfl, rfl, trivial⟩ (sl2_start (HS0.out _ (below_drew _)))
                ⟨
                  (fun Q L aq ww hS hun hq hd fr kn => ⟨trivial, fun K hK => wp_value (exec_move rfl fr.1) (hK _ _ rfl (sl2_same (by decide) (by decide) hS))⟩),
                  (fun Q L aq ww hS hun hq hd fr kn => ⟨trivial, fun K hK => wp_value (exec_move rfl fr.2.1) (hK _ _ rfl (sl2_same (by decide) (by decide) hS))⟩),
                  (fun Q L aq ww hS hun hq hd fr kn => ⟨trivial, fun K hK => wp_value (exec_move rfl fr.2.2.1) (hK _ _ rfl (sl2_same (by decide) (by decide) hS))⟩),
                  (fun Q L aq ww hS hun hq hd fr kn => ⟨trivial, fun K hK => wp_value (exec_ixOp10 (i := i) rfl kn.1 kn.2.1 hlt) (hK _ _ rfl (sl2_same (by decide) (by decide) hS))⟩),
                  (fun Q L aq ww hS hun hq hd fr kn => ⟨trivial, fun K hK => wp_value (exec_fopG (k := 2) rfl kn.1 (by decide)) (hK _ _ rfl (sl2_same (by decide) (by decide) hS))⟩),
                  (fun Q L aq ww hS hun hq hd fr kn => ⟨trivial, fun K hK => wp_value (exec_ldPG rfl kn.1 (HC.out _ ww hS i hlt)) (hK _ _ rfl (sl2_same (by decide) (by decide) hS))⟩),
                  (fun Q L aq ww hS hun hq hd fr kn => ⟨trivial, fun K hK => wp_value (exec_move rfl fr.2.1) (hK _ _ rfl (sl2_same (by decide) (by decide) hS))⟩),
                  (fun Q L aq ww hS hun hq hd fr kn => ⟨trivial, fun K hK => wp_value (exec_move rfl fr.2.2.1) (hK _ _ rfl (sl2_same (by decide) (by decide) hS))⟩),
                  (fun Q L aq ww hS hun hq hd fr kn => ⟨trivial, fun K hK => wp_value (exec_ixOp10 (i := i) rfl kn.1 kn.2.1 hlt) (hK _ _ rfl (sl2_same (by decide) (by decide) hS))⟩),
                  (fun Q L aq ww hS hun hq hd fr kn => ⟨trivial, fun K hK => wp_value (exec_fopG (k := 1) rfl kn.1 (by decide)) (hK _ _ rfl (sl2_same (by decide) (by decide) hS))⟩),
                  (fun Q L aq ww hS hun hq hd fr kn => ⟨trivial, fun K hK => wp_value (exec_ldOG rfl kn.1 (HC.out _ ww hS i hlt)) (hK _ _ rfl (sl2_same (by decide) (by decide) hS))⟩),
                  (fun Q L aq ww hS hun hq hd fr kn => ⟨trivial, fun K hK => stepp enterD_15 rfl (args3 kn.1 kn.2.1 kn.2.2.1) (HPA.out ww (sl2_a hS hun hd.1)) (fun v w' hv => hK _ _ hv.1 (sl2_first (by decide) hd.1 hv.2))⟩),
                  (fun Q L aq ww hS hun hq hd fr kn => ⟨trivial, fun K hK => wp_value (exec_neErr (m := 0) rfl kn.1 rfl) (hK _ _ rfl (sl2_same (by decide) (by decide) hS))⟩),
                  (fun Q L aq ww hS hun hq hd fr kn => ⟨trivial, fun K hK => wp_value (exec_move rfl kn.1) (hK _ _ rfl (sl2_same (by decide) (by decide) hS))⟩),
                  (fun Q L aq ww hS hun hq hd fr kn => ⟨kn.1, fun K hK => wp_value (exec_move rfl fr.2.2.2.1) (hK _ _ rfl (sl2_same (by decide) (by decide) hS))⟩),
                  (fun Q L aq ww hS hun hq hd fr kn => ⟨kn.1, fun K hK => wp_value (exec_move rfl fr.2.1) (hK _ _ rfl (sl2_same (by decide) (by decide) hS))⟩),
                  (fun Q L aq ww hS hun hq hd fr kn => ⟨kn.1, fun K hK => wp_value (exec_move rfl fr.2.1) (hK _ _ rfl (sl2_same (by decide) (by decide) hS))⟩),
                  (fun Q L aq ww hS hun hq hd fr kn => ⟨kn.1, fun K hK => wp_value (exec_lenOp rfl kn.2.1) (hK _ _ rfl (sl2_same (by decide) (by decide) hS))⟩),
                  (fun Q L aq ww hS hun hq hd fr kn => ⟨kn.1, fun K hK => wp_value (exec_subI rfl kn.2.1 rfl rfl (by omega) (by omega)) (hK _ _ rfl (sl2_same (by decide) (by decide) hS))⟩),
                  (fun Q L aq ww hS hun hq hd fr kn => ⟨kn.1, fun K hK => wp_value (exec_move rfl fr.2.2.1) (hK _ _ rfl (sl2_same (by decide) (by decide) hS))⟩),
                  (fun Q L aq ww hS hun hq hd fr kn => ⟨kn.1, fun K hK => wp_value (exec_subI rfl kn.2.1 kn.2.2.1 hsub (by omega) (by omega)) (hK _ _ rfl (sl2_same (by decide) (by decide) hS))⟩),
                  (fun Q L aq ww hS hun hq hd fr kn => ⟨kn.1, fun K hK => wp_value (exec_ixOp10 (i := i2) rfl kn.2.1 kn.2.2.1 hi2) (hK _ _ rfl (sl2_same (by decide) (by decide) hS))⟩),
                  (fun Q L aq ww hS hun hq hd fr kn => ⟨kn.1, fun K hK => wp_value (exec_fopG (k := 2) rfl kn.2.1 (by decide)) (hK _ _ rfl (sl2_same (by decide) (by decide) hS))⟩),
                  (fun Q L aq ww hS hun hq hd fr kn => ⟨kn.1, fun K hK => wp_value (exec_ldPG rfl kn.2.1 (HC.out _ ww hS i2 hi2)) (hK _ _ rfl (sl2_same (by decide) (by decide) hS))⟩),
                  (fun Q L aq ww hS hun hq hd fr kn => ⟨kn.1, fun K hK => wp_value (exec_move rfl fr.2.1) (hK _ _ rfl (sl2_same (by decide) (by decide) hS))⟩),
                  (fun Q L aq ww hS hun hq hd fr kn => ⟨kn.1, fun K hK => wp_value (exec_move rfl fr.2.1) (hK _ _ rfl (sl2_same (by decide) (by decide) hS))⟩),
                  (fun Q L aq ww hS hun hq hd fr kn => ⟨kn.1, fun K hK => wp_value (exec_lenOp rfl kn.2.1) (hK _ _ rfl (sl2_same (by decide) (by decide) hS))⟩),
                  (fun Q L aq ww hS hun hq hd fr kn => ⟨kn.1, fun K hK => wp_value (exec_subI rfl kn.2.1 rfl rfl (by omega) (by omega)) (hK _ _ rfl (sl2_same (by decide) (by decide) hS))⟩),
                  (fun Q L aq ww hS hun hq hd fr kn => ⟨kn.1, fun K hK => wp_value (exec_move rfl fr.2.2.1) (hK _ _ rfl (sl2_same (by decide) (by decide) hS))⟩),
                  (fun Q L aq ww hS hun hq hd fr kn => ⟨kn.1, fun K hK => wp_value (exec_subI rfl kn.2.1 kn.2.2.1 hsub (by omega) (by omega)) (hK _ _ rfl (sl2_same (by decide) (by decide) hS))⟩),
                  (fun Q L aq ww hS hun hq hd fr kn => ⟨kn.1, fun K hK => wp_value (exec_ixOp10 (i := i2) rfl kn.2.1 kn.2.2.1 hi2) (hK _ _ rfl (sl2_same (by decide) (by decide) hS))⟩),
                  (fun Q L aq ww hS hun hq hd fr kn => ⟨kn.1, fun K hK => wp_value (exec_fopG (k := 1) rfl kn.2.1 (by decide)) (hK _ _ rfl (sl2_same (by decide) (by decide) hS))⟩),
                  (fun Q L aq ww hS hun hq hd fr kn => ⟨kn.1, fun K hK => wp_value (exec_ldOG rfl kn.2.1 (HC.out _ ww hS i2 hi2)) (hK _ _ rfl (sl2_same (by decide) (by decide) hS))⟩),
                  (fun Q L aq ww hS hun hq hd fr kn => ⟨kn.1, fun K hK => stepp enterD_15 rfl (args3 kn.2.1 kn.2.2.1 kn.2.2.2.1) (HPB.out ww (sl2_b hS hq.1 hun)) (fun v w' hv => hK _ _ hv.1 (sl2_done hv.2))⟩),
                  (fun Q L aq ww hS hun hq hd fr kn => ⟨kn.1, fun K hK => wp_value (exec_neErr (m := 0) rfl kn.2.1 rfl) (hK _ _ rfl (sl2_same (by decide) (by decide) hS))⟩),
                  (fun Q L aq ww hS hun hq hd fr kn => ⟨trivial, fun K hK => wp_value (exec_pickF (v := .bool false) rfl kn.1 kn.2.1) (hK _ _ rfl (sl2_same (by decide) (by decide) hS))⟩),
                  trivial⟩ ?_
            intro vs L u6 hS6 hL6 hk6
            have h6 := sl2_c hS6 (hL6 33 (by decide))
            have e126 : vs 126 = .bool false := hk6 35 (by decide)
            rw [HSC.out] at h6
            have HX := Hid.mk h6
            clear hk6 hS6 hL6 h6 HC HPA HPB HS0 HSC
            simp only [putAll, Act.put, List.setIfInBounds_toArray, List.set_cons_zero, List.set_cons_succ, e126]
            clear e126
            go_wp2_with fail
            go_roundg (k - (i + 1))
            case rel => exact ⟨i + 1, rfl, by omega, by go_num, HX⟩
            case measure => omega
          · obtain rfl : i = k := by omega
            go_wp2_with fail
            go_meet
            case rel => exact Hid.mk (HJ.out.congB (ix_congr (fun q => by omega)))
    case rest =>
      clear HS
      have HS := hcut
      clear hcut
      go_upto_block 6 with fail
      go_cut [13, 14, 15] (fun s13 s14 s15 z => Hid (OrS w B t1 t2 z (.slice p k c) k X k (IxO (fun q => q < k) X) k (IxO (fun q => q < k) X)))
      case first =>
        as_aux_lemma =>
          go_wp2_with fail
          go_loopg [13] k (fun gm s13 z => ∃ i : Nat, gm = k - i ∧ i ≤ k ∧ s13 = .int .i64 (i : Int) ∧ Hid (OrS w B t1 t2 z (.slice p k c) k X k (IxO (fun q => q < k) X) k (IxO (fun q => q < k) X)))
          case atStart => exact ⟨0, rfl, by omega, rfl, HS⟩
          case round =>
            obtain ⟨i, hgm, hik, rfl, HJ⟩ := hrel
            clear HS
            by_cases hlt : i < k
            · have hlti : (i : Int) < (k : Int) := by omega
              have hi63 : (i : Int) + 1 ≤ 9223372036854775807 := by omega
              obtain ⟨ad, hpl, hcl⟩ := HJ.out.at i hlt
              subst hpl
              have HC := Hid.mk hcl
              clear hcl
              go_wp2_with (first | (refine wl_value rfl (exec_ixOp10 (i := i) rfl (by rfl) (by rfl) hlt) ?_) | (refine wl_value rfl (exec_fopG rfl (by rfl) (by decide)) ?_) | (refine wl_value rfl (exec_ldPG rfl (by rfl) HC.out) ?_))
              refine (HJ.out.dropB (K' := fun q => q < k ∧ q ≠ i) HK.out hlt hlt (fun q hq => hq) (fun q => Iff.rfl)).mono ?_
              rintro e wA ⟨rfl, h1⟩
              clear HC HJ
              obtain ⟨_, hpl, hcl⟩ := h1.at i hlt
              cases hpl
              have HC := Hid.mk hcl
              have HJ := Hid.mk h1
              clear hcl h1
              go_wp2_with (first | (refine wl_value rfl (exec_ext rfl (by rfl) rfl) ?_) | (refine wl_value rfl (exec_ixOp10 (i := i) rfl (by rfl) (by rfl) hlt) ?_) | (refine wl_value rfl (exec_fopG rfl (by rfl) (by decide)) ?_) | (refine wl_value rfl (exec_ldPG rfl (by rfl) HC.out) ?_) | (refine wl_value rfl (exec_ldOG rfl (by rfl) HC.out) ?_))
              refine (HJ.out.putB (K' := fun q => q < k) HK.out hlt (fun q hq => hq) (fun q => by omega) (by omega)).mono ?_
              rintro e wB ⟨_, rfl, rfl, h1⟩
              rw [show k - 1 + 1 = k by omega] at h1
              have HX := Hid.mk h1
              clear HC HJ h1
              go_wp2_with fail
              go_roundg (k - (i + 1))
              case rel => exact ⟨i + 1, rfl, by omega, by go_num, HX⟩
              case measure => omega
            · obtain rfl : i = k := by omega
              go_wp2_with fail
              go_meet
              case rel => exact HJ
      case rest =>
        clear HS
        have HS := hcut
        clear hcut
        go_upto_block 8 with fail
        go_cut [16, 17, 18, 19, 20, 21, 22, 23, 24] (fun s16 s17 s18 s19 s20 s21 s22 s23 s24 z => Hid (OrS w B t1 t2 z (.slice p k c) k X k (IxO (fun q => q < k) X) k (IxO (fun q => q < k) X)))
        case first =>
          as_aux_lemma =>
            go_wp2_with fail
            go_loopg [16] na (fun gm s16 z => ∃ i : Nat, gm = na - i ∧ i ≤ na ∧ s16 = .int .i64 (i : Int) ∧ Hid (OrS w B t1 t2 z (.slice p k c) k X k (IxO (fun q => q < k) X) k (IxO (fun q => q < k) X)))
            case atStart => exact ⟨0, rfl, by omega, rfl, HS⟩
            case round =>
              obtain ⟨i, hgm, hik, rfl, HJ⟩ := hrel
              clear HS
              by_cases hlt : i < na
              · have hlti : (i : Int) < (na : Int) := by omega
                have hi63 : (i : Int) + 1 ≤ 9223372036854775807 := by have h9 := hna; unfold maxLen at h9; omega
                obtain ⟨ada, cap, hva, hcA, hAb⟩ := HA.out.at HJ.out.bel i hlt
                obtain ⟨rfl, rfl⟩ : a1 = some ada ∧ cap1 = cap := by simpa using hva
                clear hva
                rcases hX : XA i with ⟨av, ab⟩
                rw [hX] at hcA hAb
                replace hAb : Byts 16 ab := hAb
                have HCA0 : Hid (AdC wr (ada.add (17 * i)) av ab) := Hid.mk hcA
                clear hcA hX
                obtain ⟨po, pv, pb, pn, pt, hF, hC⟩ := findP HJ.out.a av ab hAb
                go_wp2_with (first | (refine wl_value rfl (exec_ixAd10 (i := i) rfl (by rfl) (by rfl) hlt) ?_) | (refine wl_value rfl (exec_ldAd10 rfl (by rfl) HCA0.out) ?_))
                refine hC.mono ?_
                rintro e wA ⟨rfl, hBA⟩
                clear hC
                go_wp2_with (first | (refine wl_value rfl (exec_ext rfl (by rfl) rfl) ?_) | (refine wl_alO rfl rfl zeroPfx ?_; intro g18 wB hg18 qB hBB; refine Hid.out ?_))
                refine Hid.mk ?_
                go_wp2_with (refine st_stO rfl rfl isPfx (prV_one _ _ _) qB (by rfl) (by rfl) ?_; intro wC q18 oC; refine Hid.out ?_)
                refine Hid.mk ?_
                have hBC : Below wr.heap.size wr wC := hBA.trans ((hBB.trans (oC.below hg18)).mono hBA.size)
                have HJ1 := Hid.mk (HJ.out.below hBC)
                have HCA1 := Hid.mk (HCA0.out.kept hBC)
                clear HJ HCA0 hBC hBA hBB qB oC hg18
                obtain ⟨po2, pv2, pb2, pn2, pt2, hF2, hC⟩ := findP HJ1.out.b av ab hAb
                obtain ⟨rfl, heq, rfl⟩ := find_two HJ1.out.a HJ1.out.b hF hF2
                go_wp2_with (first | (refine wl_value rfl (exec_ixAd10 (i := i) rfl (by rfl) (by rfl) hlt) ?_) | (refine wl_value rfl (exec_ldAd10 rfl (by rfl) HCA1.out) ?_))
                refine hC.mono ?_
                rintro e wD ⟨rfl, hBD⟩
                clear hC
                have q18b := SAt.kept q18 hBD
                go_wp2_with (first | (refine wl_value rfl (exec_ext rfl (by rfl) rfl) ?_) | (refine wl_alO rfl rfl zeroPfx ?_; intro g21 wE hg21 qE hBE; refine Hid.out ?_))
                refine Hid.mk ?_
                go_wp2_with (refine st_stO rfl rfl isPfx (prV_one _ _ _) qE (by rfl) (by rfl) ?_; intro wF q21 oF; refine Hid.out ?_)
                refine Hid.mk ?_
                have hBF : Below wC.heap.size wC wF := hBD.trans ((hBE.trans (oF.below hg21)).mono hBD.size)
                have HJ2 := Hid.mk (HJ1.out.below hBF)
                have HCA2 := Hid.mk (HCA1.out.kept hBF)
                have q18c := SAt.kept q18 hBF
                clear HJ1 HCA1 hBF hBD hBE qE oF hg21 q18 q18b
                have hneq : (!eqPF pv pb pn pv2 pb2 pn2) = false := by rw [heq]; rfl
                go_upto_region 35 with (first | (refine wl_value rfl (look_st rfl isPfx q18c (by rfl)) ?_) | (refine wl_value rfl (look_st rfl isPfx q21 (by rfl)) ?_) | (refine wl_value rfl (exec_neP rfl (by rfl) (by rfl) hneq) ?_))
                clear q21 heq hneq hF2
                have HI := Hid.mk (And.intro HJ2.out (And.intro HCA2.out q18c))
                have HF := Hid.mk hF
                clear HJ2 HCA2 q18c hF
                go_wp2_with fail
                go_loopg [23, 24] k (fun gm s23 s24 z => ∃ q : Nat, gm = k - q ∧ q ≤ k ∧ s23 = .int .i64 (q : Int) ∧ Hid (OrS w B t1 t2 z (.slice p k c) k X k (IxO (fun q => q < k) X) k (IxO (fun q => q < k) X) ∧ AdC z (ada.add (17 * i)) av ab ∧ SAt z g18 37 18 (prV pv pb pn)))
                case atStart => exact ⟨0, rfl, by omega, rfl, HI⟩
                case round =>
                  obtain ⟨q, hgq, hqk', rfl, HQ0⟩ := hrel
                  clear HI
                  by_cases hqk : q < k
                  · have hqki : (q : Int) < (k : Int) := by omega
                    have hq63 : (q : Int) + 1 ≤ 9223372036854775807 := by omega
                    obtain ⟨ad, hpl, hcl⟩ := HQ0.out.1.at q hqk
                    subst hpl
                    have hYb := HK.out.byt q hqk
                    have hYr := HK.out.rig q hqk
                    have hIx : IxO (fun q => q < k) X (wrO (X q)) := ⟨q, hqk, Eqr.refl _, rfl⟩
                    have hHas : hasF (X q).v (X q).b (X q).n av ab = true → pt = true ∧ (X q).n ≤ pn := fun e => by
                      have e2 : Has (wrO (X q)) av ab := (has_wh _ _ _ _ _).trans e
                      rcases HF.out with ⟨_, _, _, _, _, h6⟩ | ⟨h1, _, _, h4⟩
                      · exact absurd e2 (h6 _ hIx)
                      · exact ⟨h1, h4 _ hIx e2⟩
                    generalize X q = Y at hcl hYb hYr hHas
                    obtain ⟨hh, hhe⟩ : ∃ hh, hasF Y.v Y.b Y.n av ab = hh := ⟨_, rfl⟩
                    have HHR : Hid (∀ ww, Calls Try.prog 23 #[.agg (SC 18 (prV Y.v Y.b Y.n)), .agg (SC 17 (adV av ab))] ww fun e w' => e = .returned (.bool hh) ∧ Below ww.heap.size ww w') := Hid.mk (fun ww => by
                      rw [← hhe]
                      exact has_run Y.v Y.b Y.n av ab ww (right_n hYr).2 hYb hAb)
                    rw [hhe] at hHas
                    have HHAS := Hid.mk hHas
                    have HCL : Hid (∀ ww, Below wr.heap.size wr ww → OpC ww (ad.add (20 * q)) Y) := Hid.mk (fun ww hb => OpC.kept hcl hb)
                    have HCA : Hid (∀ ww, Below wr.heap.size wr ww → AdC ww (ada.add (17 * i)) av ab) := Hid.mk (fun ww hb => AdC.kept HQ0.out.2.1 hb)
                    have HG : Hid (∀ ww, Below wr.heap.size wr ww → SAt ww g18 37 18 (prV pv pb pn)) := Hid.mk (fun ww hb => SAt.kept HQ0.out.2.2 hb)
                    have HO := Hid.mk HQ0.out.1
                    clear hcl hYb hYr hIx hHas hhe HQ0
                    go_upto_region 38 with fail
                    refine wp_region3 (Below wr.heap.size wr) wr.heap.size
                        ([] : List (Nat × Cont))
                        [kv (.slice (some ad) k c), kv (.int .i64 (q : Int)), kv (.pointer (some (ad.add (20 * q)))), kv (.pointer (some ((ad.add (20 * q)).add 2))), kv (.agg (SC 18 (prV Y.v Y.b Y.n))), kv (.slice (some ada) na cap1), kv (.int .i64 (i : Int)), kv (.pointer (some (ada.add (17 * i)))), kv (.agg (SC 17 (adV av ab))), kv (.bool hh), kv (.bool hh)]
                        [.none, .none, .none, .none, .none, .none, .none, .none, .none, .none, .none]
                        [some 210, some 211, some 212, some 213, some 214, some 215, some 216, some 217, some 218, some 219, some 24]
                        [(8, .slice (some ad) k c), (23, .int .i64 (q : Int)), (1, .slice (some ada) na cap1), (16, .int .i64 (i : Int))]
                        [[], [], [.slot 0, .slot 1], [.slot 2], [.slot 3], [], [], [.slot 5, .slot 6], [.slot 7], [.slot 4, .slot 8], [.slot 9]]
                        [.slot 10] [210, 211, 212, 213, 214, 215, 216, 217, 218, 219, 24]
                        rfl (by kernel_rfl) ⟨rfl, rfl, rfl, rfl, trivial⟩ ((Below.refl _ wr).drew) (Nat.le_refl _) trivial trivial (below_Gc7 (Nat.le_refl _))
                        ⟨
                          (fun Q aq ww own hS hBg fr kn => .inl ⟨trivial, fun K hK => wp_value (exec_move rfl fr.1) (hK _ _ ⟨Touch.refl _ _, rfl⟩)⟩),
                          (fun Q aq ww own hS hBg fr kn => .inl ⟨trivial, fun K hK => wp_value (exec_move rfl fr.2.1) (hK _ _ ⟨Touch.refl _ _, rfl⟩)⟩),
                          (fun Q aq ww own hS hBg fr kn => .inl ⟨trivial, fun K hK => wp_value (exec_ixOp10 (i := q) rfl kn.1 kn.2.1 hqk) (hK _ _ ⟨Touch.refl _ _, rfl⟩)⟩),
                          (fun Q aq ww own hS hBg fr kn => .inl ⟨trivial, fun K hK => wp_value (exec_fopG (k := 2) rfl kn.1 (by decide)) (hK _ _ ⟨Touch.refl _ _, rfl⟩)⟩),
                          (fun Q aq ww own hS hBg fr kn => .inl ⟨trivial, fun K hK => wp_value (exec_ldPG rfl kn.1 (HCL.out ww hS)) (hK _ _ ⟨Touch.refl _ _, rfl⟩)⟩),
                          (fun Q aq ww own hS hBg fr kn => .inl ⟨trivial, fun K hK => wp_value (exec_move rfl fr.2.2.1) (hK _ _ ⟨Touch.refl _ _, rfl⟩)⟩),
                          (fun Q aq ww own hS hBg fr kn => .inl ⟨trivial, fun K hK => wp_value (exec_move rfl fr.2.2.2.1) (hK _ _ ⟨Touch.refl _ _, rfl⟩)⟩),
                          (fun Q aq ww own hS hBg fr kn => .inl ⟨trivial, fun K hK => wp_value (exec_ixAd10 (i := i) rfl kn.1 kn.2.1 hlt) (hK _ _ ⟨Touch.refl _ _, rfl⟩)⟩),
                          (fun Q aq ww own hS hBg fr kn => .inl ⟨trivial, fun K hK => wp_value (exec_ldAd10 rfl kn.1 (HCA.out ww hS)) (hK _ _ ⟨Touch.refl _ _, rfl⟩)⟩),
                          (fun Q aq ww own hS hBg fr kn => .inl ⟨trivial, fun K hK => stepc enterD_23 rfl (args2 kn.1 kn.2.1) (HHR.out ww) (fun w' hb => hK _ _ ⟨touch_below hb, rfl⟩)⟩),
                          (fun Q aq ww own hS hBg fr kn => .inl ⟨trivial, fun K hK => wp_value (exec_assign rfl kn.1) (hK _ _ ⟨Touch.refl _ _, rfl⟩)⟩),
                          trivial⟩ ?_
                    intro vs own u6 hB6 hsz kn inj
                    have e24 : vs 24 = .bool hh := kn.1
                    clear kn inj hsz
                    simp only [putAll, Act.put, List.setIfInBounds_toArray, List.set_cons_zero, List.set_cons_succ, e24]
                    clear e24
                    have HCM : Hid (∀ ww, Below u6.heap.size u6 ww → OpC ww (ad.add (20 * q)) Y) := Hid.mk (fun ww hb => OpC.kept (HCL.out u6 hB6) hb)
                    have HQ : Hid (∀ ww, Below u6.heap.size u6 ww → SAt ww g18 37 18 (prV pv pb pn)) := Hid.mk (fun ww hb => SAt.kept (HG.out u6 hB6) hb)
                    have HO6 := Hid.mk (And.intro (HO.out.below hB6) (And.intro (HCA.out u6 hB6) (HG.out u6 hB6)))
                    clear HO HCL HCA HG hB6 HHR
                    cases hh
                    · go_upto_region 39 with fail
                      refine wp_region3 (Below u6.heap.size u6) u6.heap.size
                          ([] : List (Nat × Cont))
                          [kv (.bool false), kv (.bool false), kv (undef), kv (undef), kv (undef), kv (undef), kv (undef), kv (undef), kv (undef), kv (undef), kv (undef), kv (undef), kv (undef), kv (undef), kv (undef), kv (.bool false)]
                          [.none, .none, .none, .none, .none, .none, .none, .none, .none, .none, .none, .none, .none, .none, .none, .none]
                          [some 220, some 221, some 222, some 223, some 224, some 225, some 226, some 227, some 228, some 229, some 230, some 231, some 232, some 233, some 234, some 235]
                          [(24, .bool false)]
                          [[], [.slot 0], [.slot 1], [.slot 1], [.slot 1], [.slot 4], [.slot 4], [.slot 4], [.slot 4], [.slot 4], [.slot 4], [.slot 4], [.slot 4], [.slot 4], [.slot 1], [.slot 1]]
                          [.slot 15] [220, 221, 222, 223, 224, 225, 226, 227, 228, 229, 230, 231, 232, 233, 234, 235]
                          rfl (by kernel_rfl) ⟨rfl, trivial⟩ ((Below.refl _ u6).drew) (Nat.le_refl _) trivial trivial (below_Gc7 (Nat.le_refl _))
                          ⟨
                            (fun Q aq ww own hS hBg fr kn => .inl ⟨trivial, fun K hK => wp_value (exec_move rfl fr.1) (hK _ _ ⟨Touch.refl _ _, rfl⟩)⟩),
                            (fun Q aq ww own hS hBg fr kn => .inl ⟨trivial, fun K hK => wp_value (exec_move rfl kn.1) (hK _ _ ⟨Touch.refl _ _, rfl⟩)⟩),
                            (fun Q aq ww own hS hBg fr kn => .inr ⟨.inl kn.1, ⟨Touch.refl _ _, rfl⟩⟩),
                            (fun Q aq ww own hS hBg fr kn => .inr ⟨.inl kn.1, ⟨Touch.refl _ _, rfl⟩⟩),
                            (fun Q aq ww own hS hBg fr kn => .inr ⟨.inl kn.1, ⟨Touch.refl _ _, rfl⟩⟩),
                            (fun Q aq ww own hS hBg fr kn => .inr ⟨.inr kn.1, ⟨Touch.refl _ _, rfl⟩⟩),
                            (fun Q aq ww own hS hBg fr kn => .inr ⟨.inr kn.1, ⟨Touch.refl _ _, rfl⟩⟩),
                            (fun Q aq ww own hS hBg fr kn => .inr ⟨.inr kn.1, ⟨Touch.refl _ _, rfl⟩⟩),
                            (fun Q aq ww own hS hBg fr kn => .inr ⟨.inr kn.1, ⟨Touch.refl _ _, rfl⟩⟩),
                            (fun Q aq ww own hS hBg fr kn => .inr ⟨.inr kn.1, ⟨Touch.refl _ _, rfl⟩⟩),
                            (fun Q aq ww own hS hBg fr kn => .inr ⟨.inr kn.1, ⟨Touch.refl _ _, rfl⟩⟩),
                            (fun Q aq ww own hS hBg fr kn => .inr ⟨.inr kn.1, ⟨Touch.refl _ _, rfl⟩⟩),
                            (fun Q aq ww own hS hBg fr kn => .inr ⟨.inr kn.1, ⟨Touch.refl _ _, rfl⟩⟩),
                            (fun Q aq ww own hS hBg fr kn => .inr ⟨.inr kn.1, ⟨Touch.refl _ _, rfl⟩⟩),
                            (fun Q aq ww own hS hBg fr kn => .inr ⟨.inl kn.1, ⟨Touch.refl _ _, rfl⟩⟩),
                            (fun Q aq ww own hS hBg fr kn => .inl ⟨trivial, fun K hK => wp_value (exec_pickF (v := .bool false) rfl kn.1 rfl) (hK _ _ ⟨Touch.refl _ _, rfl⟩)⟩),
                            trivial⟩ ?_
                      intro vs own u7 hB7 hsz kn inj
                      have e235 : vs 235 = .bool false := kn.1
                      clear kn inj hsz
                      simp only [putAll, Act.put, List.setIfInBounds_toArray, List.set_cons_zero, List.set_cons_succ, e235]
                      clear e235
                      have HX := Hid.mk (And.intro (HO6.out.1.below hB7) (And.intro (AdC.kept HO6.out.2.1 hB7) (SAt.kept HO6.out.2.2 hB7)))
                      clear HO6 hB7 HCM HQ HHAS
                      go_wp2_with fail
                      go_roundg (k - (q + 1))
                      case rel => exact ⟨q + 1, rfl, by omega, by go_num, HX⟩
                      case measure => omega
                    · obtain ⟨hpt, hle⟩ := HHAS.out (by trivial)
                      subst hpt
                      have hgt : decide (pn < Y.n) = false := decide_eq_false (by omega)
                      clear HHAS hle
                      go_upto_region 39 with fail
                      refine wp_region3 (Below u6.heap.size u6) u6.heap.size
                          ([] : List (Nat × Cont))
                          [kv (.bool true), kv (.bool true), kv (.bool true), kv (.bool false), kv (.bool false), kv (.slice (some ad) k c), kv (.int .i64 (q : Int)), kv (.pointer (some (ad.add (20 * q)))), kv (.pointer (some ((ad.add (20 * q)).add 2))), kv (.pointer (some (((ad.add (20 * q)).add 2).add 17))), kv (.int .i64 Y.n), kv (.pointer (some ⟨g18, 0 + 17, none⟩)), kv (.int .i64 pn), kv (.bool false), kv (.bool false), kv (.bool false)]
                          [.none, .none, .none, .none, .none, .none, .none, .none, .none, .none, .none, .none, .none, .none, .none, .none]
                          [some 220, some 221, some 222, some 223, some 224, some 225, some 226, some 227, some 228, some 229, some 230, some 231, some 232, some 233, some 234, some 235]
                          [(24, .bool true), (19, .bool true), (8, .slice (some ad) k c), (23, .int .i64 (q : Int)), (18, .pointer (some ⟨g18, 0, none⟩))]
                          [[], [.slot 0], [.slot 1], [.slot 1, .slot 2], [.slot 1, .slot 3], [.slot 4], [.slot 4], [.slot 4, .slot 5, .slot 6], [.slot 4, .slot 7], [.slot 4, .slot 8], [.slot 4, .slot 9], [.slot 4], [.slot 4, .slot 11], [.slot 4, .slot 10, .slot 12], [.slot 1, .slot 4, .slot 13], [.slot 1, .slot 14]]
                          [.slot 15] [220, 221, 222, 223, 224, 225, 226, 227, 228, 229, 230, 231, 232, 233, 234, 235]
                          rfl (by kernel_rfl) ⟨rfl, rfl, rfl, rfl, rfl, trivial⟩ ((Below.refl _ u6).drew) (Nat.le_refl _) trivial trivial (below_Gc7 (Nat.le_refl _))
                          ⟨
                            (fun Q aq ww own hS hBg fr kn => .inl ⟨trivial, fun K hK => wp_value (exec_move rfl fr.1) (hK _ _ ⟨Touch.refl _ _, rfl⟩)⟩),
                            (fun Q aq ww own hS hBg fr kn => .inl ⟨trivial, fun K hK => wp_value (exec_move rfl kn.1) (hK _ _ ⟨Touch.refl _ _, rfl⟩)⟩),
                            (fun Q aq ww own hS hBg fr kn => .inl ⟨kn.1, fun K hK => wp_value (exec_move rfl fr.2.1) (hK _ _ ⟨Touch.refl _ _, rfl⟩)⟩),
                            (fun Q aq ww own hS hBg fr kn => .inl ⟨kn.1, fun K hK => wp_value (exec_not (b := true) rfl kn.2.1) (hK _ _ ⟨Touch.refl _ _, rfl⟩)⟩),
                            (fun Q aq ww own hS hBg fr kn => .inl ⟨kn.1, fun K hK => wp_value (exec_move rfl kn.2.1) (hK _ _ ⟨Touch.refl _ _, rfl⟩)⟩),
                            (fun Q aq ww own hS hBg fr kn => .inl ⟨kn.1, fun K hK => wp_value (exec_move rfl fr.2.2.1) (hK _ _ ⟨Touch.refl _ _, rfl⟩)⟩),
                            (fun Q aq ww own hS hBg fr kn => .inl ⟨kn.1, fun K hK => wp_value (exec_move rfl fr.2.2.2.1) (hK _ _ ⟨Touch.refl _ _, rfl⟩)⟩),
                            (fun Q aq ww own hS hBg fr kn => .inl ⟨kn.1, fun K hK => wp_value (exec_ixOp10 (i := q) rfl kn.2.1 kn.2.2.1 hqk) (hK _ _ ⟨Touch.refl _ _, rfl⟩)⟩),
                            (fun Q aq ww own hS hBg fr kn => .inl ⟨kn.1, fun K hK => wp_value (exec_fopG (k := 2) rfl kn.2.1 (by decide)) (hK _ _ ⟨Touch.refl _ _, rfl⟩)⟩),
                            (fun Q aq ww own hS hBg fr kn => .inl ⟨kn.1, fun K hK => wp_value (exec_fpbG rfl kn.2.1) (hK _ _ ⟨Touch.refl _ _, rfl⟩)⟩),
                            (fun Q aq ww own hS hBg fr kn => .inl ⟨kn.1, fun K hK => wp_value (exec_ldBG rfl kn.2.1 (HCM.out ww hS)) (hK _ _ ⟨Touch.refl _ _, rfl⟩)⟩),
                            (fun Q aq ww own hS hBg fr kn => .inl ⟨kn.1, fun K hK => wp_value (exec_fpb rfl fr.2.2.2.2.1) (hK _ _ ⟨Touch.refl _ _, rfl⟩)⟩),
                            (fun Q aq ww own hS hBg fr kn => .inl ⟨kn.1, fun K hK => wp_value (exec_ld rfl kn.2.1 (ld_int (pr_n (HQ.out ww hS)))) (hK _ _ ⟨Touch.refl _ _, rfl⟩)⟩),
                            (fun Q aq ww own hS hBg fr kn => .inl ⟨kn.1, fun K hK => wp_value (exec_gtrI rfl kn.2.1 kn.2.2.1 hgt) (hK _ _ ⟨Touch.refl _ _, rfl⟩)⟩),
                            (fun Q aq ww own hS hBg fr kn => .inl ⟨kn.1, fun K hK => wp_value (exec_pickF (v := .bool false) rfl kn.2.1 kn.2.2.1) (hK _ _ ⟨Touch.refl _ _, rfl⟩)⟩),
                            (fun Q aq ww own hS hBg fr kn => .inl ⟨trivial, fun K hK => wp_value (exec_pick (v := .bool false) rfl kn.1 kn.2.1) (hK _ _ ⟨Touch.refl _ _, rfl⟩)⟩),
                            trivial⟩ ?_
                      intro vs own u7 hB7 hsz kn inj
                      have e235 : vs 235 = .bool false := kn.1
                      clear kn inj hsz
                      simp only [putAll, Act.put, List.setIfInBounds_toArray, List.set_cons_zero, List.set_cons_succ, e235]
                      clear e235
                      have HX := Hid.mk (And.intro (HO6.out.1.below hB7) (And.intro (AdC.kept HO6.out.2.1 hB7) (SAt.kept HO6.out.2.2 hB7)))
                      clear HO6 hB7 HCM HQ hgt
                      go_wp2_with fail
                      go_roundg (k - (q + 1))
                      case rel => exact ⟨q + 1, rfl, by omega, by go_num, HX⟩
                      case measure => omega
                  · obtain rfl : q = k := by omega
                    go_wp2_with fail
                    go_roundg (na - (i + 1))
                    case rel => exact ⟨i + 1, rfl, by omega, by go_num, Hid.mk HQ0.out.1⟩
                    case measure => omega
              · obtain rfl : i = na := by omega
                go_wp2_with fail
                go_meet
                case rel => exact HJ
        case rest =>
          clear HS
          have HS := hcut
          clear hcut
          go_wp2_with fail
          refine (lenP HS.out.a).mono ?_
          rintro e wA ⟨rfl, hBA⟩
          have h1 := HS.out.below hBA
          clear HS
          go_wp2_with fail
          refine (lenP h1.b).mono ?_
          rintro e wB ⟨rfl, hBB⟩
          have h2 := h1.below hBB
          have HX := Hid.mk h2.bel
          clear h1 h2 hBA hBB
          go_wp2_with fail
          go_ret
          exact ⟨rfl, HX.out⟩
end Go.Proofs.Ytcpnleanjclfjaa
