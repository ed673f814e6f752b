/-
  Own text. RouteHalves, walked.
-/
import Derived.Test.YtcpnleanjclfjaaTDE
import Derived.Deep.CutBlock
import Derived.Deep.DeepCutAuto
namespace Go.Proofs.Ytcpnleanjclfjaa
open Go.RowKit Go.Proofs
set_option maxRecDepth 100000
theorem exec_128w {a : Act} {o : Oper} {w : World} {x y : Operand} (ho : o.op = .binOp .shr 5 x y 60) {s : Nat} {p : Int} (hx : a.eval x = .int .u8 128) (hy : a.eval y = .int .u64 (s : Int)) (hs : s < 8) (hp : ((128 / 2 ^ s : Nat) : Int) = p) : (execOp a.eval o).run Try.prog w = .ok (.value (.int .u8 p)) w := by
  rw [← hp]
  exact exec_128 ho hx hy hs
theorem exec_add8w {a : Act} {o : Oper} {w : World} {x y : Operand} (ho : o.op = .binOp .add 5 x y 5) {m n p : Int} (hx : a.eval x = .int .u8 m) (hy : a.eval y = .int .u8 n) (hp : m + n = p ∧ 0 ≤ p ∧ p < 256) : (execOp a.eval o).run Try.prog w = .ok (.value (.int .u8 p)) w := by
  obtain ⟨rfl, h0, h1⟩ := hp
  exact exec_add8 ho hx hy h0 h1
theorem OrS.onlyG {w0 z z' : World} {B t1 t2 k m1 m2 g : Nat} {x : Value} {X : Nat → Op10} {M1 M2 : Rw → Prop} {V : Nat → Value} (h : OrS w0 B t1 t2 z x k X m1 M1 m2 M2) (ho : Only g z z') (hB : B ≤ g) (hg : SAt z g 37 18 V) : OrS w0 B t1 t2 z' x k X m1 M1 m2 M2 := by
  have ht : Touch (fun q => q = g) z z' := touch_only ho
  have hq : NoNd z g := fun U hU => by
    have h1 := hg.symm.trans hU
    simp at h1
  have hx : ∀ q, x.ownBlock = some q → q ≠ g := fun q e e2 => by
    rcases h.row.2 with ⟨e1, _⟩ | ⟨g1, cap, cur, e1, _, hg1, _⟩
    · rw [e1] at e
      cases e
    · rw [e1] at e
      have e3 : g1 = q := Option.some.inj e
      rw [e3, e2] at hg1
      have h1 := hg.symm.trans hg1
      simp at h1
  refine ⟨h.a.tou ht (fun q hq' => by subst hq'; exact ⟨by have := h.hi.1; omega, hq⟩), h.b.tou ht (fun q hq' => by subst hq'; exact ⟨by have := h.hi.2.1; omega, hq⟩), ownM_block h.row (fun q e => ht.block q (h.own q e).2.1 (fun e2 => hx q e e2)), h.bel.trans (ho.below (by have := h.lo.1; have := h.hi.1; omega)), h.lo, ⟨h.hi.1, h.hi.2.1, h.hi.2.2.1, by have := h.hi.2.2.2; have := ho.size; omega⟩⟩
set_option maxHeartbeats 64000000 in
theorem halves_walk (v : Value) (n : Nat) (X0 : Nat → Op10) (at0 : Int) (va : Value) (na : Nat) (XA : Nat → Bool × (Nat → Int)) (w : World) (hv : OpsAt10 w v n X0) (hn : n ≤ maxLen) (hat : (Lit.int .i64 at0).wf = true) (ha : AdsAt10 w va na XA) (hna : na ≤ maxLen) : Calls Try.prog 7 #[v, .int .i64 at0, va] w fun e w' => e = .returned (.bool true) ∧ Below w.heap.size w w' := by
  obtain ⟨a0, cap0, hv0, hv1⟩ := id hv
  clear hv1
  subst hv0
  have HV := Hid.mk hv
  clear hv
  obtain ⟨a1, cap1, hv0, hv1⟩ := id ha
  clear hv1
  subst hv0
  have HA := Hid.mk ha
  clear ha
  go_enter Try.func7, Try.ntmps7
  go_wp2_with fail
  refine (awake_run w).mono ?_
  rintro e w1 ⟨rfl, hB1⟩
  go_wp2_with fail
  refine (newP w1).mono ?_
  rintro e w2 ⟨t1, rfl, ht1, hP1, hB2⟩
  go_wp2_with fail
  refine (newP w2).mono ?_
  rintro e w3 ⟨t2, rfl, ht2, hP2, hB3⟩
  obtain ⟨B, hBB⟩ : ∃ B, w3.heap.size = B := ⟨_, rfl⟩
  have hN : OrS w B t1 t2 w3 (.slice none 0 0) 0 X0 0 (fun _ => False) 0 (fun _ => False) := or_start hP1 hP2 hB1 hB2 hB3 ht1 ht2 hBB
  clear hP1 hP2 hB1 hB2 hB3 ht1 ht2 hBB
  go_upto_block 0 with fail
  go_cut [10, 11] (fun s8 s9 z => ∃ (k : Nat) (p : Option Addr) (c : Nat) (X : Nat → Op10), s8 = .slice p k c ∧ k ≤ 30 ∧ Hid (OrS w B t1 t2 z (.slice p k c) k X 0 (fun _ => False) 0 (fun _ => False) ∧ KeptO X k))
  case first =>
    as_aux_lemma =>
      go_wp2_with fail
      go_loopg [10, 11] n (fun gm s8 s9 z => ∃ (i k : Nat) (p : Option Addr) (c : Nat) (X : Nat → Op10), gm = n - i ∧ i ≤ n ∧ s9 = .int .i64 (i : Int) ∧ s8 = .slice p k c ∧ k ≤ 30 ∧ Hid (OrS w B t1 t2 z (.slice p k c) k X 0 (fun _ => False) 0 (fun _ => False) ∧ KeptO X k))
      case atStart => exact ⟨0, 0, none, 0, X0, rfl, by omega, rfl, rfl, by omega, Hid.mk ⟨hN, kept0 X0⟩⟩
      case round =>
        obtain ⟨i, k, p, c, X, hgm, hin, rfl, rfl, hk, HS⟩ := hrel
        clear hN
        by_cases hlt : i < n
        · by_cases hkk : k < 30
          · obtain ⟨adr, cap, hva, hcR, hOb, _⟩ := HV.out.at HS.out.1.bel i hlt
            obtain ⟨rfl, rfl⟩ : a0 = some adr ∧ cap0 = cap := by simpa using hva
            clear hva
            have hlti : (i : Int) < (n : Int) := by omega
            have hki : (k : Int) < 30 := by omega
            have hi63 : (i : Int) + 1 ≤ 9223372036854775807 := by have h9 := hn; unfold maxLen at h9; omega
            generalize X0 i = O at *
            have HCO : Hid (OpC wr (adr.add (20 * i)) O) := Hid.mk hcR
            clear hcR
            go_wp2_with (first | (refine wl_value rfl (exec_ixOp10 (i := i) rfl (by rfl) (by rfl) hlt) ?_) | (refine wl_value rfl (exec_fopG rfl (by rfl) (by decide)) ?_) | (refine wl_value rfl (exec_ldPG rfl (by rfl) HCO.out) ?_))
            refine (isPrefix_run O.v O.b O.n wr).mono ?_
            rintro e wA ⟨rfl, hBA⟩
            have HS1 : Hid (OrS w B t1 t2 wA (.slice p k c) k X 0 (fun _ => False) 0 (fun _ => False) ∧ KeptO X k ∧ OpC wA (adr.add (20 * i)) O) := Hid.mk ⟨HS.out.1.below hBA, HS.out.2, OpC.kept HCO.out hBA⟩
            clear HS HCO hBA
            obtain ⟨okk, hokk⟩ : ∃ b, rightF O.v O.b O.n = b := ⟨_, rfl⟩
            have HOK := Hid.mk hokk
            rw [hokk]
            clear hokk
            go_upto_block 2 with fail
            go_cut [12, 13] (fun s10 s11 z => ∃ ok : Bool, s10 = .bool ok ∧ Hid ((ok = true → rightF O.v O.b O.n = true ∧ ∀ q, q < k → ¬ Eqr (wrO (X q)) (wrO O)) ∧ OrS w B t1 t2 z (.slice p k c) k X 0 (fun _ => False) 0 (fun _ => False) ∧ KeptO X k ∧ OpC z (adr.add (20 * i)) O))
            case first =>
              as_aux_lemma =>
                go_wp2_with fail
                go_loopg [12, 13] k (fun gm s10 s11 z => ∃ (j : Nat) (ok : Bool), gm = k - j ∧ j ≤ k ∧ s11 = .int .i64 (j : Int) ∧ s10 = .bool ok ∧ Hid ((ok = true → rightF O.v O.b O.n = true ∧ ∀ q, q < j → ¬ Eqr (wrO (X q)) (wrO O)) ∧ OrS w B t1 t2 z (.slice p k c) k X 0 (fun _ => False) 0 (fun _ => False) ∧ KeptO X k ∧ OpC z (adr.add (20 * i)) O))
                case atStart => exact ⟨0, okk, rfl, by omega, rfl, rfl, Hid.mk ⟨fun e => ⟨by rw [HOK.out, e], fun q hq => by omega⟩, HS1.out⟩⟩
                case round =>
                  obtain ⟨j, ok, hgj, hjk', rfl, rfl, HJ⟩ := hrel
                  clear HS1 HOK
                  by_cases hjk : j < k
                  · have hjki : (j : Int) < (k : Int) := by omega
                    cases ok
                    · go_wp2_with fail
                      go_meet
                      case rel => exact ⟨false, rfl, Hid.mk ⟨fun e => (by cases e), HJ.out.2⟩⟩
                    · obtain ⟨adl, hpl, hcL⟩ := HJ.out.2.1.at j hjk
                      subst hpl
                      obtain ⟨hri, hap⟩ := HJ.out.1 rfl
                      have hYb := HJ.out.2.2.1.byt j hjk
                      have hYr := HJ.out.2.2.1.rig j hjk
                      obtain ⟨zz, hzz⟩ : ∃ zz, (!eqPF (X j).v (whB (X j).b (X j).n) (X j).n O.v (whB O.b O.n) O.n) = zz := ⟨_, rfl⟩
                      have HP : Hid (zz = true → ∀ q, q < j + 1 → ¬ Eqr (wrO (X q)) (wrO O)) := Hid.mk (fun e q hq => by
                        by_cases ej : q = j
                        · subst ej
                          rw [e] at hzz
                          intro hE
                          have hE' : eqPF (X q).v (whB (X q).b (X q).n) (X q).n O.v (whB O.b O.n) O.n = true := hE
                          rw [hE'] at hzz
                          cases hzz
                        · exact hap q (by omega))
                      have HHR := Hid.mk hri
                      generalize X j = Y at hcL hYb hYr hzz
                      have HZ := Hid.mk hzz
                      have HCL : Hid (∀ ww, Below wr.heap.size wr ww → OpC ww (adl.add (20 * j)) Y) := Hid.mk (fun ww hb => OpC.kept hcL hb)
                      have HCR : Hid (∀ ww, Below wr.heap.size wr ww → OpC ww (adr.add (20 * i)) O) := Hid.mk (fun ww hb => OpC.kept HJ.out.2.2.2 hb)
                      have HWY : Hid (∀ ww, Calls Try.prog 20 #[.agg (SC 18 (prV Y.v Y.b Y.n))] ww fun e w' => e = .returned (.agg (SC 18 (prV Y.v (whB Y.b Y.n) Y.n))) ∧ Below ww.heap.size ww w') := Hid.mk (fun ww => whole_right Y.v Y.b Y.n ww hYb hYr)
                      have HWO : Hid (∀ ww, Calls Try.prog 20 #[.agg (SC 18 (prV O.v O.b O.n))] ww fun e w' => e = .returned (.agg (SC 18 (prV O.v (whB O.b O.n) O.n))) ∧ Below ww.heap.size ww w') := Hid.mk (fun ww => whole_right O.v O.b O.n ww hOb hri)
                      have HT := Hid.mk HJ.out.2
                      clear hcL hYb hYr hzz hri hap HJ hOb
                      go_upto_region 14 with fail
                      refine wp_region3 (Below wr.heap.size wr) wr.heap.size
                          ([] : List (Nat × Cont))
                          [kv (.slice (some adl) k c), kv (.int .i64 (j : Int)), kv (.pointer (some (adl.add (20 * j)))), kv (.pointer (some ((adl.add (20 * j)).add 2))), kv (.agg (SC 18 (prV Y.v Y.b Y.n))), kv (.agg (SC 18 (prV Y.v (whB Y.b Y.n) Y.n))), kv (.slice (some adr) n cap0), kv (.int .i64 (i : Int)), kv (.pointer (some (adr.add (20 * i)))), kv (.pointer (some ((adr.add (20 * i)).add 2))), kv (.agg (SC 18 (prV O.v O.b O.n))), kv (.agg (SC 18 (prV O.v (whB O.b O.n) O.n))), kv (.bool zz), kv (.bool zz)]
                          [.none, .none, .none, .none, .none, .none, .none, .none, .none, .none, .none, .none, .none, .none]
                          [some 68, some 69, some 70, some 71, some 72, some 73, some 74, some 75, some 76, some 77, some 78, some 79, some 80, some 12]
                          [(10, .slice (some adl) k c), (13, .int .i64 (j : Int)), (0, .slice (some adr) n cap0), (11, .int .i64 (i : Int))]
                          [[], [], [.slot 0, .slot 1], [.slot 2], [.slot 3], [.slot 4], [], [], [.slot 6, .slot 7], [.slot 8], [.slot 9], [.slot 10], [.slot 5, .slot 11], [.slot 12]]
                          [.slot 13] [68, 69, 70, 71, 72, 73, 74, 75, 76, 77, 78, 79, 80, 12]
                          rfl (by kernel_rfl) ⟨rfl, rfl, rfl, rfl, trivial⟩ ((Below.refl _ wr).drew) (Nat.le_refl _) trivial trivial (below_Gc7 (Nat.le_refl _))
                          ⟨
                            (fun Q aq ww own hS hBg fr kn => .inl ⟨trivial, fun K hK => wp_value (exec_move rfl fr.1) (hK _ _ ⟨Touch.refl _ _, rfl⟩)⟩),
                            (fun Q aq ww own hS hBg fr kn => .inl ⟨trivial, fun K hK => wp_value (exec_move rfl fr.2.1) (hK _ _ ⟨Touch.refl _ _, rfl⟩)⟩),
                            (fun Q aq ww own hS hBg fr kn => .inl ⟨trivial, fun K hK => wp_value (exec_ixOp10 (i := j) rfl kn.1 kn.2.1 hjk) (hK _ _ ⟨Touch.refl _ _, rfl⟩)⟩),
                            (fun Q aq ww own hS hBg fr kn => .inl ⟨trivial, fun K hK => wp_value (exec_fopG (k := 2) rfl kn.1 (by decide)) (hK _ _ ⟨Touch.refl _ _, rfl⟩)⟩),
                            (fun Q aq ww own hS hBg fr kn => .inl ⟨trivial, fun K hK => wp_value (exec_ldPG rfl kn.1 (HCL.out ww hS)) (hK _ _ ⟨Touch.refl _ _, rfl⟩)⟩),
                            (fun Q aq ww own hS hBg fr kn => .inl ⟨trivial, fun K hK => stepc enterD_20 rfl (args1 kn.1) (HWY.out ww) (fun w' hb => hK _ _ ⟨touch_below hb, rfl⟩)⟩),
                            (fun Q aq ww own hS hBg fr kn => .inl ⟨trivial, fun K hK => wp_value (exec_move rfl fr.2.2.1) (hK _ _ ⟨Touch.refl _ _, rfl⟩)⟩),
                            (fun Q aq ww own hS hBg fr kn => .inl ⟨trivial, fun K hK => wp_value (exec_move rfl fr.2.2.2.1) (hK _ _ ⟨Touch.refl _ _, rfl⟩)⟩),
                            (fun Q aq ww own hS hBg fr kn => .inl ⟨trivial, fun K hK => wp_value (exec_ixOp10 (i := i) rfl kn.1 kn.2.1 hlt) (hK _ _ ⟨Touch.refl _ _, rfl⟩)⟩),
                            (fun Q aq ww own hS hBg fr kn => .inl ⟨trivial, fun K hK => wp_value (exec_fopG (k := 2) rfl kn.1 (by decide)) (hK _ _ ⟨Touch.refl _ _, rfl⟩)⟩),
                            (fun Q aq ww own hS hBg fr kn => .inl ⟨trivial, fun K hK => wp_value (exec_ldPG rfl kn.1 (HCR.out ww hS)) (hK _ _ ⟨Touch.refl _ _, rfl⟩)⟩),
                            (fun Q aq ww own hS hBg fr kn => .inl ⟨trivial, fun K hK => stepc enterD_20 rfl (args1 kn.1) (HWO.out ww) (fun w' hb => hK _ _ ⟨touch_below hb, rfl⟩)⟩),
                            (fun Q aq ww own hS hBg fr kn => .inl ⟨trivial, fun K hK => wp_value (exec_neP rfl kn.1 kn.2.1 HZ.out) (hK _ _ ⟨Touch.refl _ _, rfl⟩)⟩),
                            (fun Q aq ww own hS hBg fr kn => .inl ⟨trivial, fun K hK => wp_value (exec_assign rfl kn.1) (hK _ _ ⟨Touch.refl _ _, rfl⟩)⟩),
                            trivial⟩ ?_
                      intro vs own u6 hB6 hsz kn inj
                      have e10 : vs 12 = .bool zz := kn.1
                      clear kn inj hsz
                      simp only [putAll, Act.put, List.setIfInBounds_toArray, List.set_cons_zero, List.set_cons_succ, e10]
                      clear e10
                      have HX : Hid ((zz = true → rightF O.v O.b O.n = true ∧ ∀ q, q < j + 1 → ¬ Eqr (wrO (X q)) (wrO O)) ∧ OrS w B t1 t2 u6 (.slice (some adl) k c) k X 0 (fun _ => False) 0 (fun _ => False) ∧ KeptO X k ∧ OpC u6 (adr.add (20 * i)) O) := Hid.mk ⟨fun e => ⟨HHR.out, HP.out e⟩, HT.out.1.below hB6, HT.out.2.1, HCR.out u6 hB6⟩
                      clear HT HCR HCL HP HHR HWY HWO HZ hB6
                      go_wp2_with fail
                      go_roundg (k - (j + 1))
                      case rel => exact ⟨j + 1, zz, rfl, by omega, by go_num, rfl, HX⟩
                      case measure => omega
                  · obtain rfl : j = k := by omega
                    go_wp2_with fail
                    go_meet
                    case rel => exact ⟨ok, rfl, HJ⟩
            case rest =>
              obtain ⟨ok, rfl, HT⟩ := hcut
              clear HS1 HOK
              cases ok
              · as_aux_lemma =>
                  go_wp2_with fail
                  go_roundg (n - (i + 1))
                  case rel => exact ⟨i + 1, k, p, c, X, rfl, by omega, by go_num, rfl, by omega, Hid.mk ⟨HT.out.2.1, HT.out.2.2.1⟩⟩
                  case measure => omega
              · as_aux_lemma =>
                  go_wp2_with (first | (refine wl_value rfl (exec_ixOp10 (i := i) rfl (by rfl) (by rfl) hlt) ?_) | (refine wl_value rfl (exec_ldOp10 rfl (by rfl) HT.out.2.2.2) ?_) | (refine wl_bsOp rfl rfl (by rfl) ?_; intro gO wB hgO qO hBB; refine Hid.out ?_))
                  refine Hid.mk ?_
                  have h2 := HT.out.2.1.below hBB
                  have hz2 := h2.hi.2.2.2
                  have hr2 := h2.row
                  go_wp2_with (at_builtin; refine ap_op rfl rfl (by rfl) (by rfl) hr2 qO (by omega) hz2 ?_; intro v6 wC hD6 hgr; refine Hid.out ?_)
                  refine Hid.mk ?_
                  obtain ⟨p6, cp6, e6, _⟩ := ownM_shape hD6
                  subst e6
                  have HX := Hid.mk (And.intro (h2.more hD6 hgr) (HT.out.2.2.1.more O hOb (HT.out.1 (by trivial)).1 (HT.out.1 (by trivial)).2))
                  clear h2 hr2 qO hD6 hgr hBB hgO HT
                  go_wp2_with fail
                  go_roundg (n - (i + 1))
                  case rel => exact ⟨i + 1, k + 1, p6, cp6, _, rfl, by omega, by go_num, rfl, by omega, HX⟩
                  case measure => omega
          · obtain rfl : k = 30 := by omega
            have hlti : (i : Int) < (n : Int) := by omega
            go_wp2_with fail
            go_meet
            case rel => exact ⟨30, p, c, X, rfl, by omega, HS⟩
        · obtain rfl : i = n := by omega
          go_wp2_with fail
          go_meet
          case rel => exact ⟨k, p, c, X, rfl, hk, HS⟩
  case rest =>
    obtain ⟨k, p, c, X, rfl, hk, HS0⟩ := hcut
    have HK := Hid.mk HS0.out.2
    have HS := Hid.mk HS0.out.1
    clear hN HS0
    by_cases hk0 : k = 0
    · subst hk0
      as_aux_lemma =>
        have HX := Hid.mk HS.out.bel
        go_wp2_with fail
        go_ret
        exact ⟨rfl, HX.out⟩
    · have hkb : ((k : Int) == 0) = false := beq_eq_false_iff_ne.2 (by omega)
      go_upto_if 94 with fail
      go_cut [14] (fun s14 z => ∃ κ : Nat, s14 = .int .i64 (κ : Int) ∧ Hid (OrS w B t1 t2 z (.slice p k c) k X 0 (fun _ => False) 0 (fun _ => False)))
      case first =>
        as_aux_lemma =>
          have hw1 := bounds_i64 hat
          by_cases hneg : at0 < 0
          · obtain ⟨κ, hκ⟩ : ∃ κ : Nat, -(at0 + 1) = (κ : Int) := ⟨(-(at0 + 1)).toNat, by omega⟩
            have b1 : -9223372036854775808 ≤ at0 + 1 := by omega
            have b2 : at0 + 1 ≤ 9223372036854775807 := by omega
            have b3 : -9223372036854775808 ≤ -(at0 + 1) := by omega
            have b4 : -(at0 + 1) ≤ 9223372036854775807 := by omega
            go_wp2_with fail
            go_meet
            case rel => exact ⟨κ, by first | rfl | rw [hκ] | (congr 1; omega), HS⟩
          · obtain ⟨κ, hκ⟩ : ∃ κ : Nat, at0 = (κ : Int) := ⟨at0.toNat, by omega⟩
            subst hκ
            go_wp2_with fail
            go_meet
            case rel => exact ⟨κ, rfl, HS⟩
      case rest =>
        obtain ⟨κ, rfl, HS1⟩ := hcut
        clear HS
        have HS := HS1
        clear HS1
        obtain ⟨j, hjq⟩ : ∃ j, κ % k = j := ⟨_, rfl⟩
        have hjk : j < k := by rw [← hjq]; exact Nat.mod_lt _ (by omega)
        have HJQ := Hid.mk hjq
        clear hjq
        obtain ⟨ad, hpl, hcl⟩ := HS.out.at j hjk
        subst hpl
        have HC := Hid.mk hcl
        clear hcl
        have hYb := HK.out.byt j hjk
        have hYr := HK.out.rig j hjk
        go_wp2_with (first | (refine wl_value rfl (exec_remN rfl (by rfl) (by rfl) HJQ.out (by omega)) ?_) | (refine wl_value rfl (exec_ixOp10 (i := j) rfl (by rfl) (by rfl) hjk) ?_) | (refine wl_value rfl (exec_fopG rfl (by rfl) (by decide)) ?_) | (refine wl_value rfl (exec_ldPG rfl (by rfl) HC.out) ?_))
        refine (whole_right (X j).v (X j).b (X j).n _ hYb hYr).mono ?_
        rintro e wA ⟨rfl, hBA⟩
        have HS1 := Hid.mk (HS.out.below hBA)
        clear HS HC hBA HJQ
        obtain ⟨N, hN⟩ : ∃ N : Nat, (X j).n = (N : Int) := ⟨(X j).n.toNat, by have := (right_n hYr).1; omega⟩
        obtain ⟨vv, hvv⟩ : ∃ vv, (X j).v = vv := ⟨_, rfl⟩
        obtain ⟨wb, hwb⟩ : ∃ wb, whB (X j).b (X j).n = wb := ⟨_, rfl⟩
        have HN := Hid.mk hN
        have HVV := Hid.mk hvv
        have HWB := Hid.mk hwb
        rw [hwb, hN, hvv]
        clear hwb hN hvv hYb
        go_wp2_with (refine wl_alO rfl rfl zeroPfx ?_; intro g15 wB hg15 qB hBB; refine Hid.out ?_)
        refine Hid.mk ?_
        go_wp2_with (refine st_stO rfl rfl isPfx (prV_one _ _ _) qB (by rfl) (by rfl) ?_; intro wC q15 oC; refine Hid.out ?_)
        refine Hid.mk ?_
        have hBC : Below wA.heap.size wA wC := hBB.trans (oC.below hg15)
        have HS := Hid.mk (HS1.out.below hBC)
        have hB15 : B ≤ g15 := by have := HS1.out.hi.2.2.2; omega
        clear HS1 hBC hBB oC qB hg15
        have c15 : wC.cell? ⟨g15, 0, none⟩ = some (.bool vv) := pr_v q15
        go_upto_if 110 with (first | (refine wl_value rfl (exec_fpx rfl (by rfl)) ?_) | (refine wl_value rfl (exec_fad0 rfl (by rfl)) ?_))
        clear c15
        go_cut [16] (fun s16 z => s16 = .int .i64 (wdN vv : Int) ∧ Hid (OrS w B t1 t2 z (.slice (some ad) k c) k X 0 (fun _ => False) 0 (fun _ => False) ∧ SAt z g15 37 18 (prV vv wb (N : Int))))
        case first =>
          as_aux_lemma =>
            have HX := Hid.mk (And.intro HS.out q15)
            clear HS q15 HVV HWB HN
            cases vv
            · go_wp2_with fail
              go_meet
              case rel => exact ⟨rfl, HX⟩
            · go_wp2_with fail
              go_meet
              case rel => exact ⟨rfl, HX⟩
        case rest =>
          obtain ⟨rfl, HS1⟩ := hcut
          clear HS q15
          have HS := HS1
          clear HS1
          obtain ⟨most, hmost⟩ : ∃ most : Nat, wdN vv = most := ⟨_, rfl⟩
          rw [hmost]
          have hm128 : most ≤ 128 := by rw [← hmost]; exact wd_le vv
          have HMO := Hid.mk hmost
          clear hmost
          have c15 := pr_n HS.out.2
          by_cases hge : (most : Int) ≤ (N : Int)
          · as_aux_lemma =>
              have HX := Hid.mk HS.out.1.bel
              go_wp2_with (refine wl_value rfl (exec_fpb rfl (by rfl)) ?_)
              go_ret
              exact ⟨rfl, HX.out⟩
          · have hlt : N < most := by omega
            have hnw : (X j).n < (wdN (X j).v : Int) := by rw [HN.out, HVV.out, HMO.out]; omega
            obtain ⟨hb, hhb⟩ : ∃ hb, longB wb N 1 = hb := ⟨_, rfl⟩
            have HHB := Hid.mk hhb
            have HLO : Hid ((loR (X j)).v = vv ∧ (loR (X j)).b = wb ∧ (loR (X j)).n = (N : Int) + 1) := Hid.mk ⟨HVV.out, HWB.out, by show (X j).n + 1 = _; rw [HN.out]⟩
            have HHI : Hid ((hiR (X j)).v = vv ∧ (hiR (X j)).b = hb ∧ (hiR (X j)).n = (N : Int) + 1) := Hid.mk ⟨HVV.out, by show longB (whB (X j).b (X j).n) (X j).n.toNat 1 = hb; rw [HWB.out, HN.out, Int.toNat_natCast]; exact hhb, by show (X j).n + 1 = _; rw [HN.out]⟩
            have HSUM : Hid (longB wb N 1 (N / 8) = wb (N / 8) + ((128 / 2 ^ (N % 8) : Nat) : Int) ∧ wb (N / 8) + ((128 / 2 ^ (N % 8) : Nat) : Int) < 256 ∧ 0 ≤ wb (N / 8)) := Hid.mk (by
              have h1 := half_z hYr
              have h2 := wh_b (X j).b (X j).n
              rw [HWB.out] at h1 h2
              rw [HN.out, Int.toNat_natCast] at h1
              exact half_sum h2 (by omega) h1)
            clear hhb
            go_wp2_with (first | (refine wl_value rfl (exec_fpb rfl (by rfl)) ?_) | (refine wl_value rfl (exec_fpx rfl (by rfl)) ?_) | (refine wl_value rfl (exec_ldA rfl HS.out.2 (by rfl)) ?_) | (refine wl_value rfl (exec_px2 rfl (by rfl) (by rfl)) ?_) | (refine wl_alO rfl rfl zeroPfx ?_; intro g17 wD hg17 qD hBD; refine Hid.out ?_))
            refine Hid.mk ?_
            go_wp2_with (refine st_stO rfl rfl isPfx (prV_one _ _ _) qD (by rfl) (by rfl) ?_; intro wX q17 oD; refine Hid.out ?_)
            refine Hid.mk ?_
            have hBX := hBD.trans (oD.below hg17)
            have HS1 := Hid.mk (HS.out.1.below hBX)
            have q15a := SAt.kept HS.out.2 hBX
            have hB17 : B ≤ g17 := by have := HS.out.1.hi.2.2.2; omega
            clear HS hBX hBD oD qD c15 hg17
            go_wp2_with (first | (refine wl_value rfl (look_st rfl isPfx q17 (by rfl)) ?_) | (refine wl_alO rfl rfl zeroPfx ?_; intro g18 wY hg18 qY hBY; refine Hid.out ?_))
            refine Hid.mk ?_
            go_wp2_with (refine st_stO rfl rfl isPfx (prV_one _ _ _) qY (by rfl) (by rfl) ?_; intro wE q18 oE; refine Hid.out ?_)
            refine Hid.mk ?_
            have hBE := hBY.trans (oE.below hg18)
            have HS2 := Hid.mk (HS1.out.below hBE)
            have q15b := SAt.kept q15a hBE
            have q17b := SAt.kept q17 hBE
            have hB18 : B ≤ g18 := by have := HS1.out.hi.2.2.2; omega
            have h1817 : g17 ≠ g18 := by have := SAt.lt q17; omega
            clear HS1 hBE hBY oE qY hg18 q15a q17
            obtain ⟨d8, hd8⟩ : ∃ d8, N / 8 = d8 := ⟨_, rfl⟩
            obtain ⟨r8, hr8e⟩ : ∃ r8, N % 8 = r8 := ⟨_, rfl⟩
            have hd16 : d8 < 16 := by omega
            have hr8 : r8 < 8 := by omega
            obtain ⟨pw, hpw⟩ : ∃ pw : Int, ((128 / 2 ^ r8 : Nat) : Int) = pw := ⟨_, rfl⟩
            obtain ⟨cb, hcb⟩ : ∃ cb, wb d8 = cb := ⟨_, rfl⟩
            obtain ⟨nb, hnb⟩ : ∃ nb, cb + pw = nb := ⟨_, rfl⟩
            have HNB : Hid (cb + pw = nb ∧ 0 ≤ nb ∧ nb < 256) := Hid.mk (by
              have h1 := HSUM.out
              rw [hd8, hr8e, hpw, hcb] at h1
              have h2 : 0 ≤ pw := by rw [← hpw]; exact Int.natCast_nonneg _
              exact ⟨hnb, by omega, by omega⟩)
            have HHB2 : Hid (∀ q, q < 16 → hb q = if q = d8 then nb else wb q) := Hid.mk (fun q _ => by
              have h1 := HSUM.out.1
              rw [hd8, hr8e, hpw, hcb, hnb] at h1
              rw [← HHB.out]
              by_cases e : q = d8
              · rw [if_pos e, e]
                exact h1
              · rw [if_neg e]
                unfold longB
                rw [if_neg (by omega)])
            have HD8 := Hid.mk hd8
            have HR8 := Hid.mk hr8e
            have HPW := Hid.mk hpw
            have HQ15 : Hid (∀ ww, Below wE.heap.size wE ww → ww.cell? ⟨g15, 17, none⟩ = some (.int .i64 (N : Int))) := Hid.mk (fun ww hh => pr_n (SAt.kept q15b hh))
            have HB18 : Hid (∀ ww, Below wE.heap.size wE ww → ww.cell? ⟨g18, 1 + d8, none⟩ = some (.int .u8 cb)) := Hid.mk (fun ww hh => by
              have := pr_b (SAt.kept q18 hh) d8 hd16
              rw [hcb] at this
              exact this)
            have HT18 : Hid (∀ ww, Below wE.heap.size wE ww → SAt (ww.setCell ⟨g18, 1 + d8, none⟩ (.int .u8 nb)) g18 37 18 (prV vv hb ((N : Int) + 1))) := Hid.mk (fun ww hh => pr_setb (SAt.kept q18 hh) hd16 HHB2.out)
            clear hd8 hr8e hpw hcb hnb HSUM HHB2
            go_upto_region 31 with fail
            refine wp_region_cut 18 rfl (by kernel_rfl) (any_steps (Below wE.heap.size wE) (fun v v' => Below v.heap.size v v') (fun iq vq v0 => match iq with | 0 => vq = .pointer (some ⟨g15, 0 + 17, none⟩) | 1 => vq = .int .i64 (N : Int) | 2 => vq = .int .i64 (d8 : Int) | 3 => vq = .pointer (some ⟨g15, 0 + 17, none⟩) | 4 => vq = .int .i64 (N : Int) | 5 => vq = .int .i64 (d8 : Int) | 6 => vq = .pointer (some ⟨g18, 0, none⟩) | 7 => vq = .pointer (some ⟨g18, 0 + 1, none⟩) | 8 => vq = .pointer (some ⟨g18, 1 + d8, none⟩) | 9 => vq = .int .u8 cb | 10 => vq = .pointer (some ⟨g15, 0 + 17, none⟩) | 11 => vq = .int .i64 (N : Int) | 12 => vq = .int .i64 (r8 : Int) | 13 => vq = .int .u64 (r8 : Int) | 14 => vq = .int .u8 pw | 15 => vq = .int .u8 nb | 16 => vq = .pointer (some ⟨g18, 0, none⟩) | 17 => vq = .pointer (some ⟨g18, 0 + 1, none⟩) | _ => True)
                [122, 123, 124, 125, 126, 127, 128, 129, 130, 131, 132, 133, 134, 135, 136, 137, 138, 139]
                [(15, .pointer (some ⟨g15, 0, none⟩)), (18, .pointer (some ⟨g18, 0, none⟩))]
                [[], [0], [1], [], [3], [4], [], [6], [7, 5], [8], [], [10], [11], [12], [13], [9, 14], [], [16]]
                (by kernel_rfl) ⟨rfl, rfl, trivial⟩ (Below.drew (Below.refl _ _)) (fun v v' h hb => h.trans (hb.mono h.size)) ?_
                ⟨
                  (fun Q a1 ww hS fr kn => ⟨trivial, fun K hK => wp_value (exec_fpb rfl fr.1) (hK _ _ rfl (Below.refl _ _))⟩),
                  (fun Q a1 ww hS fr kn => ⟨trivial, fun K hK => wp_value (exec_ld rfl kn.1 (ld_int (HQ15.out ww hS))) (hK _ _ rfl (Below.refl _ _))⟩),
                  (fun Q a1 ww hS fr kn => ⟨trivial, fun K hK => wp_value (exec_quoN (i := N) (m := 8) rfl kn.1 rfl HD8.out (by decide) (by omega)) (hK _ _ rfl (Below.refl _ _))⟩),
                  (fun Q a1 ww hS fr kn => ⟨trivial, fun K hK => wp_value (exec_fpb rfl fr.1) (hK _ _ rfl (Below.refl _ _))⟩),
                  (fun Q a1 ww hS fr kn => ⟨trivial, fun K hK => wp_value (exec_ld rfl kn.1 (ld_int (HQ15.out ww hS))) (hK _ _ rfl (Below.refl _ _))⟩),
                  (fun Q a1 ww hS fr kn => ⟨trivial, fun K hK => wp_value (exec_quoN (i := N) (m := 8) rfl kn.1 rfl HD8.out (by decide) (by omega)) (hK _ _ rfl (Below.refl _ _))⟩),
                  (fun Q a1 ww hS fr kn => ⟨trivial, fun K hK => wp_value (exec_fpx rfl fr.2.1) (hK _ _ rfl (Below.refl _ _))⟩),
                  (fun Q a1 ww hS fr kn => ⟨trivial, fun K hK => wp_value (exec_fad1 rfl kn.1) (hK _ _ rfl (Below.refl _ _))⟩),
                  (fun Q a1 ww hS fr kn => ⟨trivial, fun K hK => wp_value (exec_ix16 (k := d8) rfl kn.1 kn.2.1 hd16) (hK _ _ rfl (Below.refl _ _))⟩),
                  (fun Q a1 ww hS fr kn => ⟨trivial, fun K hK => wp_value (exec_ld rfl kn.1 (ld_u8 (HB18.out ww hS))) (hK _ _ rfl (Below.refl _ _))⟩),
                  (fun Q a1 ww hS fr kn => ⟨trivial, fun K hK => wp_value (exec_fpb rfl fr.1) (hK _ _ rfl (Below.refl _ _))⟩),
                  (fun Q a1 ww hS fr kn => ⟨trivial, fun K hK => wp_value (exec_ld rfl kn.1 (ld_int (HQ15.out ww hS))) (hK _ _ rfl (Below.refl _ _))⟩),
                  (fun Q a1 ww hS fr kn => ⟨trivial, fun K hK => wp_value (exec_remN (i := N) (m := 8) rfl kn.1 rfl HR8.out (by decide)) (hK _ _ rfl (Below.refl _ _))⟩),
                  (fun Q a1 ww hS fr kn => ⟨trivial, fun K hK => wp_value (exec_cvU rfl kn.1 (by omega) (by omega)) (hK _ _ rfl (Below.refl _ _))⟩),
                  (fun Q a1 ww hS fr kn => ⟨trivial, fun K hK => wp_value (exec_128w rfl rfl kn.1 hr8 HPW.out) (hK _ _ rfl (Below.refl _ _))⟩),
                  (fun Q a1 ww hS fr kn => ⟨trivial, fun K hK => wp_value (exec_add8w rfl kn.1 kn.2.1 HNB.out) (hK _ _ rfl (Below.refl _ _))⟩),
                  (fun Q a1 ww hS fr kn => ⟨trivial, fun K hK => wp_value (exec_fpx rfl fr.2.1) (hK _ _ rfl (Below.refl _ _))⟩),
                  (fun Q a1 ww hS fr kn => ⟨trivial, fun K hK => wp_value (exec_fad1 rfl kn.1) (hK _ _ rfl (Below.refl _ _))⟩),
                  trivial⟩ ?_)
            · intro iq vq u' u'' hh hb
              match iq with
              | 0 | 1 | 2 | 3 | 4 | 5 | 6 | 7 | 8 | 9 | 10 | 11 | 12 | 13 | 14 | 15 | 16 | 17 => exact hh

              | n + 18 => trivial
            intro vs w7 hS7 hk7
            have e124 : vs 124 = .int .i64 (d8 : Int) := hk7 2 (by decide)
            have e137 : vs 137 = .int .u8 nb := hk7 15 (by decide)
            have e139 : vs 139 = .pointer (some ⟨g18, 0 + 1, none⟩) := hk7 17 (by decide)
            have cb7 := HB18.out w7 hS7
            have q18c := SAt.kept q18 hS7
            have f18 : w7.frozen? ⟨g18, 1 + d8, none⟩ = false := frozen_of_row w7 g18 (1 + d8) _ _ q18c
            have HF := Hid.mk (HT18.out w7 hS7)
            have q17c := SAt.kept q17b hS7
            have HS3 := Hid.mk (HS2.out.below hS7)
            clear hk7 hS7 HS2 q17b q15b q18 HQ15 HB18 HT18 HPW HNB HD8 HR8
            show wpList Try.prog _ _ (_ :: _ :: []) _ _
            simp only [putAll, Act.put, List.setIfInBounds_toArray, List.set_cons_zero, List.set_cons_succ, e124, e137, e139]
            clear e124 e137 e139
            go_upto_region 32 with (refine wl_value rfl (exec_ix16 (k := d8) rfl (by rfl) (by rfl) hd16) ?_)
            refine wp_gen (fun u => SAt u g18 37 18 (prV vv hb ((N : Int) + 1)) ∧ Only g18 w7 u) ⟨HF.out, only_set⟩ ?_
            rintro w8 ⟨q18, o8⟩
            have q17 := q17c.only o8 h1817
            have HS : Hid (HaS w B t1 t2 w8 (.slice (some ad) k c) k X 0 (fun _ => False) 0 (fun _ => False) g17 g18 vv wb hb ((N : Int) + 1)) := Hid.mk ⟨HS3.out.onlyG o8 hB18 q18c, ⟨hB17, q17⟩, ⟨hB18, q18⟩⟩
            clear cb7 f18 HF q17c q17 q18 q18c o8 HS3 hB15
            go_upto_block 4 with fail
            go_cut [19, 20] (fun s19 s20 z => Hid (HaS w B t1 t2 z (.slice (some ad) k c) k X 0 (fun _ => False) 0 (fun _ => False) g17 g18 vv wb hb ((N : Int) + 1) ∧ ∀ q, q < k → q ≠ j → ¬ Eqr (wrO (X q)) (loR (X j)) ∧ ¬ Eqr (wrO (X q)) (hiR (X j))))
            case first =>
              as_aux_lemma =>
                go_wp2_with fail
                go_loopg [19] k (fun gm s19 z => ∃ i : Nat, gm = k - i ∧ i ≤ k ∧ s19 = .int .i64 (i : Int) ∧ Hid (HaS w B t1 t2 z (.slice (some ad) k c) k X 0 (fun _ => False) 0 (fun _ => False) g17 g18 vv wb hb ((N : Int) + 1) ∧ ∀ q, q < i → q ≠ j → ¬ Eqr (wrO (X q)) (loR (X j)) ∧ ¬ Eqr (wrO (X q)) (hiR (X j))))
                case atStart => exact ⟨0, rfl, by omega, rfl, Hid.mk ⟨HS.out, fun q hq => by omega⟩⟩
                case round =>
                  obtain ⟨i, hgm, hik', rfl, HJ⟩ := hrel
                  clear HS
                  by_cases hik : i < k
                  · have hiki : (i : Int) < (k : Int) := by omega
                    have hi63 : (i : Int) + 1 ≤ 9223372036854775807 := by omega
                    obtain ⟨_, hpl, hcl⟩ := HJ.out.1.s.at i hik
                    cases hpl
                    have HC := Hid.mk hcl
                    clear hcl
                    have hZb := HK.out.byt i hik
                    have hZr := HK.out.rig i hik
                    go_wp2_with (first | (refine wl_value rfl (exec_ixOp10 (i := i) rfl (by rfl) (by rfl) hik) ?_) | (refine wl_value rfl (exec_fopG rfl (by rfl) (by decide)) ?_) | (refine wl_value rfl (exec_ldPG rfl (by rfl) HC.out) ?_))
                    refine (whole_right (X i).v (X i).b (X i).n _ hZb hZr).mono ?_
                    rintro e wA ⟨rfl, hBA⟩
                    clear HC hZb hZr
                    go_wp2_with (refine wl_alO rfl rfl zeroPfx ?_; intro g20 wB hg20 qB hBB; refine Hid.out ?_)
                    refine Hid.mk ?_
                    go_wp2_with (refine st_stO rfl rfl isPfx (prV_one _ _ _) qB (by rfl) (by rfl) ?_; intro wC q20 oC; refine Hid.out ?_)
                    refine Hid.mk ?_
                    have hBC : Below wr.heap.size wr wC := hBA.trans ((hBB.trans (oC.below hg20)).mono hBA.size)
                    have HJ1 := Hid.mk (And.intro (HJ.out.1.below hBC) HJ.out.2)
                    clear HJ hBC hBA hBB oC qB hg20
                    have q17 := HJ1.out.1.lo.2
                    have q18 := HJ1.out.1.hi.2
                    by_cases hij : i = j
                    · subst hij
                      have hbne : ((i : Int) != (i : Int)) = false := by simp
                      go_wp2_with fail
                      go_roundg (k - (i + 1))
                      case rel => exact ⟨i + 1, rfl, by omega, by go_num, Hid.mk ⟨HJ1.out.1, fun q hq hqj => HJ1.out.2 q (by omega) hqj⟩⟩
                      case measure => omega
                    · have hijn : ((i : Int) != (j : Int)) = true := by simp; omega
                      obtain ⟨z1, hz1⟩ : ∃ z1, eqPF (X i).v (whB (X i).b (X i).n) (X i).n vv wb ((N : Int) + 1) = z1 := ⟨_, rfl⟩
                      obtain ⟨z2, hz2⟩ : ∃ z2, eqPF (X i).v (whB (X i).b (X i).n) (X i).n vv hb ((N : Int) + 1) = z2 := ⟨_, rfl⟩
                      have HZ : Hid (z1 = false → z2 = false → ∀ q, q < i + 1 → q ≠ j → ¬ Eqr (wrO (X q)) (loR (X j)) ∧ ¬ Eqr (wrO (X q)) (hiR (X j))) := Hid.mk (fun e1 e2 q hq hqj => by
                        by_cases eq : q = i
                        · subst eq
                          obtain ⟨l1, l2, l3⟩ := HLO.out
                          obtain ⟨h1, h2, h3⟩ := HHI.out
                          refine ⟨fun e => ?_, fun e => ?_⟩
                          · have e' : eqPF (X q).v (whB (X q).b (X q).n) (X q).n (loR (X j)).v (loR (X j)).b (loR (X j)).n = true := e
                            rw [l1, l2, l3, hz1, e1] at e'
                            cases e'
                          · have e' : eqPF (X q).v (whB (X q).b (X q).n) (X q).n (hiR (X j)).v (hiR (X j)).b (hiR (X j)).n = true := e
                            rw [h1, h2, h3, hz2, e2] at e'
                            cases e'
                        · exact HJ1.out.2 q (by omega) hqj)
                      have HZ1 := Hid.mk hz1
                      have HZ2 := Hid.mk hz2
                      clear hz1 hz2
                      cases z1
                      · cases z2
                        · go_wp2_with (first | (refine wl_value rfl (look_st rfl isPfx q20 (by rfl)) ?_) | (refine wl_value rfl (look_st rfl isPfx q17 (by rfl)) ?_) | (refine wl_value rfl (look_st rfl isPfx q18 (by rfl)) ?_) | (refine wl_value rfl (exec_eqP rfl (by rfl) (by rfl) HZ1.out) ?_) | (refine wl_value rfl (exec_eqP rfl (by rfl) (by rfl) HZ2.out) ?_))
                          go_roundg (k - (i + 1))
                          case rel => exact ⟨i + 1, rfl, by omega, by go_num, Hid.mk ⟨HJ1.out.1, HZ.out (by trivial) (by trivial)⟩⟩
                          case measure => omega
                        · have HX := Hid.mk HJ1.out.1.s.bel
                          go_wp2_with (first | (refine wl_value rfl (look_st rfl isPfx q20 (by rfl)) ?_) | (refine wl_value rfl (look_st rfl isPfx q17 (by rfl)) ?_) | (refine wl_value rfl (look_st rfl isPfx q18 (by rfl)) ?_) | (refine wl_value rfl (exec_eqP rfl (by rfl) (by rfl) HZ1.out) ?_) | (refine wl_value rfl (exec_eqP rfl (by rfl) (by rfl) HZ2.out) ?_))
                          go_ret
                          exact ⟨rfl, HX.out⟩
                      · have HX := Hid.mk HJ1.out.1.s.bel
                        go_wp2_with (first | (refine wl_value rfl (look_st rfl isPfx q20 (by rfl)) ?_) | (refine wl_value rfl (look_st rfl isPfx q17 (by rfl)) ?_) | (refine wl_value rfl (exec_eqP rfl (by rfl) (by rfl) HZ1.out) ?_))
                        go_ret
                        exact ⟨rfl, HX.out⟩
                  · obtain rfl : i = k := by omega
                    go_wp2_with fail
                    go_meet
                    case rel => exact HJ
            case rest =>
              clear HS
              have HS := Hid.mk hcut.out.1
              have HNO := Hid.mk hcut.out.2
              clear hcut HLO HHI
              go_upto_block 6 with fail
              go_cut [21] (fun s21 z => ∃ m2 : Nat, m2 + 1 = k ∧ Hid (HaS w B t1 t2 z (.slice (some ad) k c) k X k (IxO (fun q => q < k) X) m2 (IxO (fun q => q < k ∧ q ≠ j) X) g17 g18 vv wb hb ((N : Int) + 1)))
              case first =>
                as_aux_lemma =>
                  go_wp2_with fail
                  go_loopg [21] k (fun gm s21 z => ∃ i m2 : Nat, gm = k - i ∧ i ≤ k ∧ s21 = .int .i64 (i : Int) ∧ (i ≤ j → m2 = i) ∧ (j < i → m2 + 1 = i) ∧ Hid (HaS w B t1 t2 z (.slice (some ad) k c) k X i (IxO (fun q => q < i) X) m2 (IxO (fun q => q < i ∧ q ≠ j) X) g17 g18 vv wb hb ((N : Int) + 1)))
                  case atStart => exact ⟨0, 0, rfl, by omega, rfl, fun _ => rfl, fun h => by omega, Hid.mk ⟨(HS.out.s.congA (ix_nil (fun q => by omega))).congB (ix_nil (fun q => by omega)), HS.out.lo, HS.out.hi⟩⟩
                  case round =>
                    obtain ⟨i, m2, hgm, hik', rfl, hm1, hm2, HJ⟩ := hrel
                    clear HS
                    by_cases hik : i < k
                    · have hiki : (i : Int) < (k : Int) := by omega
                      have hi63 : (i : Int) + 1 ≤ 9223372036854775807 := by omega
                      have HM := Hid.mk (And.intro hm1 hm2)
                      clear hm1 hm2
                      obtain ⟨_, hpl, hcl⟩ := HJ.out.s.at i hik
                      cases hpl
                      have HC : Hid (∀ ww, Below wr.heap.size wr ww → OpC ww (ad.add (20 * i)) (X i)) := Hid.mk (fun ww hb => OpC.kept hcl hb)
                      clear hcl
                      go_upto_region 41 with fail
                      refine wp_region_cut 11 rfl (by kernel_rfl) (any_steps (Below wr.heap.size wr) (fun v v' => Below v.heap.size v v') (fun iq vq v0 => match iq with | 0 => vq = .pointer (some ⟨t1, 0, none⟩) | 1 => vq = .slice (some ad) k c | 2 => vq = .int .i64 (i : Int) | 3 => vq = .pointer (some (ad.add (20 * i))) | 4 => vq = .pointer (some ((ad.add (20 * i)).add 2)) | 5 => vq = .agg (SC 18 (prV (X i).v (X i).b (X i).n)) | 6 => vq = .slice (some ad) k c | 7 => vq = .int .i64 (i : Int) | 8 => vq = .pointer (some (ad.add (20 * i))) | 9 => vq = .pointer (some ((ad.add (20 * i)).add 1)) | 10 => vq = .int .i64 (X i).ow | _ => True)
                          [172, 173, 174, 175, 176, 177, 178, 179, 180, 181, 182]
                          [(8, .pointer (some ⟨t1, 0, none⟩)), (10, .slice (some ad) k c), (21, .int .i64 (i : Int))]
                          [[], [], [], [1, 2], [3], [4], [], [], [6, 7], [8], [9]]
                          (by kernel_rfl) ⟨rfl, rfl, rfl, trivial⟩ (Below.drew (Below.refl _ _)) (fun v v' h hb => h.trans (hb.mono h.size)) ?_
                          ⟨
                            (fun Q a1 ww hS fr kn => ⟨trivial, fun K hK => wp_value (exec_move rfl fr.1) (hK _ _ rfl (Below.refl _ _))⟩),
                            (fun Q a1 ww hS fr kn => ⟨trivial, fun K hK => wp_value (exec_move rfl fr.2.1) (hK _ _ rfl (Below.refl _ _))⟩),
                            (fun Q a1 ww hS fr kn => ⟨trivial, fun K hK => wp_value (exec_move rfl fr.2.2.1) (hK _ _ rfl (Below.refl _ _))⟩),
                            (fun Q a1 ww hS fr kn => ⟨trivial, fun K hK => wp_value (exec_ixOp10 (i := i) rfl kn.1 kn.2.1 hik) (hK _ _ rfl (Below.refl _ _))⟩),
                            (fun Q a1 ww hS fr kn => ⟨trivial, fun K hK => wp_value (exec_fopG (k := 2) rfl kn.1 (by decide)) (hK _ _ rfl (Below.refl _ _))⟩),
                            (fun Q a1 ww hS fr kn => ⟨trivial, fun K hK => wp_value (exec_ldPG rfl kn.1 (HC.out ww hS)) (hK _ _ rfl (Below.refl _ _))⟩),
                            (fun Q a1 ww hS fr kn => ⟨trivial, fun K hK => wp_value (exec_move rfl fr.2.1) (hK _ _ rfl (Below.refl _ _))⟩),
                            (fun Q a1 ww hS fr kn => ⟨trivial, fun K hK => wp_value (exec_move rfl fr.2.2.1) (hK _ _ rfl (Below.refl _ _))⟩),
                            (fun Q a1 ww hS fr kn => ⟨trivial, fun K hK => wp_value (exec_ixOp10 (i := i) rfl kn.1 kn.2.1 hik) (hK _ _ rfl (Below.refl _ _))⟩),
                            (fun Q a1 ww hS fr kn => ⟨trivial, fun K hK => wp_value (exec_fopG (k := 1) rfl kn.1 (by decide)) (hK _ _ rfl (Below.refl _ _))⟩),
                            (fun Q a1 ww hS fr kn => ⟨trivial, fun K hK => wp_value (exec_ldOG rfl kn.1 (HC.out ww hS)) (hK _ _ rfl (Below.refl _ _))⟩),
                            trivial⟩ ?_)
                      · intro iq vq u' u'' hh hb
                        match iq with
                        | 0 | 1 | 2 | 3 | 4 | 5 | 6 | 7 | 8 | 9 | 10 => exact hh

                        | n + 11 => trivial
                      intro vs w7 hS7 hk7
                      have e172 : vs 172 = .pointer (some ⟨t1, 0, none⟩) := hk7 0 (by decide)
                      have e177 : vs 177 = .agg (SC 18 (prV (X i).v (X i).b (X i).n)) := hk7 5 (by decide)
                      have e182 : vs 182 = .int .i64 (X i).ow := hk7 10 (by decide)
                      have HJ1 := Hid.mk (HJ.out.below hS7)
                      clear hk7 hS7 HJ HC
                      show wpList Try.prog _ _ (_ :: []) _ _
                      simp only [putAll, Act.put, List.setIfInBounds_toArray, List.set_cons_zero, List.set_cons_succ, e172, e177, e182]
                      clear e172 e177 e182
                      go_wp2_with fail
                      refine (HJ1.out.putA (K' := fun q => q < i + 1) HK.out hik (fun q hq => by omega) (fun q => by omega) (by omega)).mono ?_
                      rintro e wA ⟨rfl, h1⟩
                      have HJ2 := Hid.mk h1
                      clear HJ1 h1
                      by_cases hij : i = j
                      · subst hij
                        as_aux_lemma =>
                          have hbne : ((i : Int) != (i : Int)) = false := by simp
                          go_wp2_with fail
                          go_roundg (k - (i + 1))
                          case rel => exact ⟨i + 1, m2, rfl, by omega, by go_num, fun h => by omega, fun _ => by have := HM.out.1 (by omega); omega, Hid.mk (HJ2.out.congB (ix_congr (fun q => by omega)))⟩
                          case measure => omega
                      · as_aux_lemma =>
                          have hijn : ((i : Int) != (j : Int)) = true := by simp; omega
                          obtain ⟨_, hpl, hcl⟩ := HJ2.out.s.at i hik
                          cases hpl
                          have HC : Hid (∀ ww, Below wA.heap.size wA ww → OpC ww (ad.add (20 * i)) (X i)) := Hid.mk (fun ww hb => OpC.kept hcl hb)
                          clear hcl
                          go_upto_region 43 with fail
                          refine wp_region_cut 11 rfl (by kernel_rfl) (any_steps (Below wA.heap.size wA) (fun v v' => Below v.heap.size v v') (fun iq vq v0 => match iq with | 0 => vq = .pointer (some ⟨t2, 0, none⟩) | 1 => vq = .slice (some ad) k c | 2 => vq = .int .i64 (i : Int) | 3 => vq = .pointer (some (ad.add (20 * i))) | 4 => vq = .pointer (some ((ad.add (20 * i)).add 2)) | 5 => vq = .agg (SC 18 (prV (X i).v (X i).b (X i).n)) | 6 => vq = .slice (some ad) k c | 7 => vq = .int .i64 (i : Int) | 8 => vq = .pointer (some (ad.add (20 * i))) | 9 => vq = .pointer (some ((ad.add (20 * i)).add 1)) | 10 => vq = .int .i64 (X i).ow | _ => True)
                              [187, 188, 189, 190, 191, 192, 193, 194, 195, 196, 197]
                              [(9, .pointer (some ⟨t2, 0, none⟩)), (10, .slice (some ad) k c), (21, .int .i64 (i : Int))]
                              [[], [], [], [1, 2], [3], [4], [], [], [6, 7], [8], [9]]
                              (by kernel_rfl) ⟨rfl, rfl, rfl, trivial⟩ (Below.drew (Below.refl _ _)) (fun v v' h hb => h.trans (hb.mono h.size)) ?_
                              ⟨
                                (fun Q a1 ww hS fr kn => ⟨trivial, fun K hK => wp_value (exec_move rfl fr.1) (hK _ _ rfl (Below.refl _ _))⟩),
                                (fun Q a1 ww hS fr kn => ⟨trivial, fun K hK => wp_value (exec_move rfl fr.2.1) (hK _ _ rfl (Below.refl _ _))⟩),
                                (fun Q a1 ww hS fr kn => ⟨trivial, fun K hK => wp_value (exec_move rfl fr.2.2.1) (hK _ _ rfl (Below.refl _ _))⟩),
                                (fun Q a1 ww hS fr kn => ⟨trivial, fun K hK => wp_value (exec_ixOp10 (i := i) rfl kn.1 kn.2.1 hik) (hK _ _ rfl (Below.refl _ _))⟩),
                                (fun Q a1 ww hS fr kn => ⟨trivial, fun K hK => wp_value (exec_fopG (k := 2) rfl kn.1 (by decide)) (hK _ _ rfl (Below.refl _ _))⟩),
                                (fun Q a1 ww hS fr kn => ⟨trivial, fun K hK => wp_value (exec_ldPG rfl kn.1 (HC.out ww hS)) (hK _ _ rfl (Below.refl _ _))⟩),
                                (fun Q a1 ww hS fr kn => ⟨trivial, fun K hK => wp_value (exec_move rfl fr.2.1) (hK _ _ rfl (Below.refl _ _))⟩),
                                (fun Q a1 ww hS fr kn => ⟨trivial, fun K hK => wp_value (exec_move rfl fr.2.2.1) (hK _ _ rfl (Below.refl _ _))⟩),
                                (fun Q a1 ww hS fr kn => ⟨trivial, fun K hK => wp_value (exec_ixOp10 (i := i) rfl kn.1 kn.2.1 hik) (hK _ _ rfl (Below.refl _ _))⟩),
                                (fun Q a1 ww hS fr kn => ⟨trivial, fun K hK => wp_value (exec_fopG (k := 1) rfl kn.1 (by decide)) (hK _ _ rfl (Below.refl _ _))⟩),
                                (fun Q a1 ww hS fr kn => ⟨trivial, fun K hK => wp_value (exec_ldOG rfl kn.1 (HC.out ww hS)) (hK _ _ rfl (Below.refl _ _))⟩),
                                trivial⟩ ?_)
                          · intro iq vq u' u'' hh hb
                            match iq with
                            | 0 | 1 | 2 | 3 | 4 | 5 | 6 | 7 | 8 | 9 | 10 => exact hh

                            | n + 11 => trivial
                          intro vs w7 hS7 hk7
                          have e187 : vs 187 = .pointer (some ⟨t2, 0, none⟩) := hk7 0 (by decide)
                          have e192 : vs 192 = .agg (SC 18 (prV (X i).v (X i).b (X i).n)) := hk7 5 (by decide)
                          have e197 : vs 197 = .int .i64 (X i).ow := hk7 10 (by decide)
                          have HJ3 := Hid.mk (HJ2.out.below hS7)
                          clear hk7 hS7 HJ2 HC
                          show wpList Try.prog _ _ (_ :: []) _ _
                          simp only [putAll, Act.put, List.setIfInBounds_toArray, List.set_cons_zero, List.set_cons_succ, e187, e192, e197]
                          clear e187 e192 e197
                          go_wp2_with fail
                          refine (HJ3.out.putB (K' := fun q => q < i + 1 ∧ q ≠ j) HK.out hik (fun q hq => by omega) (fun q => by omega) (by have := HM.out.1; have := HM.out.2; omega)).mono ?_
                          rintro e wB ⟨rfl, h1⟩
                          have HX := Hid.mk h1
                          clear HJ3 h1
                          go_wp2_with fail
                          go_roundg (k - (i + 1))
                          case rel => exact ⟨i + 1, m2 + 1, rfl, by omega, by go_num, fun h => by have := HM.out.1 (by omega); omega, fun h => by have := HM.out.2 (by omega); omega, HX⟩
                          case measure => omega
                    · obtain rfl : i = k := by omega
                      go_wp2_with fail
                      go_meet
                      case rel => exact ⟨m2, hm2 (by omega), HJ⟩
              case rest =>
                obtain ⟨m2, hm2, HS1⟩ := hcut
                clear HS
                have HS := HS1
                clear HS1
                obtain ⟨_, hpl, hcl⟩ := HS.out.s.at j hjk
                cases hpl
                have HC : Hid (∀ ww, Below wc.heap.size wc ww → OpC ww (ad.add (20 * j)) (X j)) := Hid.mk (fun ww hb => OpC.kept hcl hb)
                have HB : Hid (∀ ww, Below wc.heap.size wc ww → SAt ww g17 37 18 (prV vv wb ((N : Int) + 1))) := Hid.mk (fun ww hb => SAt.kept HS.out.lo.2 hb)
                clear hcl
                have EL : Hid (prV vv wb ((N : Int) + 1) = prV (X j).v (whB (X j).b (X j).n) ((X j).n + 1)) := Hid.mk (by rw [HVV.out, HWB.out, HN.out])
                have EH : Hid (prV vv hb ((N : Int) + 1) = prV (X j).v (longB (whB (X j).b (X j).n) (X j).n.toNat 1) ((X j).n + 1)) := Hid.mk (by
                  rw [HVV.out, HWB.out, HN.out, Int.toNat_natCast, HHB.out])
                go_upto_region 44 with fail
                refine wp_region_cut 7 rfl (by kernel_rfl) (any_steps (Below wc.heap.size wc) (fun v v' => Below v.heap.size v v') (fun iq vq v0 => match iq with | 0 => vq = .pointer (some ⟨t2, 0, none⟩) | 1 => vq = .agg (SC 18 (prV vv wb ((N : Int) + 1))) | 2 => vq = .slice (some ad) k c | 3 => vq = .int .i64 (j : Int) | 4 => vq = .pointer (some (ad.add (20 * j))) | 5 => vq = .pointer (some ((ad.add (20 * j)).add 1)) | 6 => vq = .int .i64 (X j).ow | _ => True)
                    [199, 200, 201, 202, 203, 204, 205]
                    [(9, .pointer (some ⟨t2, 0, none⟩)), (10, .slice (some ad) k c), (14, .int .i64 (j : Int)), (17, .pointer (some ⟨g17, 0, none⟩))]
                    [[], [], [], [], [2, 3], [4], [5]]
                    (by kernel_rfl) ⟨rfl, rfl, rfl, rfl, trivial⟩ (Below.drew (Below.refl _ _)) (fun v v' h hb => h.trans (hb.mono h.size)) ?_
                    ⟨
                      (fun Q a1 ww hS fr kn => ⟨trivial, fun K hK => wp_value (exec_move rfl fr.1) (hK _ _ rfl (Below.refl _ _))⟩),
                      (fun Q a1 ww hS fr kn => ⟨trivial, fun K hK => wp_value (look_st rfl isPfx (HB.out ww hS) fr.2.2.2.1) (hK _ _ rfl (Below.refl _ _))⟩),
                      (fun Q a1 ww hS fr kn => ⟨trivial, fun K hK => wp_value (exec_move rfl fr.2.1) (hK _ _ rfl (Below.refl _ _))⟩),
                      (fun Q a1 ww hS fr kn => ⟨trivial, fun K hK => wp_value (exec_move rfl fr.2.2.1) (hK _ _ rfl (Below.refl _ _))⟩),
                      (fun Q a1 ww hS fr kn => ⟨trivial, fun K hK => wp_value (exec_ixOp10 (i := j) rfl kn.1 kn.2.1 hjk) (hK _ _ rfl (Below.refl _ _))⟩),
                      (fun Q a1 ww hS fr kn => ⟨trivial, fun K hK => wp_value (exec_fopG (k := 1) rfl kn.1 (by decide)) (hK _ _ rfl (Below.refl _ _))⟩),
                      (fun Q a1 ww hS fr kn => ⟨trivial, fun K hK => wp_value (exec_ldOG rfl kn.1 (HC.out ww hS)) (hK _ _ rfl (Below.refl _ _))⟩),
                      trivial⟩ ?_)
                · intro iq vq u' u'' hh hb
                  match iq with
                  | 0 | 1 | 2 | 3 | 4 | 5 | 6 => exact hh

                  | n + 7 => trivial
                intro vs w7 hS7 hk7
                have e199 : vs 199 = .pointer (some ⟨t2, 0, none⟩) := hk7 0 (by decide)
                have e200 : vs 200 = .agg (SC 18 (prV vv wb ((N : Int) + 1))) := hk7 1 (by decide)
                have e205 : vs 205 = .int .i64 (X j).ow := hk7 6 (by decide)
                have HS1 := Hid.mk (HS.out.below hS7)
                clear hk7 hS7 HS HC HB
                show wpList Try.prog _ _ (_ :: []) _ _
                simp only [putAll, Act.put, List.setIfInBounds_toArray, List.set_cons_zero, List.set_cons_succ, e199, e200, e205]
                clear e199 e200 e205
                go_wp2_with fail
                rw [EL.out]
                refine (HS1.out.putLo HK.out hjk hnw HNO.out (by omega)).mono ?_
                rintro e w8 ⟨rfl, h1⟩
                rw [← EL.out]
                have HS := Hid.mk h1
                clear HS1 h1
                obtain ⟨_, hpl, hcl⟩ := HS.out.s.at j hjk
                cases hpl
                have HC : Hid (∀ ww, Below w8.heap.size w8 ww → OpC ww (ad.add (20 * j)) (X j)) := Hid.mk (fun ww hb => OpC.kept hcl hb)
                have HB : Hid (∀ ww, Below w8.heap.size w8 ww → SAt ww g18 37 18 (prV vv hb ((N : Int) + 1))) := Hid.mk (fun ww hb => SAt.kept HS.out.hi.2 hb)
                clear hcl
                go_upto_region 45 with fail
                refine wp_region_cut 7 rfl (by kernel_rfl) (any_steps (Below w8.heap.size w8) (fun v v' => Below v.heap.size v v') (fun iq vq v0 => match iq with | 0 => vq = .pointer (some ⟨t2, 0, none⟩) | 1 => vq = .agg (SC 18 (prV vv hb ((N : Int) + 1))) | 2 => vq = .slice (some ad) k c | 3 => vq = .int .i64 (j : Int) | 4 => vq = .pointer (some (ad.add (20 * j))) | 5 => vq = .pointer (some ((ad.add (20 * j)).add 1)) | 6 => vq = .int .i64 (X j).ow | _ => True)
                    [207, 208, 209, 210, 211, 212, 213]
                    [(9, .pointer (some ⟨t2, 0, none⟩)), (10, .slice (some ad) k c), (14, .int .i64 (j : Int)), (18, .pointer (some ⟨g18, 0, none⟩))]
                    [[], [], [], [], [2, 3], [4], [5]]
                    (by kernel_rfl) ⟨rfl, rfl, rfl, rfl, trivial⟩ (Below.drew (Below.refl _ _)) (fun v v' h hb => h.trans (hb.mono h.size)) ?_
                    ⟨
                      (fun Q a1 ww hS fr kn => ⟨trivial, fun K hK => wp_value (exec_move rfl fr.1) (hK _ _ rfl (Below.refl _ _))⟩),
                      (fun Q a1 ww hS fr kn => ⟨trivial, fun K hK => wp_value (look_st rfl isPfx (HB.out ww hS) fr.2.2.2.1) (hK _ _ rfl (Below.refl _ _))⟩),
                      (fun Q a1 ww hS fr kn => ⟨trivial, fun K hK => wp_value (exec_move rfl fr.2.1) (hK _ _ rfl (Below.refl _ _))⟩),
                      (fun Q a1 ww hS fr kn => ⟨trivial, fun K hK => wp_value (exec_move rfl fr.2.2.1) (hK _ _ rfl (Below.refl _ _))⟩),
                      (fun Q a1 ww hS fr kn => ⟨trivial, fun K hK => wp_value (exec_ixOp10 (i := j) rfl kn.1 kn.2.1 hjk) (hK _ _ rfl (Below.refl _ _))⟩),
                      (fun Q a1 ww hS fr kn => ⟨trivial, fun K hK => wp_value (exec_fopG (k := 1) rfl kn.1 (by decide)) (hK _ _ rfl (Below.refl _ _))⟩),
                      (fun Q a1 ww hS fr kn => ⟨trivial, fun K hK => wp_value (exec_ldOG rfl kn.1 (HC.out ww hS)) (hK _ _ rfl (Below.refl _ _))⟩),
                      trivial⟩ ?_)
                · intro iq vq u' u'' hh hb
                  match iq with
                  | 0 | 1 | 2 | 3 | 4 | 5 | 6 => exact hh

                  | n + 7 => trivial
                intro vs w7 hS7 hk7
                have e207 : vs 207 = .pointer (some ⟨t2, 0, none⟩) := hk7 0 (by decide)
                have e208 : vs 208 = .agg (SC 18 (prV vv hb ((N : Int) + 1))) := hk7 1 (by decide)
                have e213 : vs 213 = .int .i64 (X j).ow := hk7 6 (by decide)
                have HS1 := Hid.mk (HS.out.below hS7)
                clear hk7 hS7 HS HC HB
                show wpList Try.prog _ _ (_ :: []) _ _
                simp only [putAll, Act.put, List.setIfInBounds_toArray, List.set_cons_zero, List.set_cons_succ, e207, e208, e213]
                clear e207 e208 e213
                go_wp2_with fail
                rw [EH.out]
                refine (HS1.out.putHi HK.out hjk hnw HNO.out (by omega)).mono ?_
                rintro e w9 ⟨rfl, h1⟩
                rw [← EH.out]
                have hm3 : m2 + 1 + 1 = k + 1 := by omega
                rw [hm3] at h1
                have HS := Hid.mk h1.s
                clear HS1 h1 EL EH hm3
                go_upto_block 8 with fail
                go_cut [22, 23, 24, 25, 26, 27, 28] (fun s22 s23 s24 s25 s26 s27 s28 z => Hid (OrS w B t1 t2 z (.slice (some ad) k c) k X k (IxO (fun q => q < k) X) (k + 1) (HalfM X k j)))
                case first =>
                  as_aux_lemma =>
                    go_wp2_with fail
                    go_loopg [22] na (fun gm s22 z => ∃ i : Nat, gm = na - i ∧ i ≤ na ∧ s22 = .int .i64 (i : Int) ∧ Hid (OrS w B t1 t2 z (.slice (some ad) k c) k X k (IxO (fun q => q < k) X) (k + 1) (HalfM X k j)))
                    case atStart => exact ⟨0, rfl, by omega, rfl, HS⟩
                    case round =>
                      obtain ⟨i, hgm, hik, rfl, HJ⟩ := hrel
                      clear HS
                      by_cases hlta : i < na
                      · have hlti : (i : Int) < (na : Int) := by omega
                        have hi63 : (i : Int) + 1 ≤ 9223372036854775807 := by have h9 := hna; unfold maxLen at h9; omega
                        obtain ⟨ada, cap, hva, hcA, hAb⟩ := HA.out.at HJ.out.bel i hlta
                        obtain ⟨rfl, rfl⟩ : a1 = some ada ∧ cap1 = cap := by simpa using hva
                        clear hva
                        rcases hX : XA i with ⟨av, ab⟩
                        rw [hX] at hcA hAb
                        replace hAb : Byts 16 ab := hAb
                        have HCA0 : Hid (AdC wr (ada.add (17 * i)) av ab) := Hid.mk hcA
                        clear hcA hX
                        obtain ⟨po, pv, pb, pn, pt, hF, hC⟩ := findP HJ.out.a av ab hAb
                        go_wp2_with (first | (refine wl_value rfl (exec_ixAd10 (i := i) rfl (by rfl) (by rfl) hlta) ?_) | (refine wl_value rfl (exec_ldAd10 rfl (by rfl) HCA0.out) ?_))
                        refine hC.mono ?_
                        rintro e wA ⟨rfl, hBA⟩
                        clear hC
                        go_wp2_with (first | (refine wl_value rfl (exec_ext rfl (by rfl) rfl) ?_) | (refine wl_alO rfl rfl zeroPfx ?_; intro g24 wB hg24 qB hBB; refine Hid.out ?_))
                        refine Hid.mk ?_
                        go_wp2_with (refine st_stO rfl rfl isPfx (prV_one _ _ _) qB (by rfl) (by rfl) ?_; intro wC q24 oC; refine Hid.out ?_)
                        refine Hid.mk ?_
                        have hBC : Below wr.heap.size wr wC := hBA.trans ((hBB.trans (oC.below hg24)).mono hBA.size)
                        have HJ1 := Hid.mk (HJ.out.below hBC)
                        have HCA1 := Hid.mk (HCA0.out.kept hBC)
                        clear HJ HCA0 hBC hBA hBB qB oC hg24 q24
                        obtain ⟨po2, pv2, pb2, pn2, pt2, hF2, hC⟩ := findP HJ1.out.b av ab hAb
                        obtain ⟨rfl, rfl⟩ := find_halves HK.out hjk hnw HNO.out hF hF2
                        clear hF hF2
                        go_wp2_with (first | (refine wl_value rfl (exec_ixAd10 (i := i) rfl (by rfl) (by rfl) hlta) ?_) | (refine wl_value rfl (exec_ldAd10 rfl (by rfl) HCA1.out) ?_))
                        refine hC.mono ?_
                        rintro e wD ⟨rfl, hBD⟩
                        clear hC
                        go_wp2_with (first | (refine wl_value rfl (exec_ext rfl (by rfl) rfl) ?_) | (refine wl_alO rfl rfl zeroPfx ?_; intro g27 wE hg27 qE hBE; refine Hid.out ?_))
                        refine Hid.mk ?_
                        go_wp2_with (refine st_stO rfl rfl isPfx (prV_one _ _ _) qE (by rfl) (by rfl) ?_; intro wF q27 oF; refine Hid.out ?_)
                        refine Hid.mk ?_
                        have hBF : Below wC.heap.size wC wF := hBD.trans ((hBE.trans (oF.below hg27)).mono hBD.size)
                        have HJ2 := Hid.mk (HJ1.out.below hBF)
                        clear HJ1 HCA1 hBF hBD hBE qE oF hg27 q27
                        go_wp2_with fail
                        go_roundg (na - (i + 1))
                        case rel => exact ⟨i + 1, rfl, by omega, by go_num, HJ2⟩
                        case measure => omega
                      · obtain rfl : i = na := by omega
                        go_wp2_with fail
                        go_meet
                        case rel => exact HJ
                case rest =>
                  clear HS
                  have HS := hcut
                  clear hcut
                  have hc1 : ((k + 1 : Nat) : Int) = (k : Int) + 1 := by omega
                  have hk63 : (k : Int) + 1 ≤ 9223372036854775807 := by omega
                  go_wp2_with fail
                  refine (lenP HS.out.a).mono ?_
                  rintro e wA ⟨rfl, hBA⟩
                  have h1 := HS.out.below hBA
                  clear HS
                  go_wp2_with fail
                  have hL := lenP h1.b
                  rw [hc1] at hL
                  refine hL.mono ?_
                  rintro e wB ⟨rfl, hBB⟩
                  have h2 := h1.below hBB
                  have HX := Hid.mk h2.bel
                  clear h1 h2 hBA hBB hL hc1
                  go_wp2_with fail
                  go_ret
                  exact ⟨rfl, HX.out⟩
end Go.Proofs.Ytcpnleanjclfjaa
