/-
  Own text. IpShort: a packet whose bytes were cut short anywhere is refused, for its length.
-/
import Derived.Test.YtdlepeogmjmleabJL8
namespace Go.Proofs.Ytdlepeogmjmleab
open Go.RowKit Go.Proofs
set_option maxRecDepth 100000
theorem bld_ge {P : Pk} (h : rgtP P = true) (hf : fitP P = true) : 20 ≤ (bldT P).size := by
  rw [bld_size h hf]
  unfold sizeP
  rw [if_pos h]
  unfold headP
  split <;> omega
theorem exec_negI {a : Act} {o : Oper} {w : World} {x : Operand} (ho : o.op = .unOp .neg 3 x) {m : Int} {q : Nat} (hx : a.eval x = .int .i64 m) (hq : (q : Int) = -m) (hl : q < 9223372036854775808) : (execOp a.eval o).run Try.prog w = .ok (.value (.int .i64 (q : Int))) w := by
  unfold execOp
  have e2 : IntKind.i64.wrap (-m) = (q : Int) := by rw [← hq, IntKind.wrap_i64]; omega
  simp only [ho, hx]
  simp [go_sem, e2]
theorem exec_addZ {a : Act} {o : Oper} {w : World} {x y : Operand} (ho : o.op = .binOp .add 3 x y 3) {m n q : Int} (hx : a.eval x = .int .i64 m) (hy : a.eval y = .int .i64 n) (hq : m + n = q) (h0 : -9223372036854775808 ≤ q) (h1 : q < 9223372036854775808) : (execOp a.eval o).run Try.prog w = .ok (.value (.int .i64 q)) w := by
  refine exec_bin2 ho hx hy rfl ?_
  have e2 : IntKind.i64.wrap q = q := by rw [IntKind.wrap_i64]; omega
  simp [go_sem, hq, e2]
set_option maxHeartbeats 8000000 in
theorem short_walk (P : Pk) (v : Value) (k : Int) (w : World) (h1 : ExAt w v P.exts) (hA : PkArg P) (hk0 : -9223372036854775808 ≤ k) (hk1 : k < 9223372036854775808) : Calls Try.prog 4 #[.agg (SC 46 (pkV P v)), .int .i64 k] w fun e w' => e = .returned (.bool true) ∧ Below w.heap.size w w' := by
  have HB1 : Hid (∀ ww, ExAt ww v P.exts → Calls Try.prog 7 #[.agg (SC 46 (pkV P v))] ww fun e w' => e = .returned (.tuple #[.string (bldT P), .int .i64 (bldE P)]) ∧ Below ww.heap.size ww w') := Hid.mk (fun ww h => Build_run P v ww h hA.ok hA.len hA.b hA.p)
  have hvo := h1.one
  have HWP := Hid.mk (bld_ways P)
  have HGE := Hid.mk (fun a b => bld_ge (P := P) a b)
  have HFS := Hid.mk (fun a b => fit_size (P := P) a b)
  have HSH : Hid (rgtP P = true → fitP P = true → ∀ n, n < (bldT P).size → rdP ((bldT P).extract 0 n) = .err (if n < 20 ∨ (P.sv = true ∧ n < 40) then 70 else 72)) := Hid.mk (fun a b n hn => rd_short a b hn)
  clear hA
  generalize bldT P = BT at *
  generalize bldE P = E1 at *
  go_enter Try.func4, Try.ntmps4
  go_wp2_with (refine wl_boxO rfl rfl isPk (by rfl) ?_; intro g1 u1 hg1 p1 hB1; refine Hid.out ?_)
  refine Hid.mk ?_
  go_wp2_with (go_at_call 6; refine (awake_run _).mono ?_; rintro e u2 ⟨rfl, hB2⟩; refine Hid.out ?_)
  refine Hid.mk ?_
  have p2 := p1.kept hB2
  have hBa := hB1.trans (hB2.mono hB1.size)
  have HX := Hid.mk (h1.kept hBa)
  clear p1 hB1 hB2 h1
  go_wp2_with (first | (refine wl_value rfl (look_st rfl isPk p2 (by rfl)) ?_) | (go_at_call 7; refine (HB1.out _ HX.out).mono ?_; rintro e u3 ⟨rfl, hB3⟩; refine Hid.out ?_))
  refine Hid.mk ?_
  have p3 := p2.kept hB3
  have hBb := hBa.trans (hB3.mono hBa.size)
  clear p2 hBa hB3 HX HB1
  rcases HWP.out with ⟨rfl, hR, hF⟩ | ⟨n1, rfl⟩
  case inr =>
    have hb1 : (E1 == 0) = false := beq_false_of_ne n1
    have hn1 : (E1 != 0) = true := bne_iff_ne.2 n1
    clear HWP HGE HSH HFS
    go_wp2_with (refine wl_value rfl (exec_eqT (s := ByteArray.empty) (t := ByteArray.empty) rfl rfl (by rfl) (by rfl)) ?_)
    go_ret
    exact ⟨rfl, hBb⟩
  have hge := HGE.out hR hF
  have hfs := HFS.out hR hF
  have HSZ : Hid (∀ n, n < BT.size → rdP (BT.extract 0 n) = .err (if n < 20 ∨ (P.sv = true ∧ n < 40) then 70 else 72)) := Hid.mk (fun n hn => HSH.out hR hF n hn)
  have HNE : Hid (BT ≠ ByteArray.empty) := Hid.mk (fun e => by rw [e] at hge; exact absurd hge (by decide))
  obtain ⟨n, hn⟩ : ∃ n, BT.size = n := ⟨_, rfl⟩
  have HN := Hid.mk hn
  rw [hn] at hge hfs HSZ
  clear HWP HGE HSH HFS hR hF hn
  obtain ⟨K0, hK0⟩ : ∃ K0 : Nat, (K0 : Int) = if k < 0 then -(k + 1) else k := ⟨(if k < 0 then -(k + 1) else k).toNat, by split <;> omega⟩
  have HK0 := Hid.mk hK0
  have hK0l : K0 < 9223372036854775808 := by split at hK0 <;> omega
  clear hK0
  go_upto_if 28 with (refine wl_value rfl (exec_eqF (s := BT) (t := ByteArray.empty) HNE.out rfl (by rfl) (by rfl)) ?_)
  try simp only [Act.put, List.setIfInBounds_toArray, List.set_cons_zero, List.set_cons_succ]
  go_cut [8, 28, 29, 30, 31] from 28 to 31 (fun s8 s28 s29 s30 s31 z => s8 = .int .i64 ((K0 : Nat) : Int) ∧ z = u3)
  case first =>
    by_cases hk : k < 0
    · have e1 : (K0 : Int) = -(k + 1) := by rw [HK0.out, if_pos hk]
      obtain ⟨K1, hK1⟩ : ∃ K1, k + 1 = K1 := ⟨_, rfl⟩
      rw [hK1] at e1
      have HE1 := Hid.mk e1
      have HK1 := Hid.mk hK1
      have hb0 : -9223372036854775808 ≤ K1 := by omega
      have hb1 : K1 < 9223372036854775808 := by omega
      clear e1 hK1
      go_wp2_with (first | (refine wl_value rfl (exec_addZ (m := k) (n := 1) (q := K1) rfl (by rfl) (by rfl) HK1.out hb0 hb1) ?_) | (refine wl_value rfl (exec_negI (m := K1) rfl (by rfl) HE1.out hK0l) ?_))
      go_meet
      case rel => exact ⟨rfl, rfl⟩
    · have e1 : (K0 : Int) = k := by rw [HK0.out, if_neg hk]
      go_wp2_with fail
      go_meet
      case rel => exact ⟨by rw [e1], rfl⟩
  case rest =>
    obtain ⟨rfl, rfl⟩ := hcut
    obtain ⟨KK, hK⟩ : ∃ KK, K0 % n = KK := ⟨_, rfl⟩
    have hKn : KK < n := by rw [← hK]; exact Nat.mod_lt _ (by omega)
    have HK := Hid.mk hK
    clear hK HK0
    have HSL : Hid (∀ ww, (Instr.sliceAt 9 (.string BT) none (some (.int .i64 ((KK : Nat) : Int))) none).run Try.prog ww = .ok (.string (BT.extract 0 KK)) ww) := Hid.mk (fun ww => strH BT KK ww (by rw [HN.out]; omega))
    have hrd := HSZ.out KK hKn
    have HPS : Hid ((BT.extract 0 KK).size < 4611686018427387904) := Hid.mk (by rw [cutP_size _ _ _ (by rw [HN.out]; omega)]; omega)
    generalize BT.extract 0 KK = BX at *
    obtain ⟨X, hX⟩ : ∃ X : Int, X = if KK < 20 ∨ (P.sv = true ∧ KK < 40) then 70 else 72 := ⟨_, rfl⟩
    rw [← hX] at hrd
    have HPA := Hid.mk (fun ww => Parse_err hrd ww HPS.out)
    have HXX := Hid.mk hX
    clear hrd hX HSZ
    go_wp2_with (first | (refine wl_value rfl (exec_lenSV HN.out rfl (by rfl)) ?_) | (refine wl_value rfl (exec_remW (i := K0) (m := n) (q := KK) rfl (by rfl) (by rfl) HK.out (by omega)) ?_) | (refine wl_value rfl (exec_slH (u := .int .i64 ((KK : Nat) : Int)) rfl (by rfl) (by rfl) (HSL.out _)) ?_) | (go_at_call 8; refine (HPA.out _).mono ?_; rintro e u4 ⟨rfl, hB4⟩; refine Hid.out ?_))
    refine Hid.mk ?_
    have p4 := p3.kept hB4
    have hBc := hBb.trans (hB4.mono hBb.size)
    clear p3 hBb
    go_wp2_with (refine wl_alO rfl rfl zeroPk ?_; intro g9 u5 hg9 q5 hB5; refine Hid.out ?_)
    refine Hid.mk ?_
    go_wp2_with (refine st_stO rfl rfl isPk (fun i => pkV_one rfl i) q5 (by rfl) (by rfl) ?_; intro u6 q6 o6; refine Hid.out ?_)
    refine Hid.mk ?_
    have hBn : Below u4.heap.size u4 u6 := hB5.trans (o6.below hg9)
    have p6 := p4.kept hBn
    have hBd := hBc.trans (hBn.mono hBc.size)
    clear p4 hBc hBn hB5 o6 q5 hB4
    go_upto_region 12 with fail
    refine wp_plain_steps (Below u6.heap.size u6) (fun v v' => Below v.heap.size v v') (fun j vv _ => vv = ((.bool true :: .bool true :: .int .i64 X :: .bool (decide (X = 70)) :: .bool (decide (X = 70)) :: gv (!(decide (X = 70))) (.int .i64 X) :: gv (!(decide (X = 70))) (.bool (decide (X = 72))) :: .bool ((decide (X = 70)) || (decide (X = 72))) :: .bool ((decide (X = 70)) || (decide (X = 72))) :: .bool ((decide (X = 70)) || (decide (X = 72))) :: gv ((decide (X = 70)) || (decide (X = 72))) (.pointer (some ⟨g9, 45, none⟩)) :: gv ((decide (X = 70)) || (decide (X = 72))) (.string zeroP.pay) :: gv ((decide (X = 70)) || (decide (X = 72))) (.bool (decide (zeroP.pay = ByteArray.empty))) :: .bool (((decide (X = 70)) || (decide (X = 72))) && (decide (zeroP.pay = ByteArray.empty))) :: .bool (((decide (X = 70)) || (decide (X = 72))) && (decide (zeroP.pay = ByteArray.empty))) :: gv (((decide (X = 70)) || (decide (X = 72))) && (decide (zeroP.pay = ByteArray.empty))) (.int .i64 X) :: gv (((decide (X = 70)) || (decide (X = 72))) && (decide (zeroP.pay = ByteArray.empty))) (.bool (decide (X = 70))) :: gv (((decide (X = 70)) || (decide (X = 72))) && (decide (zeroP.pay = ByteArray.empty))) (.int .i64 (KK : Int)) :: gv (((decide (X = 70)) || (decide (X = 72))) && (decide (zeroP.pay = ByteArray.empty))) (.bool (decide ((KK : Int) < 20))) :: gv (((decide (X = 70)) || (decide (X = 72))) && (decide (zeroP.pay = ByteArray.empty))) (.bool (decide ((KK : Int) < 20))) :: gv ((((decide (X = 70)) || (decide (X = 72))) && (decide (zeroP.pay = ByteArray.empty))) && (!(decide ((KK : Int) < 20)))) (.pointer (some ⟨g1, 0, none⟩)) :: gv ((((decide (X = 70)) || (decide (X = 72))) && (decide (zeroP.pay = ByteArray.empty))) && (!(decide ((KK : Int) < 20)))) (.pointer (some ⟨g1, 0, none⟩)) :: gv ((((decide (X = 70)) || (decide (X = 72))) && (decide (zeroP.pay = ByteArray.empty))) && (!(decide ((KK : Int) < 20)))) (.bool P.sv) :: gv ((((decide (X = 70)) || (decide (X = 72))) && (decide (zeroP.pay = ByteArray.empty))) && (!(decide ((KK : Int) < 20)))) (.bool P.sv) :: gv (((((decide (X = 70)) || (decide (X = 72))) && (decide (zeroP.pay = ByteArray.empty))) && (!(decide ((KK : Int) < 20)))) && P.sv) (.int .i64 (KK : Int)) :: gv (((((decide (X = 70)) || (decide (X = 72))) && (decide (zeroP.pay = ByteArray.empty))) && (!(decide ((KK : Int) < 20)))) && P.sv) (.bool (decide ((KK : Int) < 40))) :: gv ((((decide (X = 70)) || (decide (X = 72))) && (decide (zeroP.pay = ByteArray.empty))) && (!(decide ((KK : Int) < 20)))) (.bool (P.sv && (decide ((KK : Int) < 40)))) :: gv (((decide (X = 70)) || (decide (X = 72))) && (decide (zeroP.pay = ByteArray.empty))) (.bool ((decide ((KK : Int) < 20)) || (P.sv && (decide ((KK : Int) < 40))))) :: gv (((decide (X = 70)) || (decide (X = 72))) && (decide (zeroP.pay = ByteArray.empty))) (.bool ((decide (X = 70)) == ((decide ((KK : Int) < 20)) || (P.sv && (decide ((KK : Int) < 40)))))) :: .bool ((((decide (X = 70)) || (decide (X = 72))) && (decide (zeroP.pay = ByteArray.empty))) && ((decide (X = 70)) == ((decide ((KK : Int) < 20)) || (P.sv && (decide ((KK : Int) < 40)))))) :: .bool ((((decide (X = 70)) || (decide (X = 72))) && (decide (zeroP.pay = ByteArray.empty))) && ((decide (X = 70)) == ((decide ((KK : Int) < 20)) || (P.sv && (decide ((KK : Int) < 40)))))) :: []) : List Value).getD j undef)
        (43 :: 44 :: 45 :: 46 :: 47 :: 48 :: 49 :: 50 :: 51 :: 52 :: 53 :: 54 :: 55 :: 56 :: 57 :: 58 :: 59 :: 60 :: 61 :: 62 :: 63 :: 64 :: 65 :: 66 :: 67 :: 68 :: 69 :: 70 :: 71 :: 72 :: 4 :: [])
        [(5, .bool true), (10, .int .i64 X), (9, .pointer (some ⟨g9, 0, none⟩)), (8, .int .i64 (KK : Int)), (2, .pointer (some ⟨g1, 0, none⟩))] [] 0
        ([] :: [0] :: [1] :: [1, 2] :: [1, 3] :: [4] :: [4, 5] :: [1, 4, 6] :: [1, 7] :: [8] :: [9] :: [9, 10] :: [9, 11] :: [9, 12] :: [13] :: [14] :: [14, 15] :: [14] :: [14, 17] :: [14, 18] :: [19] :: [19, 20] :: [19, 21] :: [19, 22] :: [23] :: [23, 24] :: [19, 23, 25] :: [14, 19, 26] :: [14, 16, 27] :: [14, 28] :: [29] :: [])
        (by kernel_rfl) ⟨rfl, rfl, rfl, rfl, rfl, trivial⟩ trivial (Below.refl _ _) (fun v v' h hb => h.trans (hb.mono h.size)) (fun _ _ _ _ h _ => h)
        ⟨
        (fun QQ aa ww hS fr kn => sg0 rfl (fun K hK => wp_value (exec_move rfl fr.1) (hK _ _ rfl (Below.refl _ _)))),
        (fun QQ aa ww hS fr kn => sg0 rfl (fun K hK => wp_value (exec_move rfl kn.1) (hK _ _ rfl (Below.refl _ _)))),
        (fun QQ aa ww hS fr kn => sgK rfl kn.1 (fun K hK => wp_value (exec_move rfl fr.2.1) (hK _ _ rfl (Below.refl _ _)))),
        (fun QQ aa ww hS fr kn => sgK rfl kn.1 (fun K hK => wp_value (cmp_eqE (m := X) (n := 70) rfl kn.2.1 rfl) (hK _ _ rfl (Below.refl _ _)))),
        (fun QQ aa ww hS fr kn => sgK rfl kn.1 (fun K hK => wp_value (exec_move rfl kn.2.1) (hK _ _ rfl (Below.refl _ _)))),
        (fun QQ aa ww hS fr kn => sgF rfl kn.1 (fun hng K hK => have hc := nt_t hng; wp_value (exec_move rfl fr.2.1) (hK _ _ (gv_t hc).symm (Below.refl _ _))) (fun h0 => (gv_f (nt_f h0)).symm)),
        (fun QQ aa ww hS fr kn => sgF rfl kn.1 (fun hng K hK => have hc := nt_t hng; wp_value (cmp_eqE (m := X) (n := 72) rfl (kn.2.1.trans (gv_t hc)) rfl) (hK _ _ (gv_t hc).symm (Below.refl _ _))) (fun h0 => (gv_f (nt_f h0)).symm)),
        (fun QQ aa ww hS fr kn => sgK rfl kn.1 (fun K hK => wp_value (exec_pickOr rfl kn.2.1 rfl (fun hx => kn.2.2.1.trans (gv_t (nt_t hx)))) (hK _ _ rfl (Below.refl _ _)))),
        (fun QQ aa ww hS fr kn => sg0 rfl (fun K hK => wp_value (exec_pick (v := .bool ((decide (X = 70)) || (decide (X = 72)))) rfl kn.1 kn.2.1) (hK _ _ rfl (Below.refl _ _)))),
        (fun QQ aa ww hS fr kn => sg0 rfl (fun K hK => wp_value (exec_move rfl kn.1) (hK _ _ rfl (Below.refl _ _)))),
        (fun QQ aa ww hS fr kn => sgT rfl kn.1 (fun hc K hK => wp_value (exec_fpk 13 (by decide) rfl fr.2.2.1) (hK _ _ (gv_t hc).symm (Below.refl _ _))) (fun h0 => (gv_f h0).symm)),
        (fun QQ aa ww hS fr kn => sgT rfl kn.1 (fun hc K hK => wp_value (exec_ld rfl (kn.2.1.trans (gv_t hc)) (ldPs (pk_pay (SAt.kept q6 hS)))) (hK _ _ (gv_t hc).symm (Below.refl _ _))) (fun h0 => (gv_f h0).symm)),
        (fun QQ aa ww hS fr kn => sgT rfl kn.1 (fun hc K hK => wp_value (exec_eqSd (s := zeroP.pay) (t := ByteArray.empty) rfl (kn.2.1.trans (gv_t hc)) rfl) (hK _ _ (gv_t hc).symm (Below.refl _ _))) (fun h0 => (gv_f h0).symm)),
        (fun QQ aa ww hS fr kn => sg0 rfl (fun K hK => wp_value (exec_pickAnd rfl kn.1 (fun hx => kn.2.1.trans (gv_t hx)) rfl) (hK _ _ rfl (Below.refl _ _)))),
        (fun QQ aa ww hS fr kn => sg0 rfl (fun K hK => wp_value (exec_move rfl kn.1) (hK _ _ rfl (Below.refl _ _)))),
        (fun QQ aa ww hS fr kn => sgT rfl kn.1 (fun hc K hK => wp_value (exec_move rfl fr.2.1) (hK _ _ (gv_t hc).symm (Below.refl _ _))) (fun h0 => (gv_f h0).symm)),
        (fun QQ aa ww hS fr kn => sgT rfl kn.1 (fun hc K hK => wp_value (cmp_eqE (m := X) (n := 70) rfl (kn.2.1.trans (gv_t hc)) rfl) (hK _ _ (gv_t hc).symm (Below.refl _ _))) (fun h0 => (gv_f h0).symm)),
        (fun QQ aa ww hS fr kn => sgT rfl kn.1 (fun hc K hK => wp_value (exec_move rfl fr.2.2.2.1) (hK _ _ (gv_t hc).symm (Below.refl _ _))) (fun h0 => (gv_f h0).symm)),
        (fun QQ aa ww hS fr kn => sgT rfl kn.1 (fun hc K hK => wp_value (cmp_lt (m := (KK : Int)) (n := 20) rfl (kn.2.1.trans (gv_t hc)) rfl) (hK _ _ (gv_t hc).symm (Below.refl _ _))) (fun h0 => (gv_f h0).symm)),
        (fun QQ aa ww hS fr kn => sgT rfl kn.1 (fun hc K hK => wp_value (exec_move rfl (kn.2.1.trans (gv_t hc))) (hK _ _ (gv_t hc).symm (Below.refl _ _))) (fun h0 => (gv_f h0).symm)),
        (fun QQ aa ww hS fr kn => sgTF rfl kn.1 (fun hc K hK => wp_value (exec_fpk 0 (by decide) rfl fr.2.2.2.2.1) (hK _ _ (gv_t hc).symm (Below.refl _ _))) (fun h0 => (gv_f h0).symm)),
        (fun QQ aa ww hS fr kn => sgTF rfl kn.1 (fun hc K hK => wp_value (exec_fad0 rfl (kn.2.1.trans (gv_t hc))) (hK _ _ (gv_t hc).symm (Below.refl _ _))) (fun h0 => (gv_f h0).symm)),
        (fun QQ aa ww hS fr kn => sgTF rfl kn.1 (fun hc K hK => wp_value (exec_ld rfl (kn.2.1.trans (gv_t hc)) (ldPb (pk_sv (SAt.kept p6 hS)))) (hK _ _ (gv_t hc).symm (Below.refl _ _))) (fun h0 => (gv_f h0).symm)),
        (fun QQ aa ww hS fr kn => sgTF rfl kn.1 (fun hc K hK => wp_value (exec_move rfl (kn.2.1.trans (gv_t hc))) (hK _ _ (gv_t hc).symm (Below.refl _ _))) (fun h0 => (gv_f h0).symm)),
        (fun QQ aa ww hS fr kn => sgTT rfl kn.1 (fun hc K hK => wp_value (exec_move rfl fr.2.2.2.1) (hK _ _ (gv_t hc).symm (Below.refl _ _))) (fun h0 => (gv_f h0).symm)),
        (fun QQ aa ww hS fr kn => sgTT rfl kn.1 (fun hc K hK => wp_value (cmp_lt (m := (KK : Int)) (n := 40) rfl (kn.2.1.trans (gv_t hc)) rfl) (hK _ _ (gv_t hc).symm (Below.refl _ _))) (fun h0 => (gv_f h0).symm)),
        (fun QQ aa ww hS fr kn => sgTF rfl kn.1 (fun hc K hK => wp_value (exec_pickAnd rfl (kn.2.1.trans (gv_t hc)) (fun hx => kn.2.2.1.trans (gv_t (an_t hc hx))) rfl) (hK _ _ (gv_t hc).symm (Below.refl _ _))) (fun h0 => (gv_f h0).symm)),
        (fun QQ aa ww hS fr kn => sgT rfl kn.1 (fun hc K hK => wp_value (exec_pickOr rfl (kn.2.1.trans (gv_t hc)) rfl (fun hx => kn.2.2.1.trans (gv_t (an_t hc (nt_t hx))))) (hK _ _ (gv_t hc).symm (Below.refl _ _))) (fun h0 => (gv_f h0).symm)),
        (fun QQ aa ww hS fr kn => sgT rfl kn.1 (fun hc K hK => wp_value (cmp_eqB rfl (kn.2.1.trans (gv_t hc)) (kn.2.2.1.trans (gv_t hc))) (hK _ _ (gv_t hc).symm (Below.refl _ _))) (fun h0 => (gv_f h0).symm)),
        (fun QQ aa ww hS fr kn => sg0 rfl (fun K hK => wp_value (exec_pickAnd rfl kn.1 (fun hx => kn.2.1.trans (gv_t hx)) rfl) (hK _ _ rfl (Below.refl _ _)))),
        (fun QQ aa ww hS fr kn => sg0 rfl (fun K hK => wp_value (exec_assign rfl kn.1) (hK _ _ rfl (Below.refl _ _)))),
        trivial⟩ ?_
    intro vs u7 hB7 kn
    have e4 : vs 4 = .bool ((((decide (X = 70)) || (decide (X = 72))) && (decide (zeroP.pay = ByteArray.empty))) && ((decide (X = 70)) == ((decide ((KK : Int) < 20)) || (P.sv && (decide ((KK : Int) < 40)))))) := kn 30 (by decide)
    clear kn
    simp only [putAll, Act.put, List.setIfInBounds_toArray, List.set_cons_zero, List.set_cons_succ, e4]
    clear e4
    have HV : ((((decide (X = 70)) || (decide (X = 72))) && (decide (zeroP.pay = ByteArray.empty))) && ((decide (X = 70)) == ((decide ((KK : Int) < 20)) || (P.sv && (decide ((KK : Int) < 40)))))) = true := by
      rw [HXX.out]
      by_cases k20 : KK < 20
      · have a1 : (KK : Int) < 20 := by omega
        rw [if_pos (.inl k20), decide_eq_true a1]
        rfl
      · have a1 : ¬ (KK : Int) < 20 := by omega
        rw [decide_eq_false a1]
        cases hsv : P.sv
        · rw [if_neg (by rintro (e | ⟨e, _⟩); exact k20 e; cases e)]
          rfl
        · by_cases k40 : KK < 40
          · have a2 : (KK : Int) < 40 := by omega
            rw [if_pos (.inr ⟨rfl, k40⟩), decide_eq_true a2]
            rfl
          · have a2 : ¬ (KK : Int) < 40 := by omega
            rw [if_neg (by rintro (e | ⟨_, e⟩); exact k20 e; exact k40 e), decide_eq_false a2]
            rfl
    rw [HV]
    go_wp2_with fail
    go_ret
    exact ⟨rfl, hBd.trans (hB7.mono hBd.size)⟩
end Go.Proofs.Ytdlepeogmjmleab
