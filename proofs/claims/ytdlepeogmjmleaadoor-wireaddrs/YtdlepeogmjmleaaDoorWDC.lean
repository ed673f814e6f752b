/-
  Own text. The document's Text of version 6.
-/
import Derived.Test.YtdlepeogmjmleaaDoorWDA
import Derived.Test.YtdlepeogmjmleaaDoorWT6
import Derived.Test.YtdlepeogmjmleaaDoorInvP
namespace Go.Proofs.YtdlepeogmjmleaaDoor
open Go.RowKit Go.Proofs
set_option maxRecDepth 100000
section
variable {a : Act} {o : Oper} {w : World} {x y : Operand}
theorem cmp_eq (ho : o.op = .binOp .eql 3 x y 3) {m n : Int} (hx : a.eval x = .int .i64 m) (hy : a.eval y = .int .i64 n) : (execOp a.eval o).run Tryd.prog w = .ok (.value (.bool (decide (m = n)))) w := exec_bin2 ho hx hy rfl (by simp [go_sem]; exact (Bool.beq_eq_decide_eq m n))
theorem cmp_ne (ho : o.op = .binOp .neq 3 x y 3) {m n : Int} (hx : a.eval x = .int .i64 m) (hy : a.eval y = .int .i64 n) : (execOp a.eval o).run Tryd.prog w = .ok (.value (.bool (!decide (m = n)))) w := exec_bin2 ho hx hy rfl (by simp [go_sem, bne, Bool.beq_eq_decide_eq])
theorem cmp_gt (ho : o.op = .binOp .gtr 3 x y 3) {m n : Int} (hx : a.eval x = .int .i64 m) (hy : a.eval y = .int .i64 n) : (execOp a.eval o).run Tryd.prog w = .ok (.value (.bool (decide (n < m)))) w := exec_bin2 ho hx hy rfl (by simp [go_sem])
end
theorem rowP_le (pr : Nat → Nat) : (rowP pr).1 ≤ 8 := by
  have h : ∀ b0 b1 b2 b3 b4 b5 b6 b7 : Bool, (rowD (zOf b0 b1 b2 b3 b4 b5 b6 b7) 8).1 ≤ 8 := by decide +kernel
  unfold rowP
  rw [rowD_congr (zOf_at (zP pr)) 8 (Nat.le_refl _)]
  exact h _ _ _ _ _ _ _ _
theorem exec_catV {a : Act} {o : Oper} {w : World} {x y : Operand} {s t r : ByteArray} (h : s ++ t = r) (ho : o.op = .binOp .add 9 x y 9) (hx : a.eval x = .string s) (hy : a.eval y = .string t) (hl : s.size + t.size ≤ 9223372036854775807) : (execOp a.eval o).run Tryd.prog w = .ok (.value (.string r)) w := by
  subst h
  exact exec_catS ho hx hy hl
set_option maxHeartbeats 8000000 in
theorem rText_six (b : Nat → Int) (w : World) (hb : Byts 16 b) (hE : Env w) (hv : validF true b = true) : Calls Tryd.prog 6 #[.agg (SC 17 (adV true b))] w fun e w' => e = .returned (.tuple #[.string (sixS (prF b)), .int .i64 0]) ∧ Below w.heap.size w w' := by
  have HR := Hid.mk hv
  clear hv
  have HOK := Hid.mk (rowP_ok (prF b))
  have HPA : Hid (∀ (k : Nat) (ww : World), k < 8 → Calls Tryd.prog 26 #[.agg (SC 17 (adV true b)), .int .i64 (k : Int)] ww fun e w' => e = .returned (.int .i64 (prF b k : Int)) ∧ Below ww.heap.size ww w') := Hid.mk (fun k ww hk => rpair_run true b k ww hb hk)
  have HRO : Hid (∀ ww, Calls Tryd.prog 24 #[.agg (SC 17 (adV true b))] ww fun e w' => e = .returned (.tuple #[.int .i64 ((rowP (prF b)).1 : Int), .int .i64 ((rowP (prF b)).2 : Int)]) ∧ Below ww.heap.size ww w') := Hid.mk (fun ww => rrow_run true b ww hb)
  have HT : Hid (docT (prF b) (rowP (prF b)).1 (rowP (prF b)).2 8 0 = lsT (sixS (prF b))) := Hid.mk (by
    rw [docT_six _ _ _ (HOK.out.imp id (fun h => ⟨h.1, h.2.1⟩))]
    rfl)
  have HTL : Hid ((lsT (sixS (prF b))).length ≤ 39) := Hid.mk (six_len (prF b) (HOK.out.imp id (fun h => ⟨h.1, h.2.1⟩)))
  have HPL : Hid (∀ k, k < 8 → prF b k < 65536) := Hid.mk (fun k hk => prF_lt hb hk)
  have HAN : Hid ((rowP (prF b)).2 = 0 ∨ (2 ≤ (rowP (prF b)).2 ∧ (rowP (prF b)).1 + (rowP (prF b)).2 ≤ 8)) := Hid.mk (HOK.out.imp id (fun h => ⟨h.1, h.2.1⟩))
  have HAL : Hid ((rowP (prF b)).1 ≤ 8) := Hid.mk (rowP_le (prF b))
  clear HOK
  generalize sixS (prF b) = T at *
  generalize (rowP (prF b)).1 = a at *
  generalize (rowP (prF b)).2 = n at *
  generalize prF b = pr at *
  go_enter Tryd.func6, Tryd.ntmps6
  go_wp2_with (refine wl_boxO rfl rfl isAddr (by rfl) ?_; intro g u1 hg g1 hB1; refine Hid.out ?_)
  refine Hid.mk ?_
  go_wp2_with (first | (refine wl_value rfl (look_st rfl isAddr g1 (by rfl)) ?_) | (go_at_call 8; refine (rValid_run true b _).mono ?_; rintro e u2 ⟨rfl, hB2⟩; simp only [HR.out]; refine Hid.out ?_))
  refine Hid.mk ?_
  have g2 := SAt.kept g1 hB2
  have c0 := ad_v g2
  have hB3 := hB1.trans (hB2.mono hB1.size)
  have HE := Hid.mk (hE.kept hB3)
  clear g1 hB1 hB2 HR
  go_wp2_with (first | (refine wl_value rfl (exec_fadW0 rfl (by rfl)) ?_) | (refine wl_value rfl (look_st rfl isAddr g2 (by rfl)) ?_) | (go_at_call 24; refine (HRO.out _).mono ?_; rintro e u4 ⟨rfl, hB4⟩; refine Hid.out ?_))
  refine Hid.mk ?_
  have HV : Hid (SAt u4 g 24 17 (adV true b) ∧ Env u4 ∧ Below w.heap.size w u4) := Hid.mk ⟨SAt.kept g2 hB4, HE.out.kept hB4, hB3.trans (hB4.mono hB3.size)⟩
  clear g2 c0 hB3 HE hB4 HRO
  go_wp2_with fail
  go_loopg [7, 8] 8 (fun gm s7 s8 z => ∃ (k : Nat) (o : ByteArray), Hid (gm + k = 8) ∧ s7 = .string o ∧ s8 = .int .i64 (k : Int) ∧ Hid (lsT o ++ docT pr a n 8 k = lsT T) ∧ Hid (SAt z g 24 17 (adV true b) ∧ Env z ∧ Below w.heap.size w z))
  case atStart => exact ⟨0, ByteArray.empty, Hid.mk rfl, rfl, rfl, Hid.mk (by rw [HT.out]; rfl), HV⟩
  case round =>
    obtain ⟨k, o, HGK, rfl, rfl, HO, HW⟩ := hrel
    by_cases hk : k < 8
    · have hki : (k : Int) < 8 := by omega
      generalize wr = z at *
      obtain ⟨gz, hEz, hBz⟩ := HW.out
      have hos : o.size ≤ 39 := by
        rw [← lsT_len]
        have h1 := congrArg List.length HO.out
        have h2 := HTL.out
        rw [← h1, List.length_append] at h2
        omega
      have HHX : Hid ((hexS (pr k)).size ≤ 9223372036854775000) := Hid.mk (by
        have e : (hexS (pr k)).size = (hexT (pr k)).length := rfl
        have h2 := hexT_len (pr k)
        rw [e]
        omega)
      have HPK := Hid.mk (fun ww => HPA.out k ww hk)
      have HFI := Hid.mk (fun ww e => FormatInt_run (pr k) ww (HPL.out k hk) e)
      by_cases hrow : 0 < n ∧ k = a
      · obtain ⟨hn, hka⟩ := hrow
        have h2 := HTL.out
        have h1 := congrArg List.length HO.out
        rw [← h1, docT_row pr a n k hk hn hka] at h2
        simp only [List.length_append, List.length_cons] at h2
        obtain ⟨o1, ho1⟩ : ∃ o1, o ++ ⟨#[58, 58]⟩ = o1 := ⟨_, rfl⟩
        have HO1 := Hid.mk ho1
        have HNX : Hid (lsT o1 ++ docT pr a n 8 (k + n) = lsT T) := Hid.mk (by rw [← ho1, lsT_app, ← HO.out, docT_row pr a n k hk hn hka, List.append_assoc]; rfl)
        have HZ1 : Hid (o.size + (⟨#[58, 58]⟩ : ByteArray).size ≤ 9223372036854775807) := Hid.mk (by have e : (⟨#[58, 58]⟩ : ByteArray).size = 2 := rfl; rw [e]; omega)
        have hni : (0 : Int) < (n : Int) := by omega
        have hkab : ((k : Int) == (a : Int)) = true := beq_iff_eq.2 (by omega)
        have hkn8 : k + n ≤ 8 := by have := HAN.out; omega
        obtain ⟨KN, hKN⟩ : ∃ KN, k + n = KN := ⟨_, rfl⟩
        obtain ⟨KM, hKM⟩ : ∃ KM, KN = 1 + KM := ⟨KN - 1, by omega⟩
        have HKN := Hid.mk hKN
        have HKM := Hid.mk hKM
        have HK1 : Hid (KM + 1 = KN) := Hid.mk (by omega)
        rw [hKN] at HNX hkn8
        have hKk : k < KN := by omega
        clear h1 h2 ho1 hKN hKM hka hn
        go_wp2_with (first | (refine wl_value rfl (exec_catV (s := o) (t := ⟨#[58, 58]⟩) HO1.out rfl (by rfl) (by rfl) HZ1.out) ?_) | (refine wl_value rfl (exec_addW (i := k) (m := n) (q := KN) rfl (by rfl) (by rfl) HKN.out (by omega)) ?_) | (refine wl_value rfl (exec_subW (i := KN) (m := 1) (q := KM) rfl (by rfl) (by rfl) HKM.out (by omega)) ?_) | (refine wl_value rfl (exec_addW (i := KM) (m := 1) (q := KN) rfl (by rfl) (by rfl) HK1.out (by omega)) ?_))
        go_roundg (8 - KN)
        case rel => exact ⟨KN, o1, Hid.mk (by omega), rfl, rfl, HNX, HW⟩
        case measure => have := HGK.out; omega
      · have hno := hrow
        obtain ⟨AN, hAN⟩ : ∃ AN, a + n = AN := ⟨_, rfl⟩
        have HANN := Hid.mk hAN
        obtain ⟨C, hC⟩ : ∃ C, ((decide (0 < (k : Int))) && ((decide ((n : Int) = 0)) || (!decide ((k : Int) = (AN : Int))))) = C := ⟨_, rfl⟩
        have HCC : Hid (C = true ↔ (0 < k ∧ (n = 0 ∨ k ≠ a + n))) := Hid.mk (by
          rw [← hC, hAN]
          simp only [Bool.and_eq_true, Bool.or_eq_true, decide_eq_true_eq, Bool.not_eq_true', decide_eq_false_iff_not]
          omega)
        have HHC := Hid.mk hC
        have HNO := Hid.mk hno
        have HROW : Hid (0 < n → k ≠ a) := Hid.mk (fun h e => hno ⟨h, e⟩)
        clear hC hAN hrow
        have HR3 : Hid (∃ z1, True) := Hid.mk ⟨z, trivial⟩
        by_cases hn : 0 < n
        · have hni : (0 : Int) < (n : Int) := by omega
          have hkab : ((k : Int) == (a : Int)) = false := beq_false_of_ne (by have := HROW.out hn; omega)
          have hANl : AN < 100 := by have := HAN.out; have := HANN.out; omega
          go_upto_region 14 with fail
          refine wp_plain_steps (Below z.heap.size z) (fun v v' => Below v.heap.size v v') (fun j vv _ => vv = ([.int .i64 (k : Int), .bool (decide (0 < (k : Int))), .bool (decide (0 < (k : Int))), gv (decide (0 < (k : Int))) (.int .i64 (n : Int)), gv (decide (0 < (k : Int))) (.bool (decide ((n : Int) = 0))), gv (decide (0 < (k : Int))) (.bool (decide ((n : Int) = 0))), gv ((decide (0 < (k : Int))) && (!(decide ((n : Int) = 0)))) (.int .i64 (k : Int)), gv ((decide (0 < (k : Int))) && (!(decide ((n : Int) = 0)))) (.int .i64 (a : Int)), gv ((decide (0 < (k : Int))) && (!(decide ((n : Int) = 0)))) (.int .i64 (n : Int)), gv ((decide (0 < (k : Int))) && (!(decide ((n : Int) = 0)))) (.int .i64 (AN : Int)), gv ((decide (0 < (k : Int))) && (!(decide ((n : Int) = 0)))) (.bool (!decide ((k : Int) = (AN : Int)))), gv (decide (0 < (k : Int))) (.bool ((decide ((n : Int) = 0)) || (!decide ((k : Int) = (AN : Int))))), .bool ((decide (0 < (k : Int))) && ((decide ((n : Int) = 0)) || (!decide ((k : Int) = (AN : Int)))))] : List Value).getD j undef)
              [64, 65, 66, 67, 68, 69, 70, 71, 72, 73, 74, 75, 76]
              [(8, .int .i64 (k : Int)), (6, .int .i64 (n : Int)), (5, .int .i64 (a : Int))] [] 0
              [[], [0], [1], [2], [2, 3], [2, 4], [5], [5], [5], [5, 7, 8], [5, 6, 9], [2, 5, 10], [2, 11]]
              (by kernel_rfl) ⟨rfl, rfl, rfl, trivial⟩ trivial (Below.refl _ _) (fun v v' h hb => h.trans (hb.mono h.size)) (fun _ _ _ _ h _ => h)
              ⟨
              (fun QQ aa ww hS fr kn => sg0 rfl (fun K hK => wp_value (exec_move rfl fr.1) (hK _ _ rfl (Below.refl _ _)))),
              (fun QQ aa ww hS fr kn => sg0 rfl (fun K hK => wp_value (cmp_gt (m := (k : Int)) (n := 0) rfl kn.1 rfl) (hK _ _ rfl (Below.refl _ _)))),
              (fun QQ aa ww hS fr kn => sg0 rfl (fun K hK => wp_value (exec_move rfl kn.1) (hK _ _ rfl (Below.refl _ _)))),
              (fun QQ aa ww hS fr kn => sgT rfl kn.1 (fun hc K hK => wp_value (exec_move rfl fr.2.1) (hK _ _ (gv_t hc).symm (Below.refl _ _))) (fun h0 => (gv_f h0).symm)),
              (fun QQ aa ww hS fr kn => sgT rfl kn.1 (fun hc K hK => wp_value (cmp_eq (m := (n : Int)) (n := 0) rfl (kn.2.1.trans (gv_t hc)) rfl) (hK _ _ (gv_t hc).symm (Below.refl _ _))) (fun h0 => (gv_f h0).symm)),
              (fun QQ aa ww hS fr kn => sgT rfl kn.1 (fun hc K hK => wp_value (exec_move rfl (kn.2.1.trans (gv_t hc))) (hK _ _ (gv_t hc).symm (Below.refl _ _))) (fun h0 => (gv_f h0).symm)),
              (fun QQ aa ww hS fr kn => sgTF rfl kn.1 (fun hc K hK => wp_value (exec_move rfl fr.1) (hK _ _ (gv_t hc).symm (Below.refl _ _))) (fun h0 => (gv_f h0).symm)),
              (fun QQ aa ww hS fr kn => sgTF rfl kn.1 (fun hc K hK => wp_value (exec_move rfl fr.2.2.1) (hK _ _ (gv_t hc).symm (Below.refl _ _))) (fun h0 => (gv_f h0).symm)),
              (fun QQ aa ww hS fr kn => sgTF rfl kn.1 (fun hc K hK => wp_value (exec_move rfl fr.2.1) (hK _ _ (gv_t hc).symm (Below.refl _ _))) (fun h0 => (gv_f h0).symm)),
              (fun QQ aa ww hS fr kn => sgTF rfl kn.1 (fun hc K hK => wp_value (exec_addW (i := a) (m := n) (q := AN) rfl (kn.2.1.trans (gv_t hc)) (kn.2.2.1.trans (gv_t hc)) HANN.out (by omega)) (hK _ _ (gv_t hc).symm (Below.refl _ _))) (fun h0 => (gv_f h0).symm)),
              (fun QQ aa ww hS fr kn => sgTF rfl kn.1 (fun hc K hK => wp_value (cmp_ne (m := (k : Int)) (n := (AN : Int)) rfl (kn.2.1.trans (gv_t hc)) (kn.2.2.1.trans (gv_t hc))) (hK _ _ (gv_t hc).symm (Below.refl _ _))) (fun h0 => (gv_f h0).symm)),
              (fun QQ aa ww hS fr kn => sgT rfl kn.1 (fun hc K hK => wp_value (exec_pickOr rfl (kn.2.1.trans (gv_t hc)) rfl (fun hx => kn.2.2.1.trans (gv_t (an_t hc (nt_t hx))))) (hK _ _ (gv_t hc).symm (Below.refl _ _))) (fun h0 => (gv_f h0).symm)),
              (fun QQ aa ww hS fr kn => sg0 rfl (fun K hK => wp_value (exec_pickAnd rfl kn.1 (fun hx => kn.2.1.trans (gv_t hx)) rfl) (hK _ _ rfl (Below.refl _ _)))),
              trivial⟩ ?_
          intro vs z1 hC1 kn
          have e76 : vs 76 = .bool ((decide (0 < (k : Int))) && ((decide ((n : Int) = 0)) || (!decide ((k : Int) = (AN : Int))))) := kn 12 (by decide)
          clear kn
          simp only [putAll, Act.put, List.setIfInBounds_toArray, List.set_cons_zero, List.set_cons_succ, e76]
          clear e76
          replace gz := SAt.kept gz hC1
          replace hEz := hEz.kept hC1
          replace hBz := hBz.trans (hC1.mono hBz.size)
          rw [HHC.out]
          clear hC1 HW
          cases hCv : C
          · have hco : ¬ (0 < k ∧ (n = 0 ∨ k ≠ a + n)) := fun e => by have := HCC.out.2 e; rw [hCv] at this; cases this
            have hno := HNO.out
            have HDE : Hid (docT pr a n 8 k = [] ++ (hexT (pr k) ++ docT pr a n 8 (k + 1))) := Hid.mk (by rw [docT_one pr a n k hk hno, if_neg hco])
            clear hco hno HCC HNO HHC HROW hCv
            obtain ⟨o1, ho1⟩ : ∃ o1, o = o1 := ⟨_, rfl⟩
            subst ho1
            have HO1L : Hid (lsT o = lsT o ++ []) := Hid.mk (by rw [List.append_nil])
            have HSZ : Hid ((lsT o).length ≤ 39) := Hid.mk (by
              have h1 := congrArg List.length HO.out
              have h2 := HTL.out
              rw [← h1, HDE.out] at h2
              rw [HO1L.out]
              simp only [List.length_append] at h2 ⊢
              omega)
            have hsz1 : o.size ≤ 39 := by rw [← lsT_len]; exact HSZ.out
            obtain ⟨o2, ho2⟩ : ∃ o2, o ++ hexS (pr k) = o2 := ⟨_, rfl⟩
            have HO2 := Hid.mk ho2
            have HO2L : Hid (lsT o2 = lsT o ++ hexT (pr k)) := Hid.mk (by rw [← ho2, lsT_app]; rfl)
            have HZ2 : Hid (o.size + (hexS (pr k)).size ≤ 9223372036854775807) := Hid.mk (by have := HHX.out; omega)
            clear ho2
            have HNX : Hid (lsT o2 ++ docT pr a n 8 (k + 1) = lsT T) := Hid.mk (by rw [HO2L.out, HO1L.out, ← HO.out, HDE.out]; simp only [List.append_assoc, List.nil_append])
            generalize hexS (pr k) = HX at *
            generalize pr k = PK at *
            go_wp2_with (first | (refine wl_value rfl (look_st rfl isAddr gz (by rfl)) ?_) | (go_at_call 26; refine (HPK.out _).mono ?_; rintro e z2 ⟨rfl, hC2⟩; refine Hid.out ?_))
            refine Hid.mk ?_
            have HE2 := Hid.mk (hEz.kept hC2)
            go_wp2_with (go_at_call 25; refine (HFI.out _ HE2.out).mono ?_; rintro e z3 ⟨rfl, hC3⟩; refine Hid.out ?_)
            refine Hid.mk ?_
            have hCa := hC2.trans (hC3.mono hC2.size)
            have HW3 : Hid (SAt z3 g 24 17 (adV true b) ∧ Env z3 ∧ Below w.heap.size w z3) := Hid.mk ⟨SAt.kept gz hCa, hEz.kept hCa, hBz.trans (hCa.mono hBz.size)⟩
            clear hC2 hC3 hCa HE2
            go_wp2_with (refine wl_value rfl (exec_catV (s := o) (t := HX) HO2.out rfl (by rfl) (by rfl) HZ2.out) ?_)
            go_roundg (8 - (k + 1))
            case rel => exact ⟨k + 1, o2, Hid.mk (by omega), rfl, by go_num, HNX, HW3⟩
            case measure => have := HGK.out; omega
          · have hco : 0 < k ∧ (n = 0 ∨ k ≠ a + n) := HCC.out.1 hCv
            have hno := HNO.out
            have HDE : Hid (docT pr a n 8 k = [58] ++ (hexT (pr k) ++ docT pr a n 8 (k + 1))) := Hid.mk (by rw [docT_one pr a n k hk hno, if_pos hco])
            clear hco hno HCC HNO HHC HROW hCv
            obtain ⟨o1, ho1⟩ : ∃ o1, o ++ ⟨#[58]⟩ = o1 := ⟨_, rfl⟩
            have HO1 := Hid.mk ho1
            have HO1L : Hid (lsT o1 = lsT o ++ [58]) := Hid.mk (by rw [← ho1, lsT_app]; rfl)
            have HZ1 : Hid (o.size + (⟨#[58]⟩ : ByteArray).size ≤ 9223372036854775807) := Hid.mk (by have e : (⟨#[58]⟩ : ByteArray).size = 1 := rfl; rw [e]; omega)
            clear ho1
            have HSZ : Hid ((lsT o1).length ≤ 39) := Hid.mk (by
              have h1 := congrArg List.length HO.out
              have h2 := HTL.out
              rw [← h1, HDE.out] at h2
              rw [HO1L.out]
              simp only [List.length_append] at h2 ⊢
              omega)
            have hsz1 : o1.size ≤ 39 := by rw [← lsT_len]; exact HSZ.out
            obtain ⟨o2, ho2⟩ : ∃ o2, o1 ++ hexS (pr k) = o2 := ⟨_, rfl⟩
            have HO2 := Hid.mk ho2
            have HO2L : Hid (lsT o2 = lsT o1 ++ hexT (pr k)) := Hid.mk (by rw [← ho2, lsT_app]; rfl)
            have HZ2 : Hid (o1.size + (hexS (pr k)).size ≤ 9223372036854775807) := Hid.mk (by have := HHX.out; omega)
            clear ho2
            have HNX : Hid (lsT o2 ++ docT pr a n 8 (k + 1) = lsT T) := Hid.mk (by rw [HO2L.out, HO1L.out, ← HO.out, HDE.out]; simp only [List.append_assoc])
            generalize hexS (pr k) = HX at *
            generalize pr k = PK at *
            go_wp2_with (first | (refine wl_value rfl (exec_catV (s := o) (t := ⟨#[58]⟩) HO1.out rfl (by rfl) (by rfl) HZ1.out) ?_) | (refine wl_value rfl (look_st rfl isAddr gz (by rfl)) ?_) | (go_at_call 26; refine (HPK.out _).mono ?_; rintro e z2 ⟨rfl, hC2⟩; refine Hid.out ?_))
            refine Hid.mk ?_
            have HE2 := Hid.mk (hEz.kept hC2)
            go_wp2_with (go_at_call 25; refine (HFI.out _ HE2.out).mono ?_; rintro e z3 ⟨rfl, hC3⟩; refine Hid.out ?_)
            refine Hid.mk ?_
            have hCa := hC2.trans (hC3.mono hC2.size)
            have HW3 : Hid (SAt z3 g 24 17 (adV true b) ∧ Env z3 ∧ Below w.heap.size w z3) := Hid.mk ⟨SAt.kept gz hCa, hEz.kept hCa, hBz.trans (hCa.mono hBz.size)⟩
            clear hC2 hC3 hCa HE2
            go_wp2_with (refine wl_value rfl (exec_catV (s := o1) (t := HX) HO2.out rfl (by rfl) (by rfl) HZ2.out) ?_)
            go_roundg (8 - (k + 1))
            case rel => exact ⟨k + 1, o2, Hid.mk (by omega), rfl, by go_num, HNX, HW3⟩
            case measure => have := HGK.out; omega
        · have hni : ¬ (0 : Int) < (n : Int) := by omega
          have hANl : AN < 9223372036854775808 := by have := HANN.out; have := HAL.out; omega
          go_upto_region 14 with fail
          refine wp_plain_steps (Below z.heap.size z) (fun v v' => Below v.heap.size v v') (fun j vv _ => vv = ([.int .i64 (k : Int), .bool (decide (0 < (k : Int))), .bool (decide (0 < (k : Int))), gv (decide (0 < (k : Int))) (.int .i64 (n : Int)), gv (decide (0 < (k : Int))) (.bool (decide ((n : Int) = 0))), gv (decide (0 < (k : Int))) (.bool (decide ((n : Int) = 0))), gv ((decide (0 < (k : Int))) && (!(decide ((n : Int) = 0)))) (.int .i64 (k : Int)), gv ((decide (0 < (k : Int))) && (!(decide ((n : Int) = 0)))) (.int .i64 (a : Int)), gv ((decide (0 < (k : Int))) && (!(decide ((n : Int) = 0)))) (.int .i64 (n : Int)), gv ((decide (0 < (k : Int))) && (!(decide ((n : Int) = 0)))) (.int .i64 (AN : Int)), gv ((decide (0 < (k : Int))) && (!(decide ((n : Int) = 0)))) (.bool (!decide ((k : Int) = (AN : Int)))), gv (decide (0 < (k : Int))) (.bool ((decide ((n : Int) = 0)) || (!decide ((k : Int) = (AN : Int))))), .bool ((decide (0 < (k : Int))) && ((decide ((n : Int) = 0)) || (!decide ((k : Int) = (AN : Int)))))] : List Value).getD j undef)
              [64, 65, 66, 67, 68, 69, 70, 71, 72, 73, 74, 75, 76]
              [(8, .int .i64 (k : Int)), (6, .int .i64 (n : Int)), (5, .int .i64 (a : Int))] [] 0
              [[], [0], [1], [2], [2, 3], [2, 4], [5], [5], [5], [5, 7, 8], [5, 6, 9], [2, 5, 10], [2, 11]]
              (by kernel_rfl) ⟨rfl, rfl, rfl, trivial⟩ trivial (Below.refl _ _) (fun v v' h hb => h.trans (hb.mono h.size)) (fun _ _ _ _ h _ => h)
              ⟨
              (fun QQ aa ww hS fr kn => sg0 rfl (fun K hK => wp_value (exec_move rfl fr.1) (hK _ _ rfl (Below.refl _ _)))),
              (fun QQ aa ww hS fr kn => sg0 rfl (fun K hK => wp_value (cmp_gt (m := (k : Int)) (n := 0) rfl kn.1 rfl) (hK _ _ rfl (Below.refl _ _)))),
              (fun QQ aa ww hS fr kn => sg0 rfl (fun K hK => wp_value (exec_move rfl kn.1) (hK _ _ rfl (Below.refl _ _)))),
              (fun QQ aa ww hS fr kn => sgT rfl kn.1 (fun hc K hK => wp_value (exec_move rfl fr.2.1) (hK _ _ (gv_t hc).symm (Below.refl _ _))) (fun h0 => (gv_f h0).symm)),
              (fun QQ aa ww hS fr kn => sgT rfl kn.1 (fun hc K hK => wp_value (cmp_eq (m := (n : Int)) (n := 0) rfl (kn.2.1.trans (gv_t hc)) rfl) (hK _ _ (gv_t hc).symm (Below.refl _ _))) (fun h0 => (gv_f h0).symm)),
              (fun QQ aa ww hS fr kn => sgT rfl kn.1 (fun hc K hK => wp_value (exec_move rfl (kn.2.1.trans (gv_t hc))) (hK _ _ (gv_t hc).symm (Below.refl _ _))) (fun h0 => (gv_f h0).symm)),
              (fun QQ aa ww hS fr kn => sgTF rfl kn.1 (fun hc K hK => wp_value (exec_move rfl fr.1) (hK _ _ (gv_t hc).symm (Below.refl _ _))) (fun h0 => (gv_f h0).symm)),
              (fun QQ aa ww hS fr kn => sgTF rfl kn.1 (fun hc K hK => wp_value (exec_move rfl fr.2.2.1) (hK _ _ (gv_t hc).symm (Below.refl _ _))) (fun h0 => (gv_f h0).symm)),
              (fun QQ aa ww hS fr kn => sgTF rfl kn.1 (fun hc K hK => wp_value (exec_move rfl fr.2.1) (hK _ _ (gv_t hc).symm (Below.refl _ _))) (fun h0 => (gv_f h0).symm)),
              (fun QQ aa ww hS fr kn => sgTF rfl kn.1 (fun hc K hK => wp_value (exec_addW (i := a) (m := n) (q := AN) rfl (kn.2.1.trans (gv_t hc)) (kn.2.2.1.trans (gv_t hc)) HANN.out (by omega)) (hK _ _ (gv_t hc).symm (Below.refl _ _))) (fun h0 => (gv_f h0).symm)),
              (fun QQ aa ww hS fr kn => sgTF rfl kn.1 (fun hc K hK => wp_value (cmp_ne (m := (k : Int)) (n := (AN : Int)) rfl (kn.2.1.trans (gv_t hc)) (kn.2.2.1.trans (gv_t hc))) (hK _ _ (gv_t hc).symm (Below.refl _ _))) (fun h0 => (gv_f h0).symm)),
              (fun QQ aa ww hS fr kn => sgT rfl kn.1 (fun hc K hK => wp_value (exec_pickOr rfl (kn.2.1.trans (gv_t hc)) rfl (fun hx => kn.2.2.1.trans (gv_t (an_t hc (nt_t hx))))) (hK _ _ (gv_t hc).symm (Below.refl _ _))) (fun h0 => (gv_f h0).symm)),
              (fun QQ aa ww hS fr kn => sg0 rfl (fun K hK => wp_value (exec_pickAnd rfl kn.1 (fun hx => kn.2.1.trans (gv_t hx)) rfl) (hK _ _ rfl (Below.refl _ _)))),
              trivial⟩ ?_
          intro vs z1 hC1 kn
          have e76 : vs 76 = .bool ((decide (0 < (k : Int))) && ((decide ((n : Int) = 0)) || (!decide ((k : Int) = (AN : Int))))) := kn 12 (by decide)
          clear kn
          simp only [putAll, Act.put, List.setIfInBounds_toArray, List.set_cons_zero, List.set_cons_succ, e76]
          clear e76
          replace gz := SAt.kept gz hC1
          replace hEz := hEz.kept hC1
          replace hBz := hBz.trans (hC1.mono hBz.size)
          rw [HHC.out]
          clear hC1 HW
          cases hCv : C
          · have hco : ¬ (0 < k ∧ (n = 0 ∨ k ≠ a + n)) := fun e => by have := HCC.out.2 e; rw [hCv] at this; cases this
            have hno := HNO.out
            have HDE : Hid (docT pr a n 8 k = [] ++ (hexT (pr k) ++ docT pr a n 8 (k + 1))) := Hid.mk (by rw [docT_one pr a n k hk hno, if_neg hco])
            clear hco hno HCC HNO HHC HROW hCv
            obtain ⟨o1, ho1⟩ : ∃ o1, o = o1 := ⟨_, rfl⟩
            subst ho1
            have HO1L : Hid (lsT o = lsT o ++ []) := Hid.mk (by rw [List.append_nil])
            have HSZ : Hid ((lsT o).length ≤ 39) := Hid.mk (by
              have h1 := congrArg List.length HO.out
              have h2 := HTL.out
              rw [← h1, HDE.out] at h2
              rw [HO1L.out]
              simp only [List.length_append] at h2 ⊢
              omega)
            have hsz1 : o.size ≤ 39 := by rw [← lsT_len]; exact HSZ.out
            obtain ⟨o2, ho2⟩ : ∃ o2, o ++ hexS (pr k) = o2 := ⟨_, rfl⟩
            have HO2 := Hid.mk ho2
            have HO2L : Hid (lsT o2 = lsT o ++ hexT (pr k)) := Hid.mk (by rw [← ho2, lsT_app]; rfl)
            have HZ2 : Hid (o.size + (hexS (pr k)).size ≤ 9223372036854775807) := Hid.mk (by have := HHX.out; omega)
            clear ho2
            have HNX : Hid (lsT o2 ++ docT pr a n 8 (k + 1) = lsT T) := Hid.mk (by rw [HO2L.out, HO1L.out, ← HO.out, HDE.out]; simp only [List.append_assoc, List.nil_append])
            generalize hexS (pr k) = HX at *
            generalize pr k = PK at *
            go_wp2_with (first | (refine wl_value rfl (look_st rfl isAddr gz (by rfl)) ?_) | (go_at_call 26; refine (HPK.out _).mono ?_; rintro e z2 ⟨rfl, hC2⟩; refine Hid.out ?_))
            refine Hid.mk ?_
            have HE2 := Hid.mk (hEz.kept hC2)
            go_wp2_with (go_at_call 25; refine (HFI.out _ HE2.out).mono ?_; rintro e z3 ⟨rfl, hC3⟩; refine Hid.out ?_)
            refine Hid.mk ?_
            have hCa := hC2.trans (hC3.mono hC2.size)
            have HW3 : Hid (SAt z3 g 24 17 (adV true b) ∧ Env z3 ∧ Below w.heap.size w z3) := Hid.mk ⟨SAt.kept gz hCa, hEz.kept hCa, hBz.trans (hCa.mono hBz.size)⟩
            clear hC2 hC3 hCa HE2
            go_wp2_with (refine wl_value rfl (exec_catV (s := o) (t := HX) HO2.out rfl (by rfl) (by rfl) HZ2.out) ?_)
            go_roundg (8 - (k + 1))
            case rel => exact ⟨k + 1, o2, Hid.mk (by omega), rfl, by go_num, HNX, HW3⟩
            case measure => have := HGK.out; omega
          · have hco : 0 < k ∧ (n = 0 ∨ k ≠ a + n) := HCC.out.1 hCv
            have hno := HNO.out
            have HDE : Hid (docT pr a n 8 k = [58] ++ (hexT (pr k) ++ docT pr a n 8 (k + 1))) := Hid.mk (by rw [docT_one pr a n k hk hno, if_pos hco])
            clear hco hno HCC HNO HHC HROW hCv
            obtain ⟨o1, ho1⟩ : ∃ o1, o ++ ⟨#[58]⟩ = o1 := ⟨_, rfl⟩
            have HO1 := Hid.mk ho1
            have HO1L : Hid (lsT o1 = lsT o ++ [58]) := Hid.mk (by rw [← ho1, lsT_app]; rfl)
            have HZ1 : Hid (o.size + (⟨#[58]⟩ : ByteArray).size ≤ 9223372036854775807) := Hid.mk (by have e : (⟨#[58]⟩ : ByteArray).size = 1 := rfl; rw [e]; omega)
            clear ho1
            have HSZ : Hid ((lsT o1).length ≤ 39) := Hid.mk (by
              have h1 := congrArg List.length HO.out
              have h2 := HTL.out
              rw [← h1, HDE.out] at h2
              rw [HO1L.out]
              simp only [List.length_append] at h2 ⊢
              omega)
            have hsz1 : o1.size ≤ 39 := by rw [← lsT_len]; exact HSZ.out
            obtain ⟨o2, ho2⟩ : ∃ o2, o1 ++ hexS (pr k) = o2 := ⟨_, rfl⟩
            have HO2 := Hid.mk ho2
            have HO2L : Hid (lsT o2 = lsT o1 ++ hexT (pr k)) := Hid.mk (by rw [← ho2, lsT_app]; rfl)
            have HZ2 : Hid (o1.size + (hexS (pr k)).size ≤ 9223372036854775807) := Hid.mk (by have := HHX.out; omega)
            clear ho2
            have HNX : Hid (lsT o2 ++ docT pr a n 8 (k + 1) = lsT T) := Hid.mk (by rw [HO2L.out, HO1L.out, ← HO.out, HDE.out]; simp only [List.append_assoc])
            generalize hexS (pr k) = HX at *
            generalize pr k = PK at *
            go_wp2_with (first | (refine wl_value rfl (exec_catV (s := o) (t := ⟨#[58]⟩) HO1.out rfl (by rfl) (by rfl) HZ1.out) ?_) | (refine wl_value rfl (look_st rfl isAddr gz (by rfl)) ?_) | (go_at_call 26; refine (HPK.out _).mono ?_; rintro e z2 ⟨rfl, hC2⟩; refine Hid.out ?_))
            refine Hid.mk ?_
            have HE2 := Hid.mk (hEz.kept hC2)
            go_wp2_with (go_at_call 25; refine (HFI.out _ HE2.out).mono ?_; rintro e z3 ⟨rfl, hC3⟩; refine Hid.out ?_)
            refine Hid.mk ?_
            have hCa := hC2.trans (hC3.mono hC2.size)
            have HW3 : Hid (SAt z3 g 24 17 (adV true b) ∧ Env z3 ∧ Below w.heap.size w z3) := Hid.mk ⟨SAt.kept gz hCa, hEz.kept hCa, hBz.trans (hCa.mono hBz.size)⟩
            clear hC2 hC3 hCa HE2
            go_wp2_with (refine wl_value rfl (exec_catV (s := o1) (t := HX) HO2.out rfl (by rfl) (by rfl) HZ2.out) ?_)
            go_roundg (8 - (k + 1))
            case rel => exact ⟨k + 1, o2, Hid.mk (by omega), rfl, by go_num, HNX, HW3⟩
            case measure => have := HGK.out; omega
    · have hk2 : k = 8 := by have := HGK.out; omega
      subst hk2
      go_wp2_with fail
      exact bodyPost_ret (results_two rfl (by rfl) (by rfl)) rfl ⟨by rw [show o = T from lsT_inj (by have := HO.out; rwa [docT_end, List.append_nil] at this)]; rfl, HW.out.2.2⟩
end Go.Proofs.YtdlepeogmjmleaaDoor
