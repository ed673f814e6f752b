/-
  Own text. The document's Parse.
-/
import Derived.Test.YtklgpmpmolphaaaDoorJ4
import Derived.Test.YtklgpmpmolphaaaDoorJ5
namespace Go.Proofs.YtklgpmpmolphaaaDoor
open Go.RowKit Go.Proofs Go.Lib
set_option maxRecDepth 100000
/-- No :: begins among the first i bytes. -/
def CutI (L : List UInt8) (i : Nat) : Prop := cutDD L = match cutDD (L.drop i) with
  | none => none
  | some (h, t) => some (L.take i ++ h, t)
theorem cutI_0 (L : List UInt8) : CutI L 0 := by
  unfold CutI
  rw [List.drop_zero]
  cases h : cutDD L with
  | none => rfl
  | some q => simp
theorem cutI_next {L : List UInt8} {i : Nat} {x y : UInt8} {m : List UInt8} (h : CutI L i) (h1 : L.drop i = x :: L.drop (i + 1)) (h2 : L.drop (i + 1) = y :: m) (hn : ¬ (x = 58 ∧ y = 58)) : CutI L (i + 1) := by
  unfold CutI at h ⊢
  have ht : L.take (i + 1) = L.take i ++ [x] := by
    rw [List.take_add_one, ← List.head?_drop, h1]
    rfl
  rw [h, h1, h2, cutDD, if_neg hn, ← h2]
  cases hc : cutDD (L.drop (i + 1)) with
  | none => rfl
  | some q =>
    obtain ⟨a, b⟩ := q
    show some (L.take i ++ x :: a, b) = some (L.take (i + 1) ++ a, b)
    rw [ht]
    simp
theorem cutI_hit {L : List UInt8} {i : Nat} {m : List UInt8} (h : CutI L i) (h1 : L.drop i = 58 :: 58 :: m) : cutDD L = some (L.take i, L.drop (i + 2)) := by
  unfold CutI at h
  have h2 : L.drop (i + 2) = m := by
    rw [← List.drop_drop, h1]
    rfl
  rw [h, h1, cutDD, if_pos ⟨rfl, rfl⟩, h2]
  simp
theorem cutI_end {L : List UInt8} {i : Nat} (h : CutI L i) (hl : L.length ≤ i + 1) : cutDD L = none := by
  unfold CutI at h
  rw [h]
  have : (L.drop i).length ≤ 1 := by rw [List.length_drop]; omega
  cases hd : L.drop i with
  | nil => rfl
  | cons x l =>
    rw [hd] at this
    cases l with
    | nil => rfl
    | cons y m => simp at this
theorem run_apn_none {w : World} {B : Nat} {v : Value} {n : Nat} {xs : List Value} (ty : TypeId) (c : Nat) (hown : w.ownsRow B 3 1 v n xs) : (Builtin.append_ #[63, 63] ty #[v, .slice none 0 c]).run Tryd.prog w = .ok v w := by
  obtain ⟨i, hi, _⟩ := info_parts infoInt
  rcases hown.2 with ⟨rfl, rfl⟩ | ⟨g, cap, cur, rfl, _, _, hnc, _⟩
  · simp [Builtin.append_, run_underlying Tryd.underlying63, sizeOf, typeInfo, hi, Builtin.lenOf, Builtin.firstCells]
  · simp [Builtin.append_, run_underlying Tryd.underlying63, sizeOf, typeInfo, hi, Builtin.lenOf, Builtin.firstCells, hnc, storeCells]
theorem split_len (c : UInt8) : ∀ l : List UInt8, (splitC c l).length ≤ l.length + 1
  | [] => by simp [splitC]
  | x :: l => by
    have ih := split_len c l
    unfold splitC
    split
    · simp; omega
    · cases hs : splitC c l with
      | nil => simp
      | cons q t =>
        rw [hs] at ih
        simp at ih ⊢
        omega
theorem pairs_len {s : List UInt8} {P : List Nat} (h : pairsV s = some P) : P.length ≤ s.length + 1 := by
  unfold pairsV at h
  split at h
  · injection h with h
    subst h
    simp
  · rw [allO_len _ _ h]
    exact split_len 58 s
/-- append of numbers of another row. -/
theorem ap_ownN {ops : Array Oper} {rest : List Oper} {o : Oper} {a : Act} {w : World} {Q : Exit → Act → World → Prop} {s z : Operand} (hgd : o.guard = none) (ho : o.op = .call { callee := .builtin .append, args := #[s, z], argTypes := #[63, 63] })
    {B C : Nat} {P R : List Nat} {v u : Value} (hs : a.eval s = v) (hx : a.eval z = u) (hD : OwnN w B v P) (hE : OwnN w C u R) (hl : P.length + R.length < 100000000) (hB : B ≤ w.heap.size)
    (h : ∀ v' w', OwnN w' B v' (P ++ R) → Below B w w' → wpList Tryd.prog ops Q rest (a.put o.dst v') w') : wpList Tryd.prog ops Q (o :: rest) a w := by
  rcases hE.2 with ⟨rfl, h0⟩ | ⟨g, cap, cur, rfl, _, hg, _, _, hsz, htk⟩
  · have hR : R = [] := List.length_eq_zero_iff.1 h0
    subst hR
    refine wpList_plain hgd fun K hK => ?_
    have hrun := run_apn_none o.type 0 hD
    unfold Oper.wp
    simp [execOp, ho, resolve, invoke, builtin, hs, hx, hrun, Result.andThen]
    exact hK _ _ (h v w (by simpa using hD) (Below.refl _ _))
  · refine ap_nums hgd ho hs hx hD (fun j hj => ?_) hl hB h
    rw [cell_of_row w g j _ _ _ hg]
    rw [Nat.mul_one] at htk
    have h1 : (nnV R)[j]? = some (.int .i64 ((R.getD j 0 : Nat) : Int)) := by
      unfold nnV
      rw [List.getElem?_map, List.getElem?_eq_getElem hj, List.getD_eq_getElem?_getD, List.getElem?_eq_getElem hj]
      rfl
    rw [← htk, List.getElem?_take, if_pos hj] at h1
    simpa using h1
theorem OwnN.cell {w : World} {B : Nat} {v : Value} {P : List Nat} (h : OwnN w B v P) (hP : 0 < P.length) : ∃ g c, v = .slice (some ⟨g, 0, none⟩) P.length c ∧ B ≤ g ∧ ∀ i, i < P.length → w.cell? ⟨g, i, none⟩ = some (.int .i64 ((P.getD i 0 : Nat) : Int)) := by
  have h' : w.ownsRow B 3 1 v P.length (nums .i64 P.length (fun i => ((P.getD i 0 : Nat) : Int))) := by rw [← nnV_nums]; exact h
  obtain ⟨g, c, e, hg, _, hr⟩ := own_row h' hP
  exact ⟨g, c, e, hg, fun i hi => hr.cell i hi⟩
theorem exec_lenN {a : Act} {o : Oper} {w : World} {x : Operand} (ho : o.op = .call { callee := .builtin .len, args := #[x], argTypes := #[63] }) {ad : Option Addr} {n c : Nat} (hx : a.eval x = .slice ad n c) : (execOp a.eval o).run Tryd.prog w = .ok (.value (.int .i64 (n : Int))) w := by
  have hr : (Builtin.len_ #[63] o.type #[.slice ad n c]).run Tryd.prog w = .ok (goInt n) w := by simp [go_sem]
  simp [execOp, ho, resolve, invoke, builtin, hx, hr, goInt]
theorem sizeN1 (w : World) : (sizeOf (Tryd.prog.elem 63)).run Tryd.prog w = .ok 1 w := by kernel_rfl
theorem exec_ixN {a : Act} {o : Oper} {w : World} {x y : Operand} (ho : o.op = .indexAddr 63 x y) {b f n c i : Nat} (hx : a.eval x = .slice (some ⟨b, f, none⟩) n c) (hy : a.eval y = .int .i64 (i : Int)) (hi : i < n) : (execOp a.eval o).run Tryd.prog w = .ok (.value (.pointer (some ⟨b, f + i, none⟩))) w := exec_idx ho (by kernel_rfl) sizeN1 hx hy hi
theorem exec_ixN0 {a : Act} {o : Oper} {w : World} {x y : Operand} (ho : o.op = .indexAddr 63 x y) {b n c i : Nat} (hx : a.eval x = .slice (some ⟨b, 0, none⟩) n c) (hy : a.eval y = .int .i64 (i : Int)) (hi : i < n) : (execOp a.eval o).run Tryd.prog w = .ok (.value (.pointer (some ⟨b, i, none⟩))) w := by
  have h := exec_ixN (w := w) ho hx hy hi
  rw [Nat.zero_add] at h
  exact h
set_option maxHeartbeats 64000000 in
theorem rParse_run (T : ByteArray) (w : World) (hT : T.size ≤ 1100000) (hp : Pow w) : Calls Tryd.prog 31 #[.string T] w fun e w' => ParseQ (parV (lsT T)) e ∧ Below w.heap.size w w' := by
  have HPV : Hid (∀ l, fourV (lsT T) = some l → parV (lsT T) = some (false, l)) := Hid.mk (fun l e => by unfold parV; rw [e])
  have HPS : Hid (∀ l, fourV (lsT T) = none → sixV (lsT T) = some l → parV (lsT T) = some (true, l)) := Hid.mk (fun l e e2 => by unfold parV; rw [e, e2])
  have HPN : Hid (fourV (lsT T) = none → sixV (lsT T) = none → parV (lsT T) = none) := Hid.mk (fun e e2 => by unfold parV; rw [e, e2])
  have HRF : Hid (∀ ww, Pow ww → Calls Tryd.prog 45 #[.string T] ww fun e w' => FourQ (fourV (lsT T)) e ∧ Below ww.heap.size ww w') := Hid.mk (fun ww h => rfour_run T ww (by omega) h)
  generalize parV (lsT T) = R at *
  obtain ⟨N, hN⟩ : ∃ N, T.size = N := ⟨_, rfl⟩
  have HNN := Hid.mk hN
  rw [hN] at hT
  have HP := Hid.mk hp
  clear hp
  go_enter Tryd.func31, Tryd.ntmps31
  go_wp2_with (refine wl_alO rfl rfl zeroAddr ?_; intro g2 u1 hg2 q2 hB1; refine Hid.out ?_)
  refine Hid.mk ?_
  go_wp2_with fail
  refine (HRF.out u1 (HP.out.kept hB1)).mono ?_
  rintro e u2 ⟨hFQ, hB2⟩
  have q2a := SAt.kept q2 hB2
  have hBa : Below w.heap.size w u2 := hB1.trans (hB2.mono hB1.size)
  clear q2 hB1 hB2 HRF
  rcases hFQ with ⟨l, hl, rfl⟩ | ⟨hl, rfl⟩
  · have HR := Hid.mk (HPV.out l hl)
    go_wp2_with (first | (refine wl_value rfl (exec_ext rfl (by rfl) rfl) ?_) | (refine wl_alO rfl rfl zeroAddr ?_; intro g4 u3 hg4 q4 hB3; refine Hid.out ?_))
    refine Hid.mk ?_
    go_wp2_with (refine st_stO rfl rfl isAddr (adV_one _ _) q4 (by rfl) (by rfl) ?_; intro u4 q4b o4; refine Hid.out ?_)
    refine Hid.mk ?_
    have h24 : g2 ≠ g4 := by have := SAt.lt q2a; omega
    have q2b := (SAt.kept q2a hB3).only o4 h24
    have hBb : Below w.heap.size w u4 := hBa.trans ((hB3.trans (o4.below hg4)).mono hBa.size)
    go_wp2_with (first | (refine wl_value rfl (look_st rfl isAddr q4b (by rfl)) ?_) | (refine st_stO rfl rfl isAddr (adV_one _ _) q2b (by rfl) (by rfl) ?_; intro u5 q5 o5; refine Hid.out ?_))
    refine Hid.mk ?_
    go_wp2_with fail
    exact bodyPost_ret (res_ct rfl isAddr q5 (by rfl) (by rfl)) rfl ⟨.inl ⟨l, HR.out, rfl⟩, hBb.trans (o5.below hg2)⟩
  · have HSIX : Hid ((∀ l, sixV (lsT T) = some l → R = some (true, l)) ∧ (sixV (lsT T) = none → R = none)) := Hid.mk ⟨fun l e => HPS.out l hl e, fun e => HPN.out hl e⟩
    clear HPV HPS HPN hl
    go_wp2_with (first | (refine wl_value rfl (exec_ext rfl (by rfl) rfl) ?_) | (refine wl_alO rfl rfl zeroAddr ?_; intro g4 u3 hg4 q4 hB3; refine Hid.out ?_))
    refine Hid.mk ?_
    go_wp2_with (refine st_stO rfl rfl isAddr (adV_one _ _) q4 (by rfl) (by rfl) ?_; intro u4 q4b o4; refine Hid.out ?_)
    refine Hid.mk ?_
    have h24 : g2 ≠ g4 := by have := SAt.lt q2a; omega
    have q2b := (SAt.kept q2a hB3).only o4 h24
    have hBb : Below w.heap.size w u4 := hBa.trans ((hB3.trans (o4.below hg4)).mono hBa.size)
    clear q2a hB3 o4 q4 q4b hBa hg4 h24
    go_upto_block 0 with fail
    go_cut [6, 7] (fun s6 s7 z => ∃ AT : Int, s6 = .int .i64 AT ∧ z = u4 ∧ Hid ((AT = -1 ∧ cutDD (lsT T) = none) ∨ ∃ i : Nat, AT = (i : Int) ∧ i + 2 ≤ N ∧ cutDD (lsT T) = some ((lsT T).take i, (lsT T).drop (i + 2))))
    case first =>
      as_aux_lemma =>
        go_wp2_with fail
        go_loopg [6, 7] N (fun gm s6 s7 z => ∃ i : Nat, gm = N - i ∧ i ≤ N ∧ s7 = .int .i64 (i : Int) ∧ s6 = .int .i64 (-1) ∧ Hid (CutI (lsT T) i) ∧ z = u4)
        case atStart => exact ⟨0, rfl, by omega, rfl, rfl, Hid.mk (cutI_0 _), rfl⟩
        case round =>
          obtain ⟨i, hgm, hi, rfl, rfl, HI, hz⟩ := hrel
          subst hz
          have b1 : (i : Int) + 1 ≤ 9223372036854775807 := by omega
          by_cases hlt : i + 1 < N
          · have hlti : (i : Int) + 1 < (N : Int) := by omega
            obtain ⟨x, hdx, htx⟩ := lsT_at (s := T) (i := i) (by omega)
            obtain ⟨y, hdy, hty⟩ := lsT_at (s := T) (i := i + 1) (by omega)
            have HXY := Hid.mk (And.intro htx hty)
            have HDD := Hid.mk (And.intro hdx hdy)
            clear htx hty hdx hdy
            have hi1 : ((i + 1 : Nat) : Int) = (i : Int) + 1 := by omega
            have HI1 := Hid.mk hi1
            clear hi1
            by_cases hx : x = 58
            · subst hx
              have e58 : (((58 : UInt8).toNat : Nat) : Int) = 58 := rfl
              by_cases hy : y = 58
              · subst hy
                have HHIT := Hid.mk (cutI_hit (m := (lsT T).drop (i + 2)) HI.out (by rw [HDD.out.1, HDD.out.2]))
                go_wp2_with (first | (refine wl_value rfl (exec_ixs (j := i) rfl (by rfl) (by rfl) (by rw [HNN.out]; omega)) ?_; simp only [HXY.out.1, e58]) | (refine wl_value rfl (exec_addW (i := i) (m := 1) (q := i + 1) rfl (by rfl) (by rfl) rfl (by omega)) ?_) | (refine wl_value rfl (exec_ixs (j := i + 1) rfl (by rfl) (by rfl) (by rw [HNN.out]; omega)) ?_; simp only [HXY.out.2, e58]))
                go_meet
                case rel => exact ⟨(i : Int), rfl, rfl, Hid.mk (.inr ⟨i, rfl, by omega, HHIT.out⟩)⟩
              · have hyb : ((y.toNat : Int) == 58) = false := beq_eq_false_iff_ne.2 (fun e => hy (UInt8.toNat_inj.1 (by have : (58 : UInt8).toNat = 58 := rfl; omega)))
                have HX := Hid.mk (cutI_next HI.out HDD.out.1 HDD.out.2 (fun e => hy e.2))
                go_wp2_with (first | (refine wl_value rfl (exec_ixs (j := i) rfl (by rfl) (by rfl) (by rw [HNN.out]; omega)) ?_; simp only [HXY.out.1, e58]) | (refine wl_value rfl (exec_addW (i := i) (m := 1) (q := i + 1) rfl (by rfl) (by rfl) rfl (by omega)) ?_) | (refine wl_value rfl (exec_ixs (j := i + 1) rfl (by rfl) (by rfl) (by rw [HNN.out]; omega)) ?_; simp only [HXY.out.2]))
                go_roundg (N - (i + 1))
                case rel => exact ⟨i + 1, rfl, by omega, by first | rfl | go_num, rfl, HX, rfl⟩
                case measure => omega
            · have hxb : ((x.toNat : Int) == 58) = false := beq_eq_false_iff_ne.2 (fun e => hx (UInt8.toNat_inj.1 (by have : (58 : UInt8).toNat = 58 := rfl; omega)))
              have HX := Hid.mk (cutI_next HI.out HDD.out.1 HDD.out.2 (fun e => hx e.1))
              go_wp2_with (refine wl_value rfl (exec_ixs (j := i) rfl (by rfl) (by rfl) (by rw [HNN.out]; omega)) ?_; simp only [HXY.out.1])
              go_roundg (N - (i + 1))
              case rel => exact ⟨i + 1, rfl, by omega, by go_num, rfl, HX, rfl⟩
              case measure => omega
          · have hlti : ¬ (i : Int) + 1 < (N : Int) := by omega
            have HE := Hid.mk (cutI_end HI.out (by rw [lsT_len, HNN.out]; omega))
            go_wp2_with fail
            go_meet
            case rel => exact ⟨-1, rfl, rfl, Hid.mk (.inl ⟨rfl, HE.out⟩)⟩
    case rest =>
      obtain ⟨AT, rfl, hz, HAT⟩ := hcut
      subst hz
      go_upto_if 42 with fail
      go_cut [5, 8, 9, 10, 11, 12] (fun s5 s8 s9 s10 s11 s12 z => ∃ (P : List Nat) (pp : Option Addr) (cc : Nat), s8 = .slice pp 8 cc ∧ P.length = 8 ∧ Hid (OwnN z w.heap.size (.slice pp 8 cc) P ∧ sixV (lsT T) = some P ∧ SAt z g2 40 17 (adV false (fun _ => 0)) ∧ Below w.heap.size w z))
      case first =>
        rcases HAT.out with ⟨rfl, hC⟩ | ⟨i, rfl, hi2, hC⟩
        · have HC := Hid.mk hC
          clear hC HAT
          as_aux_lemma =>
            have HSV : Hid ((∀ P, pairsV (lsT T) = some P → sixV (lsT T) = if P.length = 8 then some P else none) ∧ (pairsV (lsT T) = none → sixV (lsT T) = none)) := Hid.mk ⟨fun P e => by unfold sixV; rw [HC.out, e], fun e => by unfold sixV; rw [HC.out, e]⟩
            go_wp2_with fail
            refine (rpairs_run T _ (by rw [HNN.out]; omega)).mono ?_
            rintro e u5 ⟨hPQ, hB5⟩
            have q2c := SAt.kept q2b hB5
            have hBc : Below w.heap.size w u5 := hBb.trans (hB5.mono hBb.size)
            rcases hPQ with ⟨P, v, hP, rfl, hO⟩ | ⟨hP, rfl⟩
            · obtain ⟨pp, cc, ev⟩ := hO.shape
              subst ev
              by_cases h8 : P.length = 8
              · have h8b : ((P.length : Int) != 8) = false := by rw [h8]; rfl
                have HX : Hid (OwnN u5 w.heap.size (.slice pp P.length cc) P ∧ sixV (lsT T) = some P ∧ SAt u5 g2 40 17 (adV false (fun _ => 0)) ∧ Below w.heap.size w u5) := Hid.mk ⟨hO.mono hBb.size, by rw [HSV.out.1 P hP, if_pos h8], q2c, hBc⟩
                clear hO hP
                go_wp2_with (first | (refine wl_value rfl (exec_ext rfl (by rfl) rfl) ?_) | (refine wl_value rfl (exec_lenN rfl (by rfl)) ?_))
                go_meet
                case rel => exact ⟨P, pp, cc, rfl, h8, by rw [h8] at HX; exact HX⟩
              · have h8b : ((P.length : Int) != 8) = true := bne_iff_ne.2 (by omega)
                have HN : Hid (R = none) := Hid.mk (HSIX.out.2 (by rw [HSV.out.1 P hP, if_neg h8]))
                clear hO hP
                go_wp2_with (first | (refine wl_value rfl (exec_ext rfl (by rfl) rfl) ?_) | (refine wl_value rfl (exec_lenN rfl (by rfl)) ?_) | (refine wl_value rfl (exec_adW0 rfl) ?_) | (refine st_stO rfl rfl isAddr (adV_one _ _) q2c (by rfl) (by rfl) ?_; intro u8 q8 o8; refine Hid.out ?_))
                refine Hid.mk ?_
                go_wp2_with fail
                exact bodyPost_ret (res_ct rfl isAddr q8 (by rfl) (by rfl)) rfl ⟨.inr (.inr ⟨HN.out, rfl⟩), hBc.trans (o8.below hg2)⟩
            · have HN : Hid (R = none) := Hid.mk (HSIX.out.2 (HSV.out.2 hP))
              clear hP
              go_wp2_with (first | (refine wl_value rfl (exec_ext rfl (by rfl) rfl) ?_) | (refine wl_value rfl (exec_lenN rfl (by rfl)) ?_) | (refine wl_value rfl (exec_adW0 rfl) ?_) | (refine st_stO rfl rfl isAddr (adV_one _ _) q2c (by rfl) (by rfl) ?_; intro u8 q8 o8; refine Hid.out ?_))
              refine Hid.mk ?_
              go_wp2_with fail
              exact bodyPost_ret (res_ct rfl isAddr q8 (by rfl) (by rfl)) rfl ⟨.inr (.inr ⟨HN.out, rfl⟩), hBc.trans (o8.below hg2)⟩
        · have HC := Hid.mk hC
          clear hC HAT
          as_aux_lemma =>
            have hs1 : ∀ ww, (Instr.sliceAt 9 (.string T) none (some (.int .i64 (i : Int))) none).run Tryd.prog ww = .ok (.string (T.extract 0 i)) ww := fun ww => strH T i ww (by rw [HNN.out]; omega)
            have hs2 : ∀ ww, (Instr.sliceAt 9 (.string T) (some (.int .i64 ((i + 2 : Nat) : Int))) none none).run Tryd.prog ww = .ok (.string (T.extract (i + 2) T.size)) ww := fun ww => strL T (i + 2) ww (by rw [HNN.out]; omega)
            obtain ⟨A, hA⟩ : ∃ A, T.extract 0 i = A := ⟨_, rfl⟩
            obtain ⟨Z, hZ⟩ : ∃ Z, T.extract (i + 2) T.size = Z := ⟨_, rfl⟩
            have hAl : lsT A = (lsT T).take i := by rw [← hA, lsT_ext]; simp
            have hZl : lsT Z = (lsT T).drop (i + 2) := by rw [← hZ, lsT_ext, List.take_of_length_le (by rw [List.length_drop, lsT_len]; omega)]
            have hAs : A.size ≤ 1100000 := by rw [← lsT_len, hAl, List.length_take, lsT_len, HNN.out]; omega
            have hZs : Z.size ≤ 1100000 := by rw [← lsT_len, hZl, List.length_drop, lsT_len, HNN.out]; omega
            rw [hA] at hs1
            rw [hZ] at hs2
            have HS1 := Hid.mk hs1
            have HS2 := Hid.mk hs2
            have HSV : Hid ((∀ P Q, pairsV (lsT A) = some P → pairsV (lsT Z) = some Q → sixV (lsT T) = if P.length + Q.length ≤ 7 then some (P ++ (List.replicate (8 - P.length - Q.length) 0 ++ Q)) else none) ∧ (pairsV (lsT A) = none ∨ pairsV (lsT Z) = none → sixV (lsT T) = none)) := Hid.mk ⟨fun P Q e1 e2 => by
              rw [hAl] at e1
              rw [hZl] at e2
              unfold sixV
              rw [HC.out]
              show (match pairsV ((lsT T).take i), pairsV ((lsT T).drop (i + 2)) with
                | some a, some b => if a.length + b.length ≤ 7 then some (a ++ (List.replicate (8 - a.length - b.length) 0 ++ b)) else none
                | _, _ => none) = _
              rw [e1, e2], fun e => by
              rw [hAl, hZl] at e
              unfold sixV
              rw [HC.out]
              show (match pairsV ((lsT T).take i), pairsV ((lsT T).drop (i + 2)) with
                | some a, some b => if a.length + b.length ≤ 7 then some (a ++ (List.replicate (8 - a.length - b.length) 0 ++ b)) else none
                | _, _ => none) = _
              rcases e with e | e
              · rw [e]
              · rw [e]
                split
                · rename_i h1 h2
                  cases h2
                · rfl⟩
            clear hs1 hs2 hA hZ hAl hZl HC
            have hi0 : ¬ (i : Int) < 0 := by omega
            go_wp2_with (refine wl_value rfl (exec_slH rfl (by rfl) (by rfl) (HS1.out _)) ?_)
            refine (rpairs_run A _ (by omega)).mono ?_
            rintro e u5 ⟨hPQ, hB5⟩
            have q2c := SAt.kept q2b hB5
            have hBc : Below w.heap.size w u5 := hBb.trans (hB5.mono hBb.size)
            obtain ⟨b1, v1, P, hv1, hPc⟩ : ∃ (b1 : Bool) (v1 : Value) (P : List Nat), e = .returned (.tuple #[v1, .bool b1]) ∧ ((b1 = true ∧ pairsV (lsT A) = some P ∧ OwnN u5 wc.heap.size v1 P) ∨ (b1 = false ∧ pairsV (lsT A) = none ∧ P = [] ∧ OwnN u5 wc.heap.size v1 P)) := by
              rcases hPQ with ⟨P, v, h1, h2, h3⟩ | ⟨h1, h2⟩
              · exact ⟨true, v, P, h2, .inl ⟨rfl, h1, h3⟩⟩
              · exact ⟨false, _, [], h2, .inr ⟨rfl, h1, rfl, OwnN.nil _ _⟩⟩
            subst hv1
            have hO1 : OwnN u5 wc.heap.size v1 P := by
              rcases hPc with h | h
              · exact h.2.2
              · exact h.2.2.2
            obtain ⟨p1, c1, ev1⟩ := hO1.shape
            subst ev1
            have HPC : Hid ((b1 = true → pairsV (lsT A) = some P) ∧ (b1 = false → pairsV (lsT A) = none)) := Hid.mk (by
              rcases hPc with h | h
              · exact ⟨fun _ => h.2.1, fun e => (by rw [h.1] at e; cases e)⟩
              · exact ⟨fun e => (by rw [h.1] at e; cases e), fun _ => h.2.1⟩)
            have HO1 := Hid.mk (hO1.mono hBb.size)
            clear hPQ hPc hO1
            go_wp2_with (first | (refine wl_value rfl (exec_ext rfl (by rfl) rfl) ?_) | (refine wl_value rfl (exec_addW (i := i) (m := 2) (q := i + 2) rfl (by rfl) (by rfl) rfl (by omega)) ?_) | (refine wl_value rfl (exec_slL rfl (by rfl) (by rfl) (HS2.out _)) ?_))
            refine (rpairs_run Z _ (by omega)).mono ?_
            rintro e u6 ⟨hPQ, hB6⟩
            have q2d := SAt.kept q2c hB6
            have hBd : Below w.heap.size w u6 := hBc.trans (hB6.mono hBc.size)
            have HO1b := Hid.mk (HO1.out.kept hB6)
            obtain ⟨b2, v2, Q, hv2, hQc⟩ : ∃ (b2 : Bool) (v2 : Value) (Q : List Nat), e = .returned (.tuple #[v2, .bool b2]) ∧ ((b2 = true ∧ pairsV (lsT Z) = some Q ∧ OwnN u6 u5.heap.size v2 Q) ∨ (b2 = false ∧ pairsV (lsT Z) = none ∧ Q = [] ∧ OwnN u6 u5.heap.size v2 Q)) := by
              rcases hPQ with ⟨P, v, h1, h2, h3⟩ | ⟨h1, h2⟩
              · exact ⟨true, v, P, h2, .inl ⟨rfl, h1, h3⟩⟩
              · exact ⟨false, _, [], h2, .inr ⟨rfl, h1, rfl, OwnN.nil _ _⟩⟩
            subst hv2
            have hO2 : OwnN u6 u5.heap.size v2 Q := by
              rcases hQc with h | h
              · exact h.2.2
              · exact h.2.2.2
            obtain ⟨p2, c2, ev2⟩ := hO2.shape
            subst ev2
            have HQC : Hid ((b2 = true → pairsV (lsT Z) = some Q) ∧ (b2 = false → pairsV (lsT Z) = none)) := Hid.mk (by
              rcases hQc with h | h
              · exact ⟨fun _ => h.2.1, fun e => (by rw [h.1] at e; cases e)⟩
              · exact ⟨fun e => (by rw [h.1] at e; cases e), fun _ => h.2.1⟩)
            have HO2 := Hid.mk hO2
            have hu65 : w.heap.size ≤ u5.heap.size := hBc.size
            clear hPQ hQc hO2 HO1 q2c hB5
            cases b1
            · have HN : Hid (R = none) := Hid.mk (HSIX.out.2 (HSV.out.2 (.inl (HPC.out.2 (by trivial)))))
              cases b2
              · go_wp2_with (first | (refine wl_value rfl (exec_ext rfl (by rfl) rfl) ?_) | (refine wl_value rfl (exec_lenN rfl (by rfl)) ?_) | (refine wl_value rfl (exec_adW0 rfl) ?_) | (refine st_stO rfl rfl isAddr (adV_one _ _) q2d (by rfl) (by rfl) ?_; intro u8 q8 o8; refine Hid.out ?_))
                refine Hid.mk ?_
                go_wp2_with fail
                exact bodyPost_ret (res_ct rfl isAddr q8 (by rfl) (by rfl)) rfl ⟨.inr (.inr ⟨HN.out, rfl⟩), hBd.trans (o8.below hg2)⟩
              · go_wp2_with (first | (refine wl_value rfl (exec_ext rfl (by rfl) rfl) ?_) | (refine wl_value rfl (exec_lenN rfl (by rfl)) ?_) | (refine wl_value rfl (exec_adW0 rfl) ?_) | (refine st_stO rfl rfl isAddr (adV_one _ _) q2d (by rfl) (by rfl) ?_; intro u8 q8 o8; refine Hid.out ?_))
                refine Hid.mk ?_
                go_wp2_with fail
                exact bodyPost_ret (res_ct rfl isAddr q8 (by rfl) (by rfl)) rfl ⟨.inr (.inr ⟨HN.out, rfl⟩), hBd.trans (o8.below hg2)⟩
            · cases b2
              · have HN : Hid (R = none) := Hid.mk (HSIX.out.2 (HSV.out.2 (.inr (HQC.out.2 (by trivial)))))
                go_wp2_with (first | (refine wl_value rfl (exec_ext rfl (by rfl) rfl) ?_) | (refine wl_value rfl (exec_lenN rfl (by rfl)) ?_) | (refine wl_value rfl (exec_adW0 rfl) ?_) | (refine st_stO rfl rfl isAddr (adV_one _ _) q2d (by rfl) (by rfl) ?_; intro u8 q8 o8; refine Hid.out ?_))
                refine Hid.mk ?_
                go_wp2_with fail
                exact bodyPost_ret (res_ct rfl isAddr q8 (by rfl) (by rfl)) rfl ⟨.inr (.inr ⟨HN.out, rfl⟩), hBd.trans (o8.below hg2)⟩
              · have hsix := HSV.out.1 P Q (HPC.out.1 (by trivial)) (HQC.out.1 (by trivial))
                obtain ⟨np, hnp⟩ : ∃ np, P.length = np := ⟨_, rfl⟩
                obtain ⟨nq, hnq⟩ : ∃ nq, Q.length = nq := ⟨_, rfl⟩
                rw [hnp, hnq] at hsix
                have HSX := Hid.mk hsix
                have hpl : np ≤ 1200000 := by
                  have h1 := pairs_len (HPC.out.1 (by trivial))
                  rw [lsT_len, hnp] at h1
                  omega
                have hql : nq ≤ 1200000 := by
                  have h1 := pairs_len (HQC.out.1 (by trivial))
                  rw [lsT_len, hnq] at h1
                  omega
                clear hsix HSV HPC HQC
                rw [hnp] at HO1b ⊢
                rw [hnq] at HO2 ⊢
                have HLP := Hid.mk (And.intro hnp hnq)
                clear hnp hnq
                by_cases h7 : 7 < np + nq
                · have h7i : (7 : Int) < (np : Int) + (nq : Int) := by omega
                  have HN : Hid (R = none) := Hid.mk (HSIX.out.2 (by rw [HSX.out, if_neg (by omega)]))
                  go_wp2_with (first | (refine wl_value rfl (exec_ext rfl (by rfl) rfl) ?_) | (refine wl_value rfl (exec_lenN rfl (by rfl)) ?_) | (refine wl_value rfl (exec_adW0 rfl) ?_) | (refine st_stO rfl rfl isAddr (adV_one _ _) q2d (by rfl) (by rfl) ?_; intro u8 q8 o8; refine Hid.out ?_))
                  refine Hid.mk ?_
                  go_wp2_with fail
                  exact bodyPost_ret (res_ct rfl isAddr q8 (by rfl) (by rfl)) rfl ⟨.inr (.inr ⟨HN.out, rfl⟩), hBd.trans (o8.below hg2)⟩
                · have h7i : ¬ (7 : Int) < (np : Int) + (nq : Int) := by omega
                  have HSY : Hid (sixV (lsT T) = some (P ++ (List.replicate (8 - np - nq) 0 ++ Q))) := Hid.mk (by rw [HSX.out, if_pos (by omega)])
                  clear HSX HSIX
                  have hO1 := HO1b.out
                  go_wp2_with (first | (refine wl_value rfl (exec_ext rfl (by rfl) rfl) ?_) | (refine wl_value rfl (exec_lenN rfl (by rfl)) ?_) | (at_builtin; refine ap_ownN (B := u6.heap.size) (P := []) rfl rfl (by rfl) (by rfl) (OwnN.nil _ _) hO1 (by rw [HLP.out.1]; simp; omega) (Nat.le_refl _) ?_; intro v7 w7 hO7 hB7; refine Hid.out ?_))
                  refine Hid.mk ?_
                  rw [List.nil_append] at hO7
                  obtain ⟨p7, c7, ev7⟩ := hO7.shape
                  rw [HLP.out.1] at ev7
                  subst ev7
                  have HO7 := Hid.mk hO7
                  have hO6 := HO2.out
                  have HQ6 := Hid.mk (And.intro hO6 q2d)
                  obtain ⟨w6, hw6⟩ : ∃ x, u6 = x := ⟨_, rfl⟩
                  rw [hw6] at HO7 hB7 hBd HQ6
                  clear hw6 hO7 hO1 hO6 HO1b HO2 q2d
                  go_wp2_with fail
                  go_loopg [8] (8 - np - nq) (fun gm s8 z => ∃ (k : Nat) (qq : Option Addr) (cq : Nat), gm = 8 - np - nq - k ∧ k ≤ 8 - np - nq ∧ s8 = .slice qq (np + k) cq ∧ Hid (OwnN z w6.heap.size (.slice qq (np + k) cq) (P ++ List.replicate k 0)) ∧ Below w6.heap.size w6 z)
                  case atStart => exact ⟨0, p7, c7, rfl, by omega, rfl, Hid.mk (by simpa using HO7.out), hB7⟩
                  case round =>
                    obtain ⟨k, qq, cq, hgk, hk, rfl, HK, hBk⟩ := hrel
                    clear HO7 hB7
                    by_cases hlt : k < 8 - np - nq
                    · have hlti : ((np + k : Nat) : Int) + (nq : Int) < 8 := by omega
                      have hO := HK.out
                      have hzk : w6.heap.size ≤ wr.heap.size := hBk.size
                      go_wp2_with (first | (refine wl_value rfl (exec_lenN rfl (by rfl)) ?_) | (refine wl_bsI1 rfl rfl (by rfl) ?_; intro gS wS hgS cS hBS; refine Hid.out ?_))
                      refine Hid.mk ?_
                      have hOS := hO.kept hBS
                      go_wp2_with (at_builtin; refine ap_nums (R := [0]) rfl rfl (by rfl) (by rfl) hOS (fun j hj => by obtain rfl : j = 0 := (by simpa using hj); exact cS) (by simp [HLP.out.1]; omega) (Nat.le_trans hzk hBS.size) ?_; intro v9 w9 hO9 hB9; refine Hid.out ?_)
                      refine Hid.mk ?_
                      have e9 : (P ++ List.replicate k 0 ++ [0]).length = np + (k + 1) := by rw [List.length_append, List.length_append, List.length_replicate, HLP.out.1]; rfl
                      obtain ⟨p9, c9, ev9⟩ := hO9.shape
                      rw [e9] at ev9
                      subst ev9
                      have HX : Hid (OwnN w9 w6.heap.size (.slice p9 (np + (k + 1)) c9) (P ++ List.replicate (k + 1) 0)) := Hid.mk (by
                        rw [List.replicate_succ', ← List.append_assoc]
                        exact hO9)
                      have hBX : Below w6.heap.size w6 w9 := hBk.trans ((hBS.mono hBk.size).trans hB9)
                      clear hO hOS hO9 cS hBS hB9 hBk HK e9
                      go_wp2_with fail
                      go_roundg (8 - np - nq - (k + 1))
                      case rel => exact ⟨k + 1, p9, c9, rfl, by omega, rfl, HX, hBX⟩
                      case measure => omega
                    · obtain rfl : k = 8 - np - nq := by omega
                      have hlti : ¬ ((np + (8 - np - nq) : Nat) : Int) + (nq : Int) < 8 := by omega
                      have hO := HK.out
                      have hQz := HQ6.out.1.kept (hBk.mono (Nat.le_refl _))
                      have q2z := SAt.kept HQ6.out.2 hBk
                      go_wp2_with (first | (refine wl_value rfl (exec_lenN rfl (by rfl)) ?_) | (at_builtin; refine ap_ownN rfl rfl (by rfl) (by rfl) hO hQz (by simp [HLP.out.1, HLP.out.2]; omega) hBk.size ?_; intro v9 w9 hO9 hB9; refine Hid.out ?_))
                      refine Hid.mk ?_
                      have e9 : (P ++ List.replicate (8 - np - nq) 0 ++ Q).length = 8 := by rw [List.length_append, List.length_append, List.length_replicate, HLP.out.1, HLP.out.2]; omega
                      obtain ⟨p9, c9, ev9⟩ := hO9.shape
                      rw [e9] at ev9
                      subst ev9
                      have hB9' : Below w6.heap.size w6 w9 := hBk.trans hB9
                      have HX : Hid (OwnN w9 w.heap.size (.slice p9 8 c9) (P ++ List.replicate (8 - np - nq) 0 ++ Q) ∧ sixV (lsT T) = some (P ++ List.replicate (8 - np - nq) 0 ++ Q) ∧ SAt w9 g2 40 17 (adV false (fun _ => 0)) ∧ Below w.heap.size w w9) := Hid.mk ⟨hO9.mono hBd.size, by rw [HSY.out, List.append_assoc], SAt.kept HQ6.out.2 hB9', hBd.trans (hB9'.mono hBd.size)⟩
                      clear hO hQz q2z hO9 hB9 hB9' HK hBk
                      go_wp2_with fail
                      go_meet
                      case rel => exact ⟨_, p9, c9, rfl, e9, HX⟩
      case rest =>
        obtain ⟨P, pp, cc, rfl, h8, HX⟩ := hcut
        as_aux_lemma =>
          obtain ⟨gP, cP, eP, hgP, hcell⟩ := OwnN.cell HX.out.1 (by omega)
          rw [h8] at eP hcell
          injection eP with e1 e2 e3
          subst e1
          clear e2 e3
          have HRR := Hid.mk (HSIX.out.1 P HX.out.2.1)
          have q2z := HX.out.2.2.1
          have hBz := HX.out.2.2.2
          have HCELL := Hid.mk hcell
          have hPl : gP < wc.heap.size := World.block_lt_of_cell? _ _ (hcell 0 (by omega))
          have HPR : Hid (∀ i, i < 8 → P.getD i 0 < 65536) := Hid.mk (fun i hi => by
            have h1 := (six_lt HX.out.2.1).2
            rw [List.getD_eq_getElem?_getD, List.getElem?_eq_getElem (by omega)]
            exact h1 _ (List.getElem_mem _))
          clear HX hcell HSIX
          go_wp2_with (first | (refine wl_value rfl (exec_adW1 (v := true) rfl rfl) ?_) | (refine wl_alO rfl rfl zeroAddr ?_; intro gD wD hgD qD hBD; refine Hid.out ?_))
          refine Hid.mk ?_
          go_wp2_with (refine st_stO rfl rfl isAddr (adV_one _ _) qD (by rfl) (by rfl) ?_; intro wE qE oE; refine Hid.out ?_)
          refine Hid.mk ?_
          have h2D : g2 ≠ gD := by have := SAt.lt q2z; omega
          have hPD : gP ≠ gD := by omega
          have q2e := (SAt.kept q2z hBD).only oE h2D
          have hBe : Below w.heap.size w wE := hBz.trans ((hBD.trans (oE.below hgD)).mono hBz.size)
          have hgDw : w.heap.size ≤ gD := Nat.le_trans hBz.size hgD
          have HCE : Hid (∀ i, i < 8 → wE.cell? ⟨gP, i, none⟩ = some (.int .i64 ((P.getD i 0 : Nat) : Int))) := Hid.mk (fun i hi => by
            have h1 := HCELL.out i hi
            have h2 : wD.cell? ⟨gP, i, none⟩ = some (.int .i64 ((P.getD i 0 : Nat) : Int)) := (hBD.cell (p := ⟨gP, i, none⟩) hPl).trans h1
            rw [World.cell?_of_block (w := wD) (a := ⟨gP, i, none⟩) (oE.block gP hPD)]
            exact h2)
          clear q2z hBz hBD oE qD HCELL hPl hgD
          go_wp2_with fail
          go_loopg [14] (8 : Nat) (fun gm s14 z => ∃ i : Nat, gm = 8 - i ∧ i ≤ 8 ∧ s14 = .int .i64 (i : Int) ∧ Hid (SAt z gD 40 17 (adV true (fun j => if j < 2 * i then prB P j else 0)) ∧ SAt z g2 40 17 (adV false (fun _ => 0)) ∧ (∀ i, i < 8 → z.cell? ⟨gP, i, none⟩ = some (.int .i64 ((P.getD i 0 : Nat) : Int))) ∧ Below w.heap.size w z))
          case atStart => exact ⟨0, rfl, by omega, rfl, Hid.mk ⟨qE.congr (fun j _ => by unfold adV; split <;> simp), q2e, HCE.out, hBe⟩⟩
          case round =>
            obtain ⟨i, hgm, hi, rfl, HS⟩ := hrel
            clear HCE q2e hBe qE
            by_cases hlt : i < 8
            · have hlti : (i : Int) < 8 := by omega
              obtain ⟨m, hm⟩ : ∃ m, P.getD i 0 = m := ⟨_, rfl⟩
              have hml : m < 65536 := by rw [← hm]; exact HPR.out i hlt
              have hcm : wr.cell? ⟨gP, i, none⟩ = some (.int .i64 (m : Int)) := by rw [HS.out.2.2.1 i hlt, hm]
              obtain ⟨hi8, hhi⟩ : ∃ q, m / 256 = q := ⟨_, rfl⟩
              obtain ⟨lo8, hlo⟩ : ∃ q, m % 256 = q := ⟨_, rfl⟩
              obtain ⟨k2, hk2⟩ : ∃ k2, 2 * i = k2 := ⟨_, rfl⟩
              have HQ := Hid.mk (And.intro hhi (And.intro hlo hk2))
              have hh256 : hi8 < 256 := by omega
              have hl256 : lo8 < 256 := by omega
              have hk16 : k2 + 1 < 16 := by omega
              have HM := Hid.mk hm
              clear hhi hlo hk2 hm
              have qz := HS.out.1
              go_wp2_with (first | (refine wl_value rfl (exec_mulW (i := 2) (m := i) rfl (by rfl) (by rfl) HQ.out.2.2 (by omega)) ?_; refine Hid.out ?_))
              refine Hid.mk ?_
              go_wp2_with (first | (refine wl_value rfl (exec_ixN0 (i := i) rfl (by rfl) (by rfl) hlt) ?_; refine Hid.out ?_))
              refine Hid.mk ?_
              go_wp2_with (first | (refine wl_value rfl (exec_ld rfl (by rfl) (load_int hcm)) ?_; refine Hid.out ?_))
              refine Hid.mk ?_
              go_wp2_with (first | (refine wl_value rfl (exec_quoW (i := m) (m := 256) rfl (by rfl) (by rfl) HQ.out.1 (by decide) (by omega)) ?_; refine Hid.out ?_))
              refine Hid.mk ?_
              go_wp2_with (first | (refine wl_value rfl (exec_cvI8 rfl (by rfl) hh256) ?_; refine Hid.out ?_))
              refine Hid.mk ?_
              go_wp2_with (first | (refine wl_value rfl (exec_fadW1 rfl (by rfl)) ?_; refine Hid.out ?_))
              refine Hid.mk ?_
              go_wp2_with (first | (refine wl_value rfl (exec_ixW16 (k := k2) rfl (by rfl) (by rfl) (by omega)) ?_; refine Hid.out ?_))
              refine Hid.mk ?_
              go_wp2_with (first | (refine wl_stA (k := k2) rfl rfl qz (by rfl) (by rfl) (by omega) ?_; intro wF qF oF; refine Hid.out ?_))
              refine Hid.mk ?_
              have hcm2 : wF.cell? ⟨gP, i, none⟩ = some (.int .i64 (m : Int)) := by
                rw [World.cell?_of_block (w := wr) (a := ⟨gP, i, none⟩) (oF.block gP hPD)]
                exact hcm
              go_wp2_with (first | (refine wl_value rfl (exec_mulW (i := 2) (m := i) rfl (by rfl) (by rfl) HQ.out.2.2 (by omega)) ?_; refine Hid.out ?_))
              refine Hid.mk ?_
              go_wp2_with (first | (refine wl_value rfl (exec_addW (i := k2) (m := 1) (q := k2 + 1) rfl (by rfl) (by rfl) rfl (by omega)) ?_; refine Hid.out ?_))
              refine Hid.mk ?_
              go_wp2_with (first | (refine wl_value rfl (exec_ixN0 (i := i) rfl (by rfl) (by rfl) hlt) ?_; refine Hid.out ?_))
              refine Hid.mk ?_
              go_wp2_with (first | (refine wl_value rfl (exec_ld rfl (by rfl) (load_int hcm2)) ?_; refine Hid.out ?_))
              refine Hid.mk ?_
              go_wp2_with (first | (refine wl_value rfl (exec_remW (i := m) (m := 256) rfl (by rfl) (by rfl) HQ.out.2.1 (by decide)) ?_; refine Hid.out ?_))
              refine Hid.mk ?_
              go_wp2_with (first | (refine wl_value rfl (exec_cvI8 rfl (by rfl) hl256) ?_; refine Hid.out ?_))
              refine Hid.mk ?_
              go_wp2_with (first | (refine wl_value rfl (exec_fadW1 rfl (by rfl)) ?_; refine Hid.out ?_))
              refine Hid.mk ?_
              go_wp2_with (first | (refine wl_value rfl (exec_ixW16 (k := k2 + 1) rfl (by rfl) (by rfl) (by omega)) ?_; refine Hid.out ?_))
              refine Hid.mk ?_
              go_wp2_with (first | (refine wl_stA (k := k2 + 1) rfl rfl qF (by rfl) (by rfl) (by omega) ?_; intro wG qG oG; refine Hid.out ?_))
              refine Hid.mk ?_
              have HX : Hid (SAt wG gD 40 17 (adV true (fun j => if j < 2 * (i + 1) then prB P j else 0)) ∧ SAt wG g2 40 17 (adV false (fun _ => 0)) ∧ (∀ i, i < 8 → wG.cell? ⟨gP, i, none⟩ = some (.int .i64 ((P.getD i 0 : Nat) : Int))) ∧ Below w.heap.size w wG) := Hid.mk ⟨qG.congr (fun j hj => by
                  unfold adV
                  by_cases e : j < 1
                  · rw [if_pos e, if_pos e]
                  · rw [if_neg e, if_neg e]
                    congr 1
                    obtain ⟨a1, a2, a3⟩ := HQ.out
                    unfold upd
                    show (if j - 1 = k2 + 1 then (lo8 : Int) else if j - 1 = k2 then (hi8 : Int) else if j - 1 < 2 * i then prB P (j - 1) else 0) = if j - 1 < 2 * (i + 1) then prB P (j - 1) else 0
                    by_cases e1 : j - 1 = k2 + 1
                    · rw [if_pos e1, if_pos (by omega), e1]
                      unfold prB
                      rw [if_neg (by omega), show (k2 + 1) / 2 = i by omega, HM.out, a2]
                    · rw [if_neg e1]
                      by_cases e2 : j - 1 = k2
                      · rw [if_pos e2, if_pos (by omega), e2]
                        unfold prB
                        rw [if_pos (by omega), show k2 / 2 = i by omega, HM.out, a1]
                      · rw [if_neg e2]
                        by_cases e3 : j - 1 < 2 * i
                        · rw [if_pos e3, if_pos (by omega)]
                        · rw [if_neg e3, if_neg (by omega)]), (HS.out.2.1.only oF h2D).only oG h2D, fun x hx => by
                  rw [World.cell?_of_block (w := wF) (a := ⟨gP, x, none⟩) (oG.block gP hPD), World.cell?_of_block (w := wr) (a := ⟨gP, x, none⟩) (oF.block gP hPD)]
                  exact HS.out.2.2.1 x hx, (HS.out.2.2.2.trans (oF.below hgDw)).trans (oG.below hgDw)⟩
              clear qz qF qG oF oG HS hcm hcm2
              go_wp2_with fail
              go_roundg (8 - (i + 1))
              case rel => exact ⟨i + 1, rfl, by omega, by go_num, HX⟩
              case measure => omega
            · obtain rfl : i = 8 := by omega
              have qz := HS.out.1
              have q2z := HS.out.2.1
              have HEQ : Hid (SC 17 (adV true (fun j => if j < 2 * 8 then prB P j else 0)) = SC 17 (adV true (prB P))) := Hid.mk (adV_ext (fun j hj => by rw [if_pos (by omega)]))
              go_wp2_with (first | (refine wl_value rfl (look_st rfl isAddr qz (by rfl)) ?_) | (refine st_stO rfl rfl isAddr (adV_one _ _) q2z (by rfl) (by rfl) ?_; intro wH qH oH; refine Hid.out ?_))
              refine Hid.mk ?_
              go_wp2_with fail
              exact bodyPost_ret (res_ct rfl isAddr qH (by rfl) (by rfl)) rfl ⟨.inr (.inl ⟨P, HRR.out, by rw [← HEQ.out]; rfl⟩), HS.out.2.2.2.trans (oH.below hg2)⟩
end Go.Proofs.YtklgpmpmolphaaaDoor
